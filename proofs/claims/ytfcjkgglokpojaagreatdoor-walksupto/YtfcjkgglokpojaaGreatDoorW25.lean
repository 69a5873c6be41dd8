import Derived.Test.YtfcjkgglokpojaaGreatDoorW20
import Derived.Test.YtfcjkgglokpojaaGreatDoorW24
import Derived.Test.YtfcjkgglokpojaaGreatDoorW12
import Derived.Test.YtfcjkgglokpojaaGreatDoorW13
import Derived.Test.YtfcjkgglokpojaaGreatDoorW17
import Derived.Lib.LaidU8T
import Derived.PinnedBridge

/- margin.Doc over tree.Forest: how a document lies, margin.New, and what the wrappers do. -/
namespace Go.Proofs.YtfcjkgglokpojaaGreatDoor
open Go.RowKit
set_option linter.unusedSimpArgs false
set_option linter.unusedVariables false

/-- The blocks of the package-level variables that are read. -/
def Hold (b : Nat) : Prop := b = 0 ∨ b = 1 ∨ b = 2
def GG (w : World) : Prop := Glob w ∧ Tabs w
theorem GG.lt {w : World} (h : GG w) {b : Nat} (hb : Hold b) : b < w.heap.size := by
  rcases hb with rfl | rfl | rfl
  · exact World.block_lt_of_cell? w _ h.1
  · exact World.block_lt_of_cell? w _ (h.2.1 0 (by decide))
  · exact World.block_lt_of_cell? w _ (h.2.2 0 (by decide)).1
theorem GG.keeps {F : Nat → Prop} {w w' : World} (h : GG w) (hk : Keeps F w w') (hF : ∀ b, Hold b → ¬ F b) : GG w' :=
  ⟨hk.cell h.1 (hF _ (.inl rfl)), fun c hc => hk.cell (h.2.1 c hc) (hF _ (.inr (.inl rfl))), fun i hi => ⟨hk.cell (h.2.2 i hi).1 (hF _ (.inr (.inr rfl))), hk.cell (h.2.2 i hi).2 (hF _ (.inr (.inr rfl)))⟩⟩
theorem GG.below {w w' : World} (h : GG w) (hb : Below w.heap.size w w') : GG w' := h.keeps (Keeps.of_below (F := fun _ => False) hb) (fun _ _ e => e)

/-- What of F is the forest's. -/
def inner (F : Nat → Prop) (bx : Nat) : Nat → Prop := fun b => F b ∧ b ≠ bx ∧ ¬ Hold b

theorem PFor.keeps {w w' : World} {F G : Nat → Prop} {bf : Nat} {s : List Nd} (h : PFor w F bf s) (hk : Keeps G w w') (hG : ∀ b, F b → ¬ G b) : PFor w' F bf s := by
  obtain ⟨bn, cap, pn, h⟩ := h
  exact ⟨bn, cap, pn, h.keeps hk hG⟩
theorem PFor.wider {w : World} {F G : Nat → Prop} {bf : Nat} {s : List Nd} (h : PFor w F bf s) (hG : ∀ b, F b → G b) : PFor w G bf s := by
  obtain ⟨bn, cap, pn, h⟩ := h
  exact ⟨bn, cap, pn, h.wider hG⟩
theorem PFor.narrow {w : World} {F : Nat → Prop} {bf : Nat} {s : List Nd} (h : PFor w F bf s) : PFor w (fun b => F b ∧ b < w.heap.size) bf s := by
  obtain ⟨bn, cap, pn, h⟩ := h
  exact ⟨bn, cap, pn, h.narrow⟩
theorem PFor.below {w w' : World} {F : Nat → Prop} {bf : Nat} {s : List Nd} (h : PFor w F bf s) (hb : Below w.heap.size w w') : PFor w' F bf s :=
  h.keeps (Keeps.of_below (F := fun _ => False) hb) (fun _ _ e => e)

/-- A document of the program's. -/
def PDocAt (w : World) (F : Nat → Prop) (bx bf : Nat) (s : List Nd) : Prop := F bx ∧ ¬ Hold bx ∧ w.heap[bx]? = some (.cells #[ptr bf] 61 (0, 0)) ∧ PFor w (inner F bx) bf s
def PDoc : PDT := fun w F bx s => ∃ bf, PDocAt w F bx bf s

theorem pdoc_ok : PDOk PDoc where
  keeps := by
    rintro w w' F G b s ⟨bf, h1, h2, h3, h4⟩ hk hG
    exact ⟨bf, h1, h2, by rw [hk.block b (heap_lt h3) (hG b h1)]; exact h3, h4.keeps hk (fun b hb => hG b hb.1)⟩
  wider := by
    rintro w F G b s ⟨bf, h1, h2, h3, h4⟩ hG
    exact ⟨bf, hG _ h1, h2, h3, h4.wider (fun b hb => ⟨hG _ hb.1, hb.2⟩)⟩
  narrow := by
    rintro w F b s ⟨bf, h1, h2, h3, h4⟩
    exact ⟨bf, ⟨h1, heap_lt h3⟩, h2, h3, h4.narrow.wider (fun b hb => ⟨⟨hb.1.1, hb.2⟩, hb.1.2⟩)⟩

set_option maxHeartbeats 400000 in
theorem mnew_ok : NewOk PDoc GG := by
  intro w hg
  have C := hid (tnew_any w)
  go_enter Tryz.func15, Tryz.ntmps15
  go_wp2_with (go_at_call 25; refine C.out.mono ?_; rintro e w1 ⟨bf, rfl, hb, hf⟩)
  go_ret
  have hb1 : Below w1.heap.size w1 (w1.alloc (.cells #[ptr bf] 61)) := (Below.refl _ w1).alloc (Nat.le_refl _) _
  have hsz := hb.size
  refine ⟨w1.heap.size, rfl, hb.trans (hb1.mono hsz), bf, hsz, fun h => ?_, heap_alloc_new w1 _, ?_⟩
  · have := hg.lt h
    omega
  · refine (hf.narrow.below hb1).wider (fun b hx => ⟨hx.1, by have := hx.2; omega, fun h => ?_⟩)
    have := hg.lt h
    have := hx.1
    omega

/-- What a call of the forest's must have left. -/
def TPost (F : Nat → Prop) (w : World) (bf : Nat) (s' : List Nd) (v : Value) (e : Ending) (w' : World) : Prop := e = .returned v ∧ Keeps F w w' ∧ PFor w' (grow F w) bf s'
/-- What fault makes of an error. -/
def ErrOf (v : Value) (a y : Int) : Prop := ∀ w, Glob w → Calls Tryz.prog 21 #[v] w fun e w' => e = .returned (errV a y) ∧ Below w.heap.size w w'
theorem errOf_nil (a : Int) : ErrOf .nilIface a 0 := fun w hg => (fault_nil w).mono fun e w' ⟨h1, h2⟩ => ⟨by rw [h1]; simp [errV], h2⟩
theorem errOf_P (n y : Int) (hy : y ≠ 0) : ErrOf (refusalV n y) n y := fun w hg => (fault_P n y w hg).mono fun e w' ⟨h1, h2⟩ => ⟨by rw [h1]; simp [errV, hy], h2⟩
theorem errOf_F (n at_ : Int) : ErrOf (.iface 107 (.agg #[.int .i64 n, flawV at_])) n 6 := fun w hg => (fault_F n at_ w hg).mono fun e w' ⟨h1, h2⟩ => ⟨by rw [h1]; simp [errV], h2⟩

/-- Behind the forest's call and fault's: what is left of the document. -/
theorem pdoc_after {w w1 w2 : World} {F : Nat → Prop} {bx bf : Nat} {s s' : List Nd} (hg : GG w) (hD : PDocAt w F bx bf s) (hk : Keeps (inner F bx) w w1) (hf : PFor w1 (grow (inner F bx) w) bf s') (hb : Below w1.heap.size w1 w2) :
    Keeps F w w2 ∧ PDoc w2 (grow F w) bx s' := by
  obtain ⟨h1, h2, h3, h4⟩ := hD
  have hlt := heap_lt h3
  have hk2 : Keeps (inner F bx) w w2 := hk.trans (Keeps.of_below hb)
  refine ⟨hk2.mono (fun k _ h => h.1), bf, .inl h1, h2, ?_, (hf.below hb).wider (fun b h => ?_)⟩
  · rw [hk2.block bx hlt (fun h => h.2.1 rfl)]; exact h3
  · rcases h with h | h
    · exact ⟨.inl h.1, h.2⟩
    · exact ⟨.inr h, by omega, fun hh => by have := hg.lt hh; omega⟩
theorem gg_after {w w1 : World} {F : Nat → Prop} {bx : Nat} (hg : GG w) (hk : Keeps (inner F bx) w w1) : Glob w1 := (hg.keeps hk (fun b hb h => h.2.2 hb)).1

set_option maxHeartbeats 400000 in
theorem melement_of {w : World} {F : Nat → Prop} {bx : Nat} {s s' : List Nd} (hg : GG w) (hP : PDoc w F bx s) {n v : Value} {a y : Int} (hE : ErrOf v a y)
    (hT : ∀ (F' : Nat → Prop) (bf : Nat), PFor w F' bf s → Calls Tryz.prog 59 #[ptr bf] w (TPost F' w bf s' (.tuple #[n, v]))) :
    Calls Tryz.prog 26 #[ptr bx] w (PPost PDoc F w bx s' (.tuple #[n, errV a y])) := by
  obtain ⟨bf, hD⟩ := hP
  have C := hid (hT _ _ hD.2.2.2)
  have c0 : w.cell? ⟨bx, 0, none⟩ = some (ptr bf) := cell_of_heap hD.2.2.1 0
  have AF := hid (fun w1 w2 => pdoc_after (w1 := w1) (w2 := w2) (s' := s') hg hD)
  have AG := hid (fun w1 => gg_after (w1 := w1) (F := F) (bx := bx) hg)
  have E := hid hE
  clear hD hT hg hE
  go_enter Tryz.func26, Tryz.ntmps26
  go_wp2_with first
    | (go_at_call 59; refine C.out.mono ?_; rintro e w1 ⟨rfl, hk, hf⟩; have E1 := hid (E.out w1 (AG.out w1 hk)); have A1 := hid (fun w2 => AF.out w1 w2 hk hf); clear hk hf)
    | (go_at_call 21; refine E1.out.mono ?_; rintro e w2 ⟨rfl, hb⟩)
  go_ret2
  exact ⟨rfl, A1.out _ hb⟩

set_option maxHeartbeats 400000 in
theorem mtext_of {w : World} {F : Nat → Prop} {bx : Nat} {s s' : List Nd} (hg : GG w) (hP : PDoc w F bx s) {n v : Value} {a y : Int} (t : ByteArray) (hE : ErrOf v a y)
    (hT : ∀ (F' : Nat → Prop) (bf : Nat), PFor w F' bf s → Calls Tryz.prog 60 #[ptr bf, .string t] w (TPost F' w bf s' (.tuple #[n, v]))) :
    Calls Tryz.prog 28 #[ptr bx, .string t] w (PPost PDoc F w bx s' (.tuple #[n, errV a y])) := by
  obtain ⟨bf, hD⟩ := hP
  have C := hid (hT _ _ hD.2.2.2)
  have c0 : w.cell? ⟨bx, 0, none⟩ = some (ptr bf) := cell_of_heap hD.2.2.1 0
  have AF := hid (fun w1 w2 => pdoc_after (w1 := w1) (w2 := w2) (s' := s') hg hD)
  have AG := hid (fun w1 => gg_after (w1 := w1) (F := F) (bx := bx) hg)
  have E := hid hE
  clear hD hT hg hE
  go_enter Tryz.func28, Tryz.ntmps28
  go_wp2_with first
    | (go_at_call 60; refine C.out.mono ?_; rintro e w1 ⟨rfl, hk, hf⟩; have E1 := hid (E.out w1 (AG.out w1 hk)); have A1 := hid (fun w2 => AF.out w1 w2 hk hf); clear hk hf)
    | (go_at_call 21; refine E1.out.mono ?_; rintro e w2 ⟨rfl, hb⟩)
  go_ret2
  exact ⟨rfl, A1.out _ hb⟩

set_option maxHeartbeats 400000 in
theorem minsert_of {w : World} {F : Nat → Prop} {bx : Nat} {s s' : List Nd} (hg : GG w) (hP : PDoc w F bx s) {v : Value} {a y : Int} (A B C : Int) (hE : ErrOf v a y)
    (hT : ∀ (F' : Nat → Prop) (bf : Nat), PFor w F' bf s → Calls Tryz.prog 62 #[ptr bf, .int .i64 A, .int .i64 B, .int .i64 C] w (TPost F' w bf s' v)) :
    Calls Tryz.prog 30 #[ptr bx, .int .i64 A, .int .i64 B, .int .i64 C] w (PPost PDoc F w bx s' (errV a y)) := by
  obtain ⟨bf, hD⟩ := hP
  have C := hid (hT _ _ hD.2.2.2)
  have c0 : w.cell? ⟨bx, 0, none⟩ = some (ptr bf) := cell_of_heap hD.2.2.1 0
  have AF := hid (fun w1 w2 => pdoc_after (w1 := w1) (w2 := w2) (s' := s') hg hD)
  have AG := hid (fun w1 => gg_after (w1 := w1) (F := F) (bx := bx) hg)
  have E := hid hE
  clear hD hT hg hE
  go_enter Tryz.func30, Tryz.ntmps30
  go_wp2_with first
    | (go_at_call 62; refine C.out.mono ?_; rintro e w1 ⟨rfl, hk, hf⟩; have E1 := hid (E.out w1 (AG.out w1 hk)); have A1 := hid (fun w2 => AF.out w1 w2 hk hf); clear hk hf)
    | (go_at_call 21; refine E1.out.mono ?_; rintro e w2 ⟨rfl, hb⟩)
  go_ret
  exact ⟨rfl, A1.out _ hb⟩

set_option maxHeartbeats 400000 in
theorem mremove_of {w : World} {F : Nat → Prop} {bx : Nat} {s s' : List Nd} (hg : GG w) (hP : PDoc w F bx s) {v : Value} {a y : Int} (A : Int) (hE : ErrOf v a y)
    (hT : ∀ (F' : Nat → Prop) (bf : Nat), PFor w F' bf s → Calls Tryz.prog 66 #[ptr bf, .int .i64 A] w (TPost F' w bf s' v)) :
    Calls Tryz.prog 32 #[ptr bx, .int .i64 A] w (PPost PDoc F w bx s' (errV a y)) := by
  obtain ⟨bf, hD⟩ := hP
  have C := hid (hT _ _ hD.2.2.2)
  have c0 : w.cell? ⟨bx, 0, none⟩ = some (ptr bf) := cell_of_heap hD.2.2.1 0
  have AF := hid (fun w1 w2 => pdoc_after (w1 := w1) (w2 := w2) (s' := s') hg hD)
  have AG := hid (fun w1 => gg_after (w1 := w1) (F := F) (bx := bx) hg)
  have E := hid hE
  clear hD hT hg hE
  go_enter Tryz.func32, Tryz.ntmps32
  go_wp2_with first
    | (go_at_call 66; refine C.out.mono ?_; rintro e w1 ⟨rfl, hk, hf⟩; have E1 := hid (E.out w1 (AG.out w1 hk)); have A1 := hid (fun w2 => AF.out w1 w2 hk hf); clear hk hf)
    | (go_at_call 21; refine E1.out.mono ?_; rintro e w2 ⟨rfl, hb⟩)
  go_ret
  exact ⟨rfl, A1.out _ hb⟩

set_option maxHeartbeats 400000 in
theorem mshow_of {w : World} {F : Nat → Prop} {bx : Nat} {s s' : List Nd} (hg : GG w) (hP : PDoc w F bx s) {n v : Value} {a y : Int} (A : Int) (hE : ErrOf v a y)
    (hT : ∀ (F' : Nat → Prop) (bf : Nat), PFor w F' bf s → Calls Tryz.prog 70 #[ptr bf, .int .i64 A] w (TPost F' w bf s' (.tuple #[n, v]))) :
    Calls Tryz.prog 34 #[ptr bx, .int .i64 A] w (PPost PDoc F w bx s' (.tuple #[n, errV a y])) := by
  obtain ⟨bf, hD⟩ := hP
  have C := hid (hT _ _ hD.2.2.2)
  have c0 : w.cell? ⟨bx, 0, none⟩ = some (ptr bf) := cell_of_heap hD.2.2.1 0
  have AF := hid (fun w1 w2 => pdoc_after (w1 := w1) (w2 := w2) (s' := s') hg hD)
  have AG := hid (fun w1 => gg_after (w1 := w1) (F := F) (bx := bx) hg)
  have E := hid hE
  clear hD hT hg hE
  go_enter Tryz.func34, Tryz.ntmps34
  go_wp2_with first
    | (go_at_call 70; refine C.out.mono ?_; rintro e w1 ⟨rfl, hk, hf⟩; have E1 := hid (E.out w1 (AG.out w1 hk)); have A1 := hid (fun w2 => AF.out w1 w2 hk hf); clear hk hf)
    | (go_at_call 21; refine E1.out.mono ?_; rintro e w2 ⟨rfl, hb⟩)
  go_ret2
  exact ⟨rfl, A1.out _ hb⟩

end Go.Proofs.YtfcjkgglokpojaaGreatDoor

/- From the list of laid variables to what the walks read. -/
namespace Go.Proofs.YtfcjkgglokpojaaGreatDoor
open Go.RowKit
set_option linter.unusedSimpArgs false
set_option linter.unusedVariables false

theorem Tryz.rt : (Tryz.prog.cutTypes.find? (·.1 == "internal/reflectlite.rtype")).map (·.2) = some 171 := by kernel_rfl
theorem Tryz.oneRow : ((List.range Tryz.prog.types.size).filter fun t => Tryz.prog.rowNamed t [101, 114, 114, 111, 114]) = [29] := by kernel_rfl
theorem Tryz.hdl : typeHandle Tryz.prog 29 = .pointer (some ⟨7, 29, none⟩) := by kernel_rfl

theorem glob_of_laid {W : World} (h : laidMetH Tryz.prog Rows.treesUptoRow.laid W) : Glob W := by
  have h' := (laidMetH_iff.1 h).2
  obtain ⟨name, u, ty, e1, e2, e3, e4, e5⟩ := h' ("errors.errorType", Rows.laid_errors_errorType) (List.mem_filter.2 ⟨.tail _ (.tail _ (.tail _ (.tail _ (.head _)))), rfl⟩)
  have en : name = [101, 114, 114, 111, 114] := (Option.some.inj e1).symm
  subst en
  obtain rfl := Option.some.inj (Tryz.rt.symm.trans e2)
  have hm : ty ∈ (List.range Tryz.prog.types.size).filter fun t => Tryz.prog.rowNamed t [101, 114, 114, 111, 114] := List.mem_filter.2 ⟨List.mem_range.2 e3, e4⟩
  rw [Tryz.oneRow] at hm
  obtain rfl := List.mem_singleton.1 hm
  rw [Tryz.hdl] at e5
  unfold Glob
  simpa using World.var?_cell Tryz.et e5 0

theorem tabs_of_laid {W : World} (h : laidMetH Tryz.prog Rows.treesUptoRow.laid W) : Tabs W := by
  have h' := (laidMetH_iff.1 h).1
  have r3 := Lib.laidMet.reads h' (n := "unicode/utf8.first") (d := Rows.laid_unicode_utf8_first) (List.mem_filter.2 ⟨.tail _ (.tail _ (.tail _ (.tail _ (.tail _ (.head _))))), rfl⟩)
  have r4 := Lib.laidMet.reads h' (n := "unicode/utf8.acceptRanges") (d := Rows.laid_unicode_utf8_acceptRanges) (List.mem_filter.2 ⟨.tail _ (.tail _ (.tail _ (.head _))), rfl⟩)
  exact utf8Tabs_of_readsT (U8Types.of260 Tryz.lays260) ⟨by kernel_rfl, by kernel_rfl, by kernel_rfl, by kernel_rfl, by kernel_rfl, by kernel_rfl, by kernel_rfl⟩
    (by rw [show Lib.firstData = Rows.laid_unicode_utf8_first from Pinned.utf8First_eq.symm]; exact r3) (by rw [show Lib.acceptData = Rows.laid_unicode_utf8_acceptRanges from by kernel_rfl]; exact r4)

theorem gg_of_laid (W : World) (h : laidMetH Tryz.prog Rows.treesUptoRow.laid W) : GG W := ⟨glob_of_laid h, tabs_of_laid h⟩

end Go.Proofs.YtfcjkgglokpojaaGreatDoor
