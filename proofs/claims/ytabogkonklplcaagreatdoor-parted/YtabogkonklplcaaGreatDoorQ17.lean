import Derived.Test.YtabogkonklplcaaGreatDoorQ10
import Derived.Test.YtabogkonklplcaaGreatDoorQ13
import Derived.Deep.Cut
import Derived.Deep.CutRange
import Derived.Deep.QuietTactic
import Derived.BigQuiet
import Derived.LoopTactic

namespace Go.Proofs.YtabogkonklplcaaGreatDoor
open Go.RowKit
set_option linter.unusedSimpArgs false
set_option linter.unusedVariables false
section
variable {w : World} {F : Nat → Prop} {bd bn cap : Nat} {rn : List RN} {rv : Value} {s : List Nd} {rs : List Sp}
end
end Go.Proofs.YtabogkonklplcaaGreatDoor

namespace Go.Proofs.YtabogkonklplcaaGreatDoor
open Go.RowKit
set_option linter.unusedSimpArgs false
set_option linter.unusedVariables false
section
variable {w : World} {F : Nat → Prop} {bd bn cap : Nat} {rn : List RN} {rv : Value} {s : List Nd} {rs : List Sp}
end
end Go.Proofs.YtabogkonklplcaaGreatDoor

namespace Go.Proofs.YtabogkonklplcaaGreatDoor
open Go.RowKit
set_option linter.unusedSimpArgs false
set_option linter.unusedVariables false
section
variable {w : World} {F : Nat → Prop} {bd bn cap : Nat} {rn : List RN} {rv : Value} {s : List Nd} {rs : List Sp}
end
end Go.Proofs.YtabogkonklplcaaGreatDoor

namespace Go.Proofs.YtabogkonklplcaaGreatDoor
open Go.RowKit
set_option linter.unusedSimpArgs false
set_option linter.unusedVariables false
section
variable {w : World} {F : Nat → Prop} {bd bn cap : Nat} {rn : List RN} {rv : Value} {s : List Nd} {rs : List Sp}
end
end Go.Proofs.YtabogkonklplcaaGreatDoor

namespace Go.Proofs.YtabogkonklplcaaGreatDoor
open Go.RowKit
set_option linter.unusedSimpArgs false
set_option linter.unusedVariables false
def cmpB : Bool → Bool → Int
  | true, _ => -1
  | false, true => 1
  | false, false => 0
section
variable {w : World} {F : Nat → Prop} {bd bn cap : Nat} {rn : List RN} {rv : Value} {s : List Nd} {rs : List Sp}
end
end Go.Proofs.YtabogkonklplcaaGreatDoor

namespace Go.Proofs.YtabogkonklplcaaGreatDoor
open Go.RowKit
set_option linter.unusedSimpArgs false
set_option linter.unusedVariables false
theorem bld_of {B b : Nat} {bs : List Value} {w : World} (h : BldU B b bs w) : Bld B b bs w := .inr h
def CellsKept (w w' : World) : Prop := ∀ (k : Nat) (cur : Array Value) (e : TypeId) (fz : Nat × Nat), w.heap[k]? = some (.cells cur e fz) → w'.heap[k]? = some (.cells cur e fz)
theorem CellsKept.alloc (w : World) (o : Obj) : CellsKept w (w.alloc o) := fun k cur e fz hk => by rw [Below.heap_alloc _ _ _ (heap_lt hk)]; exact hk
theorem CellsKept.iterAt {w : World} {k : Nat} {t : ByteArray} {p : Nat} (hi : w.heap[k]? = some (.stringIter t p)) (q : Nat) : CellsKept w (w.iterAt k t q) := fun j cur e fz hj => by
  have hne : j ≠ k := fun e => by subst e; rw [hi] at hj; cases hj
  rw [Lib.iterAt_other w k j t q hne]; exact hj
theorem bld_kept {B b : Nat} {bs : List Value} {w w' : World} (h : BldU B b bs w) (hk : CellsKept w w') : BldU B b bs w' := by
  obtain ⟨hB, v, hb, ho, hne⟩ := h
  refine ⟨hB, v, hk _ _ _ _ hb, ⟨ho.1, ?_⟩, hne⟩
  rcases ho.2 with h | ⟨g, cap, cur, hv, hg, hh, rest⟩
  · exact .inl h
  · exact .inr ⟨g, cap, cur, hv, hg, hk _ _ _ _ hh, rest⟩
theorem text_cells (acc c : ByteArray) : Lib.strCells (textStep acc c) = (if isQ c then Lib.strCells acc ++ [.int .u8 92] else Lib.strCells acc) ++ Lib.strCells c := by
  unfold textStep
  rw [strCells_append]
  split
  · rw [strCells_append]; rfl
  · rfl
def QuoteInv (B b k : Nat) (w : World) (cs : List ByteArray) (acc : ByteArray) (wr : World) : Prop :=
  ∃ l r, cs = l ++ r ∧ wr.heap[k]? = some (.stringIter (catB cs) (catB l).size) ∧ Below B w wr ∧ B ≤ wr.heap.size ∧ BldU B b (Lib.strCells (l.foldl textStep acc)) wr
theorem quote_end {cs l r : List ByteArray} (h : cs = l ++ r) (hc : ∀ c ∈ cs, IsCh c) (hp : ¬ (catB l).size < (catB cs).size) : l = cs := by
  cases r with
  | nil => simpa using h.symm
  | cons c r =>
    exfalso
    subst h
    obtain ⟨R, _, _, _, h4, _⟩ := decode_place l c r (hc c (by simp))
    exact hp h4
theorem quote_next {cs l r : List ByteArray} (h : cs = l ++ r) (hc : ∀ c ∈ cs, IsCh c) (hp : (catB l).size < (catB cs).size) :
    ∃ c r', r = c :: r' ∧ ∃ R : Nat, Utf8.decode (catB cs) (catB l).size = (R, c.size) ∧ Lib.runeCells (R : Int) = Lib.strCells c ∧ R ≤ 2147483647 ∧ (catB (l ++ [c])).size = (catB l).size + c.size ∧ c.size ≠ 0 := by
  cases r with
  | nil => subst h; simp at hp
  | cons c r =>
    subst h
    obtain ⟨R, h1, h2, h3, _, h5⟩ := decode_place l c r (hc c (by simp))
    exact ⟨c, r, rfl, R, h1, h2, h3, h5, (hc c (by simp)).1⟩
set_option maxRecDepth 20000 in
set_option maxHeartbeats 2000000 in
theorem quoted_any {B b : Nat} {w : World} (cs : List ByteArray) (acc : ByteArray) (h : Bld B b (Lib.strCells acc) w) (hBw : B ≤ w.heap.size) (hc : ∀ c ∈ cs, IsCh c) (hlen : (cs.foldl textStep (acc ++ ⟨#[39]⟩)).size + 10 < lots) (hmono : ∀ l r, cs = l ++ r → (l.foldl textStep (acc ++ ⟨#[39]⟩)).size ≤ (cs.foldl textStep (acc ++ ⟨#[39]⟩)).size) :
    Calls Tryz.prog 176 #[ptr b, .string (catB cs)] w fun e w' => e = .returned (.tuple #[]) ∧ BldU B b (Lib.strCells (cs.foldl textStep (acc ++ ⟨#[39]⟩) ++ ⟨#[39]⟩)) w' ∧ Below B w w' := by
  have hl0 : acc.size < lots := by
    have := hmono [] cs rfl
    simp only [List.foldl_nil, ByteArray.size_append] at this
    omega
  have C0 := hid (bwrite_byte 39 h (by rw [Lib.strCells_length]; exact hl0) hBw)
  rw [show Lib.strCells acc ++ [Value.int .u8 39] = Lib.strCells (acc ++ ⟨#[39]⟩) from by rw [strCells_append]; rfl] at C0
  generalize acc ++ ⟨#[39]⟩ = acc1 at C0 hlen hmono ⊢
  have HC := hid hc
  have HL := hid hlen
  have HM := hid hmono
  clear h hl0 hc hlen hmono
  go_enter Tryz.func176, Tryz.ntmps176
  go_wp2_with (go_at_call 177; refine C0.out.mono ?_)
  rintro e w1 ⟨rfl, hu1, hb1, _⟩
  have hs1 := hb1.size
  go_wp2
  go_loopw [5] (fun _ wr => QuoteInv B b w1.heap.size w cs acc1 wr) (fun _ wr => (catB cs).size - wr.iterPos w1.heap.size)
  case atStart =>
    exact ⟨[], cs, rfl, heap_alloc_new w1 _, hb1.alloc (by omega) _, (by show B ≤ (w1.alloc _).heap.size; rw [World.size_alloc]; omega), bld_kept hu1 (CellsKept.alloc _ _)⟩
  case round =>
    obtain ⟨l, r, hlr, hi, hb, hBr, hu⟩ := hrel
    have hm := HM.out l r hlr
    have hL := HL.out
    by_cases hp : (catB l).size < (catB cs).size
    · obtain ⟨c, r', rfl, R, hd, hR, hR1, hsz, hc0⟩ := quote_next hlr HC.out hp
      have hnx := fun ty => Lib.run_next_any_at (P := Tryz.prog) _ w1.heap.size (catB cs) (catB l).size ty hi hp
      rw [hd] at hnx
      simp only at hnx
      have hq := rune_q hR
      have hm2 := HM.out (l ++ [c]) r' (by rw [hlr]; simp)
      rw [List.foldl_append, List.foldl_cons, List.foldl_nil] at hm2
      have hcl := text_cells (l.foldl textStep acc1) c
      rw [hq] at hcl
      have hts : (textStep (l.foldl textStep acc1) c).size ≥ (l.foldl textStep acc1).size := by
        have := text_mono [c] (l.foldl textStep acc1)
        simpa using this
      have hi2 := Lib.iterAt_heap _ _ (catB cs) _ ((catB l).size + c.size) hi
      have hb2 := Lib.below_iterAt hb (k := w1.heap.size) (by omega) (catB cs) ((catB l).size + c.size)
      have hu2 := bld_kept hu (CellsKept.iterAt hi ((catB l).size + c.size))
      have hB2 : B ≤ (World.iterAt wr w1.heap.size (catB cs) ((catB l).size + c.size)).heap.size := by rw [Lib.iterAt_size]; exact hBr
      have REL := hid (show cs = (l ++ [c]) ++ r' by rw [hlr]; simp)
      have SZ := hid hsz
      have CL := hid hcl
      have hb2s := hb2.size
      have hlen2 : (Lib.strCells (l.foldl textStep acc1)).length < lots := by rw [Lib.strCells_length]; omega
      have hlen3 : (Lib.strCells (l.foldl textStep acc1) ++ [Value.int .u8 92]).length < lots := by rw [List.length_append, Lib.strCells_length]; simp; omega
      have C92 := hid (bwrite_byte 92 (bld_of hu2) hlen2 hB2)
      have CR := hid (bwrite_rune (R : Int) (by omega) (by omega) (bld_of hu2) hlen2 hB2)
      have CR2 := hid (fun (wx : World) (hx : BldU B b (Lib.strCells (l.foldl textStep acc1) ++ [Value.int .u8 92]) wx) (hBx : B ≤ wx.heap.size) => bwrite_rune (R : Int) (by omega) (by omega) (bld_of hx) hlen3 hBx)
      rw [hR] at CR CR2
      have MEAS := hid (show ∀ wx : World, wx.heap[w1.heap.size]? = some (.stringIter (catB cs) ((catB l).size + c.size)) → (catB cs).size - wx.iterPos w1.heap.size < (catB cs).size - (catB l).size from fun wx hx => by rw [iterPos_of hx]; omega)
      have IP := iterPos_of hi
      clear hlr hm hL hu hm2 hcl hts hlen2 hlen3 hR hsz hd hq
      by_cases h39 : R = 39 ∨ R = 92
      · rw [show (decide (R = 39) || decide (R = 92)) = true from by simpa using h39, if_pos rfl] at CL
        rcases h39 with rfl | rfl
        · skip
          go_wp2_with first
            | (go_at_call 177; refine C92.out.mono ?_; rintro e w3 ⟨rfl, hu3, hb3, hk3⟩
               have hs3 := hb3.size
               have C9 := hid (CR2.out w3 hu3 (by omega)))
            | (go_at_call 160; refine C9.out.mono ?_; rintro e w4 ⟨n4, rfl, hu4, hb4, hk4⟩)
          have hi4 := hk4 _ _ _ (hk3 _ _ _ hi2)
          go_roundw
          case rel =>
            refine ⟨l ++ [c], r', REL.out, by rw [SZ.out]; exact hi4, hb2.trans ((hb3.trans hb4).mono (Nat.le_refl _)), by have := hb4.size; omega, ?_⟩
            rw [List.foldl_append, List.foldl_cons, List.foldl_nil, CL.out]
            exact hu4
          case measure =>
            rw [IP]
            exact MEAS.out _ hi4
        · skip
          go_wp2_with first
            | (go_at_call 177; refine C92.out.mono ?_; rintro e w3 ⟨rfl, hu3, hb3, hk3⟩
               have hs3 := hb3.size
               have C9 := hid (CR2.out w3 hu3 (by omega)))
            | (go_at_call 160; refine C9.out.mono ?_; rintro e w4 ⟨n4, rfl, hu4, hb4, hk4⟩)
          have hi4 := hk4 _ _ _ (hk3 _ _ _ hi2)
          go_roundw
          case rel =>
            refine ⟨l ++ [c], r', REL.out, by rw [SZ.out]; exact hi4, hb2.trans ((hb3.trans hb4).mono (Nat.le_refl _)), by have := hb4.size; omega, ?_⟩
            rw [List.foldl_append, List.foldl_cons, List.foldl_nil, CL.out]
            exact hu4
          case measure =>
            rw [IP]
            exact MEAS.out _ hi4
      · have h1 : ((R : Int) == 39) = false := by simp; omega
        have h2 : ((R : Int) == 92) = false := by simp; omega
        rw [show (decide (R = 39) || decide (R = 92)) = false from by simpa using h39, if_neg (by decide)] at CL
        go_wp2_with (go_at_call 160; refine CR.out.mono ?_; rintro e w4 ⟨n4, rfl, hu4, hb4, hk4⟩)
        have hi4 := hk4 _ _ _ hi2
        go_roundw
        case rel =>
          refine ⟨l ++ [c], r', REL.out, by rw [SZ.out]; exact hi4, hb2.trans hb4, by have := hb4.size; omega, ?_⟩
          rw [List.foldl_append, List.foldl_cons, List.foldl_nil, CL.out]
          exact hu4
        case measure =>
          rw [IP]
          exact MEAS.out _ hi4
    · have hnx := fun ty => Lib.run_next_end_at (P := Tryz.prog) _ w1.heap.size (catB cs) (catB l).size ty hi hp
      obtain rfl := quote_end hlr HC.out hp
      have CE := hid (bwrite_byte 39 (bld_of hu) (by rw [Lib.strCells_length]; omega) hBr)
      clear hlr hm hL hu
      go_wp2_with (go_at_call 177; refine CE.out.mono ?_)
      rintro e w3 ⟨rfl, hu3, hb3, _⟩
      go_wp2
      go_end0
      exact ⟨rfl, by rw [strCells_append]; exact hu3, hb.trans (hb3.mono (Nat.le_refl _))⟩
end Go.Proofs.YtabogkonklplcaaGreatDoor
