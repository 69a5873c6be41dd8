import Derived.Test.YtabogkonklplcaaGreatDoorF26
import Derived.Test.YtabogkonklplcaaGreatDoorF30
import Derived.LoopTactic
import Derived.Test.YtabogkonklplcaaGreatDoorF28
import Derived.Test.YtabogkonklplcaaGreatDoorF13
import Derived.Test.YtabogkonklplcaaGreatDoorCards
import Derived.Test.YtabogkonklplcaaGreatDoorTie
import Derived.ProofKit
import Derived.OpenShut
import Derived.Deep.DeepHandedRow
import Derived.Deep.Slices
import Derived.Lib.LaidTab

/- margin.Range. -/
namespace Go.Proofs.YtabogkonklplcaaGreatDoor
open Go.RowKit Go.Lib
set_option linter.unusedSimpArgs false
set_option linter.unusedVariables false

theorem errOf_M (r : Int) : ErrOf (.iface 141 (.agg #[.int .i64 r])) r 8 := fun w hg => (fault_M r w hg).mono fun e w' ⟨h1, h2⟩ => ⟨by rw [h1]; simp [errV], h2⟩

theorem PLies.after {w w' : World} {F : Nat → Prop} {bx : Nat} {st : St} (h : PLies w F bx st) (hb : Below w.heap.size w w') : Keeps F w w' ∧ PLies w' (grow F w) bx st :=
  ⟨Keeps.of_below hb, (h.keeps (Keeps.of_below (F := fun _ => False) hb) (fun _ _ e => e)).wider (fun b h => .inl h)⟩

section
variable {w : World} {F : Nat → Prop} {bx : Nat} {s : List Nd} {rs : List Sp}

set_option maxHeartbeats 400000 in
theorem mrange_full (hg : GG w) (hP : PLies w F bx ⟨s, rs⟩) (h6 : 6 ≤ rs.length) : Calls Tryz.prog 56 #[ptr bx] w (PLPost F w bx ⟨s, rs⟩ (.tuple #[.int .i64 0, errV 0 7])) := by
  have HP := hid hP
  obtain ⟨bf, bl, sv, hD⟩ := hP
  have C := hid (ladd_full hD h6)
  have c1 : w.cell? ⟨bx, 1, none⟩ = some (ptr bl) := cell_of_heap hD.doc 1
  have E := hid (fun w1 (hb : Below w.heap.size w w1) => errOf_P 0 7 (by decide) w1 (hg.below hb).1)
  clear hD hg
  go_enter Tryz.func56, Tryz.ntmps56
  go_wp2_with first
    | (go_at_call 96; refine C.out.mono ?_; rintro e w1 ⟨rfl, hb1⟩; have E1 := hid (E.out w1 hb1))
    | (go_at_call 46; refine E1.out.mono ?_; rintro e w2 ⟨rfl, hb2⟩)
  go_ret2
  exact ⟨rfl, HP.out.after (hb1.trans (hb2.mono hb1.size))⟩

set_option maxHeartbeats 400000 in
theorem mrange_some (hg : GG w) (hP : PLies w F bx ⟨s, rs⟩) (h6 : rs.length < 6) : Calls Tryz.prog 56 #[ptr bx] w (PLPost F w bx ⟨s, rs ++ [⟨0, 0, 0, 0⟩]⟩ (.tuple #[.int .i64 rs.length, errV 0 0])) := by
  obtain ⟨bf, bl, sv, hD⟩ := hP
  have C := hid (ladd_some hg hD h6)
  have c1 : w.cell? ⟨bx, 1, none⟩ = some (ptr bl) := cell_of_heap hD.doc 1
  clear hD hg
  go_enter Tryz.func56, Tryz.ntmps56
  go_wp2_with first
    | (go_at_call 96; refine C.out.mono ?_; rintro e w1 ⟨rfl, hk1, sv', hD1⟩; have H1 := hid (And.intro hk1 hD1); clear hk1 hD1)
    | (go_at_call 46; refine (fault_nil _).mono ?_; rintro e w2 ⟨rfl, hb2⟩)
  go_ret2
  obtain ⟨hk1, hD1⟩ := H1.out
  exact ⟨by simp [errV], hk1.trans (Keeps.of_below hb2), _, _, _, hD1.below hb2⟩
end

end Go.Proofs.YtabogkonklplcaaGreatDoor

/- tree.writeQuoted: the walk. -/
namespace Go.Proofs.YtabogkonklplcaaGreatDoor
open Go.RowKit
set_option linter.unusedSimpArgs false
set_option linter.unusedVariables false

theorem bld_of {B b : Nat} {bs : List Value} {w : World} (h : BldU B b bs w) : Bld B b bs w := .inr h

/-- Blocks of cells stay as they are. -/
def CellsKept (w w' : World) : Prop := ∀ (k : Nat) (cur : Array Value) (e : TypeId) (fz : Nat × Nat), w.heap[k]? = some (.cells cur e fz) → w'.heap[k]? = some (.cells cur e fz)
theorem CellsKept.alloc (w : World) (o : Obj) : CellsKept w (w.alloc o) := fun k cur e fz hk => by rw [Below.heap_alloc _ _ _ (heap_lt hk)]; exact hk
theorem CellsKept.iterAt {w : World} {k : Nat} {t : ByteArray} {p : Nat} (hi : w.heap[k]? = some (.stringIter t p)) (q : Nat) : CellsKept w (w.iterAt k t q) := fun j cur e fz hj => by
  have hne : j ≠ k := fun e => by subst e; rw [hi] at hj; cases hj
  rw [Lib.iterAt_other w k j t q hne]; exact hj
theorem bld_kept {B b : Nat} {bs : List Value} {w w' : World} (h : BldU B b bs w) (hk : CellsKept w w') : BldU B b bs w' := by
  obtain ⟨hB, v, hb, ho, hne⟩ := h
  refine ⟨hB, v, hk _ _ _ _ hb, ⟨ho.1, ?_⟩, hne⟩
  rcases ho.2 with h | ⟨g, cap, cur, hv, hg, hh, rest⟩
  · exact .inl h
  · exact .inr ⟨g, cap, cur, hv, hg, hk _ _ _ _ hh, rest⟩

theorem text_cells (acc c : ByteArray) : Lib.strCells (textStep acc c) = (if isQ c then Lib.strCells acc ++ [.int .u8 92] else Lib.strCells acc) ++ Lib.strCells c := by
  unfold textStep
  rw [strCells_append]
  split
  · rw [strCells_append]; rfl
  · rfl

def QuoteInv (B b k : Nat) (w : World) (cs : List ByteArray) (acc : ByteArray) (wr : World) : Prop :=
  ∃ l r, cs = l ++ r ∧ wr.heap[k]? = some (.stringIter (catB cs) (catB l).size) ∧ Below B w wr ∧ B ≤ wr.heap.size ∧ BldU B b (Lib.strCells (l.foldl textStep acc)) wr

theorem quote_end {cs l r : List ByteArray} (h : cs = l ++ r) (hc : ∀ c ∈ cs, IsCh c) (hp : ¬ (catB l).size < (catB cs).size) : l = cs := by
  cases r with
  | nil => simpa using h.symm
  | cons c r =>
    exfalso
    subst h
    obtain ⟨R, _, _, _, h4, _⟩ := decode_place l c r (hc c (by simp))
    exact hp h4
theorem quote_next {cs l r : List ByteArray} (h : cs = l ++ r) (hc : ∀ c ∈ cs, IsCh c) (hp : (catB l).size < (catB cs).size) :
    ∃ c r', r = c :: r' ∧ ∃ R : Nat, Utf8.decode (catB cs) (catB l).size = (R, c.size) ∧ Lib.runeCells (R : Int) = Lib.strCells c ∧ R ≤ 2147483647 ∧ (catB (l ++ [c])).size = (catB l).size + c.size ∧ c.size ≠ 0 := by
  cases r with
  | nil => subst h; simp at hp
  | cons c r =>
    subst h
    obtain ⟨R, h1, h2, h3, _, h5⟩ := decode_place l c r (hc c (by simp))
    exact ⟨c, r, rfl, R, h1, h2, h3, h5, (hc c (by simp)).1⟩

set_option maxRecDepth 20000 in
set_option maxHeartbeats 2000000 in
theorem quoted_any {B b : Nat} {w : World} (cs : List ByteArray) (acc : ByteArray) (h : Bld B b (Lib.strCells acc) w) (hBw : B ≤ w.heap.size) (hc : ∀ c ∈ cs, IsCh c) (hlen : (cs.foldl textStep (acc ++ ⟨#[39]⟩)).size + 10 < lots) (hmono : ∀ l r, cs = l ++ r → (l.foldl textStep (acc ++ ⟨#[39]⟩)).size ≤ (cs.foldl textStep (acc ++ ⟨#[39]⟩)).size) :
    Calls Tryz.prog 176 #[ptr b, .string (catB cs)] w fun e w' => e = .returned (.tuple #[]) ∧ BldU B b (Lib.strCells (cs.foldl textStep (acc ++ ⟨#[39]⟩) ++ ⟨#[39]⟩)) w' ∧ Below B w w' := by
  have hl0 : acc.size < lots := by
    have := hmono [] cs rfl
    simp only [List.foldl_nil, ByteArray.size_append] at this
    omega
  have C0 := hid (bwrite_byte 39 h (by rw [Lib.strCells_length]; exact hl0) hBw)
  rw [show Lib.strCells acc ++ [Value.int .u8 39] = Lib.strCells (acc ++ ⟨#[39]⟩) from by rw [strCells_append]; rfl] at C0
  generalize acc ++ ⟨#[39]⟩ = acc1 at C0 hlen hmono ⊢
  have HC := hid hc
  have HL := hid hlen
  have HM := hid hmono
  clear h hl0 hc hlen hmono
  go_enter Tryz.func176, Tryz.ntmps176
  go_wp2_with (go_at_call 177; refine C0.out.mono ?_)
  rintro e w1 ⟨rfl, hu1, hb1, _⟩
  have hs1 := hb1.size
  go_wp2
  go_loopw [5] (fun _ wr => QuoteInv B b w1.heap.size w cs acc1 wr) (fun _ wr => (catB cs).size - wr.iterPos w1.heap.size)
  case atStart =>
    exact ⟨[], cs, rfl, heap_alloc_new w1 _, hb1.alloc (by omega) _, (by show B ≤ (w1.alloc _).heap.size; rw [World.size_alloc]; omega), bld_kept hu1 (CellsKept.alloc _ _)⟩
  case round =>
    obtain ⟨l, r, hlr, hi, hb, hBr, hu⟩ := hrel
    have hm := HM.out l r hlr
    have hL := HL.out
    by_cases hp : (catB l).size < (catB cs).size
    · obtain ⟨c, r', rfl, R, hd, hR, hR1, hsz, hc0⟩ := quote_next hlr HC.out hp
      have hnx := fun ty => Lib.run_next_any_at (P := Tryz.prog) _ w1.heap.size (catB cs) (catB l).size ty hi hp
      rw [hd] at hnx
      simp only at hnx
      have hq := rune_q hR
      have hm2 := HM.out (l ++ [c]) r' (by rw [hlr]; simp)
      rw [List.foldl_append, List.foldl_cons, List.foldl_nil] at hm2
      have hcl := text_cells (l.foldl textStep acc1) c
      rw [hq] at hcl
      have hts : (textStep (l.foldl textStep acc1) c).size ≥ (l.foldl textStep acc1).size := by
        have := text_mono [c] (l.foldl textStep acc1)
        simpa using this
      have hi2 := Lib.iterAt_heap _ _ (catB cs) _ ((catB l).size + c.size) hi
      have hb2 := Lib.below_iterAt hb (k := w1.heap.size) (by omega) (catB cs) ((catB l).size + c.size)
      have hu2 := bld_kept hu (CellsKept.iterAt hi ((catB l).size + c.size))
      have hB2 : B ≤ (World.iterAt wr w1.heap.size (catB cs) ((catB l).size + c.size)).heap.size := by rw [Lib.iterAt_size]; exact hBr
      have REL := hid (show cs = (l ++ [c]) ++ r' by rw [hlr]; simp)
      have SZ := hid hsz
      have CL := hid hcl
      have hb2s := hb2.size
      have hlen2 : (Lib.strCells (l.foldl textStep acc1)).length < lots := by rw [Lib.strCells_length]; omega
      have hlen3 : (Lib.strCells (l.foldl textStep acc1) ++ [Value.int .u8 92]).length < lots := by rw [List.length_append, Lib.strCells_length]; simp; omega
      have C92 := hid (bwrite_byte 92 (bld_of hu2) hlen2 hB2)
      have CR := hid (bwrite_rune (R : Int) (by omega) (by omega) (bld_of hu2) hlen2 hB2)
      have CR2 := hid (fun (wx : World) (hx : BldU B b (Lib.strCells (l.foldl textStep acc1) ++ [Value.int .u8 92]) wx) (hBx : B ≤ wx.heap.size) => bwrite_rune (R : Int) (by omega) (by omega) (bld_of hx) hlen3 hBx)
      rw [hR] at CR CR2
      have MEAS := hid (show ∀ wx : World, wx.heap[w1.heap.size]? = some (.stringIter (catB cs) ((catB l).size + c.size)) → (catB cs).size - wx.iterPos w1.heap.size < (catB cs).size - (catB l).size from fun wx hx => by rw [iterPos_of hx]; omega)
      have IP := iterPos_of hi
      clear hlr hm hL hu hm2 hcl hts hlen2 hlen3 hR hsz hd hq
      by_cases h39 : R = 39 ∨ R = 92
      · rw [show (decide (R = 39) || decide (R = 92)) = true from by simpa using h39, if_pos rfl] at CL
        rcases h39 with rfl | rfl
        · skip
          go_wp2_with first
            | (go_at_call 177; refine C92.out.mono ?_; rintro e w3 ⟨rfl, hu3, hb3, hk3⟩
               have hs3 := hb3.size
               have C9 := hid (CR2.out w3 hu3 (by omega)))
            | (go_at_call 160; refine C9.out.mono ?_; rintro e w4 ⟨n4, rfl, hu4, hb4, hk4⟩)
          have hi4 := hk4 _ _ _ (hk3 _ _ _ hi2)
          go_roundw
          case rel =>
            refine ⟨l ++ [c], r', REL.out, by rw [SZ.out]; exact hi4, hb2.trans ((hb3.trans hb4).mono (Nat.le_refl _)), by have := hb4.size; omega, ?_⟩
            rw [List.foldl_append, List.foldl_cons, List.foldl_nil, CL.out]
            exact hu4
          case measure =>
            rw [IP]
            exact MEAS.out _ hi4
        · skip
          go_wp2_with first
            | (go_at_call 177; refine C92.out.mono ?_; rintro e w3 ⟨rfl, hu3, hb3, hk3⟩
               have hs3 := hb3.size
               have C9 := hid (CR2.out w3 hu3 (by omega)))
            | (go_at_call 160; refine C9.out.mono ?_; rintro e w4 ⟨n4, rfl, hu4, hb4, hk4⟩)
          have hi4 := hk4 _ _ _ (hk3 _ _ _ hi2)
          go_roundw
          case rel =>
            refine ⟨l ++ [c], r', REL.out, by rw [SZ.out]; exact hi4, hb2.trans ((hb3.trans hb4).mono (Nat.le_refl _)), by have := hb4.size; omega, ?_⟩
            rw [List.foldl_append, List.foldl_cons, List.foldl_nil, CL.out]
            exact hu4
          case measure =>
            rw [IP]
            exact MEAS.out _ hi4
      · have h1 : ((R : Int) == 39) = false := by simp; omega
        have h2 : ((R : Int) == 92) = false := by simp; omega
        rw [show (decide (R = 39) || decide (R = 92)) = false from by simpa using h39, if_neg (by decide)] at CL
        go_wp2_with (go_at_call 160; refine CR.out.mono ?_; rintro e w4 ⟨n4, rfl, hu4, hb4, hk4⟩)
        have hi4 := hk4 _ _ _ hi2
        go_roundw
        case rel =>
          refine ⟨l ++ [c], r', REL.out, by rw [SZ.out]; exact hi4, hb2.trans hb4, by have := hb4.size; omega, ?_⟩
          rw [List.foldl_append, List.foldl_cons, List.foldl_nil, CL.out]
          exact hu4
        case measure =>
          rw [IP]
          exact MEAS.out _ hi4
    · have hnx := fun ty => Lib.run_next_end_at (P := Tryz.prog) _ w1.heap.size (catB cs) (catB l).size ty hi hp
      obtain rfl := quote_end hlr HC.out hp
      have CE := hid (bwrite_byte 39 (bld_of hu) (by rw [Lib.strCells_length]; omega) hBr)
      clear hlr hm hL hu
      go_wp2_with (go_at_call 177; refine CE.out.mono ?_)
      rintro e w3 ⟨rfl, hu3, hb3, _⟩
      go_wp2
      go_end0
      exact ⟨rfl, by rw [strCells_append]; exact hu3, hb.trans (hb3.mono (Nat.le_refl _))⟩

end Go.Proofs.YtabogkonklplcaaGreatDoor

/- tree.write. -/
namespace Go.Proofs.YtabogkonklplcaaGreatDoor
open Go.RowKit
set_option linter.unusedSimpArgs false
set_option linter.unusedVariables false

theorem dig_all : ∀ n : Fin 40, (digB n.val).data.toList = Lib.decDigits n.val := by decide +kernel
theorem dig_eq (n : Nat) (h : n < 40) : (⟨(Lib.decDigits n).toArray⟩ : ByteArray) = digB n := by
  rw [← dig_all ⟨n, h⟩]
theorem text_pre (a : ByteArray) (l : List ByteArray) : ∀ b : ByteArray, l.foldl textStep (a ++ b) = a ++ l.foldl textStep b := by
  induction l with
  | nil => intro b; rfl
  | cons c l ih =>
    intro b
    rw [List.foldl_cons, List.foldl_cons, ← ih]
    congr 1
    unfold textStep
    split <;> simp only [ByteArray.append_assoc]
theorem elem_pre (f : Nat → ByteArray) (a : ByteArray) (l : List Nat) : ∀ b : ByteArray, l.foldl (elemStep f) (a ++ b) = a ++ l.foldl (elemStep f) b := by
  induction l with
  | nil => intro b; rfl
  | cons c l ih =>
    intro b
    rw [List.foldl_cons, List.foldl_cons, ← ih]
    congr 1
    unfold elemStep
    simp only [ByteArray.append_assoc]

section
variable {w : World} {F : Nat → Prop} {bf bn cap : Nat} {pn : List PN} {s : List Nd}

theorem PForAt.under {B : Nat} {w' : World} (h : PForAt w F bf bn cap pn s) (hF : ∀ b, F b → b < B) (hb : Below B w w') : PForAt w' F bf bn cap pn s :=
  h.keeps (G := fun b => B ≤ b) ⟨hb.os, hb.tape, hb.output, hb.size, fun k hk hn => hb.block k (by omega)⟩ (fun b h1 h2 => by have := hF b h1; omega)

def Wrote (B b : Nat) (t : ByteArray) (w : World) (e : Ending) (w' : World) : Prop := e = .returned (.tuple #[]) ∧ BldU B b (Lib.strCells t) w' ∧ Below B w w'

set_option maxRecDepth 20000 in
set_option maxHeartbeats 1000000 in
theorem write_text {B b : Nat} (hD : PForAt w F bf bn cap pn s) (hF : ∀ b, F b → b < B) (n : Nat) (x : Nd) (hx : s[n]? = some x) (ht : x.t = true) (hn : n < 40) (acc : ByteArray) (h : Bld B b (Lib.strCells acc) w) (hBw : B ≤ w.heap.size) (hc : ∀ c ∈ x.cs, IsCh c)
    (hlen : acc.size + (x.cs.foldl textStep (digB n ++ ⟨#[39]⟩)).size + 20 < lots) :
    Calls Tryz.prog 147 #[ptr bf, ptr b, .int .i64 n] w (Wrote B b (acc ++ (x.cs.foldl textStep (digB n ++ ⟨#[39]⟩) ++ ⟨#[39]⟩)) w) := by
  have hi : n < s.length := (List.getElem?_eq_some_iff.1 hx).1
  have h0 := hD.nodesCell
  obtain ⟨r, hr, ho, c0, c1, c2, c3⟩ := hD.look hx
  rw [ht] at c1
  have hds := digB_size n
  have C1 := hid (Tryz.strconv_Itoa_small n (by omega))
  rw [dig_eq n hn] at C1
  have C2 := hid (bwrite_string (digB n) h (by rw [Lib.strCells_length]; omega) hBw)
  rw [← strCells_append] at C2
  have e1 : x.cs.foldl textStep (acc ++ digB n ++ ⟨#[39]⟩) = acc ++ x.cs.foldl textStep (digB n ++ ⟨#[39]⟩) := by rw [ByteArray.append_assoc]; exact text_pre _ _ _
  have C3 := hid (fun (w1 : World) (h1 : BldU B b (Lib.strCells (acc ++ digB n)) w1) (hB1 : B ≤ w1.heap.size) => quoted_any x.cs (acc ++ digB n) (bld_of h1) hB1 hc (by rw [e1, ByteArray.size_append]; omega)
    (fun l r hlr => by rw [hlr, List.foldl_append]; exact text_mono r _))
  rw [e1, ByteArray.append_assoc] at C3
  have HD := hid (fun w1 (hb : Below B w w1) => (hD.under hF hb).look hx)
  have HN := hid (fun w1 (hb : Below B w w1) => (hD.under hF hb).nodesCell)
  clear hD hr ho hx c0 c2 c3 e1 h hlen hc hF
  go_enter Tryz.func147, Tryz.ntmps147
  go_wp2_with first
    | (go_at_call 175; refine (C1.out _).mono ?_; rintro e w1 ⟨rfl, rfl⟩)
    | (go_at_call 174; refine C2.out.mono ?_; rintro e w2 ⟨rfl, hu2, hb2, _⟩
       have hs2 := hb2.size
       have d0 := HN.out w2 hb2
       obtain ⟨r2, _, _, _, _, _, d3⟩ := HD.out w2 hb2
       have C4 := hid (C3.out w2 hu2 (by omega)))
    | (go_at_call 176; refine C4.out.mono ?_; rintro e w3 ⟨rfl, hu3, hb3⟩)
  go_end0
  exact ⟨rfl, hu3, hb2.trans hb3⟩
end
end Go.Proofs.YtabogkonklplcaaGreatDoor

/- tree.write of an element. -/
namespace Go.Proofs.YtabogkonklplcaaGreatDoor
open Go.RowKit
set_option linter.unusedSimpArgs false
set_option linter.unusedVariables false

section
variable {w : World} {F : Nat → Prop} {bf bn cap : Nat} {pn : List PN} {s : List Nd}

set_option maxRecDepth 20000 in
set_option maxHeartbeats 2000000 in
theorem write_elem {B b : Nat} (hD : PForAt w F bf bn cap pn s) (hF : ∀ b, F b → b < B) (n : Nat) (x : Nd) (f : Nat → ByteArray) (hx : s[n]? = some x) (ht : x.t = false) (hn : n < 40) (hks : x.ks.length < lots) (acc : ByteArray) (h : Bld B b (Lib.strCells acc) w) (hBw : B ≤ w.heap.size)
    (hlen : acc.size + (x.ks.foldl (elemStep f) (⟨#[60]⟩ ++ digB n)).size + 20 < lots)
    (ih : ∀ c ∈ x.ks, ∀ (w1 : World) (a1 : ByteArray), PForAt w1 F bf bn cap pn s → Bld B b (Lib.strCells a1) w1 → B ≤ w1.heap.size → a1.size + (f c).size + 20 < lots → Calls Tryz.prog 147 #[ptr bf, ptr b, .int .i64 c] w1 (Wrote B b (a1 ++ f c) w1)) :
    Calls Tryz.prog 147 #[ptr bf, ptr b, .int .i64 n] w (Wrote B b (acc ++ (x.ks.foldl (elemStep f) (⟨#[60]⟩ ++ digB n) ++ ⟨#[62]⟩)) w) := by
  have hi : n < s.length := (List.getElem?_eq_some_iff.1 hx).1
  have h0 := hD.nodesCell
  obtain ⟨r, hr, ho, c0, c1, c2, c3⟩ := hD.look hx
  rw [ht] at c1
  have hds := digB_size n
  unfold lots at hks
  have hm0 := elem_mono f x.ks (⟨#[60]⟩ ++ digB n)
  have e60 : (⟨#[60]⟩ : ByteArray).size = 1 := rfl
  rw [ByteArray.size_append] at hm0
  have C0 := hid (bwrite_byte 60 h (by rw [Lib.strCells_length]; omega) hBw)
  rw [show Lib.strCells acc ++ [Value.int .u8 60] = Lib.strCells (acc ++ ⟨#[60]⟩) from by rw [strCells_append]; rfl] at C0
  have C1 := hid (Tryz.strconv_Itoa_small n (by omega))
  rw [dig_eq n hn] at C1
  have C2 := hid (fun (w1 : World) (h1 : BldU B b (Lib.strCells (acc ++ ⟨#[60]⟩)) w1) (hB1 : B ≤ w1.heap.size) => bwrite_string (digB n) (bld_of h1) (by rw [Lib.strCells_length, ByteArray.size_append]; omega) hB1)
  rw [← strCells_append, ByteArray.append_assoc] at C2
  obtain ⟨a2, d2, hv2⟩ := slice_shape ho.kids
  have HROW := hid (fun w1 (hb : Below B w w1) => (((hD.under hF hb).ok n r x hr hx).kids))
  have HC2 := hid (fun w1 (hb : Below B w w1) => (hD.under hF hb).cellAt hr 2 (by omega))
  have HN := hid (fun w1 (hb : Below B w w1) => (hD.under hF hb).nodesCell)
  have HF := hid (fun w1 (hb : Below B w w1) => hD.under hF hb)
  have HL := hid hlen
  have IH := hid ih
  have hkv : r.cells[2]? = some (.slice a2 x.ks.length d2) := by rw [← hv2]; rfl
  rw [hkv] at HC2
  rw [hv2] at HROW
  clear hD hr ho hx c0 c2 c3 h hlen hF ih hkv hv2 hm0
  have CE := hid (fun (w1 : World) (t1 : ByteArray) (h1 : BldU B b (Lib.strCells t1) w1) (ht1 : t1.size < lots) (hB1 : B ≤ w1.heap.size) => bwrite_byte 62 (bld_of h1) (by rw [Lib.strCells_length]; exact ht1) hB1)
  have fin : ∀ t1 : ByteArray, Lib.strCells t1 ++ [Value.int .u8 62] = Lib.strCells (t1 ++ ⟨#[62]⟩) := fun t1 => by rw [strCells_append]; rfl
  have FIN := hid fin
  clear fin
  go_enter Tryz.func147, Tryz.ntmps147
  go_wp2_with first
    | (go_at_call 177; refine C0.out.mono ?_; rintro e w1 ⟨rfl, hu1, hb1, _⟩
       have hs1 := hb1.size
       have C3 := hid (C2.out w1 hu1 (by omega)))
    | (go_at_call 175; refine (C1.out _).mono ?_; rintro e w9 ⟨rfl, rfl⟩)
    | (go_at_call 174; refine C3.out.mono ?_; rintro e w2 ⟨rfl, hu2, hb2, _⟩
       have hs2 := hb2.size
       have hb02 := hb1.trans hb2
       have d0 := HN.out w2 hb02
       have d2' := HC2.out w2 hb02)
  go_loopw [45] (fun a wr => ∃ j : Nat, j ≤ x.ks.length ∧ a = .int .i64 j ∧ BldU B b (Lib.strCells (acc ++ (x.ks.take j).foldl (elemStep f) (⟨#[60]⟩ ++ digB n))) wr ∧ Below B w wr) (fun a _ => x.ks.length - (intOf a).toNat)
  case atStart => exact ⟨0, Nat.zero_le _, rfl, hu2, hb02⟩
  case round =>
    obtain ⟨j, hj, rfl, hur, hbr⟩ := hrel
    have hsr := hbr.size
    have hLL := HL.out
    have hmono : ((x.ks.take j).foldl (elemStep f) (⟨#[60]⟩ ++ digB n)).size ≤ (x.ks.foldl (elemStep f) (⟨#[60]⟩ ++ digB n)).size := by
      have := elem_mono f (x.ks.drop j) ((x.ks.take j).foldl (elemStep f) (⟨#[60]⟩ ++ digB n))
      rw [← List.foldl_append, List.take_append_drop] at this
      exact this
    by_cases hjl : j < x.ks.length
    · obtain ⟨u, hu⟩ : ∃ u, x.ks[j]? = some u := ⟨_, List.getElem?_eq_getElem hjl⟩
      have hum : u ∈ x.ks := List.mem_of_getElem? hu
      have htake : x.ks.take (j + 1) = x.ks.take j ++ [u] := by rw [List.take_add_one, hu]; rfl
      have hstep : (x.ks.take (j + 1)).foldl (elemStep f) (⟨#[60]⟩ ++ digB n) = (x.ks.take j).foldl (elemStep f) (⟨#[60]⟩ ++ digB n) ++ ⟨#[32]⟩ ++ f u := by rw [htake, List.foldl_append]; rfl
      have hmono2 : ((x.ks.take (j + 1)).foldl (elemStep f) (⟨#[60]⟩ ++ digB n)).size ≤ (x.ks.foldl (elemStep f) (⟨#[60]⟩ ++ digB n)).size := by
        have := elem_mono f (x.ks.drop (j + 1)) ((x.ks.take (j + 1)).foldl (elemStep f) (⟨#[60]⟩ ++ digB n))
        rw [← List.foldl_append, List.take_append_drop] at this
        exact this
      rw [hstep] at hmono2
      rcases row_cases (HROW.out wr hbr) with ⟨_, hl0⟩ | ⟨g, cc, hv⟩
      · omega
      · cases hv
        have cel : wr.cell? ⟨g, j, none⟩ = some (.int .i64 (u : Int)) := by
          rw [(HROW.out wr hbr).cellAt j (by omega)]
          simp [intsV, hu]
        generalize (x.ks.take j).foldl (elemStep f) (⟨#[60]⟩ ++ digB n) = T at hur hmono hmono2 hstep
        rw [ByteArray.size_append, ByteArray.size_append] at hmono2
        have e32 : (⟨#[32]⟩ : ByteArray).size = 1 := rfl
        have C32 := hid (bwrite_byte 32 (bld_of hur) (by rw [Lib.strCells_length, ByteArray.size_append]; omega) (by omega))
        rw [show Lib.strCells (acc ++ T) ++ [Value.int .u8 32] = Lib.strCells (acc ++ T ++ ⟨#[32]⟩) from by rw [strCells_append (acc ++ T)]; rfl] at C32
        have CI := hid (fun (wx : World) (hx : BldU B b (Lib.strCells (acc ++ T ++ ⟨#[32]⟩)) wx) (hbx : Below B w wx) => IH.out u hum wx (acc ++ T ++ ⟨#[32]⟩) (HF.out wx hbx) (bld_of hx) (by have := hbx.size; omega) (by rw [ByteArray.size_append, ByteArray.size_append]; omega))
        have STEP := hid hstep
        have hjI : ((j : Int) < x.ks.length) := by omega
        clear hstep htake hmono hmono2 hLL hur hu hum
        go_wp2_with first
          | (go_at_call 177; refine C32.out.mono ?_; rintro e w5 ⟨rfl, hu5, hb5, _⟩
             have hb05 := hbr.trans hb5
             have CJ := hid (CI.out w5 hu5 hb05))
          | (go_at_call 147; refine CJ.out.mono ?_; rintro e w6 ⟨rfl, hu6, hb6⟩)
        go_roundw
        case rel =>
          refine ⟨j + 1, by omega, by go_num, ?_, hb05.trans hb6⟩
          rw [STEP.out, ← ByteArray.append_assoc, ← ByteArray.append_assoc]
          exact hu6
        case measure => simp [intOf]; omega
    · have hjn : ¬ (j : Int) < x.ks.length := by omega
      obtain rfl : j = x.ks.length := by omega
      rw [List.take_of_length_le (Nat.le_refl _)] at hur
      have CZ := hid (CE.out wr _ hur (by rw [ByteArray.size_append]; omega) (by omega))
      clear hmono hLL hur
      go_wp2_with (go_at_call 177; refine CZ.out.mono ?_; rintro e w3 ⟨rfl, hu3, hb3, _⟩)
      go_end0
      refine ⟨rfl, ?_, hbr.trans hb3⟩
      rw [FIN.out, ByteArray.append_assoc] at hu3
      exact hu3
end
end Go.Proofs.YtabogkonklplcaaGreatDoor

/- slices.Compare of numbers. -/
namespace Go.Proofs.YtabogkonklplcaaGreatDoor
open Go.RowKit Go.Lib
set_option linter.unusedSimpArgs false
set_option linter.unusedVariables false

def CmpInv (l m : List Nat) (w : World) (a : Value) (wr : World) : Prop := wr = w ∧ ∃ i : Nat, a = .int .i64 (i : Int) ∧ i ≤ l.length ∧ i ≤ m.length ∧ lexC l m = lexC (l.drop i) (m.drop i)

theorem lex_over {l : List Nat} {i : Nat} (h : i < l.length) : lexC (l.drop i) [] = 1 := by
  rw [List.drop_eq_getElem_cons h]; rfl
theorem lex_at {l m : List Nat} {i : Nat} (h : i < l.length) (h' : i < m.length) : lexC (l.drop i) (m.drop i) = if Lib.compareInt (l[i] : Int) (m[i] : Int) = 0 then lexC (l.drop (i + 1)) (m.drop (i + 1)) else Lib.compareInt (l[i] : Int) (m[i] : Int) := by
  rw [List.drop_eq_getElem_cons h, List.drop_eq_getElem_cons h']
  generalize l.drop (i + 1) = A
  generalize m.drop (i + 1) = B
  generalize l[i] = a
  generalize m[i] = b
  have e : lexC (a :: A) (b :: B) = if a < b then -1 else if b < a then 1 else lexC A B := rfl
  rw [e]
  by_cases h1 : a < b
  · have hc : Lib.compareInt (a : Int) (b : Int) = -1 := by unfold Lib.compareInt; rw [if_pos (by omega)]
    rw [hc, if_pos h1, if_neg (by decide)]
  · by_cases h2 : b < a
    · have hc : Lib.compareInt (a : Int) (b : Int) = 1 := by unfold Lib.compareInt; rw [if_neg (by omega), if_pos (by omega)]
      rw [hc, if_neg h1, if_pos h2, if_neg (by decide)]
    · have hc : Lib.compareInt (a : Int) (b : Int) = 0 := by unfold Lib.compareInt; rw [if_neg (by omega), if_neg (by omega)]
      rw [hc, if_neg h1, if_neg h2, if_pos rfl]
theorem lex_done {l m : List Nat} (h : l.length ≤ m.length) : lexC (l.drop l.length) (m.drop l.length) = if l.length < m.length then -1 else 0 := by
  rw [List.drop_length]
  by_cases hl : l.length < m.length
  · rw [if_pos hl, List.drop_eq_getElem_cons hl]; rfl
  · rw [if_neg hl, List.drop_of_length_le (by omega)]; rfl

set_option maxRecDepth 20000 in
set_option maxHeartbeats 1000000 in
theorem scmp_any (l m : List Nat) (g1 c1 g2 c2 : Nat) (w : World) (h1 : ∀ (j x : Nat), l[j]? = some x → w.cell? ⟨g1, j, none⟩ = some (.int .i64 x)) (h2 : ∀ (j x : Nat), m[j]? = some x → w.cell? ⟨g2, j, none⟩ = some (.int .i64 x)) (hl : l.length < lots) (hm : m.length < lots) :
    Calls Tryz.prog 152 #[.slice (some ⟨g1, 0, none⟩) l.length c1, .slice (some ⟨g2, 0, none⟩) m.length c2] w fun e w' => e = .returned (.int .i64 (lexC l m)) ∧ w' = w := by
  have H1 := hid h1
  have H2 := hid h2
  unfold lots at hl hm
  clear h1 h2
  go_enter Tryz.func152, Tryz.ntmps152
  go_wp2
  go_loopw [11] (fun a wr => CmpInv l m w a wr) (fun a _ => l.length - (intOf a).toNat)
  case atStart => exact ⟨rfl, 0, rfl, Nat.zero_le _, Nat.zero_le _, rfl⟩
  case round =>
    obtain ⟨rfl, i, rfl, hi, hi2, he⟩ := hrel
    have HE := hid he
    clear he
    by_cases hlt : i < l.length
    · have a1 := H1.out i l[i] (List.getElem?_eq_getElem hlt)
      have d1 : decide ((i : Int) < (l.length : Int)) = true := decide_eq_true (by omega)
      by_cases hm2 : i < m.length
      · have a2 := H2.out i m[i] (List.getElem?_eq_getElem hm2)
        have d2 : decide ((m.length : Int) ≤ (i : Int)) = false := decide_eq_false (by omega)
        have LA := hid (lex_at hlt hm2)
        have C := hid (Tryz.cmp_Compare_int (l[i] : Int) (m[i] : Int) wr)
        obtain ⟨c, hc⟩ : ∃ c, Lib.compareInt (l[i] : Int) (m[i] : Int) = c := ⟨_, rfl⟩
        rw [hc] at C LA
        clear hc
        generalize l[i] = lv at *
        generalize m[i] = mv at *
        by_cases h0 : c = 0
        · subst h0
          go_wp2_with (go_at_call 180; refine C.out.mono ?_; rintro e w1 ⟨rfl, hw1⟩; replace hw1 := hw1.symm; subst hw1)
          go_roundw
          case rel =>
            refine ⟨rfl, i + 1, by go_num, hlt, hm2, ?_⟩
            rw [HE.out, LA.out]; simp
          case measure =>
            show l.length - ((i : Int) + 1).toNat < l.length - ((i : Int)).toNat
            omega
        · have h0' : (c == 0) = false := by simpa using h0
          go_wp2_with (go_at_call 180; refine C.out.mono ?_; rintro e w1 ⟨rfl, hw1⟩; replace hw1 := hw1.symm; subst hw1)
          go_ret
          refine ⟨?_, rfl⟩
          rw [HE.out, LA.out, if_neg h0]; rfl
      · have d2 : decide ((m.length : Int) ≤ (i : Int)) = true := decide_eq_true (by omega)
        go_wp2
        go_ret
        refine ⟨?_, rfl⟩
        have hd : m.drop i = [] := List.drop_of_length_le (by omega)
        rw [HE.out, hd, lex_over hlt]; rfl
    · obtain rfl : i = l.length := by omega
      have LD := hid (lex_done hi2)
      by_cases hlm : l.length < m.length
      · have d3 : decide ((l.length : Int) < (m.length : Int)) = true := decide_eq_true (by omega)
        go_wp2
        go_ret
        refine ⟨?_, rfl⟩
        rw [HE.out, LD.out, if_pos hlm]; rfl
      · have d3 : decide ((l.length : Int) < (m.length : Int)) = false := decide_eq_false (by omega)
        go_wp2
        go_ret
        refine ⟨?_, rfl⟩
        rw [HE.out, LD.out, if_neg hlm]; rfl

end Go.Proofs.YtabogkonklplcaaGreatDoor

/- The law's argument, read as data: a script. -/
namespace Go.Proofs.YtabogkonklplcaaGreatDoor
open Go.ChangeShapes Go.WideShapes Go.ChangeAt Go.RowKit Go.Deep
set_option linter.unusedSimpArgs false
set_option linter.unusedVariables false

theorem Tryz.cells39 : Tryz.prog.cellsOf 39 = 10 := by kernel_rfl
theorem Tryz.cells37 : Tryz.prog.cellsOf 37 = 2 := by kernel_rfl
theorem Tryz.cells3 : Tryz.prog.cellsOf 3 = 1 := by kernel_rfl
theorem Tryz.cells9 : Tryz.prog.cellsOf 9 = 1 := by kernel_rfl

theorem wf_i64 {n : Int} (h : (Lit.int .i64 n).wf = true) : -9223372036854775808 ≤ n ∧ n ≤ 9223372036854775807 := by
  simpa [Lit.wf, IntKind.min, IntKind.max, IntKind.signed, IntKind.bits] using h

section
variable {H : Type} {enc : TypeId × Value → H} {w : World} {sp : Nat → Bool} {held : Bool}

theorem place_open {n : Nat} {c0 c1 : Value} {x : DataW H × List MemPlace} (h : DataW.trod enc Tryz.prog w 0 sp held n 37 [c0, c1] = some x) : ∃ a b : Int, c0 = .int .i64 a ∧ c1 = .int .i64 b := by
  obtain ⟨xs, m, rfl, rfl, hl, hxl, hf⟩ := DataW.trod_struct Tryz.underlying37 h
  match xs, hxl with
  | [y0, y1], _ =>
    have h0 := hf 0 _ rfl
    have h1 := hf 1 _ rfl
    simp [Tryz.cells3] at h0 h1
    obtain ⟨a, ha, _⟩ := DataW.trod_int Tryz.underlying3 h0
    obtain ⟨b, hb, _⟩ := DataW.trod_int Tryz.underlying3 h1
    exact ⟨a, b, by simpa using ha, by simpa using hb⟩

set_option maxRecDepth 20000 in
theorem op_open {n : Nat} {cs : List Value} {x : DataW H × List MemPlace} (h : DataW.trod enc Tryz.prog w 0 sp held n 39 cs = some x) :
    ∃ o : OpR, cs = o.cells ∧ -9223372036854775808 ≤ o.D ∧ o.D ≤ 9223372036854775807 ∧ o.S.size ≤ Rows.uptoBulk x.1 := by
  obtain ⟨xs, m, rfl, rfl, hl, hxl, hf⟩ := DataW.trod_struct Tryz.underlying39 h
  rw [Tryz.cells39] at hl
  match cs, hl with
  | [c0, c1, c2, c3, c4, c5, c6, c7, c8, c9], _ =>
    match xs, hxl with
    | [y0, y1, y2, y3, y4, y5, y6, y7], _ =>
      have h0 := hf 0 _ rfl
      have h1 := hf 1 _ rfl
      have h2 := hf 2 _ rfl
      have h3 := hf 3 _ rfl
      have h4 := hf 4 _ rfl
      have h5 := hf 5 _ rfl
      have h6 := hf 6 _ rfl
      have h7 := hf 7 _ rfl
      simp [Tryz.cells3, Tryz.cells9, Tryz.cells37] at h0 h1 h2 h3 h4 h5 h6 h7
      obtain ⟨k0, e0, _⟩ := DataW.trod_int Tryz.underlying3 h0
      obtain ⟨k1, e1, _, w1⟩ := DataW.trod_int Tryz.underlying3 h1
      obtain ⟨k2, e2, _⟩ := DataW.trod_int Tryz.underlying3 h2
      obtain ⟨k3, e3, _⟩ := DataW.trod_int Tryz.underlying3 h3
      obtain ⟨k4, e4, _⟩ := DataW.trod_int Tryz.underlying3 h4
      obtain ⟨s5, e5, hy5, _⟩ := DataW.trod_string Tryz.underlying9 h5
      obtain ⟨p0, p1, e6, e7⟩ := place_open h6
      obtain ⟨q0, q1, e8, e9⟩ := place_open h7
      have hw := wf_i64 w1
      refine ⟨⟨k0, k1, k2, k3, k4, s5, p0, p1, q0, q1⟩, ?_, hw.1, hw.2, ?_⟩
      · simp at e0 e1 e2 e3 e4 e5
        subst e0 e1 e2 e3 e4 e5 e6 e7 e8 e9
        rfl
      · rw [hy5]
        simp only [List.map_cons, List.map_nil, Rows.uptoBulk, Rows.uptoBulkAll, Array.length_toList]
        show s5.size ≤ _
        have : s5.data.size = s5.size := rfl
        omega

theorem bulkAll_mem {l : List (DataW H)} {d : DataW H} (h : d ∈ l) : Rows.uptoBulk d ≤ Rows.uptoBulkAll l := by
  induction l with
  | nil => simp at h
  | cons a l ih =>
    simp only [Rows.uptoBulkAll]
    rcases List.mem_cons.1 h with rfl | h
    · omega
    · have := ih h; omega
theorem bulk_pos (d : DataW H) : 1 ≤ Rows.uptoBulk d := by
  cases d with
  | lit l => cases l <;> simp [Rows.uptoBulk]
  | nil => simp [Rows.uptoBulk]
  | ptr d => simp [Rows.uptoBulk]
  | slice a b => simp [Rows.uptoBulk]
  | agg l => simp [Rows.uptoBulk]
  | iface n d => simp [Rows.uptoBulk]
  | map l => simp [Rows.uptoBulk]
  | held h => simp [Rows.uptoBulk]
theorem bulkAll_length (l : List (DataW H)) : l.length ≤ Rows.uptoBulkAll l := by
  induction l with
  | nil => simp
  | cons a l ih =>
    have := bulk_pos a
    simp only [Rows.uptoBulkAll, List.length_cons]
    omega

/-- The argument is a script. -/
theorem script_open {n : Nat} {v : Value} {x : DataW H × List MemPlace} (h : DataW.trod enc Tryz.prog w 0 sp held n 22 [v] = some x) (hb : Rows.uptoBulk x.1 ≤ 1048576) :
    ∃ (a : Option Addr) (g off c : Nat) (script : List OpR), v = .slice a script.length c ∧ (0 < script.length → a = some ⟨g, off, none⟩) ∧ ScriptAt w g off script ∧ (∀ o ∈ script, OpOk o) ∧ script.length + 6 < lots ∧ (0 < script.length → g < w.heap.size) := by
  rcases open_slice Tryz.underlying22 h with ⟨hcs, rfl⟩ | ⟨a, len, cap, m, k, D, Pl, hcs, _, hl, hm, hm2, rfl, hel⟩
  · obtain rfl : v = .slice none 0 0 := by simpa using hcs
    exact ⟨none, 0, 0, 0, [], rfl, by simp, fun i o ho => by simp at ho, by simp, by unfold lots; simp, by simp⟩
  · obtain rfl : v = .slice (some a) len cap := by simpa using hcs
    have hlm : len ≤ m := by rw [hm2]; split <;> omega
    rw [Tryz.cells39] at hel
    have hlen : len ≤ 1048576 := by
      have := bulkAll_length ((List.range len).map D)
      simp only [Rows.uptoBulk] at hb
      simp at this
      omega
    have hex : ∀ i, i < len → ∃ o : OpR, w.cells? 0 (a.add (i * 10)) 10 = some o.cells ∧ OpOk o := by
      intro i hi
      obtain ⟨cs', h1, h2⟩ := hel i (by omega)
      obtain ⟨o, rfl, d1, d2, hs⟩ := op_open h2
      refine ⟨o, h1, d1, d2, ?_⟩
      have h3 : Rows.uptoBulk (D i) ≤ Rows.uptoBulkAll ((List.range len).map D) := bulkAll_mem (List.mem_map.2 ⟨i, by simpa using hi, rfl⟩)
      simp only [Rows.uptoBulk] at hb
      simp only at hs
      unfold lots
      omega
    obtain ⟨f, hf⟩ := @choose_lt OpR ⟨⟨0, 0, 0, 0, 0, ⟨#[]⟩, 0, 0, 0, 0⟩⟩ len _ hex
    have hlen2 : ((List.range len).map f).length = len := by simp
    have get : ∀ (i : Nat) (o : OpR), ((List.range len).map f)[i]? = some o → i < len ∧ o = f i := by
      intro i o ho
      have hi : i < len := by have := (List.getElem?_eq_some_iff.1 ho).1; simpa using this
      rw [List.getElem?_map, List.getElem?_range hi] at ho
      exact ⟨hi, by simpa using ho.symm⟩
    have spot : 0 < len → a.spot = none ∧ a.block < w.heap.size := by
      intro h0
      obtain ⟨_, h1, h2⟩ := World.cells?_some (hf 0 h0).1
      have h3 := h2 0 (by simp)
      have h4 : ((f 0).cells)[0]? = some (.int .i64 (f 0).kind) := rfl
      rw [h4] at h3
      have e : (a.add (0 * 10)).add 0 = a := by simp [Addr.add]
      rw [e] at h3
      unfold World.cell? at h3
      cases hh : w.heap[a.block]? with
      | none => simp [hh] at h3
      | some ob =>
        refine ⟨?_, (Array.getElem?_eq_some_iff.1 hh).1⟩
        cases ob with
        | cells c t fz =>
          simp only [hh] at h3
          cases hs : a.spot with
          | none => rfl
          | some k => simp [hs] at h3
        | _ => simp [hh] at h3
    have el : ∀ o ∈ (List.range len).map f, OpOk o := by
      intro o ho
      obtain ⟨i, hi, rfl⟩ := List.mem_map.1 ho
      exact (hf i (by simpa using hi)).2
    refine ⟨some a, a.block, a.off, cap, (List.range len).map f, by rw [hlen2], ?_, ?_, el, by rw [hlen2]; unfold lots; omega, ?_⟩
    · rw [hlen2]
      intro h0
      have := (spot h0).1
      cases a
      simp_all
    · intro i o ho j u hj
      obtain ⟨hi, rfl⟩ := get i o ho
      obtain ⟨_, h1, h2⟩ := World.cells?_some (hf i hi).1
      have hj10 : j < 10 := (List.getElem?_eq_some_iff.1 hj).1
      have h3 := h2 j hj10
      rw [hj] at h3
      rw [← h3]
      have hsp := (spot (by omega)).1
      congr 1
      cases a with
      | mk b o sp =>
        simp only at hsp
        subst hsp
        simp only [Addr.add]
        split <;> split <;> simp_all <;> omega
    · rw [hlen2]
      exact fun h0 => (spot h0).2
end

end Go.Proofs.YtabogkonklplcaaGreatDoor
