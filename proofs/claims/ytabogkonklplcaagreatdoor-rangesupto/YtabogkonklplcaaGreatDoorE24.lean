import Derived.Test.YtabogkonklplcaaGreatDoorE16
import Derived.Lib.MapLaws
import Derived.Lib.UnsafeStr
import Derived.Lib.RuneBytes
import Derived.Lib.AppendStr
import Derived.Shelf.Spec.BytesIndexFunc
import Derived.WalkSmall
import Derived.LoopTactic
import Derived.Laws.RangeString
import Derived.Laws.RangeAny
import Derived.Deep.DeepFit
import Derived.Test.YtabogkonklplcaaGreatDoorE23
import Derived.Test.YtabogkonklplcaaGreatDoorE08
import Derived.Test.YtabogkonklplcaaGreatDoorE09
import Derived.Laws.IdiomCopy
import Derived.Test.YtabogkonklplcaaGreatDoorE20

/- A text that is put together of characters: what the model decodes at each one's place. -/
namespace Go.Proofs.YtabogkonklplcaaGreatDoor
open Go.RowKit
set_option linter.unusedSimpArgs false
set_option linter.unusedVariables false

theorem if_ext {n n' m k : Nat} {q : Prop} {d : Decidable (m ≤ n ∧ q)} {d' : Decidable (m ≤ n' ∧ q)} (hn : n ≤ n') (h : (if m ≤ n ∧ q then k else 0) ≠ 0) : (if m ≤ n' ∧ q then k else 0) = if m ≤ n ∧ q then k else 0 := by
  by_cases c : m ≤ n ∧ q
  · exact (if_pos (show m ≤ n' ∧ q from ⟨by omega, c.2⟩)).trans (if_pos c).symm
  · rw [if_neg c] at h; exact absurd rfl h
theorem headN_ext {n n' b0 b1 b2 b3 : Nat} (hn : n ≤ n') (h : headN n b0 b1 b2 b3 ≠ 0) : headN n' b0 b1 b2 b3 = headN n b0 b1 b2 b3 := by
  unfold headN at h ⊢
  by_cases a : b0 < 128
  · simp only [if_pos a]
  simp only [if_neg a] at h ⊢
  by_cases c1 : 194 ≤ b0 ∧ b0 ≤ 223
  · simp only [if_pos c1] at h ⊢
    exact if_ext hn h
  simp only [if_neg c1] at h ⊢
  by_cases c2 : b0 = 224
  · simp only [if_pos c2] at h ⊢
    exact if_ext hn h
  simp only [if_neg c2] at h ⊢
  by_cases c3 : b0 = 237
  · simp only [if_pos c3] at h ⊢
    exact if_ext hn h
  simp only [if_neg c3] at h ⊢
  by_cases c4 : 225 ≤ b0 ∧ b0 ≤ 239
  · simp only [if_pos c4] at h ⊢
    exact if_ext hn h
  simp only [if_neg c4] at h ⊢
  by_cases c5 : b0 = 240
  · simp only [if_pos c5] at h ⊢
    exact if_ext hn h
  simp only [if_neg c5] at h ⊢
  by_cases c6 : 241 ≤ b0 ∧ b0 ≤ 243
  · simp only [if_pos c6] at h ⊢
    exact if_ext hn h
  simp only [if_neg c6] at h ⊢
  by_cases c7 : b0 = 244
  · simp only [if_pos c7] at h ⊢
    exact if_ext hn h
  simp only [if_neg c7] at h ⊢

theorem byteI_app (c r : ByteArray) (i : Nat) (h : i < c.size) : byteI (c ++ r) i = byteI c i := by
  unfold byteI
  rw [dif_pos (by rw [ByteArray.size_append]; omega), dif_pos h, ByteArray.getElem_append_left h]

/-- Behind it may stand what will. -/
theorem headW_app {c : ByteArray} (h : IsCh c) (r : ByteArray) : headW (c ++ r) = c.size := by
  obtain ⟨h0, h1⟩ := h
  have hs : (c ++ r).size = c.size + r.size := ByteArray.size_append
  have e1 := headW_eq (c ++ r) (by omega) (byteN (c ++ r) 0) (byteN (c ++ r) 1) (byteN (c ++ r) 2) (byteN (c ++ r) 3) (byteI_nat _ 0 (by omega)) (fun h => byteI_nat _ 1 h) (fun h => byteI_nat _ 2 h) (fun h => byteI_nat _ 3 h)
  have e2 := headW_eq c (by omega) (byteN (c ++ r) 0) (byteN (c ++ r) 1) (byteN (c ++ r) 2) (byteN (c ++ r) 3) (by rw [← byteI_app c r 0 (by omega)]; exact byteI_nat _ 0 (by omega)) (fun h => by rw [← byteI_app c r 1 h]; exact byteI_nat _ 1 (by omega)) (fun h => by rw [← byteI_app c r 2 h]; exact byteI_nat _ 2 (by omega)) (fun h => by rw [← byteI_app c r 3 h]; exact byteI_nat _ 3 (by omega))
  rw [h1] at e2
  rw [e1, headN_ext (n := c.size) (by omega) (by rw [← e2]; exact h0), ← e2]

theorem extract_app (a b : ByteArray) : (a ++ b).extract a.size (a ++ b).size = b := by
  rw [ByteArray.size_append]
  have e := ByteArray.extract_append_size_add (a := a) (b := b) (i := 0) (j := b.size)
  rw [Nat.add_zero] at e
  rw [e]
  exact ByteArray.extract_zero_size

theorem decode_head (c r : ByteArray) (h : IsCh c) : (Utf8.decode (c ++ r) 0).2 = c.size ∧ Lib.runeCells ((Utf8.decode (c ++ r) 0).1 : Int) = Lib.strCells c := by
  have hs : (c ++ r).size = c.size + r.size := ByteArray.size_append
  have h0 := h.1
  have e0 : (c ++ r).extract 0 (c ++ r).size = c ++ r := ByteArray.extract_zero_size
  have hw := headW_at (c ++ r) 0 (by omega)
  rw [e0, headW_app h r] at hw
  rcases hw with ⟨h1, _⟩ | ⟨_, h2, h3⟩
  · exact absurd h1 h0
  · refine ⟨h2, ?_⟩
    have e := Lib.encode_decode (c ++ r).data.toList (by intro e; have : (c ++ r).size = 0 := by rw [← ByteArray.size_data, ← Array.length_toList, e]; rfl
                                                         omega) (by
      show ¬ ((Utf8.decode (c ++ r) 0).1 = 65533 ∧ (Utf8.decode (c ++ r) 0).2 = 1)
      exact fun hh => h3 (Prod.ext hh.1 hh.2))
    have e2 : Lib.decodeL (c ++ r).data.toList = Utf8.decode (c ++ r) 0 := rfl
    rw [e2, h2] at e
    rw [← Lib.byteCells_encodeRune, e, Lib.strCells_eq]
    congr 1
    simp [ByteArray.data_append]

end Go.Proofs.YtabogkonklplcaaGreatDoor

/- A text that is put together of characters, 2: the place of each one; its characters again. -/
namespace Go.Proofs.YtabogkonklplcaaGreatDoor
open Go.RowKit Go.Lib
set_option linter.unusedSimpArgs false
set_option linter.unusedVariables false

theorem catB_append (a b : List ByteArray) : catB (a ++ b) = catB a ++ catB b := by
  induction a with
  | nil => show catB b = ByteArray.empty ++ catB b; simp
  | cons c a ih => rw [List.cons_append, catB_cons, catB_cons, ih, ByteArray.append_assoc]

theorem rune_le (t : ByteArray) (p : Nat) : (Utf8.decode t p).1 ≤ 2147483647 := by
  rw [Lib.decode_at]
  have h0 := byteN_lt t p
  unfold byteN at h0
  generalize (t.get! p).toNat = b0 at h0 ⊢
  unfold Lib.decodeN
  repeat' split
  all_goals simp
  all_goals omega

/-- At the place of one character of a text. -/
theorem decode_place (l : List ByteArray) (c : ByteArray) (r : List ByteArray) (h : IsCh c) :
    ∃ R : Nat, Utf8.decode (catB (l ++ c :: r)) (catB l).size = (R, c.size) ∧ Lib.runeCells (R : Int) = Lib.strCells c ∧ R ≤ 2147483647 ∧ (catB l).size < (catB (l ++ c :: r)).size ∧ (catB (l ++ [c])).size = (catB l).size + c.size := by
  have h0 := h.1
  have e1 : catB (l ++ c :: r) = catB l ++ (c ++ catB r) := by rw [catB_append, catB_cons]
  have hs : (catB (l ++ c :: r)).size = (catB l).size + (c.size + (catB r).size) := by rw [e1, ByteArray.size_append, ByteArray.size_append]
  have hd := decodeGo_tail (catB (l ++ c :: r)) (catB l).size (by omega)
  have e2 : (catB (l ++ c :: r)).extract (catB l).size (catB (l ++ c :: r)).size = c ++ catB r := by rw [e1]; exact extract_app _ _
  rw [e2] at hd
  have e3 : Lib.decodeGo (c ++ catB r) = Utf8.decode (c ++ catB r) 0 := by
    unfold Lib.decodeGo
    rw [if_neg (by rw [ByteArray.size_append]; omega)]
  rw [e3] at hd
  obtain ⟨k1, k2⟩ := decode_head c (catB r) h
  refine ⟨(Utf8.decode (c ++ catB r) 0).1, ?_, k2, rune_le _ _, by omega, ?_⟩
  · rw [← hd, ← k1]
  · rw [catB_append, ByteArray.size_append, catB_cons]
    show _ + (c ++ ByteArray.empty).size = _
    simp

theorem charsOf_app {c : ByteArray} (h : IsCh c) (r : ByteArray) : charsOf (c ++ r) = (charsOf r).map (c :: ·) := by
  have h0 := h.1
  have hw := headW_app h r
  rw [charsOf_step, if_neg (by rw [ByteArray.size_append]; omega), if_neg (by omega), hw, extract_app]
  have e : (c ++ r).extract 0 c.size = c := by
    rw [ByteArray.extract_append]
    simp
  rw [e]
theorem charsOf_of (l : List ByteArray) (h : ∀ c ∈ l, IsCh c) : charsOf (catB l) = some l := by
  induction l with
  | nil => rfl
  | cons c l ih => rw [catB_cons, charsOf_app (h c (by simp)), ih (fun d hd => h d (by simp [hd]))]; rfl
/-- One more character is gone by. -/
theorem cat_next (l : List ByteArray) (h : ∀ c ∈ l, IsCh c) (k : Nat) (hk : k < l.length) :
    ∃ R K : Nat, Utf8.decode (catB l) (catB (l.take k)).size = (R, K) ∧ R ≤ 2147483647 ∧ (catB (l.take k)).size < (catB l).size ∧ (catB (l.take (k + 1))).size = (catB (l.take k)).size + K ∧ (catB (l.take (k + 1))).size ≤ (catB l).size ∧ 0 < K := by
  have e : l = l.take k ++ l[k] :: l.drop (k + 1) := by rw [List.getElem_cons_drop, List.take_append_drop]
  have hc : IsCh l[k] := h _ (List.getElem_mem hk)
  obtain ⟨R, h1, _, h3, h4, h5⟩ := decode_place (l.take k) l[k] (l.drop (k + 1)) hc
  rw [← e] at h1 h4
  have e2 : l.take (k + 1) = l.take k ++ [l[k]] := by rw [List.take_succ_eq_append_getElem hk]
  refine ⟨R, l[k].size, h1, h3, h4, by rw [e2]; exact h5, ?_, Nat.pos_of_ne_zero hc.1⟩
  have e3 : catB l = catB (l.take (k + 1)) ++ catB (l.drop (k + 1)) := by rw [← catB_append, List.take_append_drop]
  rw [e3, ByteArray.size_append]; omega
theorem cat_le (l : List ByteArray) (k : Nat) : (catB (l.take k)).size ≤ (catB l).size := by
  have e3 : catB l = catB (l.take k) ++ catB (l.drop k) := by rw [← catB_append, List.take_append_drop]
  rw [e3, ByteArray.size_append]; omega
theorem cat_split (l : List ByteArray) (k : Nat) : (catB l).extract 0 (catB (l.take k)).size = catB (l.take k) ∧ (catB l).extract (catB (l.take k)).size (catB l).size = catB (l.drop k) := by
  have e3 : catB l = catB (l.take k) ++ catB (l.drop k) := by rw [← catB_append, List.take_append_drop]
  constructor
  · rw [e3, ByteArray.extract_append]; simp
  · conv => lhs; rw [e3]
    exact extract_app _ _
theorem isCh_le {c : ByteArray} (h : IsCh c) : c.size ≤ 4 := h.2 ▸ headW_le4 c
theorem cat_size (l : List ByteArray) (h : ∀ c ∈ l, IsCh c) : (catB l).size ≤ 4 * l.length := by
  induction l with
  | nil => show (0 : Nat) ≤ _; omega
  | cons c l ih =>
    have := ih (fun d hd => h d (by simp [hd]))
    have h2 := isCh_le (h c (by simp))
    rw [catB_cons, ByteArray.size_append, List.length_cons]; omega

end Go.Proofs.YtabogkonklplcaaGreatDoor

/- chars.Count, chars.Find. -/
namespace Go.Proofs.YtabogkonklplcaaGreatDoor
open Go.RowKit Go.Lib
set_option linter.unusedSimpArgs false
set_option linter.unusedVariables false

abbrev outV (n : Int) : Value := .iface 227 (.agg #[.int .i64 n])

def IterInv (l : List ByteArray) (w : World) (c : Value) (wr : World) : Prop :=
  ∃ k : Nat, k ≤ l.length ∧ c = .int .i64 (k : Int) ∧ wr.heap[w.heap.size]? = some (.stringIter (catB l) (catB (l.take k)).size) ∧ Below w.heap.size w wr

set_option maxRecDepth 20000 in
set_option maxHeartbeats 2000000 in
theorem count_any (l : List ByteArray) (hl : ∀ c ∈ l, IsCh c) (hn : l.length < lots) (w : World) :
    Calls Tryz.prog 105 #[.string (catB l)] w fun e w' => e = .returned (.int .i64 l.length) ∧ Below w.heap.size w w' := by
  have HL := hid (fun k hk => cat_next l hl k hk)
  unfold lots at hn
  clear hl
  go_enter Tryz.func105, Tryz.ntmps105
  go_wp2
  go_loopw [3] (fun c wr => IterInv l w c wr) (fun _ wr => (catB l).size - wr.iterPos w.heap.size)
  case atStart =>
    exact ⟨0, Nat.zero_le _, rfl, heap_alloc_new w _, (Below.refl _ w).alloc (Nat.le_refl _) _⟩
  case round =>
    obtain ⟨k, hk, rfl, hi, hb⟩ := hrel
    by_cases hlt : k < l.length
    · obtain ⟨R, K, h1, h2, h3, h4, h5, h6⟩ := HL.out k hlt
      have hnx := fun ty => Lib.run_next_any_at (P := Tryz.prog) _ w.heap.size (catB l) _ ty hi h3
      rw [h1] at hnx
      simp only at hnx
      have hi2 := iterAt_heap _ _ (catB l) _ ((catB (l.take k)).size + K) hi
      have hb2 := below_iterAt hb (Nat.le_refl _) (catB l) ((catB (l.take k)).size + K)
      clear h1 h2 HL
      generalize (catB (l.take k)).size = p at *
      go_wp2
      go_roundw
      case rel =>
        refine ⟨k + 1, hlt, by go_num, ?_, hb2⟩
        rw [h4]; exact hi2
      case measure =>
        rw [iterPos_of hi2, iterPos_of hi]
        omega
    · obtain rfl : k = l.length := by omega
      rw [List.take_length] at hi
      have hnx := fun ty => Lib.run_next_end_at (P := Tryz.prog) _ w.heap.size (catB l) _ ty hi (Nat.lt_irrefl _)
      go_wp2
      go_ret
      exact ⟨rfl, hb⟩

def FindPost (l : List ByteArray) (off : Int) (w : World) (e : Ending) (w' : World) : Prop :=
  Below w.heap.size w w' ∧ ((∃ o : Nat, off = o ∧ o ≤ l.length ∧ e = .returned (.tuple #[.int .i64 (catB (l.take o)).size, .nilIface])) ∨ ((off < 0 ∨ (l.length : Int) < off) ∧ e = .returned (.tuple #[.int .i64 0, outV off])))

set_option maxRecDepth 20000 in
set_option maxHeartbeats 2000000 in
theorem find_any (l : List ByteArray) (hl : ∀ c ∈ l, IsCh c) (hn : l.length < lots) (off : Int) (w : World) :
    Calls Tryz.prog 102 #[.string (catB l), .int .i64 off] w (FindPost l off w) := by
  have HL := hid (fun k hk => cat_next l hl k hk)
  unfold lots at hn
  clear hl
  go_enter Tryz.func102, Tryz.ntmps102
  go_wp2
  go_loopw [6] (fun c wr => IterInv l w c wr ∧ (off < 0 ∨ intOf c ≤ off)) (fun _ wr => (catB l).size - wr.iterPos w.heap.size)
  case atStart =>
    exact ⟨⟨0, Nat.zero_le _, rfl, heap_alloc_new w _, (Below.refl _ w).alloc (Nat.le_refl _) _⟩, by simp [intOf]; omega⟩
  case round =>
    obtain ⟨⟨k, hk, rfl, hi, hb⟩, ho⟩ := hrel
    simp only [intOf] at ho
    by_cases hlt : k < l.length
    · obtain ⟨R, K, h1, h2, h3, h4, h5, h6⟩ := HL.out k hlt
      have hnx := fun ty => Lib.run_next_any_at (P := Tryz.prog) _ w.heap.size (catB l) _ ty hi h3
      rw [h1] at hnx
      simp only at hnx
      have hi2 := iterAt_heap _ _ (catB l) _ ((catB (l.take k)).size + K) hi
      have hb2 := below_iterAt hb (Nat.le_refl _) (catB l) ((catB (l.take k)).size + K)
      clear h1 h2 HL
      obtain ⟨p, hp⟩ : ∃ p, (catB (l.take k)).size = p := ⟨_, rfl⟩
      rw [hp] at hnx hi2 hb2 hi h3 h4
      by_cases hoff : (k : Int) = off
      · have hoff' : ((k : Int) == off) = true := by simpa using hoff
        go_wp2
        go_ret2
        exact ⟨hb2, .inl ⟨k, hoff.symm, hk, by rw [hp]; rfl⟩⟩
      · have hoff' : ((k : Int) == off) = false := by simpa using hoff
        go_wp2
        go_roundw
        case rel =>
          refine ⟨⟨k + 1, hlt, by go_num, ?_, hb2⟩, ?_⟩
          · rw [h4]; exact hi2
          · have e : (IntKind.i64.wrap ((k : Int) + 1)) = (k : Int) + 1 := by rw [IntKind.wrap_i64]; omega
            simp [intOf, e]
            omega
        case measure =>
          rw [iterPos_of hi2, iterPos_of hi]
          omega
    · obtain rfl : k = l.length := by omega
      rw [List.take_length] at hi
      have hnx := fun ty => Lib.run_next_end_at (P := Tryz.prog) _ w.heap.size (catB l) _ ty hi (Nat.lt_irrefl _)
      by_cases hoff : (l.length : Int) = off
      · have hoff' : ((l.length : Int) == off) = true := by simpa using hoff
        go_wp2
        go_ret2
        exact ⟨hb, .inl ⟨l.length, hoff.symm, Nat.le_refl _, by rw [List.take_length]; rfl⟩⟩
      · have hoff' : ((l.length : Int) == off) = false := by simpa using hoff
        go_wp2
        go_ret2
        exact ⟨hb, .inr ⟨by omega, rfl⟩⟩

end Go.Proofs.YtabogkonklplcaaGreatDoor

/- margin.Doc over tree.Forest: how a document lies, margin.New, and what the wrappers do. -/
namespace Go.Proofs.YtabogkonklplcaaGreatDoor
open Go.RowKit
set_option linter.unusedSimpArgs false
set_option linter.unusedVariables false

/-- The blocks of the package-level variables that are read. -/
def Hold (b : Nat) : Prop := b = 0 ∨ b = 1 ∨ b = 2
def GG (w : World) : Prop := Glob w ∧ Tabs w
theorem GG.lt {w : World} (h : GG w) {b : Nat} (hb : Hold b) : b < w.heap.size := by
  rcases hb with rfl | rfl | rfl
  · exact World.block_lt_of_cell? w _ h.1
  · exact World.block_lt_of_cell? w _ (h.2.1 0 (by decide))
  · exact World.block_lt_of_cell? w _ (h.2.2 0 (by decide)).1
theorem GG.keeps {F : Nat → Prop} {w w' : World} (h : GG w) (hk : Keeps F w w') (hF : ∀ b, Hold b → ¬ F b) : GG w' :=
  ⟨hk.cell h.1 (hF _ (.inl rfl)), fun c hc => hk.cell (h.2.1 c hc) (hF _ (.inr (.inl rfl))), fun i hi => ⟨hk.cell (h.2.2 i hi).1 (hF _ (.inr (.inr rfl))), hk.cell (h.2.2 i hi).2 (hF _ (.inr (.inr rfl)))⟩⟩
theorem GG.below {w w' : World} (h : GG w) (hb : Below w.heap.size w w') : GG w' := h.keeps (Keeps.of_below (F := fun _ => False) hb) (fun _ _ e => e)

/-- What of F is the forest's. -/
def inner (F : Nat → Prop) (bx bl : Nat) (sv : Value) : Nat → Prop := fun b => F b ∧ b ≠ bx ∧ b ≠ bl ∧ sv.ownBlock ≠ some b ∧ ¬ Hold b

theorem PFor.keeps {w w' : World} {F G : Nat → Prop} {bf : Nat} {s : List Nd} (h : PFor w F bf s) (hk : Keeps G w w') (hG : ∀ b, F b → ¬ G b) : PFor w' F bf s := by
  obtain ⟨bn, cap, pn, h⟩ := h
  exact ⟨bn, cap, pn, h.keeps hk hG⟩
theorem PFor.wider {w : World} {F G : Nat → Prop} {bf : Nat} {s : List Nd} (h : PFor w F bf s) (hG : ∀ b, F b → G b) : PFor w G bf s := by
  obtain ⟨bn, cap, pn, h⟩ := h
  exact ⟨bn, cap, pn, h.wider hG⟩
theorem PFor.narrow {w : World} {F : Nat → Prop} {bf : Nat} {s : List Nd} (h : PFor w F bf s) : PFor w (fun b => F b ∧ b < w.heap.size) bf s := by
  obtain ⟨bn, cap, pn, h⟩ := h
  exact ⟨bn, cap, pn, h.narrow⟩
theorem PFor.below {w w' : World} {F : Nat → Prop} {bf : Nat} {s : List Nd} (h : PFor w F bf s) (hb : Below w.heap.size w w') : PFor w' F bf s :=
  h.keeps (Keeps.of_below (F := fun _ => False) hb) (fun _ _ e => e)

/-- A document of the program's: its block (bx), the forest (bf), the list of ranges (bl) and their row (sv). -/
structure PDocAt (w : World) (F : Nat → Prop) (bx bf bl : Nat) (sv : Value) (st : St) : Prop where
  Fx : F bx
  Hx : ¬ Hold bx
  doc : w.heap[bx]? = some (.cells #[ptr bf, ptr bl] 94 (0, 0))
  Fl : F bl
  Hl : ¬ Hold bl
  ne : bl ≠ bx
  list : w.heap[bl]? = some (.cells #[ptr bf, sv] 176 (0, 0))
  spans : w.ownsRow 0 79 4 sv st.r.length (st.r.flatMap Sp.cells)
  apart : ∀ b, sv.ownBlock = some b → F b ∧ ¬ Hold b ∧ b ≠ bx ∧ b ≠ bl
  nodes : PFor w (inner F bx bl sv) bf st.n
def PLies (w : World) (F : Nat → Prop) (bx : Nat) (st : St) : Prop := ∃ bf bl sv, PDocAt w F bx bf bl sv st
/-- The documents that have no ranges. -/
def PDoc : PDT where
  lies := PLies
  ok := fun st => WF st.n ∧ st.r = []

theorem PLies.keeps {w w' : World} {F G : Nat → Prop} {b : Nat} {s : St} (h : PLies w F b s) (hk : Keeps G w w') (hG : ∀ b, F b → ¬ G b) : PLies w' F b s := by
  obtain ⟨bf, bl, sv, h⟩ := h
  exact ⟨bf, bl, sv, h.Fx, h.Hx, by rw [hk.block b (heap_lt h.doc) (hG b h.Fx)]; exact h.doc, h.Fl, h.Hl, h.ne, by rw [hk.block bl (heap_lt h.list) (hG bl h.Fl)]; exact h.list,
    hk.row h.spans (fun b e => hG b (h.apart b e).1), h.apart, h.nodes.keeps hk (fun b hb => hG b hb.1)⟩
theorem PLies.wider {w : World} {F G : Nat → Prop} {b : Nat} {s : St} (h : PLies w F b s) (hG : ∀ b, F b → G b) : PLies w G b s := by
  obtain ⟨bf, bl, sv, h⟩ := h
  exact ⟨bf, bl, sv, hG _ h.Fx, h.Hx, h.doc, hG _ h.Fl, h.Hl, h.ne, h.list, h.spans, fun b e => ⟨hG _ (h.apart b e).1, (h.apart b e).2⟩, h.nodes.wider (fun b hb => ⟨hG _ hb.1, hb.2⟩)⟩
theorem PLies.narrow {w : World} {F : Nat → Prop} {b : Nat} {s : St} (h : PLies w F b s) : PLies w (fun k => F k ∧ k < w.heap.size) b s := by
  obtain ⟨bf, bl, sv, h⟩ := h
  exact ⟨bf, bl, sv, ⟨h.Fx, heap_lt h.doc⟩, h.Hx, h.doc, ⟨h.Fl, heap_lt h.list⟩, h.Hl, h.ne, h.list, h.spans, fun b e => ⟨⟨(h.apart b e).1, (h.spans.lt b e).2⟩, (h.apart b e).2⟩, h.nodes.narrow.wider (fun b hb => ⟨⟨hb.1.1, hb.2⟩, hb.1.2⟩)⟩

theorem pdoc_ok : PDOk PDoc where
  keeps := fun h hk hG => PLies.keeps h hk hG
  wider := fun h hG => PLies.wider h hG
  narrow := fun h => PLies.narrow h
  root := ⟨wf_root, rfl⟩

theorem rnew_list (bf : Nat) (w : World) : Calls Tryz.prog 72 #[ptr bf] w fun e w' => e = .returned (ptr w.heap.size) ∧ w' = w.alloc (.cells #[ptr bf, .slice none 0 0] 176) := by
  go_enter Tryz.func72, Tryz.ntmps72
  go_wp2
  go_ret
  exact ⟨rfl, rfl⟩

set_option maxHeartbeats 400000 in
theorem mnew_ok : NewOk PDoc GG := by
  intro w hg
  have C := hid (tnew_any w)
  have C2 := hid rnew_list
  go_enter Tryz.func40, Tryz.ntmps40
  go_wp2_with first
    | (go_at_call 71; refine C.out.mono ?_; rintro e w1 ⟨bf, rfl, hb, hf⟩)
    | (go_at_call 72; refine (C2.out _ _).mono ?_; rintro e w2 ⟨rfl, rfl⟩)
  go_ret
  have hsz := hb.size
  have hb1 : Below w1.heap.size w1 (w1.alloc (.cells #[ptr bf, .slice none 0 0] 176)) := (Below.refl _ w1).alloc (Nat.le_refl _) _
  have hb2 : Below w1.heap.size w1 ((w1.alloc (.cells #[ptr bf, .slice none 0 0] 176)).alloc (.cells #[ptr bf, ptr w1.heap.size] 94)) := hb1.alloc (by simp) _
  have hn : ∀ b, w.heap.size ≤ b → ¬ Hold b := fun b hle h => by have := hg.lt h; omega
  have hd := heap_alloc_new (w1.alloc (.cells #[ptr bf, .slice none 0 0] 176)) (.cells #[ptr bf, ptr w1.heap.size] 94)
  refine ⟨w1.heap.size + 1, by simp, hb.trans (hb2.mono hsz), bf, w1.heap.size, .slice none 0 0, ⟨by omega, hn _ (by omega), by simpa using hd, hsz, hn _ hsz, by omega, ?_, World.ownsRow_nil _ _ _ _, (fun b e => by cases e), ?_⟩⟩
  · rw [Below.heap_alloc _ _ _ (by simp), heap_alloc_new]
  · exact (hf.narrow.below hb2).wider (fun b hx => ⟨hx.1, by have := hx.2; omega, by have := hx.2; omega, (fun e => by cases e), hn b hx.1⟩)

def PLPost (F : Nat → Prop) (w : World) (bx : Nat) (s' : St) (v : Value) (e : Ending) (w' : World) : Prop := e = .returned v ∧ Keeps F w w' ∧ PLies w' (grow F w) bx s'
/-- What a call of the forest's must have left. -/
def TPost (F : Nat → Prop) (w : World) (bf : Nat) (s' : List Nd) (v : Value) (e : Ending) (w' : World) : Prop := e = .returned v ∧ Keeps F w w' ∧ PFor w' (grow F w) bf s'
/-- What fault makes of an error. -/
def ErrOf (v : Value) (a y : Int) : Prop := ∀ w, Glob w → Calls Tryz.prog 46 #[v] w fun e w' => e = .returned (errV a y) ∧ Below w.heap.size w w'
theorem errOf_nil (a : Int) : ErrOf .nilIface a 0 := fun w hg => (fault_nil w).mono fun e w' ⟨h1, h2⟩ => ⟨by rw [h1]; simp [errV], h2⟩
theorem errOf_P (n y : Int) (hy : y ≠ 0) : ErrOf (refusalV n y) n y := fun w hg => (fault_P n y w hg).mono fun e w' ⟨h1, h2⟩ => ⟨by rw [h1]; simp [errV, hy], h2⟩
theorem errOf_F (n at_ : Int) : ErrOf (.iface 145 (.agg #[.int .i64 n, flawV at_])) n 6 := fun w hg => (fault_F n at_ w hg).mono fun e w' ⟨h1, h2⟩ => ⟨by rw [h1]; simp [errV], h2⟩

/-- Behind the forest's call and fault's: what is left of the document. -/
theorem pdoc_after {w w1 w2 : World} {F : Nat → Prop} {bx bf bl : Nat} {sv : Value} {s s' : List Nd} {rs : List Sp} (hg : GG w) (hD : PDocAt w F bx bf bl sv ⟨s, rs⟩) (hk : Keeps (inner F bx bl sv) w w1) (hf : PFor w1 (grow (inner F bx bl sv) w) bf s') (hb : Below w1.heap.size w1 w2) :
    Keeps F w w2 ∧ PDocAt w2 (grow F w) bx bf bl sv ⟨s', rs⟩ := by
  have hk2 : Keeps (inner F bx bl sv) w w2 := hk.trans (Keeps.of_below hb)
  have hlx := heap_lt hD.doc
  have hll := heap_lt hD.list
  refine ⟨hk2.mono (fun k _ h => h.1), ⟨.inl hD.Fx, hD.Hx, ?_, .inl hD.Fl, hD.Hl, hD.ne, ?_, hk2.row hD.spans (fun b e h => h.2.2.2.1 e), fun b e => ⟨.inl (hD.apart b e).1, (hD.apart b e).2⟩, (hf.below hb).wider (fun b h => ?_)⟩⟩
  · rw [hk2.block bx hlx (fun h => h.2.1 rfl)]; exact hD.doc
  · rw [hk2.block bl hll (fun h => h.2.2.1 rfl)]; exact hD.list
  · rcases h with h | h
    · exact ⟨.inl h.1, h.2⟩
    · exact ⟨.inr h, by omega, by omega, fun e => by have := (hD.spans.lt b e).2; omega, fun hh => by have := hg.lt hh; omega⟩
theorem gg_after {w w1 : World} {F : Nat → Prop} {bx bl : Nat} {sv : Value} (hg : GG w) (hk : Keeps (inner F bx bl sv) w w1) : Glob w1 := (hg.keeps hk (fun b hb h => h.2.2.2.2 hb)).1

set_option maxHeartbeats 400000 in
theorem melement_of {w : World} {F : Nat → Prop} {bx : Nat} {s s' : List Nd} {rs : List Sp} (hg : GG w) (hP : PLies w F bx ⟨s, rs⟩) {n v : Value} {a y : Int} (hE : ErrOf v a y)
    (hT : ∀ (F' : Nat → Prop) (bf : Nat), PFor w F' bf s → Calls Tryz.prog 92 #[ptr bf] w (TPost F' w bf s' (.tuple #[n, v]))) :
    Calls Tryz.prog 52 #[ptr bx] w (PLPost F w bx ⟨s', rs⟩ (.tuple #[n, errV a y])) := by
  obtain ⟨bf, bl, sv, hD⟩ := hP
  have C := hid (hT _ _ hD.nodes)
  have c0 : w.cell? ⟨bx, 0, none⟩ = some (ptr bf) := cell_of_heap hD.doc 0
  have AF := hid (fun w1 w2 => pdoc_after (w1 := w1) (w2 := w2) (s' := s') hg hD)
  have AG := hid (fun w1 => gg_after (w1 := w1) (F := F) (bx := bx) (bl := bl) (sv := sv) hg)
  have E := hid hE
  clear hD hT hg hE
  go_enter Tryz.func52, Tryz.ntmps52
  go_wp2_with first
    | (go_at_call 92; refine C.out.mono ?_; rintro e w1 ⟨rfl, hk, hf⟩; have E1 := hid (E.out w1 (AG.out w1 hk)); have A1 := hid (fun w2 => AF.out w1 w2 hk hf); clear hk hf)
    | (go_at_call 46; refine E1.out.mono ?_; rintro e w2 ⟨rfl, hb⟩)
  go_ret2
  exact ⟨rfl, (A1.out _ hb).1, _, _, _, (A1.out _ hb).2⟩

set_option maxHeartbeats 400000 in
theorem mtext_of {w : World} {F : Nat → Prop} {bx : Nat} {s s' : List Nd} {rs : List Sp} (hg : GG w) (hP : PLies w F bx ⟨s, rs⟩) {n v : Value} {a y : Int} (t : ByteArray) (hE : ErrOf v a y)
    (hT : ∀ (F' : Nat → Prop) (bf : Nat), PFor w F' bf s → Calls Tryz.prog 93 #[ptr bf, .string t] w (TPost F' w bf s' (.tuple #[n, v]))) :
    Calls Tryz.prog 53 #[ptr bx, .string t] w (PLPost F w bx ⟨s', rs⟩ (.tuple #[n, errV a y])) := by
  obtain ⟨bf, bl, sv, hD⟩ := hP
  have C := hid (hT _ _ hD.nodes)
  have c0 : w.cell? ⟨bx, 0, none⟩ = some (ptr bf) := cell_of_heap hD.doc 0
  have AF := hid (fun w1 w2 => pdoc_after (w1 := w1) (w2 := w2) (s' := s') hg hD)
  have AG := hid (fun w1 => gg_after (w1 := w1) (F := F) (bx := bx) (bl := bl) (sv := sv) hg)
  have E := hid hE
  clear hD hT hg hE
  go_enter Tryz.func53, Tryz.ntmps53
  go_wp2_with first
    | (go_at_call 93; refine C.out.mono ?_; rintro e w1 ⟨rfl, hk, hf⟩; have E1 := hid (E.out w1 (AG.out w1 hk)); have A1 := hid (fun w2 => AF.out w1 w2 hk hf); clear hk hf)
    | (go_at_call 46; refine E1.out.mono ?_; rintro e w2 ⟨rfl, hb⟩)
  go_ret2
  exact ⟨rfl, (A1.out _ hb).1, _, _, _, (A1.out _ hb).2⟩

/-- What a change of the forest's must have left that was made: with the function that moves places. -/
def TMove (Mv : World → Value → Prop) (F : Nat → Prop) (w : World) (bf : Nat) (s' : List Nd) (e : Ending) (w' : World) : Prop := ∃ mv, e = .returned (.tuple #[mv, .nilIface]) ∧ Keeps F w w' ∧ PFor w' (grow F w) bf s' ∧ Mv w' mv
theorem PDocAt.below {w w' : World} {F : Nat → Prop} {bx bf bl : Nat} {sv : Value} {st : St} (h : PDocAt w F bx bf bl sv st) (hb : Below w.heap.size w w') : PDocAt w' F bx bf bl sv st :=
  ⟨h.Fx, h.Hx, by rw [hb.block bx (heap_lt h.doc)]; exact h.doc, h.Fl, h.Hl, h.ne, by rw [hb.block bl (heap_lt h.list)]; exact h.list, (Keeps.of_below (F := fun _ => False) hb).row h.spans (fun _ _ e => e), h.apart, h.nodes.below hb⟩

set_option maxHeartbeats 400000 in
/-- No ranges: none is moved. -/
theorem lfollow_nil {w : World} {bl bf : Nat} {sv : Value} (h : w.heap[bl]? = some (.cells #[ptr bf, sv] 176 (0, 0))) (hr : w.ownsRow 0 79 4 sv 0 []) (mv : Value) :
    Calls Tryz.prog 110 #[ptr bl, mv] w fun e w' => e = .returned (.tuple #[]) ∧ Below w.heap.size w w' := by
  obtain ⟨a, c, rfl⟩ := slice_shape hr
  have c1 : w.cell? ⟨bl, 1, none⟩ = some (.slice a 0 c) := cell_of_heap h 1
  have hl := heap_lt h
  clear h hr
  go_enter Tryz.func110, Tryz.ntmps110
  go_wp2
  go_rounds 1
  go_end0
  exact ⟨rfl, by go_grown⟩

set_option maxHeartbeats 400000 in
theorem mfollow_yes {w : World} {F : Nat → Prop} {bx bf bl : Nat} {sv : Value} {s : List Nd} (hD : PDocAt w F bx bf bl sv ⟨s, []⟩) (mv : Value) :
    Calls Tryz.prog 64 #[ptr bx, mv, .nilIface] w fun e w' => e = .returned .nilIface ∧ Below w.heap.size w w' := by
  have C := hid (lfollow_nil hD.list hD.spans mv)
  have c1 : w.cell? ⟨bx, 1, none⟩ = some (ptr bl) := cell_of_heap hD.doc 1
  clear hD
  go_enter Tryz.func64, Tryz.ntmps64
  go_wp2_with (go_at_call 110; refine C.out.mono ?_; rintro e w1 ⟨rfl, hb⟩)
  go_ret
  exact ⟨rfl, hb⟩

set_option maxHeartbeats 400000 in
theorem mfollow_no {w : World} (hg : Glob w) (bx : Nat) (mv : Value) {t : TypeId} {u : Value} {a y : Int} (hE : ErrOf (.iface t u) a y) :
    Calls Tryz.prog 64 #[ptr bx, mv, .iface t u] w fun e w' => e = .returned (errV a y) ∧ Below w.heap.size w w' := by
  have C := hid (hE w hg)
  clear hE hg
  go_enter Tryz.func64, Tryz.ntmps64
  go_wp2_with (go_at_call 46; refine C.out.mono ?_; rintro e w1 ⟨rfl, hb⟩)
  go_ret
  exact ⟨rfl, hb⟩

set_option maxHeartbeats 400000 in
theorem minsert_no {w : World} {F : Nat → Prop} {bx : Nat} {s s' : List Nd} {rs : List Sp} (hg : GG w) (hP : PLies w F bx ⟨s, rs⟩) {t : TypeId} {u : Value} {a y : Int} (A B C : Int) (hE : ErrOf (.iface t u) a y)
    (hT : ∀ (F' : Nat → Prop) (bf : Nat), PFor w F' bf s → Calls Tryz.prog 94 #[ptr bf, .int .i64 A, .int .i64 B, .int .i64 C] w (TPost F' w bf s' (.tuple #[.nilFunc, .iface t u]))) :
    Calls Tryz.prog 54 #[ptr bx, .int .i64 A, .int .i64 B, .int .i64 C] w (PLPost F w bx ⟨s', rs⟩ (errV a y)) := by
  obtain ⟨bf, bl, sv, hD⟩ := hP
  have C := hid (hT _ _ hD.nodes)
  have c0 : w.cell? ⟨bx, 0, none⟩ = some (ptr bf) := cell_of_heap hD.doc 0
  have AF := hid (fun w1 w2 => pdoc_after (w1 := w1) (w2 := w2) (s' := s') hg hD)
  have AG := hid (fun w1 => gg_after (w1 := w1) (F := F) (bx := bx) (bl := bl) (sv := sv) hg)
  have E := hid (fun w1 (h1 : Glob w1) => mfollow_no h1 bx .nilFunc hE)
  clear hD hT hg hE
  go_enter Tryz.func54, Tryz.ntmps54
  go_wp2_with first
    | (go_at_call 94; refine C.out.mono ?_; rintro e w1 ⟨rfl, hk, hf⟩; have E1 := hid (E.out w1 (AG.out w1 hk)); have A1 := hid (fun w2 => AF.out w1 w2 hk hf); clear hk hf)
    | (go_at_call 64; refine E1.out.mono ?_; rintro e w2 ⟨rfl, hb⟩)
  go_ret
  exact ⟨rfl, (A1.out _ hb).1, _, _, _, (A1.out _ hb).2⟩

set_option maxHeartbeats 400000 in
theorem minsert_of {w : World} {F : Nat → Prop} {bx : Nat} {s s' : List Nd} (hg : GG w) (hP : PLies w F bx ⟨s, []⟩) {Mv : World → Value → Prop} (A B C : Int)
    (hT : ∀ (F' : Nat → Prop) (bf : Nat), PFor w F' bf s → Calls Tryz.prog 94 #[ptr bf, .int .i64 A, .int .i64 B, .int .i64 C] w (TMove Mv F' w bf s')) :
    Calls Tryz.prog 54 #[ptr bx, .int .i64 A, .int .i64 B, .int .i64 C] w (PLPost F w bx ⟨s', []⟩ (errV 0 0)) := by
  obtain ⟨bf, bl, sv, hD⟩ := hP
  have C := hid (hT _ _ hD.nodes)
  have c0 : w.cell? ⟨bx, 0, none⟩ = some (ptr bf) := cell_of_heap hD.doc 0
  have AF := hid (fun w1 => pdoc_after (w1 := w1) (w2 := w1) (s' := s') hg hD)
  clear hD hT hg
  go_enter Tryz.func54, Tryz.ntmps54
  go_wp2_with first
    | (go_at_call 94; refine C.out.mono ?_; rintro e w1 ⟨mv, rfl, hk, hf, hm⟩; have A1 := hid (AF.out w1 hk hf (Below.refl _ _)); have E1 := hid (mfollow_yes A1.out.2 mv); clear hk hf hm)
    | (go_at_call 64; refine E1.out.mono ?_; rintro e w2 ⟨rfl, hb⟩)
  go_ret
  exact ⟨by simp [errV], A1.out.1.trans (Keeps.of_below hb), _, _, _, A1.out.2.below hb⟩

set_option maxHeartbeats 400000 in
theorem mremove_no {w : World} {F : Nat → Prop} {bx : Nat} {s s' : List Nd} {rs : List Sp} (hg : GG w) (hP : PLies w F bx ⟨s, rs⟩) {t : TypeId} {u : Value} {a y : Int} (A : Int) (hE : ErrOf (.iface t u) a y)
    (hT : ∀ (F' : Nat → Prop) (bf : Nat), PFor w F' bf s → Calls Tryz.prog 97 #[ptr bf, .int .i64 A] w (TPost F' w bf s' (.tuple #[.nilFunc, .iface t u]))) :
    Calls Tryz.prog 60 #[ptr bx, .int .i64 A] w (PLPost F w bx ⟨s', rs⟩ (errV a y)) := by
  obtain ⟨bf, bl, sv, hD⟩ := hP
  have C := hid (hT _ _ hD.nodes)
  have c0 : w.cell? ⟨bx, 0, none⟩ = some (ptr bf) := cell_of_heap hD.doc 0
  have AF := hid (fun w1 w2 => pdoc_after (w1 := w1) (w2 := w2) (s' := s') hg hD)
  have AG := hid (fun w1 => gg_after (w1 := w1) (F := F) (bx := bx) (bl := bl) (sv := sv) hg)
  have E := hid (fun w1 (h1 : Glob w1) => mfollow_no h1 bx .nilFunc hE)
  clear hD hT hg hE
  go_enter Tryz.func60, Tryz.ntmps60
  go_wp2_with first
    | (go_at_call 97; refine C.out.mono ?_; rintro e w1 ⟨rfl, hk, hf⟩; have E1 := hid (E.out w1 (AG.out w1 hk)); have A1 := hid (fun w2 => AF.out w1 w2 hk hf); clear hk hf)
    | (go_at_call 64; refine E1.out.mono ?_; rintro e w2 ⟨rfl, hb⟩)
  go_ret
  exact ⟨rfl, (A1.out _ hb).1, _, _, _, (A1.out _ hb).2⟩

set_option maxHeartbeats 400000 in
theorem mremove_of {w : World} {F : Nat → Prop} {bx : Nat} {s s' : List Nd} (hg : GG w) (hP : PLies w F bx ⟨s, []⟩) {Mv : World → Value → Prop} (A : Int)
    (hT : ∀ (F' : Nat → Prop) (bf : Nat), PFor w F' bf s → Calls Tryz.prog 97 #[ptr bf, .int .i64 A] w (TMove Mv F' w bf s')) :
    Calls Tryz.prog 60 #[ptr bx, .int .i64 A] w (PLPost F w bx ⟨s', []⟩ (errV 0 0)) := by
  obtain ⟨bf, bl, sv, hD⟩ := hP
  have C := hid (hT _ _ hD.nodes)
  have c0 : w.cell? ⟨bx, 0, none⟩ = some (ptr bf) := cell_of_heap hD.doc 0
  have AF := hid (fun w1 => pdoc_after (w1 := w1) (w2 := w1) (s' := s') hg hD)
  clear hD hT hg
  go_enter Tryz.func60, Tryz.ntmps60
  go_wp2_with first
    | (go_at_call 97; refine C.out.mono ?_; rintro e w1 ⟨mv, rfl, hk, hf, hm⟩; have A1 := hid (AF.out w1 hk hf (Below.refl _ _)); have E1 := hid (mfollow_yes A1.out.2 mv); clear hk hf hm)
    | (go_at_call 64; refine E1.out.mono ?_; rintro e w2 ⟨rfl, hb⟩)
  go_ret
  exact ⟨by simp [errV], A1.out.1.trans (Keeps.of_below hb), _, _, _, A1.out.2.below hb⟩

set_option maxHeartbeats 400000 in
theorem mshow_of {w : World} {F : Nat → Prop} {bx : Nat} {s s' : List Nd} {rs : List Sp} (hg : GG w) (hP : PLies w F bx ⟨s, rs⟩) {n v : Value} {a y : Int} (A : Int) (hE : ErrOf v a y)
    (hT : ∀ (F' : Nat → Prop) (bf : Nat), PFor w F' bf s → Calls Tryz.prog 95 #[ptr bf, .int .i64 A] w (TPost F' w bf s' (.tuple #[n, v]))) :
    Calls Tryz.prog 55 #[ptr bx, .int .i64 A] w (PLPost F w bx ⟨s', rs⟩ (.tuple #[n, errV a y])) := by
  obtain ⟨bf, bl, sv, hD⟩ := hP
  have C := hid (hT _ _ hD.nodes)
  have c0 : w.cell? ⟨bx, 0, none⟩ = some (ptr bf) := cell_of_heap hD.doc 0
  have AF := hid (fun w1 w2 => pdoc_after (w1 := w1) (w2 := w2) (s' := s') hg hD)
  have AG := hid (fun w1 => gg_after (w1 := w1) (F := F) (bx := bx) (bl := bl) (sv := sv) hg)
  have E := hid hE
  clear hD hT hg hE
  go_enter Tryz.func55, Tryz.ntmps55
  go_wp2_with first
    | (go_at_call 95; refine C.out.mono ?_; rintro e w1 ⟨rfl, hk, hf⟩; have E1 := hid (E.out w1 (AG.out w1 hk)); have A1 := hid (fun w2 => AF.out w1 w2 hk hf); clear hk hf)
    | (go_at_call 46; refine E1.out.mono ?_; rintro e w2 ⟨rfl, hb⟩)
  go_ret2
  exact ⟨rfl, (A1.out _ hb).1, _, _, _, (A1.out _ hb).2⟩

end Go.Proofs.YtabogkonklplcaaGreatDoor

/- tree.Element, tree.Text; the document's answers at Element and Text. -/
namespace Go.Proofs.YtabogkonklplcaaGreatDoor
open Go.RowKit
set_option linter.unusedSimpArgs false
set_option linter.unusedVariables false

section
variable {w : World} {F : Nat → Prop} {bf : Nat} {s : List Nd}

set_option maxHeartbeats 400000 in
theorem telement_full (hD : PFor w F bf s) (h40 : 40 ≤ s.length) : Calls Tryz.prog 92 #[ptr bf] w (TPost F w bf s (.tuple #[.int .i64 0, refusalV 0 7])) := by
  obtain ⟨bn, cap, pn, hD⟩ := hD
  have C := hid (add_full hD h40 (-1) false ⟨#[]⟩ 0)
  have HD := hid hD
  clear hD
  go_enter Tryz.func92, Tryz.ntmps92
  go_wp2_with (go_at_call 143; refine C.out.mono ?_; rintro e w1 ⟨rfl, hb⟩)
  go_ret2
  exact ⟨rfl, Keeps.of_below hb, bn, cap, pn, (HD.out.below hb).wider (fun b h => .inl h)⟩

set_option maxHeartbeats 400000 in
theorem telement_some (hD : PFor w F bf s) (h40 : s.length < 40) : Calls Tryz.prog 92 #[ptr bf] w (TPost F w bf (s ++ [rootNd]) (.tuple #[.int .i64 s.length, .nilIface])) := by
  obtain ⟨bn, cap, pn, hD⟩ := hD
  have C := hid (add_some hD h40 rootNd rfl 0)
  clear hD
  go_enter Tryz.func92, Tryz.ntmps92
  go_wp2_with (go_at_call 143; refine C.out.mono ?_; rintro e w1 ⟨rfl, hk, hf⟩)
  go_ret2
  exact ⟨rfl, hk, hf⟩

set_option maxHeartbeats 400000 in
theorem addText_full (hD : PFor w F bf s) (h40 : 40 ≤ s.length) (t : ByteArray) (q : Int) : Calls Tryz.prog 103 #[ptr bf, .string t, .int .i64 q] w fun e w' => e = .returned (.tuple #[.int .i64 0, refusalV q 7]) ∧ Below w.heap.size w w' := by
  obtain ⟨bn, cap, pn, hD⟩ := hD
  have C := hid (add_full hD h40 (-1) true t q)
  clear hD
  go_enter Tryz.func103, Tryz.ntmps103
  go_wp2_with (go_at_call 143; refine C.out.mono ?_; rintro e w1 ⟨rfl, hb⟩)
  go_ret2
  exact ⟨rfl, hb⟩

set_option maxHeartbeats 400000 in
theorem addText_some (hD : PFor w F bf s) (h40 : s.length < 40) (l : List ByteArray) (q : Int) : Calls Tryz.prog 103 #[ptr bf, .string (catB l), .int .i64 q] w (TPost F w bf (s ++ [⟨true, l, [], -1⟩]) (.tuple #[.int .i64 s.length, .nilIface])) := by
  obtain ⟨bn, cap, pn, hD⟩ := hD
  have C := hid (add_some hD h40 ⟨true, l, [], -1⟩ rfl q)
  clear hD
  go_enter Tryz.func103, Tryz.ntmps103
  go_wp2_with (go_at_call 143; refine C.out.mono ?_; rintro e w1 ⟨rfl, hk, hf⟩)
  go_ret2
  exact ⟨rfl, hk, hf⟩

set_option maxHeartbeats 400000 in
theorem clone_any (t : ByteArray) (w : World) (ht : t.size < lots) : Calls Tryz.prog 145 #[.string t] w fun e w' => e = .returned (.string t) ∧ Below w.heap.size w w' := by
  have C := hid (Tryz.stringslite_Clone t w (by unfold lots at ht; omega))
  clear ht
  go_enter Tryz.func145, Tryz.ntmps145
  go_wp2_with (go_at_call 172; refine C.out.mono ?_; rintro e w1 ⟨rfl, hb⟩)
  go_ret
  exact ⟨rfl, hb⟩

def FlawPost (F : Nat → Prop) (w : World) (bf : Nat) (s : List Nd) (e : Ending) (w' : World) : Prop := ∃ n : Int, TPost F w bf s (.tuple #[.int .i64 0, .iface 145 (.agg #[.int .i64 0, flawV n])]) e w'

set_option maxHeartbeats 400000 in
theorem ttext_no (hD : PFor w F bf s) (hT : Tabs w) (t : ByteArray) (ht : t.size < lots) (h : ∀ l, ¬ Takes t l) : Calls Tryz.prog 93 #[ptr bf, .string t] w (FlawPost F w bf s) := by
  have C := hid (check_any 30 (by decide) t w ht hT)
  have HD := hid hD
  have HN := hid h
  clear hD hT ht h
  go_enter Tryz.func93, Tryz.ntmps93
  go_wp2_with (go_at_call 144; refine C.out.mono ?_; rintro e w1 ⟨hb, ⟨l, hl, _⟩ | ⟨_, n, rfl⟩⟩; (first | exact absurd hl (HN.out l) | skip))
  go_ret2
  exact ⟨n, rfl, Keeps.of_below hb, (HD.out.below hb).wider (fun b h => .inl h)⟩


set_option maxHeartbeats 1000000 in
theorem ttext_full (hD : PFor w F bf s) (hT : Tabs w) (t : ByteArray) (ht : t.size < lots) (l : List ByteArray) (h : Takes t l) (h40 : 40 ≤ s.length) : Calls Tryz.prog 93 #[ptr bf, .string t] w (TPost F w bf s (.tuple #[.int .i64 0, refusalV 0 7])) := by
  have C := hid (check_any 30 (by decide) t w ht hT)
  have CL := hid (fun w1 => clone_any t w1 ht)
  have HD := hid hD
  have HN := hid h
  have H4 := hid h40
  clear hD hT ht h h40
  go_enter Tryz.func93, Tryz.ntmps93
  go_wp2_with first
    | (go_at_call 144; refine C.out.mono ?_; rintro e w1 ⟨hb, ⟨l', hl, rfl⟩ | ⟨hn, _⟩⟩ <;> (first | exact absurd HN.out (hn l) | skip))
    | (go_at_call 145; refine (CL.out _).mono ?_; rintro e w2 ⟨rfl, hb2⟩
       have hB := hid (hb.trans (hb2.mono hb.size))
       have D2 := hid (HD.out.below hB.out)
       clear hb hb2)
    | (go_at_call 103; refine (addText_full D2.out H4.out t 0).mono ?_; rintro e w3 ⟨rfl, hb3⟩)
  go_ret2
  have hb4 := hB.out.trans (hb3.mono hB.out.size)
  exact ⟨rfl, Keeps.of_below hb4, (HD.out.below hb4).wider (fun b h => .inl h)⟩

set_option maxHeartbeats 1000000 in
theorem ttext_some (hD : PFor w F bf s) (hT : Tabs w) (t : ByteArray) (ht : t.size < lots) (l : List ByteArray) (h : Takes t l) (h40 : s.length < 40) : Calls Tryz.prog 93 #[ptr bf, .string t] w (TPost F w bf (s ++ [⟨true, l, [], -1⟩]) (.tuple #[.int .i64 s.length, .nilIface])) := by
  have C := hid (check_any 30 (by decide) t w ht hT)
  have CL := hid (fun w1 => clone_any t w1 ht)
  have HD := hid hD
  have HN := hid h
  have H4 := hid h40
  have HC := hid (charsOf_cat t.size t l (Nat.le_refl _) h.1)
  clear hD hT ht h h40
  go_enter Tryz.func93, Tryz.ntmps93
  go_wp2_with first
    | (go_at_call 144; refine C.out.mono ?_; rintro e w1 ⟨hb, ⟨l', hl, rfl⟩ | ⟨hn, _⟩⟩ <;> (first | exact absurd HN.out (hn l) | skip))
    | (go_at_call 145; refine (CL.out _).mono ?_; rintro e w2 ⟨rfl, hb2⟩
       have hB := hid (hb.trans (hb2.mono hb.size))
       have D2 := hid (HD.out.below hB.out)
       clear hb hb2)
    | (go_at_call 103; have A1 := addText_some D2.out H4.out l 0; rw [HC.out] at A1; refine A1.mono ?_; clear A1; rintro e w3 ⟨rfl, hk3, hf3⟩)
  go_ret2
  refine ⟨rfl, (Keeps.of_below hB.out).trans (hk3.mono (fun k _ h => .inl h)), hf3.wider (fun b h => ?_)⟩
  rcases h with h | h
  · exact .inl h
  · exact .inr (Nat.le_trans hB.out.size h)
end

set_option maxHeartbeats 400000 in
theorem mtext_flaw {w : World} {F : Nat → Prop} {bx : Nat} {s s' : List Nd} {rs : List Sp} (hg : GG w) (hP : PLies w F bx ⟨s, rs⟩) (t : ByteArray)
    (hT : ∀ (F' : Nat → Prop) (bf : Nat), PFor w F' bf s → Calls Tryz.prog 93 #[ptr bf, .string t] w (FlawPost F' w bf s')) :
    Calls Tryz.prog 53 #[ptr bx, .string t] w (PLPost F w bx ⟨s', rs⟩ (.tuple #[.int .i64 0, errV 0 6])) := by
  obtain ⟨bf, bl, sv, hD⟩ := hP
  have C := hid (hT _ _ hD.nodes)
  have c0 : w.cell? ⟨bx, 0, none⟩ = some (ptr bf) := cell_of_heap hD.doc 0
  have AF := hid (fun w1 w2 => pdoc_after (w1 := w1) (w2 := w2) (s' := s') hg hD)
  have AG := hid (fun w1 => gg_after (w1 := w1) (F := F) (bx := bx) (bl := bl) (sv := sv) hg)
  clear hD hT hg
  go_enter Tryz.func53, Tryz.ntmps53
  go_wp2_with first
    | (go_at_call 93; refine C.out.mono ?_; rintro e w1 ⟨n, rfl, hk, hf⟩; have E1 := hid (errOf_F 0 n w1 (AG.out w1 hk)); have A1 := hid (fun w2 => AF.out w1 w2 hk hf); clear hk hf)
    | (go_at_call 46; refine E1.out.mono ?_; rintro e w2 ⟨rfl, hb⟩)
  go_ret2
  exact ⟨rfl, (A1.out _ hb).1, _, _, _, (A1.out _ hb).2⟩

theorem RDoc.after {w w' : World} {F : Nat → Prop} {bd : Nat} {s : List Nd} (h : RDoc w F bd s []) (hb : Below w.heap.size w w') : RDoc w' (grow F w) bd s [] := by
  obtain ⟨bn, cap, rn, rv, h⟩ := h
  exact ⟨bn, cap, rn, rv, (h.below hb).wider (fun b h => .inl h)⟩

theorem ans_element (s : List Nd) (wf : WF s) : ∃ n : Int, Ans PDoc GG ⟨s, []⟩ 52 73 [] (fun v => .tuple #[.int .i64 n, v]) (fun v => .tuple #[.int .i64 n, v]) := by
  by_cases h40 : s.length < 40
  · refine ⟨s.length, 0, 0, ⟨s ++ [rootNd], []⟩, ⟨wf_push wf h40 rootNd rfl rfl (fun _ => rfl) ⟨by decide, fun c hc => by cases hc⟩, rfl⟩, ?_, ?_⟩
    · intro w F bx hg hP
      exact melement_of hg hP (errOf_nil 0) (fun F' bf h => telement_some h h40)
    · rintro w F bd ⟨bn, cap, rn, rv, hD⟩
      exact (relement_some hD h40).mono fun e w' h => h
  · refine ⟨0, 0, 7, ⟨s, []⟩, ⟨wf, rfl⟩, ?_, ?_⟩
    · intro w F bx hg hP
      exact melement_of hg hP (errOf_P 0 7 (by decide)) (fun F' bf h => telement_full h (by omega))
    · intro w F bd hR
      have hR' := hR
      obtain ⟨bn, cap, rn, rv, hD⟩ := hR
      exact (relement_full (s := s) hD (by omega)).mono fun e w' ⟨h1, h2⟩ => ⟨h1, Keeps.of_below h2, hR'.after h2⟩

theorem ans_text (s : List Nd) (wf : WF s) (t : ByteArray) (ht : t.size < lots) : ∃ n : Int, Ans PDoc GG ⟨s, []⟩ 53 74 [.string t] (fun v => .tuple #[.int .i64 n, v]) (fun v => .tuple #[.int .i64 n, v]) := by
  by_cases hk : ∃ l, Takes t l
  · obtain ⟨l, hl⟩ := hk
    by_cases h40 : s.length < 40
    · refine ⟨s.length, 0, 0, ⟨s ++ [⟨true, l, [], -1⟩], []⟩, ⟨wf_push wf h40 _ rfl rfl (fun h => by cases h) ⟨hl.2, charsOf_isCh t.size t l (Nat.le_refl _) hl.1⟩, rfl⟩, ?_, ?_⟩
      · intro w F bx hg hP
        exact mtext_of hg hP t (errOf_nil 0) (fun F' bf h => ttext_some h hg.2 t ht l hl h40)
      · rintro w F bd ⟨bn, cap, rn, rv, hD⟩
        exact (rtext_some hD t ht l hl.1 hl.2 h40).mono fun e w' h => h
    · refine ⟨0, 0, 7, ⟨s, []⟩, ⟨wf, rfl⟩, ?_, ?_⟩
      · intro w F bx hg hP
        exact mtext_of hg hP t (errOf_P 0 7 (by decide)) (fun F' bf h => ttext_full h hg.2 t ht l hl (by omega))
      · intro w F bd hR
        have hR' := hR
        obtain ⟨bn, cap, rn, rv, hD⟩ := hR
        exact (rtext_full (s := s) hD t ht l hl.1 hl.2 (by omega)).mono fun e w' ⟨h1, h2⟩ => ⟨h1, Keeps.of_below h2, hR'.after h2⟩
  · refine ⟨0, 0, 6, ⟨s, []⟩, ⟨wf, rfl⟩, ?_, ?_⟩
    · intro w F bx hg hP
      exact mtext_flaw hg hP t (fun F' bf h => ttext_no h hg.2 t ht (fun l hl => hk ⟨l, hl⟩))
    · intro w F bd hR
      have hR' := hR
      obtain ⟨bn, cap, rn, rv, hD⟩ := hR
      cases hc : charsOf t with
      | none => exact (rtext_no hD t ht hc).mono fun e w' ⟨h1, h2⟩ => ⟨h1, Keeps.of_below h2, hR'.after h2⟩
      | some l =>
        have h30 : 30 < l.length := by
          rcases Nat.lt_or_ge 30 l.length with h | h
          · exact h
          · exact absurd ⟨l, hc, h⟩ hk
        exact (rtext_long hD t ht l hc h30).mono fun e w' ⟨h1, h2⟩ => ⟨h1, Keeps.of_below h2, hR'.after h2⟩

end Go.Proofs.YtabogkonklplcaaGreatDoor

/- A node's list of children is written over in place. -/
namespace Go.Proofs.YtabogkonklplcaaGreatDoor
open Go.RowKit
set_option linter.unusedSimpArgs false
set_option linter.unusedVariables false

theorem keeps_setCells {F : Nat → Prop} {a : World} (g : Nat) : ∀ (vs : List Value) (o : Nat) (w : World), Keeps F a w → F g → Keeps F a (w.setCells g o vs)
  | [], _, _, h, _ => h
  | v :: r, o, w, h, hg => keeps_setCells g r (o + 1) _ (h.setCell (p := ⟨g, o, none⟩) (.inl hg) v) hg

theorem heap_setCells (g : Nat) (e : TypeId) : ∀ (vs : List Value) (o : Nat) (w : World) (cur : Array Value), w.heap[g]? = some (.cells cur e (0, 0)) → o + vs.length ≤ cur.size →
    ∃ cur' : Array Value, (w.setCells g o vs).heap[g]? = some (.cells cur' e (0, 0)) ∧ cur'.size = cur.size ∧ cur'.toList = cur.toList.take o ++ vs ++ cur.toList.drop (o + vs.length)
  | [], o, w, cur, h, hs => ⟨cur, h, rfl, by simp⟩
  | v :: r, o, w, cur, h, hs => by
    simp only [List.length_cons] at hs
    obtain ⟨cur', h1, h2, h3⟩ := heap_setCells g e r (o + 1) (w.setCell ⟨g, o, none⟩ v) _ (heap_setCell_same w g o cur e v h) (by simp; omega)
    refine ⟨cur', h1, by simpa using h2, ?_⟩
    rw [h3]
    have ho : o < cur.toList.length := by simp; omega
    simp only [Array.toList_setIfInBounds, List.length_cons]
    rw [List.take_set, List.drop_set_of_lt (by omega), List.take_succ_eq_append_getElem ho, List.set_append_right _ _ (by simp; omega)]
    simp
    have h5 : min o cur.size = o := by omega
    have h6 : o + 1 + r.length = o + (r.length + 1) := by omega
    simp [h5, h6]

/-- The cells of a row of ints: as the library's contracts ask for them. -/
theorem row_ints {w : World} {v : Value} {ks : List Nat} (h : w.ownsRow 0 3 1 v ks.length (intsV ks)) (hk : ks ≠ []) :
    ∃ g cap cur, v = .slice (some ⟨g, 0, none⟩) ks.length cap ∧ w.heap[g]? = some (.cells cur 3 (0, 0)) ∧ ks.length ≤ cap ∧ cap ≤ maxLen ∧ cur.size = cap ∧ cur.toList.take ks.length = intsV ks ∧
      (∀ j, j < (ks.map Int.ofNat).length → w.cell? ⟨g, 0 + j, none⟩ = some (.int .i64 ((ks.map Int.ofNat).getD j 0))) ∧ (∀ j, j < ks.length → w.frozen? ⟨g, 0 + j, none⟩ = false) := by
  obtain ⟨h1, h2⟩ := h
  rcases h2 with ⟨_, h2⟩ | ⟨g, cap, cur, hv, hg, hh, hn, hc, hs, ht⟩
  · exact absurd (List.eq_nil_of_length_eq_zero h2) hk
  · simp only [Nat.mul_one] at ht hs
    refine ⟨g, cap, cur, hv, hh, hn, hc, hs, ht, ?_, fun j hj => frozen_of_heap hh _⟩
    intro j hj
    simp at hj
    rw [cell_of_heap hh]
    have e : cur[0 + j]? = (cur.toList.take ks.length)[j]? := by rw [Nat.zero_add, List.getElem?_take_of_lt hj, Array.getElem?_toList]
    rw [e, ht]
    simp [intsV, hj, List.getD]

section
variable {w : World} {F : Nat → Prop} {bf bn cap : Nat} {pn : List PN} {s : List Nd}

/-- The list's own block is another now, the same slice value over it. -/
theorem PForAt.newRow (h : PForAt w F bf bn cap pn s) {w' : World} {i g : Nat} {r : PN} {x : Nd} (hr : pn[i]? = some r) (hx : s[i]? = some x) (hg : r.kv.ownBlock = some g) (hk : Keeps (fun b => b = g) w w') {ks : List Nat}
    (hrow : w'.ownsRow 0 3 1 r.kv ks.length (intsV ks)) : PForAt w' F bf bn cap pn (s.set i { x with ks := ks }) := by
  have ho := h.ok i r x hr hx
  have ha := ho.apart g hg
  have hi' := (List.getElem?_eq_some_iff.1 hx).1
  refine ⟨?_, hk.row h.nodes (fun b e e2 => by cases e; exact ha.2.2 e2.symm), h.Ff, h.Fn, h.ne, by simpa using h.len, ?_, h.sep⟩
  · rw [hk.block bf (heap_lt h.forest) (fun e => ha.2.1 e.symm)]; exact h.forest
  · intro k r1 x1 h1 h2
    rw [List.getElem?_set] at h2
    by_cases hik : i = k
    · subst hik
      rw [if_pos rfl, if_pos hi'] at h2
      cases h2
      rw [hr] at h1
      cases h1
      exact ⟨ho.t, ho.p, ho.ch, hrow, ho.apart⟩
    · rw [if_neg hik] at h2
      have o := h.ok k r1 x1 h1 h2
      refine o.keeps hk (fun b e e2 => ?_)
      subst e2
      exact h.sep i k r r1 hik hr h1 _ hg e
end
end Go.Proofs.YtabogkonklplcaaGreatDoor

/- The functions that move places; all within a node, collected. -/
namespace Go.Proofs.YtabogkonklplcaaGreatDoor
open Go.RowKit
set_option linter.unusedSimpArgs false
set_option linter.unusedVariables false

theorem shift_any (n o by_ : Int) (w : World) : Calls Tryz.prog 109 #[.int .i64 n, .int .i64 o, .int .i64 by_] w fun e w' => ∃ bs, e = .returned (.func (.func 158) #[] bs) ∧ Below w.heap.size w w' := by
  go_enter Tryz.func109, Tryz.ntmps109
  go_wp2
  go_ret
  exact ⟨_, rfl, by go_grown⟩

theorem gather_any (a : Option Addr) (n c : Nat) (p q : Int) (f : Fn) (x y : Array Value) (w : World) : Calls Tryz.prog 151 #[.slice a n c, .agg #[.int .i64 p, .int .i64 q], .func f x y] w fun e w' => ∃ bs, e = .returned (.func (.func 178) #[] bs) ∧ Below w.heap.size w w' := by
  go_enter Tryz.func151, Tryz.ntmps151
  go_wp2
  go_ret
  exact ⟨_, rfl, by go_grown⟩

/-- The numbers of all within a node, in a list of its own. -/
theorem collect_all {W : World} {F : Nat → Prop} {bf bn cap : Nat} {pn : List PN} {s : List Nd} (wf : WF s) {h : Nat → Nat} {B : Nat} (u : Up s h B) (hD : PForAt W F bf bn cap pn s) (k n : Nat) (hn : n < s.length) (hk : h n < k) :
    Calls Tryz.prog 89 #[.func (.func 138) #[] #[ptr (W.heap.size + 1), ptr W.heap.size]] ((W.alloc (.cells #[ptr bf] 91)).alloc (.cells #[.int .i64 (n : Int)] 3)) fun e w' =>
      ∃ a c, e = .returned (.slice a (allF s k n).length c) ∧ Below W.heap.size W w' ∧ w'.ownsRow 0 3 1 (.slice a (allF s k n).length c) (allF s k n).length (intsV (allF s k n)) ∧ (∀ b, (Value.slice a (allF s k n).length c).ownBlock = some b → W.heap.size ≤ b) := by
  have hl := all_length wf k n hn
  have hN := hD.narrow
  have hlt := hD.lt
  obtain ⟨wb, hwb⟩ : ∃ wb, (W.alloc (.cells #[ptr bf] 91)).alloc (.cells #[.int .i64 (n : Int)] 3) = wb := ⟨_, rfl⟩
  have hszb : wb.heap.size = W.heap.size + 2 := by rw [← hwb]; simp
  have hbb : Below W.heap.size W wb := by rw [← hwb]; exact ((Below.refl _ W).alloc (Nat.le_refl _) _).alloc (by simp) _
  have x1 : wb.heap[W.heap.size + 1]? = some (.cells #[.int .i64 (n : Int)] 3 (0, 0)) := by
    have := heap_alloc_new (W.alloc (.cells #[ptr bf] 91)) (.cells #[.int .i64 (n : Int)] 3)
    rw [hwb, World.size_alloc] at this
    exact this
  have x0 : wb.heap[W.heap.size]? = some (.cells #[ptr bf] 91 (0, 0)) := by
    rw [← hwb, Below.heap_alloc _ _ _ (by simp)]
    exact heap_alloc_new W _
  rw [hwb]
  refine (collect_any (gf := 138) (lb := #[ptr (W.heap.size + 1), ptr W.heap.size]) (enters_of Tryz.func138 (by kernel_rfl) rfl) (xs := allF s k n) (by unfold lots; omega) (w := wb)
    (fun w1 O hb hO => all1_ok wf u k n hn hk w1 O _ _ ((hN.below hbb).below hb) (fun b hbF => ⟨by have := hbF.2; have := hb.size; omega, fun e => by have := hO b e; have := hbF.2; omega⟩)
      ((hb.cell (p := ⟨W.heap.size + 1, 0, none⟩) (heap_lt x1)).trans (cell_of_heap x1 0)) ((hb.cell (p := ⟨W.heap.size, 0, none⟩) (heap_lt x0)).trans (cell_of_heap x0 0)) (fun e => by have := hO _ e; omega) (fun e => by have := hO _ e; omega))).mono ?_
  rintro e w' ⟨a, c, rfl, hr, hb, hg⟩
  exact ⟨a, c, rfl, hbb.trans (hb.mono (by omega)), hr, fun g e => by have := hg g e; omega⟩

end Go.Proofs.YtabogkonklplcaaGreatDoor

/- The functions that move places, called. -/
namespace Go.Proofs.YtabogkonklplcaaGreatDoor
open Go.RowKit Go.Lib
set_option linter.unusedSimpArgs false
set_option linter.unusedVariables false

abbrev ptwo (w : World) (a0 a1 b0 b1 : Int) : World := (w.alloc (.cells #[.int .i64 a0, .int .i64 a1] 37)).alloc (.cells #[.int .i64 b0, .int .i64 b1] 37)
theorem ptwo_below (w : World) (a0 a1 b0 b1 : Int) : Below w.heap.size w (ptwo w a0 a1 b0 b1) := ((Below.refl _ w).alloc (Nat.le_refl _) _).alloc (by simp) _
theorem ptwo_cells {w w1 : World} {a0 a1 b0 b1 : Int} (hb : Below (ptwo w a0 a1 b0 b1).heap.size (ptwo w a0 a1 b0 b1) w1) :
    w1.heap[w.heap.size]? = some (.cells #[.int .i64 a0, .int .i64 a1] 37 (0, 0)) ∧ w1.heap[w.heap.size + 1]? = some (.cells #[.int .i64 b0, .int .i64 b1] 37 (0, 0)) := by
  constructor
  · rw [hb.block _ (by simp; omega), Below.heap_alloc _ _ _ (by simp), heap_alloc_new]
  · rw [hb.block _ (by simp)]
    have := heap_alloc_new (w.alloc (.cells #[.int .i64 a0, .int .i64 a1] 37)) (.cells #[.int .i64 b0, .int .i64 b1] 37)
    simpa using this

/-- A function that moves places so, in whatever world has what it leans on (blocks from m on). -/
structure MoveOk (m : Nat) (w : World) (mv : Value) (f : Mvf) : Prop where
  runs : ∃ (gf : Nat) (lb : Array Value), mv = .func (.func gf) #[] lb ∧ (∀ args w, (callFunc gf args).run Tryz.prog w = .ok (.enter gf args) w) ∧
    ∀ (G : Nat → Prop) (W : World), Keeps G w W → (∀ b, m ≤ b → ¬ G b) → ∀ a b : Int, 0 ≤ b → b ≤ 100 →
      Calls Tryz.prog gf (#[.agg #[.int .i64 a, .int .i64 b]] ++ lb) W fun e w' => e = .returned (.agg #[.int .i64 (f a b).1, .int .i64 (f a b).2]) ∧ Below W.heap.size W w'

set_option maxRecDepth 20000 in
set_option maxHeartbeats 1000000 in
theorem shift1 (n o d a b : Int) (x y z : Nat) (W : World) (h0 : W.cell? ⟨x, 0, none⟩ = some (.int .i64 n)) (h1 : W.cell? ⟨y, 0, none⟩ = some (.int .i64 o)) (h2 : W.cell? ⟨z, 0, none⟩ = some (.int .i64 d)) (hb0 : 0 ≤ b) (hb : b ≤ 100) (hd0 : -100 ≤ d) (hd : d ≤ 100) :
    Calls Tryz.prog 158 #[.agg #[.int .i64 a, .int .i64 b], ptr x, ptr y, ptr z] W fun e w' => e = .returned (.agg #[.int .i64 (shiftF n o d a b).1, .int .i64 (shiftF n o d a b).2]) ∧ Below W.heap.size W w' := by
  have l0 := World.block_lt_of_cell? W _ h0
  have l1 := World.block_lt_of_cell? W _ h1
  have l2 := World.block_lt_of_cell? W _ h2
  by_cases ha : a = n
  · subst ha
    by_cases ho : o < b
    · have e1 : shiftF a o d a b = (a, b + d) := by simp [shiftF, ho]
      rw [e1]
      have d2 : decide (o < b) = true := decide_eq_true ho
      go_enter Tryz.func158, Tryz.ntmps158
      go_wp2
      refine bodyPost_ret (v := .agg #[.int .i64 a, .int .i64 (b + d)]) (by simp [results, Tryz.results158, go_sem]) rfl ?_
      exact ⟨rfl, by go_grown⟩
    · have e1 : shiftF a o d a b = (a, b) := by simp [shiftF, ho]
      rw [e1]
      have d2 : decide (o < b) = false := decide_eq_false ho
      go_enter Tryz.func158, Tryz.ntmps158
      go_wp2
      refine bodyPost_ret (v := .agg #[.int .i64 a, .int .i64 b]) (by simp [results, Tryz.results158, go_sem]) rfl ?_
      exact ⟨rfl, by go_grown⟩
  · have e1 : shiftF n o d a b = (a, b) := by simp [shiftF, ha]
    rw [e1]
    have d1 : (a == n) = false := by simpa using ha
    go_enter Tryz.func158, Tryz.ntmps158
    go_wp2
    refine bodyPost_ret (v := .agg #[.int .i64 a, .int .i64 b]) (by simp [results, Tryz.results158, go_sem]) rfl ?_
    exact ⟨rfl, by go_grown⟩

end Go.Proofs.YtabogkonklplcaaGreatDoor

/- Plain mathematics: the way down to a node by indexes, and the order of places by such ways with the offset behind them (a shorter way first). -/
namespace Go.Proofs.YtabogkonklplcaaGreatDoor
set_option linter.unusedSimpArgs false
set_option linter.unusedVariables false

/-- Which comes first: -1, 1, or 0. -/
def lexC : List Nat → List Nat → Int
  | [], [] => 0
  | [], _ :: _ => -1
  | _ :: _, [] => 1
  | a :: l, b :: m => if a < b then -1 else if b < a then 1 else lexC l m

/-- The way down by indexes. -/
inductive Way (s : List Nd) (t : Nat) : Nat → List Nat → Prop
  | top : Way s t t []
  | down {q c i : Nat} {l : List Nat} {y : Nd} : Way s t q l → s[q]? = some y → y.ks[i]? = some c → Way s t c (l ++ [i])

def pw (l : List Nat) (k : Nat) : List Nat := l.map (fun i => 2 * i + 1) ++ [2 * k]

theorem lexN_nil {l : List Nat} (h : lexN l []) : False := by cases h
theorem lexN_cons {a b : Nat} {l m : List Nat} (h : lexN (a :: l) (b :: m)) : a < b ∨ a = b ∧ lexN l m := by
  cases h with
  | rel h => exact .inl h
  | cons h => exact .inr ⟨rfl, h⟩

theorem pw_nil (k : Nat) : pw [] k = [2 * k] := rfl
theorem pw_cons (a : Nat) (l : List Nat) (k : Nat) : pw (a :: l) k = (2 * a + 1) :: pw l k := rfl

theorem lexC_lt : ∀ (l1 l2 : List Nat) (k1 k2 : Nat), lexN (pw l1 k1) (pw l2 k2) → lexC (l1 ++ [k1]) (l2 ++ [k2]) = -1 := by
  intro l1
  induction l1 with
  | nil =>
    intro l2 k1 k2 h
    cases l2 with
    | nil =>
      simp only [pw_nil, pw_cons] at h
      rcases lexN_cons h with h | ⟨_, h⟩
      · simp only [List.nil_append, lexC]; rw [if_pos (by omega)]
      · exact absurd h (fun h => lexN_nil h)
    | cons b m =>
      simp only [pw_nil, pw_cons] at h
      rcases lexN_cons h with h | ⟨h, _⟩
      · simp only [List.nil_append, List.cons_append, lexC]
        by_cases hb : k1 < b
        · rw [if_pos hb]
        · rw [if_neg hb, if_neg (by omega)]
          cases m <;> rfl
      · omega
  | cons a l ih =>
    intro l2 k1 k2 h
    cases l2 with
    | nil =>
      simp only [pw_nil, pw_cons] at h
      rcases lexN_cons h with h | ⟨h, _⟩
      · simp only [List.nil_append, List.cons_append, lexC]; rw [if_pos (by omega)]
      · omega
    | cons b m =>
      simp only [pw_nil, pw_cons] at h
      rcases lexN_cons h with h | ⟨h, h'⟩
      · simp only [List.cons_append, lexC]; rw [if_pos (by omega)]
      · simp only [List.cons_append, lexC]; rw [if_neg (by omega), if_neg (by omega)]; exact ih m k1 k2 h'

theorem lexC_neg : ∀ (l m : List Nat), lexC l m = - lexC m l := by
  intro l
  induction l with
  | nil => intro m; cases m <;> rfl
  | cons a l ih =>
    intro m
    cases m with
    | nil => rfl
    | cons b m =>
      simp only [lexC]
      by_cases h1 : a < b
      · rw [if_pos h1, if_neg (by omega), if_pos h1]
      · by_cases h2 : b < a
        · rw [if_neg h1, if_pos h2, if_pos h2]; rfl
        · rw [if_neg h1, if_neg h2, if_neg h2, if_neg h1]; exact ih m

theorem lexC_self (l : List Nat) : lexC l l = 0 := by
  induction l with
  | nil => rfl
  | cons a l ih => simp [lexC, ih]

theorem pw_inj {l1 l2 : List Nat} {k1 k2 : Nat} (h : pw l1 k1 = pw l2 k2) : l1 ++ [k1] = l2 ++ [k2] := by
  unfold pw at h
  have h1 := List.append_inj_left' h rfl
  have h2 := List.append_inj_right' h rfl
  have h3 : l1 = l2 := by
    refine (List.map_inj_right ?_).1 h1
    intro a b e
    omega
  have h4 : k1 = k2 := by simp at h2; omega
  rw [h3, h4]

theorem way_len {s : List Nd} {h : Nat → Nat} {B : Nat} (wf : WF s) (u : Up s h B) {t n : Nat} {l : List Nat} (w : Way s t n l) : h n + l.length ≤ h t := by
  induction w with
  | top => simp
  | down w hq hi ih =>
    have := (wf.kid_lt u hq (List.mem_of_getElem? hi)).2
    rw [List.length_append]
    simp
    omega

theorem way_pp {s : List Nd} (wf : WF s) {t n : Nat} {l : List Nat} (w : Way s t n l) : ∀ (K : Nat) (e : PP), e ∈ ppF s K n → (e.1, l.map (fun i => 2 * i + 1) ++ e.2) ∈ ppF s (K + l.length) t := by
  induction w with
  | top => intro K e h; simpa using h
  | @down q c i l y w hq hi ih =>
    intro K e h
    have hk : kidsOf s q = y.ks := kidsOf_eq hq
    have hl : i < y.ks.length := (List.getElem?_eq_some_iff.1 hi).1
    have hsz : i ≤ sizeAt s q := by
      rw [sizeAt_eq hq]
      cases ht : y.t with
      | true => have := (wf.elem q y hq).1 ht; rw [this] at hl; simp at hl
      | false => rw [sizeN_elem ht]; omega
    have h1 := ih (K + 1) _ (pp_down (k := K) (n := q) (j := i) (c := c) (by rw [hk]; exact hi) hsz h)
    have e1 : K + 1 + l.length = K + (l ++ [i]).length := by simp; omega
    rw [e1] at h1
    simpa using h1

/-- What Compare tells is the order of the ways. -/
theorem cmp_ways {s : List Nd} (wf : WF s) {h : Nat → Nat} {B : Nat} (u : Up s h B) {t n k n2 k2 : Nat} {l l2 : List Nat} (wa : Way s t n l) (wb : Way s t n2 l2) (hk : k ≤ sizeAt s n) (hk2 : k2 ≤ sizeAt s n2) {qa qb : Int} (ha : IsWhere (plF s (B + 1) t) (n, k) qa) (hb : IsWhere (plF s (B + 1) t) (n2, k2) qb) :
    lexC (l ++ [k]) (l2 ++ [k2]) = if qa < qb then -1 else if qb < qa then 1 else 0 := by
  have key : ∀ {n k : Nat} {l : List Nat}, Way s t n l → k ≤ sizeAt s n → ((n, k), pw l k) ∈ ppF s (B + 1) t := by
    intro n k l wy hk
    have h1 := way_len wf u wy
    have h2 := u.le t
    have h3 := way_pp wf wy (B - l.length + 1) _ (pp_here (k := B - l.length) hk)
    have e : B - l.length + 1 + l.length = B + 1 := by omega
    rw [e] at h3
    exact h3
  obtain ⟨o1, o2, o3⟩ := pp_order wf (key wa hk) (key wb hk2) ha hb
  by_cases h1 : qa < qb
  · rw [if_pos h1]; exact lexC_lt _ _ _ _ (o1 h1)
  · by_cases h2 : qb < qa
    · rw [if_neg h1, if_pos h2, lexC_neg, lexC_lt _ _ _ _ (o2 h2)]; rfl
    · rw [if_neg h1, if_neg h2, pw_inj (o3 (by omega)).1, lexC_self]

end Go.Proofs.YtabogkonklplcaaGreatDoor
