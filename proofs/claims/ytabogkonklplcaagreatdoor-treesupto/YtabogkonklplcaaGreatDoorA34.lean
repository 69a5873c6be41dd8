import Derived.Test.YtabogkonklplcaaGreatDoorA33
import Derived.WalkSmall
import Derived.LoopTactic
import Derived.Laws.RangeString
import Derived.Laws.RangeAny
import Derived.Test.YtabogkonklplcaaGreatDoorA11

/- A text that is put together of characters, 2: the place of each one; its characters again. -/
namespace Go.Proofs.YtabogkonklplcaaGreatDoor
open Go.RowKit Go.Lib
set_option linter.unusedSimpArgs false
set_option linter.unusedVariables false

theorem catB_append (a b : List ByteArray) : catB (a ++ b) = catB a ++ catB b := by
  induction a with
  | nil => show catB b = ByteArray.empty ++ catB b; simp
  | cons c a ih => rw [List.cons_append, catB_cons, catB_cons, ih, ByteArray.append_assoc]

theorem rune_le (t : ByteArray) (p : Nat) : (Utf8.decode t p).1 ≤ 2147483647 := by
  rw [Lib.decode_at]
  have h0 := byteN_lt t p
  unfold byteN at h0
  generalize (t.get! p).toNat = b0 at h0 ⊢
  unfold Lib.decodeN
  repeat' split
  all_goals simp
  all_goals omega

/-- At the place of one character of a text. -/
theorem decode_place (l : List ByteArray) (c : ByteArray) (r : List ByteArray) (h : IsCh c) :
    ∃ R : Nat, Utf8.decode (catB (l ++ c :: r)) (catB l).size = (R, c.size) ∧ Lib.runeCells (R : Int) = Lib.strCells c ∧ R ≤ 2147483647 ∧ (catB l).size < (catB (l ++ c :: r)).size ∧ (catB (l ++ [c])).size = (catB l).size + c.size := by
  have h0 := h.1
  have e1 : catB (l ++ c :: r) = catB l ++ (c ++ catB r) := by rw [catB_append, catB_cons]
  have hs : (catB (l ++ c :: r)).size = (catB l).size + (c.size + (catB r).size) := by rw [e1, ByteArray.size_append, ByteArray.size_append]
  have hd := decodeGo_tail (catB (l ++ c :: r)) (catB l).size (by omega)
  have e2 : (catB (l ++ c :: r)).extract (catB l).size (catB (l ++ c :: r)).size = c ++ catB r := by rw [e1]; exact extract_app _ _
  rw [e2] at hd
  have e3 : Lib.decodeGo (c ++ catB r) = Utf8.decode (c ++ catB r) 0 := by
    unfold Lib.decodeGo
    rw [if_neg (by rw [ByteArray.size_append]; omega)]
  rw [e3] at hd
  obtain ⟨k1, k2⟩ := decode_head c (catB r) h
  refine ⟨(Utf8.decode (c ++ catB r) 0).1, ?_, k2, rune_le _ _, by omega, ?_⟩
  · rw [← hd, ← k1]
  · rw [catB_append, ByteArray.size_append, catB_cons]
    show _ + (c ++ ByteArray.empty).size = _
    simp

theorem charsOf_app {c : ByteArray} (h : IsCh c) (r : ByteArray) : charsOf (c ++ r) = (charsOf r).map (c :: ·) := by
  have h0 := h.1
  have hw := headW_app h r
  rw [charsOf_step, if_neg (by rw [ByteArray.size_append]; omega), if_neg (by omega), hw, extract_app]
  have e : (c ++ r).extract 0 c.size = c := by
    rw [ByteArray.extract_append]
    simp
  rw [e]
theorem charsOf_of (l : List ByteArray) (h : ∀ c ∈ l, IsCh c) : charsOf (catB l) = some l := by
  induction l with
  | nil => rfl
  | cons c l ih => rw [catB_cons, charsOf_app (h c (by simp)), ih (fun d hd => h d (by simp [hd]))]; rfl
/-- One more character is gone by. -/
theorem cat_next (l : List ByteArray) (h : ∀ c ∈ l, IsCh c) (k : Nat) (hk : k < l.length) :
    ∃ R K : Nat, Utf8.decode (catB l) (catB (l.take k)).size = (R, K) ∧ R ≤ 2147483647 ∧ (catB (l.take k)).size < (catB l).size ∧ (catB (l.take (k + 1))).size = (catB (l.take k)).size + K ∧ (catB (l.take (k + 1))).size ≤ (catB l).size ∧ 0 < K := by
  have e : l = l.take k ++ l[k] :: l.drop (k + 1) := by rw [List.getElem_cons_drop, List.take_append_drop]
  have hc : IsCh l[k] := h _ (List.getElem_mem hk)
  obtain ⟨R, h1, _, h3, h4, h5⟩ := decode_place (l.take k) l[k] (l.drop (k + 1)) hc
  rw [← e] at h1 h4
  have e2 : l.take (k + 1) = l.take k ++ [l[k]] := by rw [List.take_succ_eq_append_getElem hk]
  refine ⟨R, l[k].size, h1, h3, h4, by rw [e2]; exact h5, ?_, Nat.pos_of_ne_zero hc.1⟩
  have e3 : catB l = catB (l.take (k + 1)) ++ catB (l.drop (k + 1)) := by rw [← catB_append, List.take_append_drop]
  rw [e3, ByteArray.size_append]; omega
theorem cat_le (l : List ByteArray) (k : Nat) : (catB (l.take k)).size ≤ (catB l).size := by
  have e3 : catB l = catB (l.take k) ++ catB (l.drop k) := by rw [← catB_append, List.take_append_drop]
  rw [e3, ByteArray.size_append]; omega
theorem cat_split (l : List ByteArray) (k : Nat) : (catB l).extract 0 (catB (l.take k)).size = catB (l.take k) ∧ (catB l).extract (catB (l.take k)).size (catB l).size = catB (l.drop k) := by
  have e3 : catB l = catB (l.take k) ++ catB (l.drop k) := by rw [← catB_append, List.take_append_drop]
  constructor
  · rw [e3, ByteArray.extract_append]; simp
  · conv => lhs; rw [e3]
    exact extract_app _ _
theorem isCh_le {c : ByteArray} (h : IsCh c) : c.size ≤ 4 := h.2 ▸ headW_le4 c
theorem cat_size (l : List ByteArray) (h : ∀ c ∈ l, IsCh c) : (catB l).size ≤ 4 * l.length := by
  induction l with
  | nil => show (0 : Nat) ≤ _; omega
  | cons c l ih =>
    have := ih (fun d hd => h d (by simp [hd]))
    have h2 := isCh_le (h c (by simp))
    rw [catB_cons, ByteArray.size_append, List.length_cons]; omega

end Go.Proofs.YtabogkonklplcaaGreatDoor

/- tree.writeQuoted. -/
namespace Go.Proofs.YtabogkonklplcaaGreatDoor
open Go.RowKit
set_option linter.unusedSimpArgs false
set_option linter.unusedVariables false

theorem strCells_append (a b : ByteArray) : Lib.strCells (a ++ b) = Lib.strCells a ++ Lib.strCells b := by
  simp [Lib.strCells, ByteArray.data_append]
theorem strCells_one (b : UInt8) : Lib.strCells ⟨#[b]⟩ = [.int .u8 b.toNat] := rfl

theorem enc_39 {r : Int} (h : Lib.runeCells r = [.int .u8 39]) : r = 39 := by
  unfold Lib.runeCells Lib.encodeRuneZ at h
  split at h
  · simpa using h
  · (repeat' split at h) <;> simp at h
theorem enc_92 {r : Int} (h : Lib.runeCells r = [.int .u8 92]) : r = 92 := by
  unfold Lib.runeCells Lib.encodeRuneZ at h
  split at h
  · simpa using h
  · (repeat' split at h) <;> simp at h
theorem strCells_39 {c : ByteArray} (h : Lib.strCells c = [.int .u8 39]) : c.data.toList = [39] := by
  unfold Lib.strCells at h
  rw [List.map_eq_singleton_iff] at h
  obtain ⟨a, h1, h2⟩ := h
  rw [h1]
  simp at h2
  have : a.toNat = 39 := by omega
  rw [show a = 39 from UInt8.toNat_inj.1 this]
theorem strCells_92 {c : ByteArray} (h : Lib.strCells c = [.int .u8 92]) : c.data.toList = [92] := by
  unfold Lib.strCells at h
  rw [List.map_eq_singleton_iff] at h
  obtain ⟨a, h1, h2⟩ := h
  rw [h1]
  simp at h2
  have : a.toNat = 92 := by omega
  rw [show a = 92 from UInt8.toNat_inj.1 this]

theorem rune_q {c : ByteArray} {R : Nat} (h : Lib.runeCells (R : Int) = Lib.strCells c) : isQ c = (decide (R = 39) || decide (R = 92)) := by
  unfold isQ
  rw [Lib.toList_data]
  by_cases h1 : R = 39
  · subst h1
    have e : Lib.runeCells ((39 : Nat) : Int) = [.int .u8 39] := by unfold Lib.runeCells; rw [Lib.encodeRuneZ_one (by decide) (by decide)]; rfl
    rw [e] at h
    rw [strCells_39 h.symm]
    decide
  · by_cases h2 : R = 92
    · subst h2
      have e : Lib.runeCells ((92 : Nat) : Int) = [.int .u8 92] := by unfold Lib.runeCells; rw [Lib.encodeRuneZ_one (by decide) (by decide)]; rfl
      rw [e] at h
      rw [strCells_92 h.symm]
      decide
    · have n1 : (c.data.toList == [39]) = false := by
        rw [beq_eq_false_iff_ne]
        intro e
        have : Lib.strCells c = [.int .u8 39] := by unfold Lib.strCells; rw [e]; rfl
        rw [this] at h
        have := enc_39 h
        omega
      have n2 : (c.data.toList == [92]) = false := by
        rw [beq_eq_false_iff_ne]
        intro e
        have : Lib.strCells c = [.int .u8 92] := by unfold Lib.strCells; rw [e]; rfl
        rw [this] at h
        have := enc_92 h
        omega
      rw [n1, n2]
      simp [h1, h2]

end Go.Proofs.YtabogkonklplcaaGreatDoor
