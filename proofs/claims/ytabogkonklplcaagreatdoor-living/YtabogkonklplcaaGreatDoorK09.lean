import Derived.Test.YtabogkonklplcaaGreatDoorK07
import Derived.Test.YtabogkonklplcaaGreatDoorK08
import Derived.Lib.MapLaws
import Derived.Lib.UnsafeStr
import Derived.Lib.RuneBytes
import Derived.Lib.AppendStr
import Derived.Shelf.Spec.BytesIndexFunc
import Derived.WalkSmall
import Derived.LoopTactic
import Derived.Laws.RangeString
import Derived.Laws.RangeAny
import Derived.Shelf.Strings.Builder1
import Derived.Shelf.Strings.Builder2
import Derived.Shelf.Strings.OnBuilder
import Derived.Shelf.Small.Wraps
import Derived.Shelf.Strings.BuilderF
import Derived.Shelf.Strings.BuilderK
import Derived.Shelf.Strings.BuilderRune
import Derived.Shelf.Utf8.AppendRune
import Derived.Shelf.Utf8.AppendRunePlain
import Derived.Shelf.Strings.Builder2Cap
import Derived.Shelf.Strconv.Itoa0
import Derived.Shelf.Strconv.Itoa1
import Derived.Shelf.LaysM
import Derived.Shelf.Strconv.Itoa2
import Derived.Shelf.Strconv.Itoa3
import Derived.Shelf.Strconv.Clone
import Derived.Shelf.Unicode.DecodeSlow
import Derived.Shelf.Unicode.DecodeAny
import Derived.Shelf.Strings.BuilderCap
import Derived.Shelf.Slices.Turned
import Derived.Shelf.Slices.Reverse
import Derived.Ground.Names2Prog
import Derived.Shelf.Slices.SearchI
import Derived.Shelf.Slices.Delete
import Derived.Shelf.Slices.Cells
import Derived.Shelf.Slices.Empties
import Derived.Test.YtabogkonklplcaaGreatDoorProg
import Derived.Test.YtabogkonklplcaaGreatDoorK03
import Derived.RangeFuncNested
import Derived.RangeFuncBound
import Derived.RangeFuncCalls
import Derived.RangeFuncLeaves
import Derived.ControlIn

namespace Go.Proofs.YtabogkonklplcaaGreatDoor
open Go.RowKit
set_option linter.unusedSimpArgs false
set_option linter.unusedVariables false
def byteN (t : ByteArray) (i : Nat) : Nat := (t.get! i).toNat
theorem byteN_lt (t : ByteArray) (i : Nat) : byteN t i < 256 := (t.get! i).toNat_lt
theorem byteI_nat (t : ByteArray) (i : Nat) (h : i < t.size) : byteI t i = (byteN t i : Int) := by
  have e : t.get! i = t[i]'h := by
    cases t with
    | mk d => exact getElem!_pos d i h
  unfold byteI byteN
  rw [dif_pos h, e]
theorem byteI_extract (t : ByteArray) (p q i : Nat) (h : p + i < q) (hq : q ≤ t.size) : byteI (t.extract p q) i = byteI t (p + i) := by
  unfold byteI
  rw [dif_pos (by rw [ByteArray.size_extract]; omega), dif_pos (by omega)]
  rw [ByteArray.getElem_extract]
theorem headW_1 (t : ByteArray) (lo hi : Int) (hm : moreF (byteI t 0) = (1, lo, hi)) : headW t = if 2 ≤ t.size ∧ lo ≤ byteI t 1 ∧ byteI t 1 ≤ hi then 2 else 0 := by
  unfold headW
  simp only [hm]
  have e : (1 : Int).toNat = 1 := rfl
  simp only [e, okTail, Bool.true_and, decide_eq_true_eq, if_true, Nat.zero_add]
  repeat' split
  all_goals first | rfl | (exfalso; omega)
theorem headW_2 (t : ByteArray) (lo hi : Int) (hm : moreF (byteI t 0) = (2, lo, hi)) : headW t = if 3 ≤ t.size ∧ (lo ≤ byteI t 1 ∧ byteI t 1 ≤ hi) ∧ (128 ≤ byteI t 2 ∧ byteI t 2 ≤ 191) then 3 else 0 := by
  unfold headW
  simp only [hm]
  have e : (2 : Int).toNat = 2 := rfl
  simp only [e, okTail, Bool.true_and, Bool.and_eq_true, decide_eq_true_eq, if_true, Nat.zero_add, Nat.reduceAdd, Nat.succ_ne_zero, if_false]
  repeat' split
  all_goals first | rfl | (exfalso; omega)
theorem headW_3 (t : ByteArray) (lo hi : Int) (hm : moreF (byteI t 0) = (3, lo, hi)) : headW t = if 4 ≤ t.size ∧ (lo ≤ byteI t 1 ∧ byteI t 1 ≤ hi) ∧ (128 ≤ byteI t 2 ∧ byteI t 2 ≤ 191) ∧ (128 ≤ byteI t 3 ∧ byteI t 3 ≤ 191) then 4 else 0 := by
  unfold headW
  simp only [hm]
  have e : (3 : Int).toNat = 3 := rfl
  simp only [e, okTail, Bool.true_and, Bool.and_eq_true, decide_eq_true_eq, if_true, Nat.zero_add, Nat.reduceAdd, Nat.succ_ne_zero, if_false]
  repeat' split
  all_goals first | rfl | (exfalso; omega)
set_option maxHeartbeats 2000000 in
theorem headW_eq (t : ByteArray) (h : 0 < t.size) (b0 b1 b2 b3 : Nat) (e0 : byteI t 0 = b0) (e1 : 1 < t.size → byteI t 1 = b1) (e2 : 2 < t.size → byteI t 2 = b2) (e3 : 3 < t.size → byteI t 3 = b3) :
    headW t = headN t.size b0 b1 b2 b3 := by
  unfold headN
  have mo : ∀ x, moreF (b0 : Int) = x → moreF (byteI t 0) = x := fun x hx => by rw [e0]; exact hx
  by_cases a : b0 < 128
  · rw [if_pos a]
    have hm := mo (0, 0, 0) (by unfold moreF; rw [if_pos (by omega)])
    unfold headW
    simp only [hm]
    rw [if_neg (by omega)]
    rfl
  rw [if_neg a]
  by_cases c1 : 194 ≤ b0 ∧ b0 ≤ 223
  · rw [if_pos c1, headW_1 t 128 191 (mo _ (by unfold moreF; (repeat' split) <;> first | rfl | (exfalso; omega)))]
    repeat' split
    all_goals first | rfl | (exfalso; omega)
  rw [if_neg c1]
  by_cases c2 : b0 = 224
  · rw [if_pos c2, headW_2 t 160 191 (mo _ (by unfold moreF; (repeat' split) <;> first | rfl | (exfalso; omega)))]
    repeat' split
    all_goals first | rfl | (exfalso; omega)
  rw [if_neg c2]
  by_cases c3 : b0 = 237
  · rw [if_pos c3, headW_2 t 128 159 (mo _ (by unfold moreF; (repeat' split) <;> first | rfl | (exfalso; omega)))]
    repeat' split
    all_goals first | rfl | (exfalso; omega)
  rw [if_neg c3]
  by_cases c4 : 225 ≤ b0 ∧ b0 ≤ 239
  · rw [if_pos c4, headW_2 t 128 191 (mo _ (by unfold moreF; (repeat' split) <;> first | rfl | (exfalso; omega)))]
    repeat' split
    all_goals first | rfl | (exfalso; omega)
  rw [if_neg c4]
  by_cases c5 : b0 = 240
  · rw [if_pos c5, headW_3 t 144 191 (mo _ (by unfold moreF; (repeat' split) <;> first | rfl | (exfalso; omega)))]
    repeat' split
    all_goals first | rfl | (exfalso; omega)
  rw [if_neg c5]
  by_cases c6 : 241 ≤ b0 ∧ b0 ≤ 243
  · rw [if_pos c6, headW_3 t 128 191 (mo _ (by unfold moreF; (repeat' split) <;> first | rfl | (exfalso; omega)))]
    repeat' split
    all_goals first | rfl | (exfalso; omega)
  rw [if_neg c6]
  by_cases c7 : b0 = 244
  · rw [if_pos c7, headW_3 t 128 143 (mo _ (by unfold moreF; (repeat' split) <;> first | rfl | (exfalso; omega)))]
    repeat' split
    all_goals first | rfl | (exfalso; omega)
  rw [if_neg c7]
  have hm := mo (-1, 0, 0) (by unfold moreF; (repeat' split) <;> first | rfl | (exfalso; omega))
  unfold headW
  simp only [hm]
  rw [if_pos (by omega)]
theorem headW_at (t : ByteArray) (p : Nat) (h : p < t.size) :
    (headW (t.extract p t.size) = 0 ∧ Utf8.decode t p = (65533, 1)) ∨ (headW (t.extract p t.size) ≠ 0 ∧ (Utf8.decode t p).2 = headW (t.extract p t.size) ∧ Utf8.decode t p ≠ (65533, 1)) := by
  have hs : (t.extract p t.size).size = t.size - p := by rw [ByteArray.size_extract]; omega
  have e : headW (t.extract p t.size) = headN (t.size - p) (byteN t p) (byteN t (p + 1)) (byteN t (p + 2)) (byteN t (p + 3)) := by
    rw [← hs]
    refine headW_eq _ (by omega) _ _ _ _ ?_ ?_ ?_ ?_
    · rw [byteI_extract t p t.size 0 (by omega) (Nat.le_refl _)]; exact byteI_nat t p h
    · intro h1; rw [byteI_extract t p t.size 1 (by omega) (Nat.le_refl _)]; exact byteI_nat t _ (by omega)
    · intro h1; rw [byteI_extract t p t.size 2 (by omega) (Nat.le_refl _)]; exact byteI_nat t _ (by omega)
    · intro h1; rw [byteI_extract t p t.size 3 (by omega) (Nat.le_refl _)]; exact byteI_nat t _ (by omega)
  rw [e, Lib.decode_at]
  exact headN_decodeN _ _ _ _ _ (byteN_lt _ _) (byteN_lt _ _) (byteN_lt _ _) (byteN_lt _ _)
end Go.Proofs.YtabogkonklplcaaGreatDoor

namespace Go.Proofs.YtabogkonklplcaaGreatDoor
open Go.RowKit
set_option linter.unusedSimpArgs false
set_option linter.unusedVariables false
theorem charsAt_end (t : ByteArray) (p : Nat) (h : t.size ≤ p) : charsOf (t.extract p t.size) = some [] := by
  rw [charsOf_step, if_pos (by rw [ByteArray.size_extract]; omega)]
theorem charsAt_bad (t : ByteArray) (p : Nat) (h : p < t.size) (hd : Utf8.decode t p = (65533, 1)) : charsOf (t.extract p t.size) = none := by
  rcases headW_at t p h with ⟨h0, _⟩ | ⟨_, _, h2⟩
  · rw [charsOf_step, if_neg (by rw [ByteArray.size_extract]; omega), if_pos h0]
  · exact absurd hd h2
theorem width_le (t : ByteArray) (p : Nat) (h : p < t.size) (hd : Utf8.decode t p ≠ (65533, 1)) : 0 < (Utf8.decode t p).2 ∧ p + (Utf8.decode t p).2 ≤ t.size := by
  rcases headW_at t p h with ⟨_, h0⟩ | ⟨h1, h2, _⟩
  · exact absurd h0 hd
  · have := headW_le (t.extract p t.size)
    rw [ByteArray.size_extract] at this
    rw [h2]
    omega
theorem charsAt_good (t : ByteArray) (p : Nat) (h : p < t.size) (hd : Utf8.decode t p ≠ (65533, 1)) :
    charsOf (t.extract p t.size) = (charsOf (t.extract (p + (Utf8.decode t p).2) t.size)).map (t.extract p (p + (Utf8.decode t p).2) :: ·) := by
  have hw := width_le t p h hd
  rcases headW_at t p h with ⟨_, h0⟩ | ⟨h1, h2, _⟩
  · exact absurd h0 hd
  · rw [charsOf_step, if_neg (by rw [ByteArray.size_extract]; omega), if_neg h1, ← h2]
    rw [ByteArray.size_extract, ByteArray.extract_extract, ByteArray.extract_extract]
    have e1 : min (p + (min t.size t.size - p)) t.size = t.size := by omega
    have e2 : min (p + (Utf8.decode t p).2) t.size = p + (Utf8.decode t p).2 := by omega
    rw [e1, e2]
    rfl
theorem if_cut {n m k : Nat} {q : Prop} {d : Decidable (m ≤ n ∧ q)} {d' : Decidable (m ≤ (if m ≤ n ∧ q then k else 0) ∧ q)} (hk : m ≤ k) (h : (if m ≤ n ∧ q then k else 0) ≠ 0) :
    (if m ≤ (if m ≤ n ∧ q then k else 0) ∧ q then k else 0) = if m ≤ n ∧ q then k else 0 := by
  by_cases c : m ≤ n ∧ q
  · have e : (if m ≤ n ∧ q then k else 0) = k := if_pos c
    exact (if_pos ⟨by rw [e]; exact hk, c.2⟩).trans e.symm
  · rw [if_neg c] at h; exact absurd rfl h
theorem headN_cut {n b0 b1 b2 b3 : Nat} (h : headN n b0 b1 b2 b3 ≠ 0) : headN (headN n b0 b1 b2 b3) b0 b1 b2 b3 = headN n b0 b1 b2 b3 := by
  unfold headN at h ⊢
  by_cases a : b0 < 128
  · simp only [if_pos a]
  simp only [if_neg a] at h ⊢
  by_cases c1 : 194 ≤ b0 ∧ b0 ≤ 223
  · simp only [if_pos c1] at h ⊢
    exact if_cut (by decide) h
  simp only [if_neg c1] at h ⊢
  by_cases c2 : b0 = 224
  · simp only [if_pos c2] at h ⊢
    exact if_cut (by decide) h
  simp only [if_neg c2] at h ⊢
  by_cases c3 : b0 = 237
  · simp only [if_pos c3] at h ⊢
    exact if_cut (by decide) h
  simp only [if_neg c3] at h ⊢
  by_cases c4 : 225 ≤ b0 ∧ b0 ≤ 239
  · simp only [if_pos c4] at h ⊢
    exact if_cut (by decide) h
  simp only [if_neg c4] at h ⊢
  by_cases c5 : b0 = 240
  · simp only [if_pos c5] at h ⊢
    exact if_cut (by decide) h
  simp only [if_neg c5] at h ⊢
  by_cases c6 : 241 ≤ b0 ∧ b0 ≤ 243
  · simp only [if_pos c6] at h ⊢
    exact if_cut (by decide) h
  simp only [if_neg c6] at h ⊢
  by_cases c7 : b0 = 244
  · simp only [if_pos c7] at h ⊢
    exact if_cut (by decide) h
  simp only [if_neg c7] at h ⊢
theorem isCh_head (t : ByteArray) (h : headW t ≠ 0) : IsCh (t.extract 0 (headW t)) := by
  have hle := headW_le t
  have hsz : (t.extract 0 (headW t)).size = headW t := by rw [ByteArray.size_extract]; omega
  refine ⟨by omega, ?_⟩
  have hb : ∀ i, i < headW t → byteI (t.extract 0 (headW t)) i = byteI t i := fun i hi => by rw [byteI_extract t 0 (headW t) i (by omega) hle, Nat.zero_add]
  have e1 := headW_eq t (by omega) (byteN t 0) (byteN t 1) (byteN t 2) (byteN t 3) (byteI_nat t 0 (by omega)) (fun h => byteI_nat t 1 h) (fun h => byteI_nat t 2 h) (fun h => byteI_nat t 3 h)
  have e2 := headW_eq (t.extract 0 (headW t)) (by omega) (byteN t 0) (byteN t 1) (byteN t 2) (byteN t 3) (by rw [hb 0 (by omega)]; exact byteI_nat t 0 (by omega)) (fun h => by rw [hb 1 (by omega)]; exact byteI_nat t 1 (by omega)) (fun h => by rw [hb 2 (by omega)]; exact byteI_nat t 2 (by omega)) (fun h => by rw [hb 3 (by omega)]; exact byteI_nat t 3 (by omega))
  rw [e2, hsz]
  rw [e1] at h ⊢
  exact headN_cut h
theorem charsOf_isCh (k : Nat) : ∀ (t : ByteArray) (l : List ByteArray), t.size ≤ k → charsOf t = some l → ∀ c ∈ l, IsCh c := by
  induction k with
  | zero =>
    intro t l hk h c hc
    rw [charsOf_step, if_pos (by omega)] at h
    cases h
    cases hc
  | succ k ih =>
    intro t l hk h c hc
    rw [charsOf_step] at h
    by_cases h0 : t.size = 0
    · rw [if_pos h0] at h; cases h; cases hc
    · rw [if_neg h0] at h
      by_cases h1 : headW t = 0
      · rw [if_pos h1] at h; cases h
      · rw [if_neg h1, Option.map_eq_some_iff] at h
        obtain ⟨l', h2, rfl⟩ := h
        rcases List.mem_cons.1 hc with rfl | hc
        · exact isCh_head t h1
        · exact ih _ l' (by rw [ByteArray.size_extract]; omega) h2 c hc
theorem catB_cons (c : ByteArray) (l : List ByteArray) : catB (c :: l) = c ++ catB l := by
  have g : ∀ (l : List ByteArray) (a : ByteArray), l.foldl (· ++ ·) a = a ++ l.foldl (· ++ ·) ⟨#[]⟩ := by
    intro l
    induction l with
    | nil => intro a; show a = a ++ ByteArray.empty; simp
    | cons b l ih =>
      intro a
      rw [List.foldl_cons, List.foldl_cons, ih (a ++ b), ih (⟨#[]⟩ ++ b), ← ByteArray.append_assoc]
      have e : (⟨#[]⟩ : ByteArray) ++ b = b := by show ByteArray.empty ++ b = b; simp
      rw [e]
  show List.foldl (· ++ ·) (⟨#[]⟩ ++ c) l = _
  rw [g]
  have e : (⟨#[]⟩ : ByteArray) ++ c = c := by show ByteArray.empty ++ c = c; simp
  rw [e]
  rfl
theorem charsOf_cat (k : Nat) : ∀ (t : ByteArray) (l : List ByteArray), t.size ≤ k → charsOf t = some l → catB l = t := by
  induction k with
  | zero =>
    intro t l hk h
    rw [charsOf_step, if_pos (by omega)] at h
    cases h
    exact (ByteArray.size_eq_zero_iff.1 (by omega)).symm
  | succ k ih =>
    intro t l hk h
    rw [charsOf_step] at h
    by_cases h0 : t.size = 0
    · rw [if_pos h0] at h; cases h; exact (ByteArray.size_eq_zero_iff.1 h0).symm
    · rw [if_neg h0] at h
      by_cases h1 : headW t = 0
      · rw [if_pos h1] at h; cases h
      · rw [if_neg h1, Option.map_eq_some_iff] at h
        obtain ⟨l', h2, rfl⟩ := h
        rw [catB_cons, ih _ l' (by rw [ByteArray.size_extract]; omega) h2, ← ByteArray.extract_eq_extract_append_extract (headW t) (by omega) (headW_le t)]
        simp
end Go.Proofs.YtabogkonklplcaaGreatDoor

namespace Go.Proofs.YtabogkonklplcaaGreatDoor
open Go.RowKit
set_option linter.unusedSimpArgs false
set_option linter.unusedVariables false
theorem if_ext {n n' m k : Nat} {q : Prop} {d : Decidable (m ≤ n ∧ q)} {d' : Decidable (m ≤ n' ∧ q)} (hn : n ≤ n') (h : (if m ≤ n ∧ q then k else 0) ≠ 0) : (if m ≤ n' ∧ q then k else 0) = if m ≤ n ∧ q then k else 0 := by
  by_cases c : m ≤ n ∧ q
  · exact (if_pos (show m ≤ n' ∧ q from ⟨by omega, c.2⟩)).trans (if_pos c).symm
  · rw [if_neg c] at h; exact absurd rfl h
theorem headN_ext {n n' b0 b1 b2 b3 : Nat} (hn : n ≤ n') (h : headN n b0 b1 b2 b3 ≠ 0) : headN n' b0 b1 b2 b3 = headN n b0 b1 b2 b3 := by
  unfold headN at h ⊢
  by_cases a : b0 < 128
  · simp only [if_pos a]
  simp only [if_neg a] at h ⊢
  by_cases c1 : 194 ≤ b0 ∧ b0 ≤ 223
  · simp only [if_pos c1] at h ⊢
    exact if_ext hn h
  simp only [if_neg c1] at h ⊢
  by_cases c2 : b0 = 224
  · simp only [if_pos c2] at h ⊢
    exact if_ext hn h
  simp only [if_neg c2] at h ⊢
  by_cases c3 : b0 = 237
  · simp only [if_pos c3] at h ⊢
    exact if_ext hn h
  simp only [if_neg c3] at h ⊢
  by_cases c4 : 225 ≤ b0 ∧ b0 ≤ 239
  · simp only [if_pos c4] at h ⊢
    exact if_ext hn h
  simp only [if_neg c4] at h ⊢
  by_cases c5 : b0 = 240
  · simp only [if_pos c5] at h ⊢
    exact if_ext hn h
  simp only [if_neg c5] at h ⊢
  by_cases c6 : 241 ≤ b0 ∧ b0 ≤ 243
  · simp only [if_pos c6] at h ⊢
    exact if_ext hn h
  simp only [if_neg c6] at h ⊢
  by_cases c7 : b0 = 244
  · simp only [if_pos c7] at h ⊢
    exact if_ext hn h
  simp only [if_neg c7] at h ⊢
theorem byteI_app (c r : ByteArray) (i : Nat) (h : i < c.size) : byteI (c ++ r) i = byteI c i := by
  unfold byteI
  rw [dif_pos (by rw [ByteArray.size_append]; omega), dif_pos h, ByteArray.getElem_append_left h]
theorem headW_app {c : ByteArray} (h : IsCh c) (r : ByteArray) : headW (c ++ r) = c.size := by
  obtain ⟨h0, h1⟩ := h
  have hs : (c ++ r).size = c.size + r.size := ByteArray.size_append
  have e1 := headW_eq (c ++ r) (by omega) (byteN (c ++ r) 0) (byteN (c ++ r) 1) (byteN (c ++ r) 2) (byteN (c ++ r) 3) (byteI_nat _ 0 (by omega)) (fun h => byteI_nat _ 1 h) (fun h => byteI_nat _ 2 h) (fun h => byteI_nat _ 3 h)
  have e2 := headW_eq c (by omega) (byteN (c ++ r) 0) (byteN (c ++ r) 1) (byteN (c ++ r) 2) (byteN (c ++ r) 3) (by rw [← byteI_app c r 0 (by omega)]; exact byteI_nat _ 0 (by omega)) (fun h => by rw [← byteI_app c r 1 h]; exact byteI_nat _ 1 (by omega)) (fun h => by rw [← byteI_app c r 2 h]; exact byteI_nat _ 2 (by omega)) (fun h => by rw [← byteI_app c r 3 h]; exact byteI_nat _ 3 (by omega))
  rw [h1] at e2
  rw [e1, headN_ext (n := c.size) (by omega) (by rw [← e2]; exact h0), ← e2]
theorem extract_app (a b : ByteArray) : (a ++ b).extract a.size (a ++ b).size = b := by
  rw [ByteArray.size_append]
  have e := ByteArray.extract_append_size_add (a := a) (b := b) (i := 0) (j := b.size)
  rw [Nat.add_zero] at e
  rw [e]
  exact ByteArray.extract_zero_size
theorem decode_head (c r : ByteArray) (h : IsCh c) : (Utf8.decode (c ++ r) 0).2 = c.size ∧ Lib.runeCells ((Utf8.decode (c ++ r) 0).1 : Int) = Lib.strCells c := by
  have hs : (c ++ r).size = c.size + r.size := ByteArray.size_append
  have h0 := h.1
  have e0 : (c ++ r).extract 0 (c ++ r).size = c ++ r := ByteArray.extract_zero_size
  have hw := headW_at (c ++ r) 0 (by omega)
  rw [e0, headW_app h r] at hw
  rcases hw with ⟨h1, _⟩ | ⟨_, h2, h3⟩
  · exact absurd h1 h0
  · refine ⟨h2, ?_⟩
    have e := Lib.encode_decode (c ++ r).data.toList (by intro e; have : (c ++ r).size = 0 := by rw [← ByteArray.size_data, ← Array.length_toList, e]; rfl
                                                         omega) (by
      show ¬ ((Utf8.decode (c ++ r) 0).1 = 65533 ∧ (Utf8.decode (c ++ r) 0).2 = 1)
      exact fun hh => h3 (Prod.ext hh.1 hh.2))
    have e2 : Lib.decodeL (c ++ r).data.toList = Utf8.decode (c ++ r) 0 := rfl
    rw [e2, h2] at e
    rw [← Lib.byteCells_encodeRune, e, Lib.strCells_eq]
    congr 1
    simp [ByteArray.data_append]
end Go.Proofs.YtabogkonklplcaaGreatDoor

namespace Go.Proofs.YtabogkonklplcaaGreatDoor
open Go.RowKit Go.Lib
set_option linter.unusedSimpArgs false
set_option linter.unusedVariables false
theorem catB_append (a b : List ByteArray) : catB (a ++ b) = catB a ++ catB b := by
  induction a with
  | nil => show catB b = ByteArray.empty ++ catB b; simp
  | cons c a ih => rw [List.cons_append, catB_cons, catB_cons, ih, ByteArray.append_assoc]
theorem rune_le (t : ByteArray) (p : Nat) : (Utf8.decode t p).1 ≤ 2147483647 := by
  rw [Lib.decode_at]
  have h0 := byteN_lt t p
  unfold byteN at h0
  generalize (t.get! p).toNat = b0 at h0 ⊢
  unfold Lib.decodeN
  repeat' split
  all_goals simp
  all_goals omega
theorem decode_place (l : List ByteArray) (c : ByteArray) (r : List ByteArray) (h : IsCh c) :
    ∃ R : Nat, Utf8.decode (catB (l ++ c :: r)) (catB l).size = (R, c.size) ∧ Lib.runeCells (R : Int) = Lib.strCells c ∧ R ≤ 2147483647 ∧ (catB l).size < (catB (l ++ c :: r)).size ∧ (catB (l ++ [c])).size = (catB l).size + c.size := by
  have h0 := h.1
  have e1 : catB (l ++ c :: r) = catB l ++ (c ++ catB r) := by rw [catB_append, catB_cons]
  have hs : (catB (l ++ c :: r)).size = (catB l).size + (c.size + (catB r).size) := by rw [e1, ByteArray.size_append, ByteArray.size_append]
  have hd := decodeGo_tail (catB (l ++ c :: r)) (catB l).size (by omega)
  have e2 : (catB (l ++ c :: r)).extract (catB l).size (catB (l ++ c :: r)).size = c ++ catB r := by rw [e1]; exact extract_app _ _
  rw [e2] at hd
  have e3 : Lib.decodeGo (c ++ catB r) = Utf8.decode (c ++ catB r) 0 := by
    unfold Lib.decodeGo
    rw [if_neg (by rw [ByteArray.size_append]; omega)]
  rw [e3] at hd
  obtain ⟨k1, k2⟩ := decode_head c (catB r) h
  refine ⟨(Utf8.decode (c ++ catB r) 0).1, ?_, k2, rune_le _ _, by omega, ?_⟩
  · rw [← hd, ← k1]
  · rw [catB_append, ByteArray.size_append, catB_cons]
    show _ + (c ++ ByteArray.empty).size = _
    simp
theorem cat_next (l : List ByteArray) (h : ∀ c ∈ l, IsCh c) (k : Nat) (hk : k < l.length) :
    ∃ R K : Nat, Utf8.decode (catB l) (catB (l.take k)).size = (R, K) ∧ R ≤ 2147483647 ∧ (catB (l.take k)).size < (catB l).size ∧ (catB (l.take (k + 1))).size = (catB (l.take k)).size + K ∧ (catB (l.take (k + 1))).size ≤ (catB l).size ∧ 0 < K := by
  have e : l = l.take k ++ l[k] :: l.drop (k + 1) := by rw [List.getElem_cons_drop, List.take_append_drop]
  have hc : IsCh l[k] := h _ (List.getElem_mem hk)
  obtain ⟨R, h1, _, h3, h4, h5⟩ := decode_place (l.take k) l[k] (l.drop (k + 1)) hc
  rw [← e] at h1 h4
  have e2 : l.take (k + 1) = l.take k ++ [l[k]] := by rw [List.take_succ_eq_append_getElem hk]
  refine ⟨R, l[k].size, h1, h3, h4, by rw [e2]; exact h5, ?_, Nat.pos_of_ne_zero hc.1⟩
  have e3 : catB l = catB (l.take (k + 1)) ++ catB (l.drop (k + 1)) := by rw [← catB_append, List.take_append_drop]
  rw [e3, ByteArray.size_append]; omega
theorem cat_le (l : List ByteArray) (k : Nat) : (catB (l.take k)).size ≤ (catB l).size := by
  have e3 : catB l = catB (l.take k) ++ catB (l.drop k) := by rw [← catB_append, List.take_append_drop]
  rw [e3, ByteArray.size_append]; omega
theorem cat_split (l : List ByteArray) (k : Nat) : (catB l).extract 0 (catB (l.take k)).size = catB (l.take k) ∧ (catB l).extract (catB (l.take k)).size (catB l).size = catB (l.drop k) := by
  have e3 : catB l = catB (l.take k) ++ catB (l.drop k) := by rw [← catB_append, List.take_append_drop]
  constructor
  · rw [e3, ByteArray.extract_append]; simp
  · conv => lhs; rw [e3]
    exact extract_app _ _
theorem isCh_le {c : ByteArray} (h : IsCh c) : c.size ≤ 4 := h.2 ▸ headW_le4 c
theorem cat_size (l : List ByteArray) (h : ∀ c ∈ l, IsCh c) : (catB l).size ≤ 4 * l.length := by
  induction l with
  | nil => show (0 : Nat) ≤ _; omega
  | cons c l ih =>
    have := ih (fun d hd => h d (by simp [hd]))
    have h2 := isCh_le (h c (by simp))
    rw [catB_cons, ByteArray.size_append, List.length_cons]; omega
end Go.Proofs.YtabogkonklplcaaGreatDoor

namespace Go.Proofs
open Go.Shelf
def Tryz.lays169_ren : Go.Shelf.Ren := ⟨fun | 169 => 148 | n => n, fun | 70 => 216 | 9 => 9 | 0 => 0 | 72 => 219 | 37 => 217 | 127 => 252 | 3 => 3 | 5 => 5 | n => n, fun | n => n⟩
theorem Tryz.lays169 : Go.Proofs.Lays.n169 Tryz.prog Tryz.lays169_ren := {
  mixed := by kernel_rfl
  f169 := Tryz.func148.trans (congrArg some (by kernel_rfl))
  t0 := Tryz.underlying0
  a0 := Tryz.isAgg0
  z0 := Tryz.sizeOf0
  v0 := Tryz.zeroValue0
  t3 := Tryz.underlying3
  a3 := Tryz.isAgg3
  z3 := Tryz.sizeOf3
  v3 := Tryz.zeroValue3
  t9 := Tryz.underlying9
  a9 := Tryz.isAgg9
  z9 := Tryz.sizeOf9
  v9 := Tryz.zeroValue9
  t37 := Tryz.underlying217
  a37 := Tryz.isAgg217
  z37 := Tryz.sizeOf217
  v37 := Tryz.zeroValue217
  t70 := Tryz.underlying216
  a70 := Tryz.isAgg216
  z70 := Tryz.sizeOf216
  v70 := Tryz.zeroValue216
  t72 := Tryz.underlying219
  a72 := Tryz.isAgg219
  z72 := Tryz.sizeOf219
  v72 := Tryz.zeroValue219
  t127 := Tryz.underlying252
  a127 := Tryz.isAgg252
  z127 := Tryz.sizeOf252
  v127 := Tryz.zeroValue252 }
theorem Tryz.Builder_Extra_169 : Builder.Extra Tryz.prog Tryz.lays169_ren := {
  sizeBuilder := by kernel_rfl
  liesBuilder := by kernel_rfl
  t5 := Tryz.underlying5
  a5 := Tryz.isAgg5
  z5 := Tryz.sizeOf5
  v5 := Tryz.zeroValue5
  infoByte := by kernel_rfl
  cellsByte := by kernel_rfl
  sizeByte := by kernel_rfl
  neB5 := by decide }
open Go.RowKit in
theorem Tryz.Builder_String_any (B b : Nat) (l : List UInt8) (w : World) (h : Lib.IsBuilder 219 5 B b (Lib.byteCells l) w) (hBw : B ≤ w.heap.size) :
    Calls Tryz.prog 148 #[.pointer (some ⟨b, 0, none⟩)] w fun e w' => e = .returned (.string ⟨l.toArray⟩) ∧ Below B w w' := Any.Builder_String_any Tryz.lays169 Tryz.Builder_Extra_169 B b l w h hBw
def Tryz.lays156_ren : Go.Shelf.Ren := ⟨fun | 156 => 161 | 165 => 186 | 166 => 174 | 169 => 148 | 240 => 184 | 241 => 197 | 276 => 195 | 277 => 202 | n => n, fun | 31 => 107 | 9 => 9 | 3 => 3 | 4 => 4 | 0 => 0 | 20 => 20 | 72 => 219 | 76 => 62 | 70 => 216 | 37 => 217 | 75 => 29 | 127 => 252 | 164 => 203 | 5 => 5 | 80 => 221 | n => n, fun | n => n⟩
theorem Tryz.lays156 : Go.Proofs.Lays.n156 Tryz.prog Tryz.lays156_ren := {
  mixed := by kernel_rfl
  f156 := Tryz.func161.trans (congrArg some (by kernel_rfl))
  f165 := Tryz.func186.trans (congrArg some (by kernel_rfl))
  f166 := Tryz.func174.trans (congrArg some (by kernel_rfl))
  f169 := Tryz.func148.trans (congrArg some (by kernel_rfl))
  f240 := Tryz.func184.trans (congrArg some (by kernel_rfl))
  f241 := Tryz.func197.trans (congrArg some (by kernel_rfl))
  f276 := Tryz.func195.trans (congrArg some (by kernel_rfl))
  f277 := Tryz.func202.trans (congrArg some (by kernel_rfl))
  t0 := Tryz.underlying0
  a0 := Tryz.isAgg0
  z0 := Tryz.sizeOf0
  v0 := Tryz.zeroValue0
  t3 := Tryz.underlying3
  a3 := Tryz.isAgg3
  z3 := Tryz.sizeOf3
  v3 := Tryz.zeroValue3
  t4 := Tryz.underlying4
  a4 := Tryz.isAgg4
  z4 := Tryz.sizeOf4
  v4 := Tryz.zeroValue4
  t9 := Tryz.underlying9
  a9 := Tryz.isAgg9
  z9 := Tryz.sizeOf9
  v9 := Tryz.zeroValue9
  t20 := Tryz.underlying20
  a20 := Tryz.isAgg20
  z20 := Tryz.sizeOf20
  v20 := Tryz.zeroValue20
  t31 := Tryz.underlying107
  a31 := Tryz.isAgg107
  z31 := Tryz.sizeOf107
  v31 := Tryz.zeroValue107
  t37 := Tryz.underlying217
  a37 := Tryz.isAgg217
  z37 := Tryz.sizeOf217
  v37 := Tryz.zeroValue217
  t70 := Tryz.underlying216
  a70 := Tryz.isAgg216
  z70 := Tryz.sizeOf216
  v70 := Tryz.zeroValue216
  t72 := Tryz.underlying219
  a72 := Tryz.isAgg219
  z72 := Tryz.sizeOf219
  v72 := Tryz.zeroValue219
  t75 := Tryz.underlying29
  a75 := Tryz.isAgg29
  z75 := Tryz.sizeOf29
  v75 := Tryz.zeroValue29
  t76 := Tryz.underlying62
  a76 := Tryz.isAgg62
  z76 := Tryz.sizeOf62
  v76 := Tryz.zeroValue62
  t127 := Tryz.underlying252
  a127 := Tryz.isAgg252
  z127 := Tryz.sizeOf252
  v127 := Tryz.zeroValue252
  t164 := Tryz.underlying203
  a164 := Tryz.isAgg203
  z164 := Tryz.sizeOf203
  v164 := Tryz.zeroValue203 }
theorem Tryz.Builder_Extra_156 : Builder.Extra Tryz.prog Tryz.lays156_ren := {
  sizeBuilder := by kernel_rfl
  liesBuilder := by kernel_rfl
  t5 := Tryz.underlying5
  a5 := Tryz.isAgg5
  z5 := Tryz.sizeOf5
  v5 := Tryz.zeroValue5
  infoByte := by kernel_rfl
  cellsByte := by kernel_rfl
  sizeByte := by kernel_rfl
  neB5 := by decide }
open Go.RowKit in
theorem Tryz.strings_Join (bk o c : Nat) (xs : List ByteArray) (sep : ByteArray) (w : World) (hcells : ∀ (j : Nat) x, xs[j]? = some x → w.cell? ⟨bk, o + j, none⟩ = some (.string x)) (hbk : bk < w.heap.size) (hN : xs.length ≤ 140737488355328) (hcap : xs.length ≤ c) (hlen : (Lib.join (xs.map (·.data.toList)) sep.data.toList).length ≤ 140737488355328) :
    Calls Tryz.prog 161 #[.slice (some ⟨bk, o, none⟩) xs.length c, .string sep] w fun e w' => e = .returned (.string ⟨(Lib.join (xs.map (·.data.toList)) sep.data.toList).toArray⟩) ∧ Below w.heap.size w w' := Any.strings_Join Tryz.lays156 Tryz.Builder_Extra_156 bk o c xs sep w hcells hbk hN hcap hlen
def Tryz.lays122_ren : Go.Shelf.Ren := ⟨fun | 122 => 180 | 215 => 193 | n => n, fun | 3 => 3 | 4 => 4 | n => n, fun | n => n⟩
theorem Tryz.lays122 : Go.Proofs.Lays.n122 Tryz.prog Tryz.lays122_ren := {
  mixed := by kernel_rfl
  f122 := Tryz.func180.trans (congrArg some (by kernel_rfl))
  f215 := Tryz.func193.trans (congrArg some (by kernel_rfl))
  t3 := Tryz.underlying3
  a3 := Tryz.isAgg3
  z3 := Tryz.sizeOf3
  v3 := Tryz.zeroValue3
  t4 := Tryz.underlying4
  a4 := Tryz.isAgg4
  z4 := Tryz.sizeOf4
  v4 := Tryz.zeroValue4 }
open Go.RowKit in
theorem Tryz.cmp_Compare_int (x y : Int) (w : World) :
    Calls Tryz.prog 180 #[.int .i64 x, .int .i64 y] w fun e w' => e = .returned (.int .i64 (Lib.compareInt x y)) ∧ w' = w := Any.cmp_Compare_int Tryz.lays122 x y w
def Tryz.lays242_ren : Go.Shelf.Ren := ⟨fun | 242 => 185 | 278 => 196 | n => n, fun | 37 => 217 | 21 => 21 | 51 => 264 | 4 => 4 | 5 => 5 | 46 => 266 | n => n, fun | n => n⟩
theorem Tryz.lays242 : Go.Proofs.Lays.n242 Tryz.prog Tryz.lays242_ren := {
  mixed := by kernel_rfl
  f242 := Tryz.func185.trans (congrArg some (by kernel_rfl))
  f278 := Tryz.func196.trans (congrArg some (by kernel_rfl))
  t4 := Tryz.underlying4
  a4 := Tryz.isAgg4
  z4 := Tryz.sizeOf4
  v4 := Tryz.zeroValue4
  t5 := Tryz.underlying5
  a5 := Tryz.isAgg5
  z5 := Tryz.sizeOf5
  v5 := Tryz.zeroValue5
  t21 := Tryz.underlying21
  a21 := Tryz.isAgg21
  z21 := Tryz.sizeOf21
  v21 := Tryz.zeroValue21
  t37 := Tryz.underlying217
  a37 := Tryz.isAgg217
  z37 := Tryz.sizeOf217
  v37 := Tryz.zeroValue217
  t46 := Tryz.underlying266
  a46 := Tryz.isAgg266
  z46 := Tryz.sizeOf266
  v46 := Tryz.zeroValue266
  t51 := Tryz.underlying264
  a51 := Tryz.isAgg264
  z51 := Tryz.sizeOf264
  v51 := Tryz.zeroValue264 }
open Go.RowKit in
theorem Tryz.utf8_AppendRune_plain (B : Nat) (v : Value) (n : Nat) (xs : List Value) (r : Int) (hr0 : -2147483648 ≤ r) (hr1 : r ≤ 2147483647) (w : World) (hown : w.ownsRow B 5 1 v n xs) (hlen : n + 4 ≤ 140737488355328) (hBw : B ≤ w.heap.size) :
    Calls Tryz.prog 185 #[v, .int .i32 r] w fun e w' => ∃ v', e = .returned v' ∧ w'.ownsRow B 5 1 v' (n + (Lib.runeCells r).length) (xs ++ Lib.runeCells r) ∧ ∃ o, (w.alloc o).grownBy w' v.ownBlock := Any.utf8_AppendRune_plain Tryz.lays242 (by kernel_rfl) B v n xs r hr0 hr1 w hown hlen hBw
def Tryz.lays171_ren : Go.Shelf.Ren := ⟨fun | 171 => 175 | 243 => 192 | 246 => 201 | 283 => 203 | 284 => 204 | 285 => 205 | 286 => 206 | 129 => 208 | 317 => 207 | 318 => 209 | 319 => 210 | 320 => 211 | 337 => 212 | 338 => 213 | n => n, fun | 3 => 3 | 9 => 9 | 2 => 2 | 4 => 4 | 171 => 272 | 0 => 0 | 53 => 273 | 37 => 217 | 5 => 5 | 173 => 276 | 212 => 279 | 51 => 264 | 20 => 20 | 213 => 280 | 46 => 266 | 232 => 283 | 233 => 284 | n => n, fun | 17 => 4 | 18 => 5 | 19 => 6 | n => n⟩
theorem Tryz.lays171 : Go.Proofs.Lays.n171 Tryz.prog Tryz.lays171_ren := {
  mixed := by kernel_rfl
  f129 := Tryz.func208.trans (congrArg some (by kernel_rfl))
  f171 := Tryz.func175.trans (congrArg some (by kernel_rfl))
  f243 := Tryz.func192.trans (congrArg some (by kernel_rfl))
  f246 := Tryz.func201.trans (congrArg some (by kernel_rfl))
  f283 := Tryz.func203.trans (congrArg some (by kernel_rfl))
  f284 := Tryz.func204.trans (congrArg some (by kernel_rfl))
  f285 := Tryz.func205.trans (congrArg some (by kernel_rfl))
  f286 := Tryz.func206.trans (congrArg some (by kernel_rfl))
  f317 := Tryz.func207.trans (congrArg some (by kernel_rfl))
  f318 := Tryz.func209.trans (congrArg some (by kernel_rfl))
  f319 := Tryz.func210.trans (congrArg some (by kernel_rfl))
  f320 := Tryz.func211.trans (congrArg some (by kernel_rfl))
  f337 := Tryz.func212.trans (congrArg some (by kernel_rfl))
  f338 := Tryz.func213.trans (congrArg some (by kernel_rfl))
  t0 := Tryz.underlying0
  a0 := Tryz.isAgg0
  z0 := Tryz.sizeOf0
  v0 := Tryz.zeroValue0
  t2 := Tryz.underlying2
  a2 := Tryz.isAgg2
  z2 := Tryz.sizeOf2
  v2 := Tryz.zeroValue2
  t3 := Tryz.underlying3
  a3 := Tryz.isAgg3
  z3 := Tryz.sizeOf3
  v3 := Tryz.zeroValue3
  t4 := Tryz.underlying4
  a4 := Tryz.isAgg4
  z4 := Tryz.sizeOf4
  v4 := Tryz.zeroValue4
  t5 := Tryz.underlying5
  a5 := Tryz.isAgg5
  z5 := Tryz.sizeOf5
  v5 := Tryz.zeroValue5
  t9 := Tryz.underlying9
  a9 := Tryz.isAgg9
  z9 := Tryz.sizeOf9
  v9 := Tryz.zeroValue9
  t20 := Tryz.underlying20
  a20 := Tryz.isAgg20
  z20 := Tryz.sizeOf20
  v20 := Tryz.zeroValue20
  t37 := Tryz.underlying217
  a37 := Tryz.isAgg217
  z37 := Tryz.sizeOf217
  v37 := Tryz.zeroValue217
  t46 := Tryz.underlying266
  a46 := Tryz.isAgg266
  z46 := Tryz.sizeOf266
  v46 := Tryz.zeroValue266
  t51 := Tryz.underlying264
  a51 := Tryz.isAgg264
  z51 := Tryz.sizeOf264
  v51 := Tryz.zeroValue264
  t53 := Tryz.underlying273
  a53 := Tryz.isAgg273
  z53 := Tryz.sizeOf273
  v53 := Tryz.zeroValue273
  t171 := Tryz.underlying272
  a171 := Tryz.isAgg272
  z171 := Tryz.sizeOf272
  v171 := Tryz.zeroValue272
  t173 := Tryz.underlying276
  a173 := Tryz.isAgg276
  z173 := Tryz.sizeOf276
  v173 := Tryz.zeroValue276
  t212 := Tryz.underlying279
  a212 := Tryz.isAgg279
  z212 := Tryz.sizeOf279
  v212 := Tryz.zeroValue279
  t213 := Tryz.underlying280
  a213 := Tryz.isAgg280
  z213 := Tryz.sizeOf280
  t232 := Tryz.underlying283
  a232 := Tryz.isAgg283
  z232 := Tryz.sizeOf283
  v232 := Tryz.zeroValue283
  t233 := Tryz.underlying284
  a233 := Tryz.isAgg284
  z233 := Tryz.sizeOf284
  v233 := Tryz.zeroValue284
  g17 := by kernel_rfl
  g18 := by kernel_rfl
  g19 := by kernel_rfl }
open Go.RowKit Go.Sort Go.Lib in
theorem Tryz.strconv_Itoa_small (i : Nat) (hi : i < 100) (w : World) :
    Calls Tryz.prog 175 #[.int .i64 i] w fun e w' => e = .returned (.string ⟨(Lib.decDigits i).toArray⟩) ∧ w' = w := Any.strconv_Itoa_small Tryz.lays171 i hi w
def Tryz.laysM316_ren : Go.Shelf.Ren := ⟨fun | 316 => 172 | n => n, fun | 9 => 9 | 3 => 3 | 4 => 4 | 37 => 217 | 0 => 0 | 127 => 252 | 5 => 5 | n => n, fun | n => n⟩
theorem Tryz.laysM316 : Go.Proofs.LaysM.n316 Tryz.prog Tryz.laysM316_ren := {
  mixed := by kernel_rfl
  f316 := Tryz.func172.trans (congrArg some (by kernel_rfl))
  t0 := Tryz.underlying0
  a0 := Tryz.isAgg0
  z0 := Tryz.sizeOf0
  v0 := Tryz.zeroValue0
  t3 := Tryz.underlying3
  a3 := Tryz.isAgg3
  z3 := Tryz.sizeOf3
  v3 := Tryz.zeroValue3
  t4 := Tryz.underlying4
  a4 := Tryz.isAgg4
  z4 := Tryz.sizeOf4
  v4 := Tryz.zeroValue4
  t9 := Tryz.underlying9
  a9 := Tryz.isAgg9
  z9 := Tryz.sizeOf9
  v9 := Tryz.zeroValue9
  t37 := Tryz.underlying217
  a37 := Tryz.isAgg217
  z37 := Tryz.sizeOf217
  v37 := Tryz.zeroValue217
  t127 := Tryz.underlying252
  a127 := Tryz.isAgg252
  z127 := Tryz.sizeOf252
  v127 := Tryz.zeroValue252
  t5 := Tryz.underlying5
  a5 := Tryz.isAgg5
  z5 := Tryz.sizeOf5
  v5 := Tryz.zeroValue5
  i0 := by kernel_rfl
  i3 := by kernel_rfl
  i4 := by kernel_rfl
  i5 := by kernel_rfl
  i9 := by kernel_rfl
  i37 := by kernel_rfl
  i127 := by kernel_rfl }
open Go.RowKit in
theorem Tryz.stringslite_Clone (s : ByteArray) (w : World) (hlim : s.size ≤ 281474976710656) :
    Calls Tryz.prog 172 #[.string s] w fun e w' => e = .returned (.string s) ∧ Below w.heap.size w w' := Any.stringslite_Clone Tryz.laysM316 s w hlim
def Tryz.lays260_ren : Go.Shelf.Ren := ⟨fun | 260 => 200 | n => n, fun | 9 => 9 | 21 => 21 | 3 => 3 | 4 => 4 | 5 => 5 | 119 => 268 | 0 => 0 | 46 => 266 | 139 => 271 | 138 => 270 | n => n, fun | 3 => 1 | 4 => 2 | n => n⟩
theorem Tryz.lays260 : Go.Proofs.Lays.n260 Tryz.prog Tryz.lays260_ren := {
  mixed := by kernel_rfl
  f260 := Tryz.func200.trans (congrArg some (by kernel_rfl))
  t0 := Tryz.underlying0
  a0 := Tryz.isAgg0
  z0 := Tryz.sizeOf0
  v0 := Tryz.zeroValue0
  t3 := Tryz.underlying3
  a3 := Tryz.isAgg3
  z3 := Tryz.sizeOf3
  v3 := Tryz.zeroValue3
  t4 := Tryz.underlying4
  a4 := Tryz.isAgg4
  z4 := Tryz.sizeOf4
  v4 := Tryz.zeroValue4
  t5 := Tryz.underlying5
  a5 := Tryz.isAgg5
  z5 := Tryz.sizeOf5
  v5 := Tryz.zeroValue5
  t9 := Tryz.underlying9
  a9 := Tryz.isAgg9
  z9 := Tryz.sizeOf9
  v9 := Tryz.zeroValue9
  t21 := Tryz.underlying21
  a21 := Tryz.isAgg21
  z21 := Tryz.sizeOf21
  v21 := Tryz.zeroValue21
  t46 := Tryz.underlying266
  a46 := Tryz.isAgg266
  z46 := Tryz.sizeOf266
  v46 := Tryz.zeroValue266
  t119 := Tryz.underlying268
  a119 := Tryz.isAgg268
  z119 := Tryz.sizeOf268
  t138 := Tryz.underlying270
  a138 := Tryz.isAgg270
  z138 := Tryz.sizeOf270
  v138 := Tryz.zeroValue270
  t139 := Tryz.underlying271
  a139 := Tryz.isAgg271
  z139 := Tryz.sizeOf271
  v139 := Tryz.zeroValue271
  g3 := by kernel_rfl
  g4 := by kernel_rfl }
def Tryz.lays197_ren : Go.Shelf.Ren := ⟨fun | 197 => 191 | 260 => 200 | n => n, fun | 9 => 9 | 21 => 21 | 3 => 3 | 4 => 4 | 5 => 5 | 105 => 261 | 119 => 268 | 0 => 0 | 46 => 266 | 139 => 271 | 138 => 270 | n => n, fun | 3 => 1 | 4 => 2 | n => n⟩
theorem Tryz.lays197 : Go.Proofs.Lays.n197 Tryz.prog Tryz.lays197_ren := {
  mixed := by kernel_rfl
  f197 := Tryz.func191.trans (congrArg some (by kernel_rfl))
  f260 := Tryz.func200.trans (congrArg some (by kernel_rfl))
  t0 := Tryz.underlying0
  a0 := Tryz.isAgg0
  z0 := Tryz.sizeOf0
  v0 := Tryz.zeroValue0
  t3 := Tryz.underlying3
  a3 := Tryz.isAgg3
  z3 := Tryz.sizeOf3
  v3 := Tryz.zeroValue3
  t4 := Tryz.underlying4
  a4 := Tryz.isAgg4
  z4 := Tryz.sizeOf4
  v4 := Tryz.zeroValue4
  t5 := Tryz.underlying5
  a5 := Tryz.isAgg5
  z5 := Tryz.sizeOf5
  v5 := Tryz.zeroValue5
  t9 := Tryz.underlying9
  a9 := Tryz.isAgg9
  z9 := Tryz.sizeOf9
  v9 := Tryz.zeroValue9
  t21 := Tryz.underlying21
  a21 := Tryz.isAgg21
  z21 := Tryz.sizeOf21
  v21 := Tryz.zeroValue21
  t46 := Tryz.underlying266
  a46 := Tryz.isAgg266
  z46 := Tryz.sizeOf266
  v46 := Tryz.zeroValue266
  t105 := Tryz.underlying261
  a105 := Tryz.isAgg261
  z105 := Tryz.sizeOf261
  v105 := Tryz.zeroValue261
  t119 := Tryz.underlying268
  a119 := Tryz.isAgg268
  z119 := Tryz.sizeOf268
  t138 := Tryz.underlying270
  a138 := Tryz.isAgg270
  z138 := Tryz.sizeOf270
  v138 := Tryz.zeroValue270
  t139 := Tryz.underlying271
  a139 := Tryz.isAgg271
  z139 := Tryz.sizeOf271
  v139 := Tryz.zeroValue271
  g3 := by kernel_rfl
  g4 := by kernel_rfl }
open Go.RowKit Go.Lib in
theorem Tryz.utf8_DecodeRuneInString (s : ByteArray) (w : World) (hT : Lib.Utf8Tabs 1 2 w) :
    Calls Tryz.prog 191 #[.string s] w fun e w' => e = .returned (.tuple #[.int .i32 (Lib.decodeGo s).1, .int .i64 (Lib.decodeGo s).2]) ∧ Below w.heap.size w w' := Any.utf8_DecodeRuneInString Tryz.lays197 s w hT
def Tryz.lays108_ren : Go.Shelf.Ren := ⟨fun | 108 => 155 | n => n, fun | 28 => 24 | 3 => 3 | 0 => 0 | 4 => 4 | n => n, fun | n => n⟩
theorem Tryz.lays108 : Go.Proofs.Lays.n108 Tryz.prog Tryz.lays108_ren := {
  mixed := by kernel_rfl
  f108 := Tryz.func155.trans (congrArg some (by kernel_rfl))
  t0 := Tryz.underlying0
  a0 := Tryz.isAgg0
  z0 := Tryz.sizeOf0
  v0 := Tryz.zeroValue0
  t3 := Tryz.underlying3
  a3 := Tryz.isAgg3
  z3 := Tryz.sizeOf3
  v3 := Tryz.zeroValue3
  t4 := Tryz.underlying4
  a4 := Tryz.isAgg4
  z4 := Tryz.sizeOf4
  v4 := Tryz.zeroValue4
  t28 := Tryz.underlying24
  a28 := Tryz.isAgg24
  z28 := Tryz.sizeOf24
  v28 := Tryz.zeroValue24 }
open Go.Lib in
theorem Tryz.slices_Index_int (b off n c : Nat) (zs : List Int) (x : Int) (w : World) (hz : n ≤ zs.length) (hbig : n ≤ 9223372036854775807) (hc : ∀ j, j < zs.length → w.cell? ⟨b, off + j, none⟩ = some (.int .i64 (zs.getD j 0))) :
    Calls Tryz.prog 155 #[.slice (some ⟨b, off, none⟩) n c, .int .i64 x] w fun e w' => e = .returned (.int .i64 (Lib.idxOf (zs.take n) x)) ∧ w' = w := Any.slices_Index_int Tryz.lays108 b off n c zs x w hz hbig hc
def Tryz.lays107_ren : Go.Shelf.Ren := ⟨fun | 107 => 179 | 108 => 155 | n => n, fun | 28 => 24 | 3 => 3 | 4 => 4 | 0 => 0 | n => n, fun | n => n⟩
theorem Tryz.lays107 : Go.Proofs.Lays.n107 Tryz.prog Tryz.lays107_ren := {
  mixed := by kernel_rfl
  f107 := Tryz.func179.trans (congrArg some (by kernel_rfl))
  f108 := Tryz.func155.trans (congrArg some (by kernel_rfl))
  t0 := Tryz.underlying0
  a0 := Tryz.isAgg0
  z0 := Tryz.sizeOf0
  v0 := Tryz.zeroValue0
  t3 := Tryz.underlying3
  a3 := Tryz.isAgg3
  z3 := Tryz.sizeOf3
  v3 := Tryz.zeroValue3
  t4 := Tryz.underlying4
  a4 := Tryz.isAgg4
  z4 := Tryz.sizeOf4
  v4 := Tryz.zeroValue4
  t28 := Tryz.underlying24
  a28 := Tryz.isAgg24
  z28 := Tryz.sizeOf24
  v28 := Tryz.zeroValue24 }
open Go.Lib in
theorem Tryz.slices_Contains_int (b off n c : Nat) (zs : List Int) (x : Int) (w : World) (hz : n ≤ zs.length) (hbig : n ≤ 9223372036854775807) (hc : ∀ j, j < zs.length → w.cell? ⟨b, off + j, none⟩ = some (.int .i64 (zs.getD j 0))) :
    Calls Tryz.prog 179 #[.slice (some ⟨b, off, none⟩) n c, .int .i64 x] w fun e w' => e = .returned (.bool ((zs.take n).contains x)) ∧ w' = w := Any.slices_Contains_int Tryz.lays107 b off n c zs x w hz hbig hc
def Tryz.lays112_ren : Go.Shelf.Ren := ⟨fun | 112 => 181 | n => n, fun | 28 => 24 | 3 => 3 | 4 => 4 | 0 => 0 | n => n, fun | n => n⟩
theorem Tryz.lays112 : Go.Proofs.Lays.n112 Tryz.prog Tryz.lays112_ren := {
  mixed := by kernel_rfl
  f112 := Tryz.func181.trans (congrArg some (by kernel_rfl))
  t0 := Tryz.underlying0
  a0 := Tryz.isAgg0
  z0 := Tryz.sizeOf0
  v0 := Tryz.zeroValue0
  t3 := Tryz.underlying3
  a3 := Tryz.isAgg3
  z3 := Tryz.sizeOf3
  v3 := Tryz.zeroValue3
  t4 := Tryz.underlying4
  a4 := Tryz.isAgg4
  z4 := Tryz.sizeOf4
  v4 := Tryz.zeroValue4
  t28 := Tryz.underlying24
  a28 := Tryz.isAgg24
  z28 := Tryz.sizeOf24
  v28 := Tryz.zeroValue24 }
def Tryz.laysNm223_ren : Go.Shelf.Ren := ⟨fun | 23 => 150 | n => n, fun | 22 => 24 | 3 => 3 | 4 => 4 | 0 => 0 | n => n, fun | n => n⟩
theorem Tryz.laysNm223 : Go.Proofs.Lays2.n23 Tryz.prog Tryz.laysNm223_ren := {
  mixed := by kernel_rfl
  f23 := Tryz.func150.trans (congrArg some (by kernel_rfl))
  t0 := Tryz.underlying0
  a0 := Tryz.isAgg0
  z0 := Tryz.sizeOf0
  v0 := Tryz.zeroValue0
  t3 := Tryz.underlying3
  a3 := Tryz.isAgg3
  z3 := Tryz.sizeOf3
  v3 := Tryz.zeroValue3
  t4 := Tryz.underlying4
  a4 := Tryz.isAgg4
  z4 := Tryz.sizeOf4
  v4 := Tryz.zeroValue4
  t22 := Tryz.underlying24
  a22 := Tryz.isAgg24
  z22 := Tryz.sizeOf24
  v22 := Tryz.zeroValue24
  i3 := by kernel_rfl }
open Go.RowKit Go.Lib Go.Sort in
theorem Tryz.slices_Reverse_int_cells (b off n c : Nat) (zs : List Int) (w : World) (hz : n ≤ zs.length) (hbig : n ≤ 9223372036854775807) (hc : ∀ j, j < zs.length → w.cell? ⟨b, off + j, none⟩ = some (.int .i64 (zs.getD j 0))) (hf : ∀ j, j < n → w.frozen? ⟨b, off + j, none⟩ = false) :
    Calls Tryz.prog 181 #[.slice (some ⟨b, off, none⟩) n c] w fun e w' => e = .returned (.tuple #[]) ∧ ∃ q, w' = (w.drewN q).setCells b off ((zs.take n).reverse.map (Value.int .i64)) := Any.slices_Reverse_int_cells Tryz.lays112 b off n c zs w hz hbig hc hf
open Go.RowKit Go.Lib Go.Sort in
theorem Tryz.slices_Delete_int_cells (b off n c i j : Nat) (zs : List Int) (w : World) (hz : n ≤ zs.length) (hcap : n ≤ c) (hm : c ≤ 9223372036854775807) (hij : i ≤ j) (hj : j ≤ n) (hc : ∀ j, j < zs.length → w.cell? ⟨b, off + j, none⟩ = some (.int .i64 (zs.getD j 0))) (hf : ∀ j, j < n → w.frozen? ⟨b, off + j, none⟩ = false) :
    Calls Tryz.prog 150 #[.slice (some ⟨b, off, none⟩) n c, .int .i64 i, .int .i64 j] w fun e w' => e = .returned (.slice (some ⟨b, off, none⟩) (n - (j - i)) c) ∧ ∃ q, w' = (w.drewN q).setCells b off (((zs.take n).take i ++ (zs.take n).drop j ++ List.replicate (j - i) 0).map (Value.int .i64)) := Any.slices_Delete_int_cells Tryz.laysNm223 b off n c i j zs w hz hcap hm hij hj hc hf
end Go.Proofs

namespace Go.Proofs.YtabogkonklplcaaGreatDoor
open Go.RowKit Go.Lib
set_option linter.unusedSimpArgs false
set_option linter.unusedVariables false
abbrev Tabs (w : World) : Prop := Lib.Utf8Tabs 1 2 w
theorem Tabs.below {w w' : World} (h : Tabs w) (hb : Below w.heap.size w w') : Tabs w' := by
  have key : ∀ (p : Addr) (v : Value), w.cell? p = some v → w'.cell? p = some v := fun p v hv => by rw [hb.cell (World.block_lt_of_cell? w _ hv)]; exact hv
  exact ⟨fun c hc => key _ _ (h.1 c hc), fun i hi => ⟨key _ _ (h.2 i hi).1, key _ _ (h.2 i hi).2⟩⟩
set_option maxHeartbeats 400000 in
theorem broken_any (c : Int) (u : ByteArray) (w : World) (hT : Tabs w) :
    Calls Tryz.prog 171 #[.int .i32 c, .string u] w fun e w' => e = .returned (.bool (decide (c = 65533) && decide ((Lib.decodeGo u).2 = 1))) ∧ Below w.heap.size w w' := by
  have C := hid (Tryz.utf8_DecodeRuneInString u w hT)
  obtain ⟨R, hR⟩ : ∃ R, (Lib.decodeGo u).1 = R := ⟨_, rfl⟩
  obtain ⟨K, hK⟩ : ∃ K, (Lib.decodeGo u).2 = K := ⟨_, rfl⟩
  rw [hR, hK] at C
  rw [hK]
  clear hT hR hK
  by_cases hc : c = 65533
  · subst hc
    go_enter Tryz.func171, Tryz.ntmps171
    go_wp2_with (go_at_call 191; refine C.out.mono ?_; rintro e w3 ⟨rfl, hb⟩)
    go_ret
    refine ⟨?_, hb⟩
    congr 2
    by_cases h1 : K = 1
    · subst h1; rfl
    · have : ¬ (K : Int) = 1 := by omega
      simp [h1, this]
  · have hc1 : (c != 65533) = true := by simpa using hc
    go_enter Tryz.func171, Tryz.ntmps171
    go_wp2
    go_ret
    exact ⟨by simp [hc], Below.refl _ _⟩
end Go.Proofs.YtabogkonklplcaaGreatDoor

namespace Go.Proofs.YtabogkonklplcaaGreatDoor
open Go.RowKit
set_option linter.unusedSimpArgs false
set_option linter.unusedVariables false
structure Stp (O O' : Nat → Prop) (w w' : World) : Prop where
  keeps : Keeps O w w'
  gains : ∀ k, O' k → O k ∨ w.heap.size ≤ k
  there : ∀ k, O' k → k < w'.heap.size
theorem Stp.refl {O : Nat → Prop} {w : World} (h : ∀ k, O k → k < w.heap.size) : Stp O O w w := ⟨Keeps.refl _ _, fun k h => .inl h, h⟩
theorem Stp.trans {O1 O2 O3 : Nat → Prop} {a b c : World} (h : Stp O1 O2 a b) (k : Stp O2 O3 b c) : Stp O1 O3 a c where
  keeps := h.keeps.trans (k.keeps.mono (fun i _ e => h.gains i e))
  gains := fun i e => (k.gains i e).elim (h.gains i) (fun e => .inr (Nat.le_trans h.keeps.size e))
  there := k.there
def Mine (B : Nat) (I : List Nat → (Nat → Prop) → World → Prop) : Prop := ∀ pre O w w', I pre O w → Keeps (fun k => ¬ O k ∧ B ≤ k) w w' → I pre O w'
theorem Mine.later {B B' : Nat} {I : List Nat → (Nat → Prop) → World → Prop} (h : Mine B I) (hB : B ≤ B') : Mine B' I :=
  fun pre O w w' hi hk => h pre O w w' hi (hk.mono (fun k _ e => ⟨e.1, Nat.le_trans hB e.2⟩))
def encN (x : Nat) : Array Value := #[.int .i64 (x : Int)]
def YieldOk (P : Program) (l : Nat) (xs : List Nat) (J Jx : List Nat → (Nat → Prop) → World → Prop) : Prop :=
  ∀ (n : Nat) pre x O w, J pre O w → pre ++ [x] <+: xs → (∀ k, O k → k < w.heap.size) → YieldAt Fence.wide n P l (encN x) w fun e w' => ∃ O', Stp O O' w w' ∧
    ((e = .returned (.bool true) ∧ J (pre ++ [x]) O' w') ∨ (e = .returned (.bool false) ∧ Jx (pre ++ [x]) O' w'))
def SeqOk (P : Program) (gf : Nat) (lb : Array Value) (xs : List Nat) (w : World) (O : Nat → Prop) : Prop :=
  ∀ (l : Nat) (J Jx : List Nat → (Nat → Prop) → World → Prop) (O1 : Nat → Prop) (w1 : World), Below w.heap.size w w1 → (∀ k, O1 k → O k ∨ w.heap.size ≤ k) → (∀ k, O1 k → k < w1.heap.size) → Mine w1.heap.size J → Mine w1.heap.size Jx → YieldOk P l xs J Jx → J [] O1 w1 →
    Calls P gf (#[.func (.yield l) #[] #[]] ++ lb) w1 fun e w' => (∃ v, e = .returned v) ∧ ∃ O', Stp O1 O' w1 w' ∧ (J xs O' w' ∨ ∃ pre, pre <+: xs ∧ Jx pre O' w')
def minePost (I Ix : List Nat → (Nat → Prop) → World → Prop) (O : Nat → Prop) (xs : List Nat) (W : World) : Exit → Act → World → Prop
  | .normal, _, W' => ∃ O', Stp O O' W W' ∧ I xs O' W'
  | .ret, _, W' => ∃ O', Stp O O' W W' ∧ Ix xs O' W'
  | .exit _, _, _ => False
  | .goto _, _, _ => False
  | .panic _, _, _ => False
  | .outgrown, _, _ => False
def anyPost (I : List Nat → (Nat → Prop) → World → Prop) (Ix : Code → List Nat → (Nat → Prop) → World → Prop) (O : Nat → Prop) (xs : List Nat) (W : World) : Exit → Act → World → Prop
  | .normal, _, W' => ∃ O', Stp O O' W W' ∧ I xs O' W'
  | .ret, _, W' => ∃ O', Stp O O' W W' ∧ Ix .ret xs O' W'
  | .exit id, _, W' => ∃ O', Stp O O' W W' ∧ Ix (.exit id) xs O' W'
  | .goto _, _, _ => False
  | .panic _, _, _ => False
  | .outgrown, _, _ => False
theorem keeps_putObj {F : Nat → Prop} {a w : World} (h : Keeps F a w) {l : Nat} (hl : F l ∨ a.heap.size ≤ l) (o : Obj) : Keeps F a (w.putObj l o) :=
  h.trans ⟨rfl, rfl, rfl, by simp, fun k hk hF => World.putObj_heap_other (fun e => hF (e ▸ hl))⟩
set_option maxHeartbeats 1000000 in
theorem range_any {P : Program} {n : Nat} {g : Operand} {ps : Array Tmp} {assign body : Code} {Q : Exit → Act → World → Prop} {a : Act} {w : World} {gf : Nat} {lb : Array Value}
    (hg : a.eval g = .func (.func gf) #[] lb) (eg : ∀ args w, (callFunc gf args).run P w = .ok (.enter gf args) w) (hps : ps.size = 1)
    {xs : List Nat} {O : Nat → Prop} (hO : ∀ k, O k → k < w.heap.size) (hseq : SeqOk P gf lb xs w O)
    (I : List Nat → (Nat → Prop) → World → Prop) (Ix : Code → List Nat → (Nat → Prop) → World → Prop) (mI : Mine w.heap.size I) (mIx : ∀ c, Mine w.heap.size (Ix c)) (h0 : I [] O w) (a₁ : Nat → Act)
    (hassign : ∀ (m l x : Nat) (W : World) (K : Act → World → Prop), K (a₁ x) W → assign.wpIn (Fence.wide.inRound l) m P (Exit.then K (fun _ _ _ => False)) { tmps := (ps.zip (encN x)).foldl (fun t (p, v) => t.setIfInBounds p v) a.tmps, defers := [] } W)
    (hbody : ∀ (m l : Nat) pre x O W, pre ++ [x] <+: xs → (∀ k, O k → k < W.heap.size) → I pre O W → body.wpIn (Fence.wide.inRound l) m P (anyPost I Ix O (pre ++ [x]) W) (a₁ x) W)
    (hdone : ∀ O' W, Stp O O' w W → ¬ O' w.heap.size → I xs O' W → W.heap[w.heap.size]? = some (.deferred (some [])) → Q .normal { a with defers := { target := .collected w.heap.size, args := #[] } :: a.defers } W)
    (hstop : ∀ (c : Code) O' pre W, pre <+: xs → Stp O O' w W → ¬ O' w.heap.size → Ix c pre O' W → W.heap[w.heap.size]? = some (.deferred (some [])) → c.wpIn Fence.wide n P Q { a with defers := { target := .collected w.heap.size, args := #[] } :: a.defers } W) :
    (Code.rangeFunc g ps assign body).wpIn Fence.wide n P Q a w := by
  refine wpIn_rangeFunc ?_
  intro fn hfn
  obtain ⟨rec, hrec⟩ : ∃ rec : LoopState → Option Code → Loop, rec = fun st pe => { state := st, pending := pe, fn, tmps := a.tmps, params := ps, assign, body, defers := w.heap.size } := ⟨_, rfl⟩
  obtain ⟨l, hl⟩ : ∃ l, l = w.heap.size + 1 := ⟨_, rfl⟩
  obtain ⟨W1, hW1⟩ : ∃ W1, (w.alloc (.deferred (some []))).alloc (.loop (rec .ready none)) = W1 := ⟨_, rfl⟩
  have hs1 : W1.heap.size = w.heap.size + 2 := by rw [← hW1]; simp
  have hL1 : W1.heap[l]? = some (.loop (rec .ready none)) := by
    rw [← hW1, hl]; have := World.alloc_heap_new (w.alloc (.deferred (some []))) (.loop (rec .ready none)); rwa [World.size_alloc] at this
  have hK1 : W1.heap[w.heap.size]? = some (.deferred (some [])) := by
    rw [← hW1]; exact (Below.heap_alloc _ _ _ (by simp)).trans (World.alloc_heap_new w _)
  have hb1 : Below w.heap.size w W1 := by rw [← hW1]; exact ((Below.refl _ w).alloc (Nat.le_refl _) _).alloc (by simp) _
  have hOl : ¬ O l := fun e => by have := hO l e; omega
  refine ⟨l, [{ target := .collected w.heap.size, args := #[] }], W1, { target := .fn (.func gf) lb, args := #[.func (.yield l) #[] #[]] }, W1, gf, #[.func (.yield l) #[] #[]] ++ lb, W1, ?_, ?_, fun _ _ => trivial, ?_, ?_, ?_⟩
  · rw [← hW1, hrec, hl]; exact run_enterLoop_outer _ _ _ _ _
  · simp only [resolve, hg]
    simp [go_sem]
  · simp [invoke, go_sem, eg]
  · intro h; simp [Fence.wide] at h
  have hI1 : I [] O W1 := mI [] O w W1 h0 (Keeps.of_below hb1)
  obtain ⟨J, hJ⟩ : ∃ J : List Nat → (Nat → Prop) → World → Prop, J = fun pre O' W => ∃ O2 : Nat → Prop, (O' = fun k => O2 k ∨ k = l) ∧ ¬ O2 l ∧ I pre O2 W ∧ W.heap[l]? = some (.loop (rec .ready none)) := ⟨_, rfl⟩
  obtain ⟨Jx, hJx⟩ : ∃ J : List Nat → (Nat → Prop) → World → Prop, J = fun pre O' W => ∃ (c : Code) (O2 : Nat → Prop), (O' = fun k => O2 k ∨ k = l) ∧ ¬ O2 l ∧ Ix c pre O2 W ∧ W.heap[l]? = some (.loop (rec .done (some c))) := ⟨_, rfl⟩
  have mJ : Mine W1.heap.size J := by
    rintro pre O' X Y hj hk
    rw [hJ] at hj ⊢
    obtain ⟨O2, rfl, h1, h2, h3⟩ := hj
    exact ⟨O2, rfl, h1, mI pre O2 X Y h2 (hk.mono (fun k _ e => ⟨fun h => e.1 (.inl h), by omega⟩)), (hk.block l (heap_lt h3) (fun e => e.1 (.inr rfl))).trans h3⟩
  have mJx : Mine W1.heap.size Jx := by
    rintro pre O' X Y hj hk
    rw [hJx] at hj ⊢
    obtain ⟨c, O2, rfl, h1, h2, h3⟩ := hj
    exact ⟨c, O2, rfl, h1, mIx c pre O2 X Y h2 (hk.mono (fun k _ e => ⟨fun h => e.1 (.inl h), by omega⟩)), (hk.block l (heap_lt h3) (fun e => e.1 (.inr rfl))).trans h3⟩
  have hY : YieldOk P l xs J Jx := by
    intro m pre x O' W hj hpre hO'
    rw [hJ] at hj
    obtain ⟨O2, rfl, h1, h2, h3⟩ := hj
    have hlt := heap_lt h3
    have hy := run_yield (P := P) (args := encN x) h3 (by rw [hrec]; exact hps.symm)
    rw [hrec] at hy
    refine ⟨fn, _, assign, body, hy, roundIn_of_wpIn trivial (hassign m l x W _ ?_)⟩
    clear hy
    refine ⟨_, run_beginRound h3 (by rw [hrec]), ?_⟩
    obtain ⟨Wb, hWb⟩ : ∃ Wb, W.putObj l (.loop { rec .ready none with state := .busy }) = Wb := ⟨_, rfl⟩
    rw [hWb]
    have hszb : Wb.heap.size = W.heap.size := by rw [← hWb]; simp
    have hlb : Wb.heap[l]? = some (.loop { rec .ready none with state := .busy }) := by rw [← hWb]; exact World.putObj_heap_same hlt
    have hIb : I pre O2 Wb := mI pre O2 W Wb h2 (by rw [← hWb]; exact keeps_putObj (Keeps.refl _ _) (.inl ⟨h1, by omega⟩) _)
    have hkb : Keeps (fun k => O2 k ∨ k = l) W Wb := by rw [← hWb]; exact keeps_putObj (Keeps.refl _ _) (.inl (.inr rfl)) _
    have fin : ∀ (jump : Option Code) (O3 : Nat → Prop) (W3 : World), Stp O2 O3 Wb W3 →
        (Instr.endRound l jump).run P W3 = .ok (.bool jump.isNone) (W3.putObj l (.loop (rec (if jump.isNone then .ready else .done) jump))) ∧ ¬ O3 l ∧ l < W3.heap.size ∧
        (W3.putObj l (.loop (rec (if jump.isNone then .ready else .done) jump))).heap[l]? = some (.loop (rec (if jump.isNone then .ready else .done) jump)) ∧
        Stp (fun k => O2 k ∨ k = l) (fun k => O3 k ∨ k = l) W (W3.putObj l (.loop (rec (if jump.isNone then .ready else .done) jump))) := by
      intro jump O3 W3 hs
      have hl3 := (hs.keeps.block l (by omega) h1).trans hlb
      have hn3 : ¬ O3 l := fun e => (hs.gains l e).elim h1 (fun e => by omega)
      have he := run_endRound (P := P) jump hl3
      rw [hrec] at he ⊢
      refine ⟨he, hn3, heap_lt hl3, World.putObj_heap_same (heap_lt hl3), ?_, ?_, ?_⟩
      · exact keeps_putObj (hkb.trans (hs.keeps.mono (fun k _ e => .inl (.inl e)))) (.inl (.inr rfl)) _
      · rintro k (e | e)
        · rcases hs.gains k e with e | e
          · exact .inl (.inl e)
          · exact .inr (by omega)
        · exact .inl (.inr e)
      · rintro k (e | e)
        · have := hs.there k e
          simpa using this
        · have := heap_lt hl3
          simp; omega
    refine wpIn_mono (hbody m l pre x O2 Wb hpre (fun k hk => by rw [hszb]; exact hO' k (.inl hk)) hIb) ?_
    rintro e a3 W3 hp
    cases e with
    | normal =>
      obtain ⟨O3, hs, hi⟩ := hp
      obtain ⟨hr, hn3, hlt3, hl4, hs4⟩ := fin none O3 W3 hs
      refine ⟨_, _, hr, _, hs4, .inl ⟨rfl, ?_⟩⟩
      rw [hJ]
      exact ⟨O3, rfl, hn3, mI _ O3 W3 _ hi (keeps_putObj (Keeps.refl _ _) (.inl ⟨hn3, by omega⟩) _), hl4⟩
    | ret =>
      obtain ⟨O3, hs, hi⟩ := hp
      obtain ⟨hr, hn3, hlt3, hl4, hs4⟩ := fin (some .ret) O3 W3 hs
      refine ⟨_, _, hr, _, hs4, .inr ⟨rfl, ?_⟩⟩
      rw [hJx]
      exact ⟨.ret, O3, rfl, hn3, mIx _ _ O3 W3 _ hi (keeps_putObj (Keeps.refl _ _) (.inl ⟨hn3, by omega⟩) _), hl4⟩
    | exit id =>
      obtain ⟨O3, hs, hi⟩ := hp
      obtain ⟨hr, hn3, hlt3, hl4, hs4⟩ := fin (some (.exit id)) O3 W3 hs
      refine ⟨_, _, hr, _, hs4, .inr ⟨rfl, ?_⟩⟩
      rw [hJx]
      exact ⟨.exit id, O3, rfl, hn3, mIx _ _ O3 W3 _ hi (keeps_putObj (Keeps.refl _ _) (.inl ⟨hn3, by omega⟩) _), hl4⟩
    | goto t => exact hp.elim
    | panic ch => exact hp.elim
    | outgrown => exact hp.elim
  refine (callsIn_wide.2 (hseq l J Jx (fun k => O k ∨ k = l) W1 hb1 ?_ ?_ mJ mJx hY ?_)).mono ?_
  · rintro k (e | e)
    · exact .inl e
    · exact .inr (by omega)
  · rintro k (e | e)
    · have := hO k e; omega
    · omega
  · rw [hJ]; exact ⟨O, rfl, hOl, hI1, hL1⟩
  · rintro e W2 ⟨⟨v, rfl⟩, O', hs, hh⟩
    have hD : W2.heap[w.heap.size]? = some (.deferred (some [])) := (hs.keeps.block _ (by omega) (fun e => e.elim (fun e => by have := hO _ e; omega) (fun e => by omega))).trans hK1
    have hk2 : Keeps O w W2 := (Keeps.of_below hb1).trans (hs.keeps.mono (fun k _ e => e.elim .inl (fun e => .inr (by omega))))
    have step : ∀ (O2 : Nat → Prop) (o : Obj), (O' = fun k => O2 k ∨ k = l) → Stp O O2 w (W2.putObj l o) := by
      rintro O2 o rfl
      refine ⟨keeps_putObj hk2 (.inr (by omega)) _, fun k e => ?_, fun k e => ?_⟩
      · rcases hs.gains k (.inl e) with (e | e) | e
        · exact .inl e
        · exact .inr (by omega)
        · exact .inr (by omega)
      · have := hs.there k (.inl e)
        simpa using this
    have nd : ∀ (O2 : Nat → Prop), (O' = fun k => O2 k ∨ k = l) → ¬ O2 w.heap.size := by
      rintro O2 rfl e
      rcases hs.gains _ (.inl e) with (e | e) | e
      · have := hO _ e; omega
      · omega
      · omega
    rcases hh with hj | ⟨pre, hpre, hj⟩
    · rw [hJ] at hj
      obtain ⟨O2, he, h1, h2, h3⟩ := hj
      refine ⟨none, _, by have := run_endLoop (P := P) h3 (by rw [hrec]; simp); rw [hrec] at this; exact this, hdone O2 _ (step O2 _ he) (nd O2 he) (mI _ O2 W2 _ h2 (keeps_putObj (Keeps.refl _ _) (.inl ⟨h1, by omega⟩) _)) ((World.putObj_heap_other (by omega)).trans hD)⟩
    · rw [hJx] at hj
      obtain ⟨c, O2, he, h1, h2, h3⟩ := hj
      refine ⟨some c, _, by have := run_endLoop (P := P) h3 (by rw [hrec]; simp); rw [hrec] at this; exact this, hstop c O2 pre _ hpre (step O2 _ he) (nd O2 he) (mIx _ _ O2 W2 _ h2 (keeps_putObj (Keeps.refl _ _) (.inl ⟨h1, by omega⟩) _)) ((World.putObj_heap_other (by omega)).trans hD)⟩
theorem range_mine {P : Program} {n : Nat} {g : Operand} {ps : Array Tmp} {assign body : Code} {Q : Exit → Act → World → Prop} {a : Act} {w : World} {gf : Nat} {lb : Array Value}
    (hg : a.eval g = .func (.func gf) #[] lb) (eg : ∀ args w, (callFunc gf args).run P w = .ok (.enter gf args) w) (hps : ps.size = 1)
    {xs : List Nat} {O : Nat → Prop} (hO : ∀ k, O k → k < w.heap.size) (hseq : SeqOk P gf lb xs w O)
    (I Ix : List Nat → (Nat → Prop) → World → Prop) (mI : Mine w.heap.size I) (mIx : Mine w.heap.size Ix) (h0 : I [] O w) (a₁ : Nat → Act)
    (hassign : ∀ (m l x : Nat) (W : World) (K : Act → World → Prop), K (a₁ x) W → assign.wpIn (Fence.wide.inRound l) m P (Exit.then K (fun _ _ _ => False)) { tmps := (ps.zip (encN x)).foldl (fun t (p, v) => t.setIfInBounds p v) a.tmps, defers := [] } W)
    (hbody : ∀ (m l : Nat) pre x O W, pre ++ [x] <+: xs → (∀ k, O k → k < W.heap.size) → I pre O W → body.wpIn (Fence.wide.inRound l) m P (minePost I Ix O (pre ++ [x]) W) (a₁ x) W)
    (hdone : ∀ O' W, Stp O O' w W → ¬ O' w.heap.size → I xs O' W → W.heap[w.heap.size]? = some (.deferred (some [])) → Q .normal { a with defers := { target := .collected w.heap.size, args := #[] } :: a.defers } W)
    (hstop : ∀ O' pre W, pre <+: xs → Stp O O' w W → ¬ O' w.heap.size → Ix pre O' W → W.heap[w.heap.size]? = some (.deferred (some [])) → Code.ret.wpIn Fence.wide n P Q { a with defers := { target := .collected w.heap.size, args := #[] } :: a.defers } W) :
    (Code.rangeFunc g ps assign body).wpIn Fence.wide n P Q a w := by
  refine range_any hg eg hps hO hseq I (fun c pre O W => c = .ret ∧ Ix pre O W) mI (fun c pre O w w' h hk => ⟨h.1, mIx pre O w w' h.2 hk⟩) h0 a₁ hassign ?_ hdone ?_
  · intro m l pre x O W hpre hO hi
    refine wpIn_mono (hbody m l pre x O W hpre hO hi) ?_
    intro e a' W' hp
    cases e with
    | normal => exact hp
    | ret => obtain ⟨O', hs, hx⟩ := hp; exact ⟨O', hs, rfl, hx⟩
    | exit id => exact hp.elim
    | goto t => exact hp.elim
    | panic ch => exact hp.elim
    | outgrown => exact hp.elim
  · rintro c O' pre W hpre hs hn ⟨rfl, hx⟩ hD
    exact hstop O' pre W hpre hs hn hx hD
theorem stp_mine {O0 O : Nat → Prop} {B : Nat} {w0 W W' : World} (hB : w0.heap.size ≤ B) (h : Stp O0 O w0 W) (hk : Keeps (fun k => ¬ O k ∧ B ≤ k) W W') : Stp O0 O w0 W' :=
  ⟨h.keeps.trans (hk.mono (fun k _ e => .inr (by have := e.2; omega))), h.gains, fun k e => Nat.lt_of_lt_of_le (h.there k e) hk.size⟩
theorem Stp.alloc {O : Nat → Prop} {w : World} (h : ∀ k, O k → k < w.heap.size) (o : Obj) : Stp O O w (w.alloc o) := ⟨(Keeps.refl _ _).alloc _, fun k e => .inl e, fun k e => by have := h k e; simp; omega⟩
theorem Stp.drew {O O' : Nat → Prop} {w w' : World} (h : Stp O O' w w') : Stp O O' w w'.drew := ⟨h.keeps.drew, h.gains, h.there⟩
def mark (D : Nat) : Deferred := { target := .collected D, args := #[] }
theorem leaves_marks {n : Nat} {P : Program} {fn : Func} {tmps : Array Value} {R : Ending → World → Prop} : ∀ (ds : List Nat) (w : World), ds.Nodup → (∀ D ∈ ds, w.heap[D]? = some (.deferred (some []))) →
    (∀ w', Keeps (fun k => k ∈ ds) w w' → ∃ v, (results fn tmps).run P w' = .ok v w' ∧ R (.returned v) w') → LeavesInM Fence.wide n P fn tmps R (ds.map mark) .returning w
  | [], w, _, _, h => h w (Keeps.refl _ _)
  | D :: ds, w, hn, hd, h => by
    refine ⟨by simp, .inl ⟨D, _, rfl, run_takeDeferred (hd D (by simp)), ?_⟩⟩
    have hn' := List.nodup_cons.1 hn
    refine leaves_marks ds _ hn'.2 (fun D' h' => ?_) (fun w' hk => h w' ?_)
    · refine (World.putObj_heap_other ?_).trans (hd D' (by simp [h']))
      rintro rfl
      exact hn'.1 h'
    · exact (keeps_putObj (Keeps.refl _ _) (.inl (by simp)) _).trans (hk.mono (fun k _ e => .inl (by simp [e])))
theorem left_ok {O1 O' : Nat → Prop} {w1 wr w' : World} {ds : List Nat} (st : Stp O1 O' w1 wr) (hds : ∀ D ∈ ds, w1.heap.size ≤ D ∧ ¬ O' D) (hk : Keeps (fun k => k ∈ ds) wr w') :
    Stp O1 O' w1 w' ∧ Keeps (fun k => ¬ O' k ∧ w1.heap.size ≤ k) wr w' :=
  ⟨⟨st.keeps.trans (hk.mono (fun k _ e => .inr (hds k e).1)), st.gains, fun k e => Nat.lt_of_lt_of_le (st.there k e) hk.size⟩, hk.mono (fun k _ e => ⟨(hds k e).2, (hds k e).1⟩)⟩
end Go.Proofs.YtabogkonklplcaaGreatDoor
