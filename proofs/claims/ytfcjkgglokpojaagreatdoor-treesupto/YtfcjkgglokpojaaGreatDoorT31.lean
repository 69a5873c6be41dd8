import Derived.Test.YtfcjkgglokpojaaGreatDoorT20
import Derived.Lib.MapLaws
import Derived.Lib.UnsafeStr
import Derived.Lib.RuneBytes
import Derived.Lib.AppendStr
import Derived.Shelf.Spec.BytesIndexFunc
import Derived.Test.YtfcjkgglokpojaaGreatDoorT30
import Derived.Test.YtfcjkgglokpojaaGreatDoorT11

/- A text that is put together of characters: what the model decodes at each one's place. -/
namespace Go.Proofs.YtfcjkgglokpojaaGreatDoor
open Go.RowKit
set_option linter.unusedSimpArgs false
set_option linter.unusedVariables false

theorem if_ext {n n' m k : Nat} {q : Prop} {d : Decidable (m ≤ n ∧ q)} {d' : Decidable (m ≤ n' ∧ q)} (hn : n ≤ n') (h : (if m ≤ n ∧ q then k else 0) ≠ 0) : (if m ≤ n' ∧ q then k else 0) = if m ≤ n ∧ q then k else 0 := by
  by_cases c : m ≤ n ∧ q
  · exact (if_pos (show m ≤ n' ∧ q from ⟨by omega, c.2⟩)).trans (if_pos c).symm
  · rw [if_neg c] at h; exact absurd rfl h
theorem headN_ext {n n' b0 b1 b2 b3 : Nat} (hn : n ≤ n') (h : headN n b0 b1 b2 b3 ≠ 0) : headN n' b0 b1 b2 b3 = headN n b0 b1 b2 b3 := by
  unfold headN at h ⊢
  by_cases a : b0 < 128
  · simp only [if_pos a]
  simp only [if_neg a] at h ⊢
  by_cases c1 : 194 ≤ b0 ∧ b0 ≤ 223
  · simp only [if_pos c1] at h ⊢
    exact if_ext hn h
  simp only [if_neg c1] at h ⊢
  by_cases c2 : b0 = 224
  · simp only [if_pos c2] at h ⊢
    exact if_ext hn h
  simp only [if_neg c2] at h ⊢
  by_cases c3 : b0 = 237
  · simp only [if_pos c3] at h ⊢
    exact if_ext hn h
  simp only [if_neg c3] at h ⊢
  by_cases c4 : 225 ≤ b0 ∧ b0 ≤ 239
  · simp only [if_pos c4] at h ⊢
    exact if_ext hn h
  simp only [if_neg c4] at h ⊢
  by_cases c5 : b0 = 240
  · simp only [if_pos c5] at h ⊢
    exact if_ext hn h
  simp only [if_neg c5] at h ⊢
  by_cases c6 : 241 ≤ b0 ∧ b0 ≤ 243
  · simp only [if_pos c6] at h ⊢
    exact if_ext hn h
  simp only [if_neg c6] at h ⊢
  by_cases c7 : b0 = 244
  · simp only [if_pos c7] at h ⊢
    exact if_ext hn h
  simp only [if_neg c7] at h ⊢

theorem byteI_app (c r : ByteArray) (i : Nat) (h : i < c.size) : byteI (c ++ r) i = byteI c i := by
  unfold byteI
  rw [dif_pos (by rw [ByteArray.size_append]; omega), dif_pos h, ByteArray.getElem_append_left h]

/-- Behind it may stand what will. -/
theorem headW_app {c : ByteArray} (h : IsCh c) (r : ByteArray) : headW (c ++ r) = c.size := by
  obtain ⟨h0, h1⟩ := h
  have hs : (c ++ r).size = c.size + r.size := ByteArray.size_append
  have e1 := headW_eq (c ++ r) (by omega) (byteN (c ++ r) 0) (byteN (c ++ r) 1) (byteN (c ++ r) 2) (byteN (c ++ r) 3) (byteI_nat _ 0 (by omega)) (fun h => byteI_nat _ 1 h) (fun h => byteI_nat _ 2 h) (fun h => byteI_nat _ 3 h)
  have e2 := headW_eq c (by omega) (byteN (c ++ r) 0) (byteN (c ++ r) 1) (byteN (c ++ r) 2) (byteN (c ++ r) 3) (by rw [← byteI_app c r 0 (by omega)]; exact byteI_nat _ 0 (by omega)) (fun h => by rw [← byteI_app c r 1 h]; exact byteI_nat _ 1 (by omega)) (fun h => by rw [← byteI_app c r 2 h]; exact byteI_nat _ 2 (by omega)) (fun h => by rw [← byteI_app c r 3 h]; exact byteI_nat _ 3 (by omega))
  rw [h1] at e2
  rw [e1, headN_ext (n := c.size) (by omega) (by rw [← e2]; exact h0), ← e2]

theorem extract_app (a b : ByteArray) : (a ++ b).extract a.size (a ++ b).size = b := by
  rw [ByteArray.size_append]
  have e := ByteArray.extract_append_size_add (a := a) (b := b) (i := 0) (j := b.size)
  rw [Nat.add_zero] at e
  rw [e]
  exact ByteArray.extract_zero_size

theorem decode_head (c r : ByteArray) (h : IsCh c) : (Utf8.decode (c ++ r) 0).2 = c.size ∧ Lib.runeCells ((Utf8.decode (c ++ r) 0).1 : Int) = Lib.strCells c := by
  have hs : (c ++ r).size = c.size + r.size := ByteArray.size_append
  have h0 := h.1
  have e0 : (c ++ r).extract 0 (c ++ r).size = c ++ r := ByteArray.extract_zero_size
  have hw := headW_at (c ++ r) 0 (by omega)
  rw [e0, headW_app h r] at hw
  rcases hw with ⟨h1, _⟩ | ⟨_, h2, h3⟩
  · exact absurd h1 h0
  · refine ⟨h2, ?_⟩
    have e := Lib.encode_decode (c ++ r).data.toList (by intro e; have : (c ++ r).size = 0 := by rw [← ByteArray.size_data, ← Array.length_toList, e]; rfl
                                                         omega) (by
      show ¬ ((Utf8.decode (c ++ r) 0).1 = 65533 ∧ (Utf8.decode (c ++ r) 0).2 = 1)
      exact fun hh => h3 (Prod.ext hh.1 hh.2))
    have e2 : Lib.decodeL (c ++ r).data.toList = Utf8.decode (c ++ r) 0 := rfl
    rw [e2, h2] at e
    rw [← Lib.byteCells_encodeRune, e, Lib.strCells_eq]
    congr 1
    simp [ByteArray.data_append]

end Go.Proofs.YtfcjkgglokpojaaGreatDoor

/- tree.writeQuoted. -/
namespace Go.Proofs.YtfcjkgglokpojaaGreatDoor
open Go.RowKit
set_option linter.unusedSimpArgs false
set_option linter.unusedVariables false

theorem catB_append (a b : List ByteArray) : catB (a ++ b) = catB a ++ catB b := by
  induction a with
  | nil => show catB b = ByteArray.empty ++ catB b; simp
  | cons c a ih => rw [List.cons_append, catB_cons, catB_cons, ih, ByteArray.append_assoc]

theorem strCells_append (a b : ByteArray) : Lib.strCells (a ++ b) = Lib.strCells a ++ Lib.strCells b := by
  simp [Lib.strCells, ByteArray.data_append]
theorem strCells_one (b : UInt8) : Lib.strCells ⟨#[b]⟩ = [.int .u8 b.toNat] := rfl

theorem rune_le (t : ByteArray) (p : Nat) : (Utf8.decode t p).1 ≤ 2147483647 := by
  rw [Lib.decode_at]
  have h0 := byteN_lt t p
  unfold byteN at h0
  generalize (t.get! p).toNat = b0 at h0 ⊢
  unfold Lib.decodeN
  repeat' split
  all_goals simp
  all_goals omega

theorem enc_39 {r : Int} (h : Lib.runeCells r = [.int .u8 39]) : r = 39 := by
  unfold Lib.runeCells Lib.encodeRuneZ at h
  split at h
  · simpa using h
  · (repeat' split at h) <;> simp at h
theorem enc_92 {r : Int} (h : Lib.runeCells r = [.int .u8 92]) : r = 92 := by
  unfold Lib.runeCells Lib.encodeRuneZ at h
  split at h
  · simpa using h
  · (repeat' split at h) <;> simp at h
theorem strCells_39 {c : ByteArray} (h : Lib.strCells c = [.int .u8 39]) : c.data.toList = [39] := by
  unfold Lib.strCells at h
  rw [List.map_eq_singleton_iff] at h
  obtain ⟨a, h1, h2⟩ := h
  rw [h1]
  simp at h2
  have : a.toNat = 39 := by omega
  rw [show a = 39 from UInt8.toNat_inj.1 this]
theorem strCells_92 {c : ByteArray} (h : Lib.strCells c = [.int .u8 92]) : c.data.toList = [92] := by
  unfold Lib.strCells at h
  rw [List.map_eq_singleton_iff] at h
  obtain ⟨a, h1, h2⟩ := h
  rw [h1]
  simp at h2
  have : a.toNat = 92 := by omega
  rw [show a = 92 from UInt8.toNat_inj.1 this]

theorem rune_q {c : ByteArray} {R : Nat} (h : Lib.runeCells (R : Int) = Lib.strCells c) : isQ c = (decide (R = 39) || decide (R = 92)) := by
  unfold isQ
  rw [Lib.toList_data]
  by_cases h1 : R = 39
  · subst h1
    have e : Lib.runeCells ((39 : Nat) : Int) = [.int .u8 39] := by unfold Lib.runeCells; rw [Lib.encodeRuneZ_one (by decide) (by decide)]; rfl
    rw [e] at h
    rw [strCells_39 h.symm]
    decide
  · by_cases h2 : R = 92
    · subst h2
      have e : Lib.runeCells ((92 : Nat) : Int) = [.int .u8 92] := by unfold Lib.runeCells; rw [Lib.encodeRuneZ_one (by decide) (by decide)]; rfl
      rw [e] at h
      rw [strCells_92 h.symm]
      decide
    · have n1 : (c.data.toList == [39]) = false := by
        rw [beq_eq_false_iff_ne]
        intro e
        have : Lib.strCells c = [.int .u8 39] := by unfold Lib.strCells; rw [e]; rfl
        rw [this] at h
        have := enc_39 h
        omega
      have n2 : (c.data.toList == [92]) = false := by
        rw [beq_eq_false_iff_ne]
        intro e
        have : Lib.strCells c = [.int .u8 92] := by unfold Lib.strCells; rw [e]; rfl
        rw [this] at h
        have := enc_92 h
        omega
      rw [n1, n2]
      simp [h1, h2]

/-- At the place of one character of a text. -/
theorem decode_place (l : List ByteArray) (c : ByteArray) (r : List ByteArray) (h : IsCh c) :
    ∃ R : Nat, Utf8.decode (catB (l ++ c :: r)) (catB l).size = (R, c.size) ∧ Lib.runeCells (R : Int) = Lib.strCells c ∧ R ≤ 2147483647 ∧ (catB l).size < (catB (l ++ c :: r)).size ∧ (catB (l ++ [c])).size = (catB l).size + c.size := by
  have h0 := h.1
  have e1 : catB (l ++ c :: r) = catB l ++ (c ++ catB r) := by rw [catB_append, catB_cons]
  have hs : (catB (l ++ c :: r)).size = (catB l).size + (c.size + (catB r).size) := by rw [e1, ByteArray.size_append, ByteArray.size_append]
  have hd := decodeGo_tail (catB (l ++ c :: r)) (catB l).size (by omega)
  have e2 : (catB (l ++ c :: r)).extract (catB l).size (catB (l ++ c :: r)).size = c ++ catB r := by rw [e1]; exact extract_app _ _
  rw [e2] at hd
  have e3 : Lib.decodeGo (c ++ catB r) = Utf8.decode (c ++ catB r) 0 := by
    unfold Lib.decodeGo
    rw [if_neg (by rw [ByteArray.size_append]; omega)]
  rw [e3] at hd
  obtain ⟨k1, k2⟩ := decode_head c (catB r) h
  refine ⟨(Utf8.decode (c ++ catB r) 0).1, ?_, k2, rune_le _ _, by omega, ?_⟩
  · rw [← hd, ← k1]
  · rw [catB_append, ByteArray.size_append, catB_cons]
    show _ + (c ++ ByteArray.empty).size = _
    simp

end Go.Proofs.YtfcjkgglokpojaaGreatDoor
