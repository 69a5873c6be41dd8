import Derived.Test.YtabogkonklplcaaGreatDoorV05
import Derived.Lib.DecodeN
import Derived.Lib.RuneCount
import Derived.Deep.RegionWith
import Derived.Deep.RegionHeld3
import Derived.Deep.Cut
import Derived.Deep.CutRange

namespace Go.Proofs.YtabogkonklplcaaGreatDoor
open Go.RowKit
set_option linter.unusedSimpArgs false
set_option linter.unusedVariables false
def headN (n b0 b1 b2 b3 : Nat) : Nat :=
  if b0 < 128 then 1
  else if 194 ≤ b0 ∧ b0 ≤ 223 then (if 2 ≤ n ∧ 128 ≤ b1 ∧ b1 ≤ 191 then 2 else 0)
  else if b0 = 224 then (if 3 ≤ n ∧ (160 ≤ b1 ∧ b1 ≤ 191) ∧ (128 ≤ b2 ∧ b2 ≤ 191) then 3 else 0)
  else if b0 = 237 then (if 3 ≤ n ∧ (128 ≤ b1 ∧ b1 ≤ 159) ∧ (128 ≤ b2 ∧ b2 ≤ 191) then 3 else 0)
  else if 225 ≤ b0 ∧ b0 ≤ 239 then (if 3 ≤ n ∧ (128 ≤ b1 ∧ b1 ≤ 191) ∧ (128 ≤ b2 ∧ b2 ≤ 191) then 3 else 0)
  else if b0 = 240 then (if 4 ≤ n ∧ (144 ≤ b1 ∧ b1 ≤ 191) ∧ (128 ≤ b2 ∧ b2 ≤ 191) ∧ (128 ≤ b3 ∧ b3 ≤ 191) then 4 else 0)
  else if 241 ≤ b0 ∧ b0 ≤ 243 then (if 4 ≤ n ∧ (128 ≤ b1 ∧ b1 ≤ 191) ∧ (128 ≤ b2 ∧ b2 ≤ 191) ∧ (128 ≤ b3 ∧ b3 ≤ 191) then 4 else 0)
  else if b0 = 244 then (if 4 ≤ n ∧ (128 ≤ b1 ∧ b1 ≤ 143) ∧ (128 ≤ b2 ∧ b2 ≤ 191) ∧ (128 ≤ b3 ∧ b3 ≤ 191) then 4 else 0)
  else 0
theorem div64 {b : Nat} : b / 64 = 2 ↔ 128 ≤ b ∧ b ≤ 191 := by omega
set_option maxHeartbeats 4000000 in
theorem headN_decodeN (n b0 b1 b2 b3 : Nat) (h0 : b0 < 256) (h1 : b1 < 256) (h2 : b2 < 256) (h3 : b3 < 256) :
    (headN n b0 b1 b2 b3 = 0 ∧ Lib.decodeN n b0 b1 b2 b3 = (65533, 1)) ∨ (headN n b0 b1 b2 b3 ≠ 0 ∧ (Lib.decodeN n b0 b1 b2 b3).2 = headN n b0 b1 b2 b3 ∧ Lib.decodeN n b0 b1 b2 b3 ≠ (65533, 1)) := by
  unfold headN Lib.decodeN
  simp only [div64]
  by_cases a : b0 < 128
  · simp [a]; omega
  simp only [if_neg a]
  by_cases c2 : b0 / 32 = 6
  · have : ¬ b0 / 16 = 14 := by omega
    have : ¬ b0 / 8 = 30 := by omega
    repeat' split
    all_goals first | (left; exact ⟨rfl, rfl⟩) | (right; refine ⟨by omega, rfl, ?_⟩; simp only [ne_eq, Prod.mk.injEq]; omega) | (exfalso; omega)
  by_cases c3 : b0 / 16 = 14
  · have : ¬ b0 / 8 = 30 := by omega
    repeat' split
    all_goals first | (left; exact ⟨rfl, rfl⟩) | (right; refine ⟨by omega, rfl, ?_⟩; simp only [ne_eq, Prod.mk.injEq]; omega) | (exfalso; omega)
  by_cases c4 : b0 / 8 = 30
  · repeat' split
    all_goals first | (left; exact ⟨rfl, rfl⟩) | (right; refine ⟨by omega, rfl, ?_⟩; simp only [ne_eq, Prod.mk.injEq]; omega) | (exfalso; omega)
  · repeat' split
    all_goals first | (left; exact ⟨rfl, rfl⟩) | (exfalso; omega)
end Go.Proofs.YtabogkonklplcaaGreatDoor

namespace Go.Proofs.YtabogkonklplcaaGreatDoor
open Go.RowKit
set_option linter.unusedSimpArgs false
set_option linter.unusedVariables false
def byteN (t : ByteArray) (i : Nat) : Nat := (t.get! i).toNat
theorem byteN_lt (t : ByteArray) (i : Nat) : byteN t i < 256 := (t.get! i).toNat_lt
theorem byteI_nat (t : ByteArray) (i : Nat) (h : i < t.size) : byteI t i = (byteN t i : Int) := by
  have e : t.get! i = t[i]'h := by
    cases t with
    | mk d => exact getElem!_pos d i h
  unfold byteI byteN
  rw [dif_pos h, e]
theorem byteI_extract (t : ByteArray) (p q i : Nat) (h : p + i < q) (hq : q ≤ t.size) : byteI (t.extract p q) i = byteI t (p + i) := by
  unfold byteI
  rw [dif_pos (by rw [ByteArray.size_extract]; omega), dif_pos (by omega)]
  rw [ByteArray.getElem_extract]
theorem headW_1 (t : ByteArray) (lo hi : Int) (hm : moreF (byteI t 0) = (1, lo, hi)) : headW t = if 2 ≤ t.size ∧ lo ≤ byteI t 1 ∧ byteI t 1 ≤ hi then 2 else 0 := by
  unfold headW
  simp only [hm]
  have e : (1 : Int).toNat = 1 := rfl
  simp only [e, okTail, Bool.true_and, decide_eq_true_eq, if_true, Nat.zero_add]
  repeat' split
  all_goals first | rfl | (exfalso; omega)
theorem headW_2 (t : ByteArray) (lo hi : Int) (hm : moreF (byteI t 0) = (2, lo, hi)) : headW t = if 3 ≤ t.size ∧ (lo ≤ byteI t 1 ∧ byteI t 1 ≤ hi) ∧ (128 ≤ byteI t 2 ∧ byteI t 2 ≤ 191) then 3 else 0 := by
  unfold headW
  simp only [hm]
  have e : (2 : Int).toNat = 2 := rfl
  simp only [e, okTail, Bool.true_and, Bool.and_eq_true, decide_eq_true_eq, if_true, Nat.zero_add, Nat.reduceAdd, Nat.succ_ne_zero, if_false]
  repeat' split
  all_goals first | rfl | (exfalso; omega)
theorem headW_3 (t : ByteArray) (lo hi : Int) (hm : moreF (byteI t 0) = (3, lo, hi)) : headW t = if 4 ≤ t.size ∧ (lo ≤ byteI t 1 ∧ byteI t 1 ≤ hi) ∧ (128 ≤ byteI t 2 ∧ byteI t 2 ≤ 191) ∧ (128 ≤ byteI t 3 ∧ byteI t 3 ≤ 191) then 4 else 0 := by
  unfold headW
  simp only [hm]
  have e : (3 : Int).toNat = 3 := rfl
  simp only [e, okTail, Bool.true_and, Bool.and_eq_true, decide_eq_true_eq, if_true, Nat.zero_add, Nat.reduceAdd, Nat.succ_ne_zero, if_false]
  repeat' split
  all_goals first | rfl | (exfalso; omega)
set_option maxHeartbeats 2000000 in
theorem headW_eq (t : ByteArray) (h : 0 < t.size) (b0 b1 b2 b3 : Nat) (e0 : byteI t 0 = b0) (e1 : 1 < t.size → byteI t 1 = b1) (e2 : 2 < t.size → byteI t 2 = b2) (e3 : 3 < t.size → byteI t 3 = b3) :
    headW t = headN t.size b0 b1 b2 b3 := by
  unfold headN
  have mo : ∀ x, moreF (b0 : Int) = x → moreF (byteI t 0) = x := fun x hx => by rw [e0]; exact hx
  by_cases a : b0 < 128
  · rw [if_pos a]
    have hm := mo (0, 0, 0) (by unfold moreF; rw [if_pos (by omega)])
    unfold headW
    simp only [hm]
    rw [if_neg (by omega)]
    rfl
  rw [if_neg a]
  by_cases c1 : 194 ≤ b0 ∧ b0 ≤ 223
  · rw [if_pos c1, headW_1 t 128 191 (mo _ (by unfold moreF; (repeat' split) <;> first | rfl | (exfalso; omega)))]
    repeat' split
    all_goals first | rfl | (exfalso; omega)
  rw [if_neg c1]
  by_cases c2 : b0 = 224
  · rw [if_pos c2, headW_2 t 160 191 (mo _ (by unfold moreF; (repeat' split) <;> first | rfl | (exfalso; omega)))]
    repeat' split
    all_goals first | rfl | (exfalso; omega)
  rw [if_neg c2]
  by_cases c3 : b0 = 237
  · rw [if_pos c3, headW_2 t 128 159 (mo _ (by unfold moreF; (repeat' split) <;> first | rfl | (exfalso; omega)))]
    repeat' split
    all_goals first | rfl | (exfalso; omega)
  rw [if_neg c3]
  by_cases c4 : 225 ≤ b0 ∧ b0 ≤ 239
  · rw [if_pos c4, headW_2 t 128 191 (mo _ (by unfold moreF; (repeat' split) <;> first | rfl | (exfalso; omega)))]
    repeat' split
    all_goals first | rfl | (exfalso; omega)
  rw [if_neg c4]
  by_cases c5 : b0 = 240
  · rw [if_pos c5, headW_3 t 144 191 (mo _ (by unfold moreF; (repeat' split) <;> first | rfl | (exfalso; omega)))]
    repeat' split
    all_goals first | rfl | (exfalso; omega)
  rw [if_neg c5]
  by_cases c6 : 241 ≤ b0 ∧ b0 ≤ 243
  · rw [if_pos c6, headW_3 t 128 191 (mo _ (by unfold moreF; (repeat' split) <;> first | rfl | (exfalso; omega)))]
    repeat' split
    all_goals first | rfl | (exfalso; omega)
  rw [if_neg c6]
  by_cases c7 : b0 = 244
  · rw [if_pos c7, headW_3 t 128 143 (mo _ (by unfold moreF; (repeat' split) <;> first | rfl | (exfalso; omega)))]
    repeat' split
    all_goals first | rfl | (exfalso; omega)
  rw [if_neg c7]
  have hm := mo (-1, 0, 0) (by unfold moreF; (repeat' split) <;> first | rfl | (exfalso; omega))
  unfold headW
  simp only [hm]
  rw [if_pos (by omega)]
theorem headW_at (t : ByteArray) (p : Nat) (h : p < t.size) :
    (headW (t.extract p t.size) = 0 ∧ Utf8.decode t p = (65533, 1)) ∨ (headW (t.extract p t.size) ≠ 0 ∧ (Utf8.decode t p).2 = headW (t.extract p t.size) ∧ Utf8.decode t p ≠ (65533, 1)) := by
  have hs : (t.extract p t.size).size = t.size - p := by rw [ByteArray.size_extract]; omega
  have e : headW (t.extract p t.size) = headN (t.size - p) (byteN t p) (byteN t (p + 1)) (byteN t (p + 2)) (byteN t (p + 3)) := by
    rw [← hs]
    refine headW_eq _ (by omega) _ _ _ _ ?_ ?_ ?_ ?_
    · rw [byteI_extract t p t.size 0 (by omega) (Nat.le_refl _)]; exact byteI_nat t p h
    · intro h1; rw [byteI_extract t p t.size 1 (by omega) (Nat.le_refl _)]; exact byteI_nat t _ (by omega)
    · intro h1; rw [byteI_extract t p t.size 2 (by omega) (Nat.le_refl _)]; exact byteI_nat t _ (by omega)
    · intro h1; rw [byteI_extract t p t.size 3 (by omega) (Nat.le_refl _)]; exact byteI_nat t _ (by omega)
  rw [e, Lib.decode_at]
  exact headN_decodeN _ _ _ _ _ (byteN_lt _ _) (byteN_lt _ _) (byteN_lt _ _) (byteN_lt _ _)
end Go.Proofs.YtabogkonklplcaaGreatDoor

namespace Go.Proofs.YtabogkonklplcaaGreatDoor
open Go.RowKit
set_option linter.unusedSimpArgs false
set_option linter.unusedVariables false
section
variable {w : World} {F : Nat → Prop} {bd bn cap : Nat} {rn : List RN} {rv : Value} {s : List Nd} {rs : List Sp}
theorem RDocAt.drewN (h : RDocAt w F bd bn cap rn rv s rs) (n : Nat) : RDocAt (w.drewN n) F bd bn cap rn rv s rs :=
  h.keeps (G := fun _ => False) ⟨rfl, rfl, rfl, Nat.le_refl _, fun _ _ _ => rfl⟩ (fun _ _ e => e)
theorem RDocAt.drew (h : RDocAt w F bd bn cap rn rv s rs) : RDocAt w.drew F bd bn cap rn rv s rs := h.drewN 1
end
end Go.Proofs.YtabogkonklplcaaGreatDoor
