import Derived.Test.YtabogkonklplcaaGreatDoorL07
import Derived.Test.YtabogkonklplcaaGreatDoorL08
import Derived.Test.YtabogkonklplcaaGreatDoorL06
import Derived.WalkSmall
import Derived.LoopTactic
import Derived.Laws.RangeString
import Derived.Laws.RangeAny
import Derived.Shelf.Spec.BytesIndexFunc

namespace Go.Proofs.YtabogkonklplcaaGreatDoor
open Go.RowKit
set_option linter.unusedSimpArgs false
set_option linter.unusedVariables false
def byteN (t : ByteArray) (i : Nat) : Nat := (t.get! i).toNat
theorem byteN_lt (t : ByteArray) (i : Nat) : byteN t i < 256 := (t.get! i).toNat_lt
theorem byteI_nat (t : ByteArray) (i : Nat) (h : i < t.size) : byteI t i = (byteN t i : Int) := by
  have e : t.get! i = t[i]'h := by
    cases t with
    | mk d => exact getElem!_pos d i h
  unfold byteI byteN
  rw [dif_pos h, e]
theorem byteI_extract (t : ByteArray) (p q i : Nat) (h : p + i < q) (hq : q ≤ t.size) : byteI (t.extract p q) i = byteI t (p + i) := by
  unfold byteI
  rw [dif_pos (by rw [ByteArray.size_extract]; omega), dif_pos (by omega)]
  rw [ByteArray.getElem_extract]
theorem headW_1 (t : ByteArray) (lo hi : Int) (hm : moreF (byteI t 0) = (1, lo, hi)) : headW t = if 2 ≤ t.size ∧ lo ≤ byteI t 1 ∧ byteI t 1 ≤ hi then 2 else 0 := by
  unfold headW
  simp only [hm]
  have e : (1 : Int).toNat = 1 := rfl
  simp only [e, okTail, Bool.true_and, decide_eq_true_eq, if_true, Nat.zero_add]
  repeat' split
  all_goals first | rfl | (exfalso; omega)
theorem headW_2 (t : ByteArray) (lo hi : Int) (hm : moreF (byteI t 0) = (2, lo, hi)) : headW t = if 3 ≤ t.size ∧ (lo ≤ byteI t 1 ∧ byteI t 1 ≤ hi) ∧ (128 ≤ byteI t 2 ∧ byteI t 2 ≤ 191) then 3 else 0 := by
  unfold headW
  simp only [hm]
  have e : (2 : Int).toNat = 2 := rfl
  simp only [e, okTail, Bool.true_and, Bool.and_eq_true, decide_eq_true_eq, if_true, Nat.zero_add, Nat.reduceAdd, Nat.succ_ne_zero, if_false]
  repeat' split
  all_goals first | rfl | (exfalso; omega)
theorem headW_3 (t : ByteArray) (lo hi : Int) (hm : moreF (byteI t 0) = (3, lo, hi)) : headW t = if 4 ≤ t.size ∧ (lo ≤ byteI t 1 ∧ byteI t 1 ≤ hi) ∧ (128 ≤ byteI t 2 ∧ byteI t 2 ≤ 191) ∧ (128 ≤ byteI t 3 ∧ byteI t 3 ≤ 191) then 4 else 0 := by
  unfold headW
  simp only [hm]
  have e : (3 : Int).toNat = 3 := rfl
  simp only [e, okTail, Bool.true_and, Bool.and_eq_true, decide_eq_true_eq, if_true, Nat.zero_add, Nat.reduceAdd, Nat.succ_ne_zero, if_false]
  repeat' split
  all_goals first | rfl | (exfalso; omega)
set_option maxHeartbeats 2000000 in
theorem headW_eq (t : ByteArray) (h : 0 < t.size) (b0 b1 b2 b3 : Nat) (e0 : byteI t 0 = b0) (e1 : 1 < t.size → byteI t 1 = b1) (e2 : 2 < t.size → byteI t 2 = b2) (e3 : 3 < t.size → byteI t 3 = b3) :
    headW t = headN t.size b0 b1 b2 b3 := by
  unfold headN
  have mo : ∀ x, moreF (b0 : Int) = x → moreF (byteI t 0) = x := fun x hx => by rw [e0]; exact hx
  by_cases a : b0 < 128
  · rw [if_pos a]
    have hm := mo (0, 0, 0) (by unfold moreF; rw [if_pos (by omega)])
    unfold headW
    simp only [hm]
    rw [if_neg (by omega)]
    rfl
  rw [if_neg a]
  by_cases c1 : 194 ≤ b0 ∧ b0 ≤ 223
  · rw [if_pos c1, headW_1 t 128 191 (mo _ (by unfold moreF; (repeat' split) <;> first | rfl | (exfalso; omega)))]
    repeat' split
    all_goals first | rfl | (exfalso; omega)
  rw [if_neg c1]
  by_cases c2 : b0 = 224
  · rw [if_pos c2, headW_2 t 160 191 (mo _ (by unfold moreF; (repeat' split) <;> first | rfl | (exfalso; omega)))]
    repeat' split
    all_goals first | rfl | (exfalso; omega)
  rw [if_neg c2]
  by_cases c3 : b0 = 237
  · rw [if_pos c3, headW_2 t 128 159 (mo _ (by unfold moreF; (repeat' split) <;> first | rfl | (exfalso; omega)))]
    repeat' split
    all_goals first | rfl | (exfalso; omega)
  rw [if_neg c3]
  by_cases c4 : 225 ≤ b0 ∧ b0 ≤ 239
  · rw [if_pos c4, headW_2 t 128 191 (mo _ (by unfold moreF; (repeat' split) <;> first | rfl | (exfalso; omega)))]
    repeat' split
    all_goals first | rfl | (exfalso; omega)
  rw [if_neg c4]
  by_cases c5 : b0 = 240
  · rw [if_pos c5, headW_3 t 144 191 (mo _ (by unfold moreF; (repeat' split) <;> first | rfl | (exfalso; omega)))]
    repeat' split
    all_goals first | rfl | (exfalso; omega)
  rw [if_neg c5]
  by_cases c6 : 241 ≤ b0 ∧ b0 ≤ 243
  · rw [if_pos c6, headW_3 t 128 191 (mo _ (by unfold moreF; (repeat' split) <;> first | rfl | (exfalso; omega)))]
    repeat' split
    all_goals first | rfl | (exfalso; omega)
  rw [if_neg c6]
  by_cases c7 : b0 = 244
  · rw [if_pos c7, headW_3 t 128 143 (mo _ (by unfold moreF; (repeat' split) <;> first | rfl | (exfalso; omega)))]
    repeat' split
    all_goals first | rfl | (exfalso; omega)
  rw [if_neg c7]
  have hm := mo (-1, 0, 0) (by unfold moreF; (repeat' split) <;> first | rfl | (exfalso; omega))
  unfold headW
  simp only [hm]
  rw [if_pos (by omega)]
theorem headW_at (t : ByteArray) (p : Nat) (h : p < t.size) :
    (headW (t.extract p t.size) = 0 ∧ Utf8.decode t p = (65533, 1)) ∨ (headW (t.extract p t.size) ≠ 0 ∧ (Utf8.decode t p).2 = headW (t.extract p t.size) ∧ Utf8.decode t p ≠ (65533, 1)) := by
  have hs : (t.extract p t.size).size = t.size - p := by rw [ByteArray.size_extract]; omega
  have e : headW (t.extract p t.size) = headN (t.size - p) (byteN t p) (byteN t (p + 1)) (byteN t (p + 2)) (byteN t (p + 3)) := by
    rw [← hs]
    refine headW_eq _ (by omega) _ _ _ _ ?_ ?_ ?_ ?_
    · rw [byteI_extract t p t.size 0 (by omega) (Nat.le_refl _)]; exact byteI_nat t p h
    · intro h1; rw [byteI_extract t p t.size 1 (by omega) (Nat.le_refl _)]; exact byteI_nat t _ (by omega)
    · intro h1; rw [byteI_extract t p t.size 2 (by omega) (Nat.le_refl _)]; exact byteI_nat t _ (by omega)
    · intro h1; rw [byteI_extract t p t.size 3 (by omega) (Nat.le_refl _)]; exact byteI_nat t _ (by omega)
  rw [e, Lib.decode_at]
  exact headN_decodeN _ _ _ _ _ (byteN_lt _ _) (byteN_lt _ _) (byteN_lt _ _) (byteN_lt _ _)
end Go.Proofs.YtabogkonklplcaaGreatDoor

namespace Go.Proofs.YtabogkonklplcaaGreatDoor
open Go.RowKit
set_option linter.unusedSimpArgs false
set_option linter.unusedVariables false
theorem charsAt_end (t : ByteArray) (p : Nat) (h : t.size ≤ p) : charsOf (t.extract p t.size) = some [] := by
  rw [charsOf_step, if_pos (by rw [ByteArray.size_extract]; omega)]
theorem charsAt_bad (t : ByteArray) (p : Nat) (h : p < t.size) (hd : Utf8.decode t p = (65533, 1)) : charsOf (t.extract p t.size) = none := by
  rcases headW_at t p h with ⟨h0, _⟩ | ⟨_, _, h2⟩
  · rw [charsOf_step, if_neg (by rw [ByteArray.size_extract]; omega), if_pos h0]
  · exact absurd hd h2
theorem width_le (t : ByteArray) (p : Nat) (h : p < t.size) (hd : Utf8.decode t p ≠ (65533, 1)) : 0 < (Utf8.decode t p).2 ∧ p + (Utf8.decode t p).2 ≤ t.size := by
  rcases headW_at t p h with ⟨_, h0⟩ | ⟨h1, h2, _⟩
  · exact absurd h0 hd
  · have := headW_le (t.extract p t.size)
    rw [ByteArray.size_extract] at this
    rw [h2]
    omega
theorem charsAt_good (t : ByteArray) (p : Nat) (h : p < t.size) (hd : Utf8.decode t p ≠ (65533, 1)) :
    charsOf (t.extract p t.size) = (charsOf (t.extract (p + (Utf8.decode t p).2) t.size)).map (t.extract p (p + (Utf8.decode t p).2) :: ·) := by
  have hw := width_le t p h hd
  rcases headW_at t p h with ⟨_, h0⟩ | ⟨h1, h2, _⟩
  · exact absurd h0 hd
  · rw [charsOf_step, if_neg (by rw [ByteArray.size_extract]; omega), if_neg h1, ← h2]
    rw [ByteArray.size_extract, ByteArray.extract_extract, ByteArray.extract_extract]
    have e1 : min (p + (min t.size t.size - p)) t.size = t.size := by omega
    have e2 : min (p + (Utf8.decode t p).2) t.size = p + (Utf8.decode t p).2 := by omega
    rw [e1, e2]
    rfl
theorem if_cut {n m k : Nat} {q : Prop} {d : Decidable (m ≤ n ∧ q)} {d' : Decidable (m ≤ (if m ≤ n ∧ q then k else 0) ∧ q)} (hk : m ≤ k) (h : (if m ≤ n ∧ q then k else 0) ≠ 0) :
    (if m ≤ (if m ≤ n ∧ q then k else 0) ∧ q then k else 0) = if m ≤ n ∧ q then k else 0 := by
  by_cases c : m ≤ n ∧ q
  · have e : (if m ≤ n ∧ q then k else 0) = k := if_pos c
    exact (if_pos ⟨by rw [e]; exact hk, c.2⟩).trans e.symm
  · rw [if_neg c] at h; exact absurd rfl h
theorem headN_cut {n b0 b1 b2 b3 : Nat} (h : headN n b0 b1 b2 b3 ≠ 0) : headN (headN n b0 b1 b2 b3) b0 b1 b2 b3 = headN n b0 b1 b2 b3 := by
  unfold headN at h ⊢
  by_cases a : b0 < 128
  · simp only [if_pos a]
  simp only [if_neg a] at h ⊢
  by_cases c1 : 194 ≤ b0 ∧ b0 ≤ 223
  · simp only [if_pos c1] at h ⊢
    exact if_cut (by decide) h
  simp only [if_neg c1] at h ⊢
  by_cases c2 : b0 = 224
  · simp only [if_pos c2] at h ⊢
    exact if_cut (by decide) h
  simp only [if_neg c2] at h ⊢
  by_cases c3 : b0 = 237
  · simp only [if_pos c3] at h ⊢
    exact if_cut (by decide) h
  simp only [if_neg c3] at h ⊢
  by_cases c4 : 225 ≤ b0 ∧ b0 ≤ 239
  · simp only [if_pos c4] at h ⊢
    exact if_cut (by decide) h
  simp only [if_neg c4] at h ⊢
  by_cases c5 : b0 = 240
  · simp only [if_pos c5] at h ⊢
    exact if_cut (by decide) h
  simp only [if_neg c5] at h ⊢
  by_cases c6 : 241 ≤ b0 ∧ b0 ≤ 243
  · simp only [if_pos c6] at h ⊢
    exact if_cut (by decide) h
  simp only [if_neg c6] at h ⊢
  by_cases c7 : b0 = 244
  · simp only [if_pos c7] at h ⊢
    exact if_cut (by decide) h
  simp only [if_neg c7] at h ⊢
theorem isCh_head (t : ByteArray) (h : headW t ≠ 0) : IsCh (t.extract 0 (headW t)) := by
  have hle := headW_le t
  have hsz : (t.extract 0 (headW t)).size = headW t := by rw [ByteArray.size_extract]; omega
  refine ⟨by omega, ?_⟩
  have hb : ∀ i, i < headW t → byteI (t.extract 0 (headW t)) i = byteI t i := fun i hi => by rw [byteI_extract t 0 (headW t) i (by omega) hle, Nat.zero_add]
  have e1 := headW_eq t (by omega) (byteN t 0) (byteN t 1) (byteN t 2) (byteN t 3) (byteI_nat t 0 (by omega)) (fun h => byteI_nat t 1 h) (fun h => byteI_nat t 2 h) (fun h => byteI_nat t 3 h)
  have e2 := headW_eq (t.extract 0 (headW t)) (by omega) (byteN t 0) (byteN t 1) (byteN t 2) (byteN t 3) (by rw [hb 0 (by omega)]; exact byteI_nat t 0 (by omega)) (fun h => by rw [hb 1 (by omega)]; exact byteI_nat t 1 (by omega)) (fun h => by rw [hb 2 (by omega)]; exact byteI_nat t 2 (by omega)) (fun h => by rw [hb 3 (by omega)]; exact byteI_nat t 3 (by omega))
  rw [e2, hsz]
  rw [e1] at h ⊢
  exact headN_cut h
theorem charsOf_isCh (k : Nat) : ∀ (t : ByteArray) (l : List ByteArray), t.size ≤ k → charsOf t = some l → ∀ c ∈ l, IsCh c := by
  induction k with
  | zero =>
    intro t l hk h c hc
    rw [charsOf_step, if_pos (by omega)] at h
    cases h
    cases hc
  | succ k ih =>
    intro t l hk h c hc
    rw [charsOf_step] at h
    by_cases h0 : t.size = 0
    · rw [if_pos h0] at h; cases h; cases hc
    · rw [if_neg h0] at h
      by_cases h1 : headW t = 0
      · rw [if_pos h1] at h; cases h
      · rw [if_neg h1, Option.map_eq_some_iff] at h
        obtain ⟨l', h2, rfl⟩ := h
        rcases List.mem_cons.1 hc with rfl | hc
        · exact isCh_head t h1
        · exact ih _ l' (by rw [ByteArray.size_extract]; omega) h2 c hc
theorem catB_cons (c : ByteArray) (l : List ByteArray) : catB (c :: l) = c ++ catB l := by
  have g : ∀ (l : List ByteArray) (a : ByteArray), l.foldl (· ++ ·) a = a ++ l.foldl (· ++ ·) ⟨#[]⟩ := by
    intro l
    induction l with
    | nil => intro a; show a = a ++ ByteArray.empty; simp
    | cons b l ih =>
      intro a
      rw [List.foldl_cons, List.foldl_cons, ih (a ++ b), ih (⟨#[]⟩ ++ b), ← ByteArray.append_assoc]
      have e : (⟨#[]⟩ : ByteArray) ++ b = b := by show ByteArray.empty ++ b = b; simp
      rw [e]
  show List.foldl (· ++ ·) (⟨#[]⟩ ++ c) l = _
  rw [g]
  have e : (⟨#[]⟩ : ByteArray) ++ c = c := by show ByteArray.empty ++ c = c; simp
  rw [e]
  rfl
theorem charsOf_cat (k : Nat) : ∀ (t : ByteArray) (l : List ByteArray), t.size ≤ k → charsOf t = some l → catB l = t := by
  induction k with
  | zero =>
    intro t l hk h
    rw [charsOf_step, if_pos (by omega)] at h
    cases h
    exact (ByteArray.size_eq_zero_iff.1 (by omega)).symm
  | succ k ih =>
    intro t l hk h
    rw [charsOf_step] at h
    by_cases h0 : t.size = 0
    · rw [if_pos h0] at h; cases h; exact (ByteArray.size_eq_zero_iff.1 h0).symm
    · rw [if_neg h0] at h
      by_cases h1 : headW t = 0
      · rw [if_pos h1] at h; cases h
      · rw [if_neg h1, Option.map_eq_some_iff] at h
        obtain ⟨l', h2, rfl⟩ := h
        rw [catB_cons, ih _ l' (by rw [ByteArray.size_extract]; omega) h2, ← ByteArray.extract_eq_extract_append_extract (headW t) (by omega) (headW_le t)]
        simp
end Go.Proofs.YtabogkonklplcaaGreatDoor

namespace Go.Proofs.YtabogkonklplcaaGreatDoor
open Go.RowKit Go.Lib
set_option linter.unusedSimpArgs false
set_option linter.unusedVariables false
abbrev Tabs (w : World) : Prop := Lib.Utf8Tabs 1 2 w
theorem Tabs.below {w w' : World} (h : Tabs w) (hb : Below w.heap.size w w') : Tabs w' := by
  have key : ∀ (p : Addr) (v : Value), w.cell? p = some v → w'.cell? p = some v := fun p v hv => by rw [hb.cell (World.block_lt_of_cell? w _ hv)]; exact hv
  exact ⟨fun c hc => key _ _ (h.1 c hc), fun i hi => ⟨key _ _ (h.2 i hi).1, key _ _ (h.2 i hi).2⟩⟩
set_option maxHeartbeats 400000 in
theorem broken_any (c : Int) (u : ByteArray) (w : World) (hT : Tabs w) :
    Calls Tryz.prog 171 #[.int .i32 c, .string u] w fun e w' => e = .returned (.bool (decide (c = 65533) && decide ((Lib.decodeGo u).2 = 1))) ∧ Below w.heap.size w w' := by
  have C := hid (Tryz.utf8_DecodeRuneInString u w hT)
  obtain ⟨R, hR⟩ : ∃ R, (Lib.decodeGo u).1 = R := ⟨_, rfl⟩
  obtain ⟨K, hK⟩ : ∃ K, (Lib.decodeGo u).2 = K := ⟨_, rfl⟩
  rw [hR, hK] at C
  rw [hK]
  clear hT hR hK
  by_cases hc : c = 65533
  · subst hc
    go_enter Tryz.func171, Tryz.ntmps171
    go_wp2_with (go_at_call 191; refine C.out.mono ?_; rintro e w3 ⟨rfl, hb⟩)
    go_ret
    refine ⟨?_, hb⟩
    congr 2
    by_cases h1 : K = 1
    · subst h1; rfl
    · have : ¬ (K : Int) = 1 := by omega
      simp [h1, this]
  · have hc1 : (c != 65533) = true := by simpa using hc
    go_enter Tryz.func171, Tryz.ntmps171
    go_wp2
    go_ret
    exact ⟨by simp [hc], Below.refl _ _⟩
end Go.Proofs.YtabogkonklplcaaGreatDoor

namespace Go.Proofs.YtabogkonklplcaaGreatDoor
open Go.RowKit
set_option linter.unusedSimpArgs false
set_option linter.unusedVariables false
def errV (a y : Int) : Value := if y = 0 then .nilIface else .iface 32 (.agg #[.int .i64 a, .int .i64 y])
end Go.Proofs.YtabogkonklplcaaGreatDoor

namespace Go.Proofs.YtabogkonklplcaaGreatDoor
open Go.RowKit
set_option linter.unusedSimpArgs false
set_option linter.unusedVariables false
section
variable {w : World} {F : Nat → Prop} {bd bn cap : Nat} {rn : List RN} {rv : Value} {s : List Nd} {rs : List Sp}
end
end Go.Proofs.YtabogkonklplcaaGreatDoor
