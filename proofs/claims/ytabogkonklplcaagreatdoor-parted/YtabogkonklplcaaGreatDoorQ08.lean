import Derived.Test.YtabogkonklplcaaGreatDoorQ06
import Derived.Deep.DeepFit

namespace Go.Proofs.YtabogkonklplcaaGreatDoor
open Go.RowKit Go.Lib
set_option linter.unusedSimpArgs false
set_option linter.unusedVariables false
abbrev flawV (n : Int) : Value := .iface 249 (.agg #[.int .i64 n])
def TakesM (m : Nat) (s : ByteArray) (l : List ByteArray) : Prop := charsOf s = some l ∧ l.length ≤ m
abbrev Takes (s : ByteArray) (l : List ByteArray) : Prop := TakesM 30 s l
def CheckPost (m : Nat) (s : ByteArray) (w : World) (e : Ending) (w' : World) : Prop :=
  Below w.heap.size w w' ∧ ((∃ l, TakesM m s l ∧ e = .returned .nilIface) ∨ ((∀ l, ¬ TakesM m s l) ∧ ∃ n, e = .returned (flawV n)))
theorem takes_end {m : Nat} {s : ByteArray} {l : List ByteArray} {p : Nat} (hc : charsOf s = (charsOf (s.extract p s.size)).map (l ++ ·)) (hp : ¬ p < s.size) (hl : l.length ≤ m) : TakesM m s l := by
  rw [charsAt_end s p (by omega)] at hc
  exact ⟨by rw [hc]; simp, hl⟩
theorem takes_full {m : Nat} {s : ByteArray} {l : List ByteArray} {p : Nat} (hc : charsOf s = (charsOf (s.extract p s.size)).map (l ++ ·)) (hp : p < s.size) (hl : l.length = m) : ∀ l', ¬ TakesM m s l' := by
  rintro l' ⟨h1, h2⟩
  by_cases hd : Utf8.decode s p = (65533, 1)
  · rw [charsAt_bad s p hp hd] at hc
    rw [hc] at h1; cases h1
  · rw [charsAt_good s p hp hd] at hc
    rw [hc] at h1
    simp only [Option.map_map, Option.map_eq_some_iff] at h1
    obtain ⟨m', _, h3⟩ := h1
    subst h3
    simp at h2
    omega
theorem takes_bad {m : Nat} {s : ByteArray} {l : List ByteArray} {p : Nat} (hc : charsOf s = (charsOf (s.extract p s.size)).map (l ++ ·)) (hp : p < s.size) (hd : Utf8.decode s p = (65533, 1)) : ∀ l', ¬ TakesM m s l' := by
  rintro l' ⟨h1, h2⟩
  rw [charsAt_bad s p hp hd] at hc
  rw [hc] at h1; cases h1
theorem takes_next {s : ByteArray} {l : List ByteArray} {p : Nat} (hc : charsOf s = (charsOf (s.extract p s.size)).map (l ++ ·)) (hp : p < s.size) (hd : Utf8.decode s p ≠ (65533, 1)) :
    charsOf s = (charsOf (s.extract (p + (Utf8.decode s p).2) s.size)).map ((l ++ [s.extract p (p + (Utf8.decode s p).2)]) ++ ·) := by
  rw [hc, charsAt_good s p hp hd, Option.map_map]
  congr 1
  funext x
  simp
def CheckInv (m : Nat) (s : ByteArray) (w : World) (c : Value) (wr : World) : Prop :=
  ∃ (p : Nat) (l : List ByteArray), c = .int .i64 l.length ∧ wr.heap[w.heap.size]? = some (.stringIter s p) ∧ Below w.heap.size w wr ∧ p ≤ s.size ∧ l.length ≤ m ∧ charsOf s = (charsOf (s.extract p s.size)).map (l ++ ·)
theorem brk_eq (s : ByteArray) (p : Nat) (h : p < s.size) : (decide (((Utf8.decode s p).1 : Int) = 65533) && decide ((Lib.decodeGo (s.extract p s.size)).2 = 1)) = decide (Utf8.decode s p = (65533, 1)) := by
  rw [decodeGo_tail s p h]
  generalize Utf8.decode s p = d
  obtain ⟨a, b⟩ := d
  simp only [Prod.mk.injEq]
  by_cases h1 : a = 65533 <;> by_cases h2 : b = 1 <;> simp [h1, h2] <;> omega
set_option maxRecDepth 20000 in
set_option maxHeartbeats 2000000 in
theorem check_any (m : Nat) (hm : m ≤ 30) (s : ByteArray) (w : World) (hs : s.size < lots) (hT : Tabs w) :
    Calls Tryz.prog 144 #[.string s, .int .i64 m] w (CheckPost m s w) := by
  have HT := hid hT
  clear hT
  go_enter Tryz.func144, Tryz.ntmps144
  go_wp2
  go_loopw [5] (fun c wr => CheckInv m s w c wr) (fun _ wr => s.size - wr.iterPos w.heap.size)
  case atStart =>
    exact ⟨0, [], rfl, heap_alloc_new w _, (Below.refl _ w).alloc (Nat.le_refl _) _, Nat.zero_le _, Nat.zero_le _, by simp⟩
  case round =>
    obtain ⟨p, l, rfl, hi, hb, hp, hl, hc⟩ := hrel
    have HC := hid hc
    clear hc
    by_cases hlt : p < s.size
    · have hnx := fun ty => Lib.run_next_any_at (P := Tryz.prog) _ w.heap.size s p ty hi hlt
      have B := hid (brk_eq s p hlt)
      have W := hid (width_le s p hlt)
      have F := hid (takes_full (m := m) HC.out hlt)
      have D := hid (takes_bad (m := m) HC.out hlt)
      have N := hid (takes_next HC.out hlt)
      obtain ⟨R, K, hRK⟩ : ∃ R K, Utf8.decode s p = (R, K) := ⟨_, _, rfl⟩
      rw [hRK] at hnx B W D N
      simp only at hnx B W
      clear hRK HC
      have hi2 := iterAt_heap _ _ s p (p + K) hi
      have hb2 := below_iterAt hb (Nat.le_refl _) s (p + K)
      have hpI : (p : Int) ≤ s.size := by omega
      by_cases h30 : l.length = m
      · have h30I : (m : Int) ≤ l.length := by omega
        have h30N : m ≤ l.length := by omega
        go_wp2
        go_ret
        exact ⟨hb2, .inr ⟨F.out h30, _, rfl⟩⟩
      · have h30I : ¬ (m : Int) ≤ l.length := by omega
        have h30N : ¬ m ≤ l.length := by omega
        have hT2 := HT.out.below hb2
        have C := hid (broken_any (R : Int) (s.extract p s.size) _ hT2)
        rw [B.out] at C
        clear hT2 B F
        by_cases hd : (R, K) = (65533, 1)
        · rw [decide_eq_true hd] at C
          have D2 := hid (D.out hd)
          clear N W D hd
          go_wp2_with (go_at_call 171; refine C.out.mono ?_; rintro e w3 ⟨rfl, hb3⟩)
          go_ret
          exact ⟨hb2.trans (hb3.mono hb2.size), .inr ⟨D2.out, _, rfl⟩⟩
        · rw [decide_eq_false hd] at C
          have N2 := hid (N.out hd)
          have W2 := hid (W.out hd)
          clear N W D hd
          go_wp2_with (go_at_call 171; refine C.out.mono ?_; rintro e w3 ⟨rfl, hb3⟩)
          have hw := W2.out
          have hi3 := (hb3.block w.heap.size (heap_lt hi2)).trans hi2
          go_roundw
          case rel =>
            refine ⟨p + K, l ++ [s.extract p (p + K)], ?_, hi3, hb2.trans (hb3.mono hb2.size), hw.2, by simp; omega, N2.out⟩
            first | simp | go_num
          case measure =>
            rw [iterPos_of hi3, iterPos_of hi]
            omega
    · have hnx := fun ty => Lib.run_next_end_at (P := Tryz.prog) _ w.heap.size s p ty hi hlt
      go_wp2
      go_ret
      exact ⟨hb, .inl ⟨l, takes_end HC.out hlt hl, rfl⟩⟩
end Go.Proofs.YtabogkonklplcaaGreatDoor
