import Derived.Test.YtabogkonklplcaaGreatDoorK04
import Derived.Test.YtabogkonklplcaaGreatDoorK09
import Derived.Deep.DeepFit

namespace Go.Proofs.YtabogkonklplcaaGreatDoor
open Go.RowKit Go.Extern.Stop Go.Stop Go.Extern
set_option linter.unusedSimpArgs false
set_option linter.unusedVariables false
theorem fa_setR (tb bb : Nat) (n : Int) (y o0 o1 : Value) (W : World) (hy : y.oneCell' = true) (hb0 : W.cell? ⟨bb, 0, none⟩ = some (.int .i64 n)) (hb1 : W.cell? ⟨bb, 1, none⟩ = some y)
    (ht0 : W.cell? ⟨tb, 0, none⟩ = some o0) (ht1 : W.cell? ⟨tb, 1, none⟩ = some o1) (hf0 : W.frozen? ⟨tb, 0, none⟩ = false) (hf1 : W.frozen? ⟨tb, 1, none⟩ = false) :
    (ReflectliteValue.set #[.agg #[.pointer (some ⟨7, 145, none⟩), .pointer (some ⟨tb, 0, none⟩), .int .u64 409], .agg #[.pointer (some ⟨7, 145, none⟩), .pointer (some ⟨bb, 0, none⟩), .int .u64 153]]).run Tryz.prog W
      = .ok (.tuple #[]) ((W.setCell ⟨tb, 0, none⟩ (.int .i64 n)).setCell ⟨tb, 1, none⟩ y) := by
  rw [rls]
  simp only [Sem.run_bind, fa_partsRa, fa_partsRb, Result.andThen]
  simp [ReflectliteValue.flagAddr, loadVar, isAgg, underlying, Tryz.underlying145, hb0, hb1, Result.andThen, fa_dirR, storeVar, Value.cells, storeCells, Addr.add, loadCellsFrom]
  have e1 : (⟨bb, 0, none⟩ : Addr).add 1 = ⟨bb, 1, none⟩ := by rfl
  have hlc : (loadCells ⟨bb, 0, none⟩ 2).run Tryz.prog W = .ok #[.int .i64 n, y] W := by
    simp [loadCells, loadCellsFrom, Addr.add, go_sem, hb0, hb1, Result.andThen]
  rw [hlc]
  simp [storeCells, Addr.add, Sem.run_bind]
  rw [run_store Tryz.prog W ⟨tb, 0, none⟩ _ _ (by rfl)]
  simp [ht0, hf0, Result.andThen]
  have ht1' : (W.setCell ⟨tb, 0, none⟩ (.int .i64 n)).cell? ⟨tb, 1, none⟩ = some o1 := by rw [World.cell?_setCell_other _ _ _ _ (by simp)]; exact ht1
  rw [run_store Tryz.prog _ ⟨tb, 1, none⟩ _ _ hy]
  simp [ht1', hf1]
end Go.Proofs.YtabogkonklplcaaGreatDoor

namespace Go.Proofs.YtabogkonklplcaaGreatDoor
open Go.RowKit Go.Lib
set_option linter.unusedSimpArgs false
set_option linter.unusedVariables false
abbrev outV (n : Int) : Value := .iface 227 (.agg #[.int .i64 n])
def IterInv (l : List ByteArray) (w : World) (c : Value) (wr : World) : Prop :=
  ∃ k : Nat, k ≤ l.length ∧ c = .int .i64 (k : Int) ∧ wr.heap[w.heap.size]? = some (.stringIter (catB l) (catB (l.take k)).size) ∧ Below w.heap.size w wr
set_option maxRecDepth 20000 in
set_option maxHeartbeats 2000000 in
theorem count_any (l : List ByteArray) (hl : ∀ c ∈ l, IsCh c) (hn : l.length < lots) (w : World) :
    Calls Tryz.prog 105 #[.string (catB l)] w fun e w' => e = .returned (.int .i64 l.length) ∧ Below w.heap.size w w' := by
  have HL := hid (fun k hk => cat_next l hl k hk)
  unfold lots at hn
  clear hl
  go_enter Tryz.func105, Tryz.ntmps105
  go_wp2
  go_loopw [3] (fun c wr => IterInv l w c wr) (fun _ wr => (catB l).size - wr.iterPos w.heap.size)
  case atStart =>
    exact ⟨0, Nat.zero_le _, rfl, heap_alloc_new w _, (Below.refl _ w).alloc (Nat.le_refl _) _⟩
  case round =>
    obtain ⟨k, hk, rfl, hi, hb⟩ := hrel
    by_cases hlt : k < l.length
    · obtain ⟨R, K, h1, h2, h3, h4, h5, h6⟩ := HL.out k hlt
      have hnx := fun ty => Lib.run_next_any_at (P := Tryz.prog) _ w.heap.size (catB l) _ ty hi h3
      rw [h1] at hnx
      simp only at hnx
      have hi2 := iterAt_heap _ _ (catB l) _ ((catB (l.take k)).size + K) hi
      have hb2 := below_iterAt hb (Nat.le_refl _) (catB l) ((catB (l.take k)).size + K)
      clear h1 h2 HL
      generalize (catB (l.take k)).size = p at *
      go_wp2
      go_roundw
      case rel =>
        refine ⟨k + 1, hlt, by go_num, ?_, hb2⟩
        rw [h4]; exact hi2
      case measure =>
        rw [iterPos_of hi2, iterPos_of hi]
        omega
    · obtain rfl : k = l.length := by omega
      rw [List.take_length] at hi
      have hnx := fun ty => Lib.run_next_end_at (P := Tryz.prog) _ w.heap.size (catB l) _ ty hi (Nat.lt_irrefl _)
      go_wp2
      go_ret
      exact ⟨rfl, hb⟩
def FindPost (l : List ByteArray) (off : Int) (w : World) (e : Ending) (w' : World) : Prop :=
  Below w.heap.size w w' ∧ ((∃ o : Nat, off = o ∧ o ≤ l.length ∧ e = .returned (.tuple #[.int .i64 (catB (l.take o)).size, .nilIface])) ∨ ((off < 0 ∨ (l.length : Int) < off) ∧ e = .returned (.tuple #[.int .i64 0, outV off])))
set_option maxRecDepth 20000 in
set_option maxHeartbeats 2000000 in
theorem find_any (l : List ByteArray) (hl : ∀ c ∈ l, IsCh c) (hn : l.length < lots) (off : Int) (w : World) :
    Calls Tryz.prog 102 #[.string (catB l), .int .i64 off] w (FindPost l off w) := by
  have HL := hid (fun k hk => cat_next l hl k hk)
  unfold lots at hn
  clear hl
  go_enter Tryz.func102, Tryz.ntmps102
  go_wp2
  go_loopw [6] (fun c wr => IterInv l w c wr ∧ (off < 0 ∨ intOf c ≤ off)) (fun _ wr => (catB l).size - wr.iterPos w.heap.size)
  case atStart =>
    exact ⟨⟨0, Nat.zero_le _, rfl, heap_alloc_new w _, (Below.refl _ w).alloc (Nat.le_refl _) _⟩, by simp [intOf]; omega⟩
  case round =>
    obtain ⟨⟨k, hk, rfl, hi, hb⟩, ho⟩ := hrel
    simp only [intOf] at ho
    by_cases hlt : k < l.length
    · obtain ⟨R, K, h1, h2, h3, h4, h5, h6⟩ := HL.out k hlt
      have hnx := fun ty => Lib.run_next_any_at (P := Tryz.prog) _ w.heap.size (catB l) _ ty hi h3
      rw [h1] at hnx
      simp only at hnx
      have hi2 := iterAt_heap _ _ (catB l) _ ((catB (l.take k)).size + K) hi
      have hb2 := below_iterAt hb (Nat.le_refl _) (catB l) ((catB (l.take k)).size + K)
      clear h1 h2 HL
      obtain ⟨p, hp⟩ : ∃ p, (catB (l.take k)).size = p := ⟨_, rfl⟩
      rw [hp] at hnx hi2 hb2 hi h3 h4
      by_cases hoff : (k : Int) = off
      · have hoff' : ((k : Int) == off) = true := by simpa using hoff
        go_wp2
        go_ret2
        exact ⟨hb2, .inl ⟨k, hoff.symm, hk, by rw [hp]; rfl⟩⟩
      · have hoff' : ((k : Int) == off) = false := by simpa using hoff
        go_wp2
        go_roundw
        case rel =>
          refine ⟨⟨k + 1, hlt, by go_num, ?_, hb2⟩, ?_⟩
          · rw [h4]; exact hi2
          · have e : (IntKind.i64.wrap ((k : Int) + 1)) = (k : Int) + 1 := by rw [IntKind.wrap_i64]; omega
            simp [intOf, e]
            omega
        case measure =>
          rw [iterPos_of hi2, iterPos_of hi]
          omega
    · obtain rfl : k = l.length := by omega
      rw [List.take_length] at hi
      have hnx := fun ty => Lib.run_next_end_at (P := Tryz.prog) _ w.heap.size (catB l) _ ty hi (Nat.lt_irrefl _)
      by_cases hoff : (l.length : Int) = off
      · have hoff' : ((l.length : Int) == off) = true := by simpa using hoff
        go_wp2
        go_ret2
        exact ⟨hb, .inl ⟨l.length, hoff.symm, Nat.le_refl _, by rw [List.take_length]; rfl⟩⟩
      · have hoff' : ((l.length : Int) == off) = false := by simpa using hoff
        go_wp2
        go_ret2
        exact ⟨hb, .inr ⟨by omega, rfl⟩⟩
end Go.Proofs.YtabogkonklplcaaGreatDoor
