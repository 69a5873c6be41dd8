import Derived.Test.YtabogkonklplcaaGreatDoorF15
import Derived.WalkSmall
import Derived.LoopTactic
import Derived.Laws.RangeString
import Derived.Laws.RangeAny
import Derived.Deep.DeepFit
import Derived.Test.YtabogkonklplcaaGreatDoorF08
import Derived.Test.YtabogkonklplcaaGreatDoorF11
import Derived.Shelf.Spec.SlicesInsert
import Derived.Shelf.Spec.SlicesInsertGrow
import Derived.Lib.Builder
import Derived.Lib.AppendStr
import Derived.Lib.UnsafeStr
import Derived.Lib.Walk
import Derived.Lib.RuneBytes
import Derived.Laws.Externs
import Derived.Shelf.Strings.BuilderX
import Derived.Maps.AppendAt
import Derived.Test.YtabogkonklplcaaGreatDoorF20

/- A text that is put together of characters, 2: the place of each one; its characters again. -/
namespace Go.Proofs.YtabogkonklplcaaGreatDoor
open Go.RowKit Go.Lib
set_option linter.unusedSimpArgs false
set_option linter.unusedVariables false

theorem catB_append (a b : List ByteArray) : catB (a ++ b) = catB a ++ catB b := by
  induction a with
  | nil => show catB b = ByteArray.empty ++ catB b; simp
  | cons c a ih => rw [List.cons_append, catB_cons, catB_cons, ih, ByteArray.append_assoc]

theorem rune_le (t : ByteArray) (p : Nat) : (Utf8.decode t p).1 ≤ 2147483647 := by
  rw [Lib.decode_at]
  have h0 := byteN_lt t p
  unfold byteN at h0
  generalize (t.get! p).toNat = b0 at h0 ⊢
  unfold Lib.decodeN
  repeat' split
  all_goals simp
  all_goals omega

/-- At the place of one character of a text. -/
theorem decode_place (l : List ByteArray) (c : ByteArray) (r : List ByteArray) (h : IsCh c) :
    ∃ R : Nat, Utf8.decode (catB (l ++ c :: r)) (catB l).size = (R, c.size) ∧ Lib.runeCells (R : Int) = Lib.strCells c ∧ R ≤ 2147483647 ∧ (catB l).size < (catB (l ++ c :: r)).size ∧ (catB (l ++ [c])).size = (catB l).size + c.size := by
  have h0 := h.1
  have e1 : catB (l ++ c :: r) = catB l ++ (c ++ catB r) := by rw [catB_append, catB_cons]
  have hs : (catB (l ++ c :: r)).size = (catB l).size + (c.size + (catB r).size) := by rw [e1, ByteArray.size_append, ByteArray.size_append]
  have hd := decodeGo_tail (catB (l ++ c :: r)) (catB l).size (by omega)
  have e2 : (catB (l ++ c :: r)).extract (catB l).size (catB (l ++ c :: r)).size = c ++ catB r := by rw [e1]; exact extract_app _ _
  rw [e2] at hd
  have e3 : Lib.decodeGo (c ++ catB r) = Utf8.decode (c ++ catB r) 0 := by
    unfold Lib.decodeGo
    rw [if_neg (by rw [ByteArray.size_append]; omega)]
  rw [e3] at hd
  obtain ⟨k1, k2⟩ := decode_head c (catB r) h
  refine ⟨(Utf8.decode (c ++ catB r) 0).1, ?_, k2, rune_le _ _, by omega, ?_⟩
  · rw [← hd, ← k1]
  · rw [catB_append, ByteArray.size_append, catB_cons]
    show _ + (c ++ ByteArray.empty).size = _
    simp

theorem charsOf_app {c : ByteArray} (h : IsCh c) (r : ByteArray) : charsOf (c ++ r) = (charsOf r).map (c :: ·) := by
  have h0 := h.1
  have hw := headW_app h r
  rw [charsOf_step, if_neg (by rw [ByteArray.size_append]; omega), if_neg (by omega), hw, extract_app]
  have e : (c ++ r).extract 0 c.size = c := by
    rw [ByteArray.extract_append]
    simp
  rw [e]
theorem charsOf_of (l : List ByteArray) (h : ∀ c ∈ l, IsCh c) : charsOf (catB l) = some l := by
  induction l with
  | nil => rfl
  | cons c l ih => rw [catB_cons, charsOf_app (h c (by simp)), ih (fun d hd => h d (by simp [hd]))]; rfl
/-- One more character is gone by. -/
theorem cat_next (l : List ByteArray) (h : ∀ c ∈ l, IsCh c) (k : Nat) (hk : k < l.length) :
    ∃ R K : Nat, Utf8.decode (catB l) (catB (l.take k)).size = (R, K) ∧ R ≤ 2147483647 ∧ (catB (l.take k)).size < (catB l).size ∧ (catB (l.take (k + 1))).size = (catB (l.take k)).size + K ∧ (catB (l.take (k + 1))).size ≤ (catB l).size ∧ 0 < K := by
  have e : l = l.take k ++ l[k] :: l.drop (k + 1) := by rw [List.getElem_cons_drop, List.take_append_drop]
  have hc : IsCh l[k] := h _ (List.getElem_mem hk)
  obtain ⟨R, h1, _, h3, h4, h5⟩ := decode_place (l.take k) l[k] (l.drop (k + 1)) hc
  rw [← e] at h1 h4
  have e2 : l.take (k + 1) = l.take k ++ [l[k]] := by rw [List.take_succ_eq_append_getElem hk]
  refine ⟨R, l[k].size, h1, h3, h4, by rw [e2]; exact h5, ?_, Nat.pos_of_ne_zero hc.1⟩
  have e3 : catB l = catB (l.take (k + 1)) ++ catB (l.drop (k + 1)) := by rw [← catB_append, List.take_append_drop]
  rw [e3, ByteArray.size_append]; omega
theorem cat_le (l : List ByteArray) (k : Nat) : (catB (l.take k)).size ≤ (catB l).size := by
  have e3 : catB l = catB (l.take k) ++ catB (l.drop k) := by rw [← catB_append, List.take_append_drop]
  rw [e3, ByteArray.size_append]; omega
theorem cat_split (l : List ByteArray) (k : Nat) : (catB l).extract 0 (catB (l.take k)).size = catB (l.take k) ∧ (catB l).extract (catB (l.take k)).size (catB l).size = catB (l.drop k) := by
  have e3 : catB l = catB (l.take k) ++ catB (l.drop k) := by rw [← catB_append, List.take_append_drop]
  constructor
  · rw [e3, ByteArray.extract_append]; simp
  · conv => lhs; rw [e3]
    exact extract_app _ _
theorem isCh_le {c : ByteArray} (h : IsCh c) : c.size ≤ 4 := h.2 ▸ headW_le4 c
theorem cat_size (l : List ByteArray) (h : ∀ c ∈ l, IsCh c) : (catB l).size ≤ 4 * l.length := by
  induction l with
  | nil => show (0 : Nat) ≤ _; omega
  | cons c l ih =>
    have := ih (fun d hd => h d (by simp [hd]))
    have h2 := isCh_le (h c (by simp))
    rw [catB_cons, ByteArray.size_append, List.length_cons]; omega

end Go.Proofs.YtabogkonklplcaaGreatDoor

/- chars.Count, chars.Find. -/
namespace Go.Proofs.YtabogkonklplcaaGreatDoor
open Go.RowKit Go.Lib
set_option linter.unusedSimpArgs false
set_option linter.unusedVariables false

abbrev outV (n : Int) : Value := .iface 227 (.agg #[.int .i64 n])

def IterInv (l : List ByteArray) (w : World) (c : Value) (wr : World) : Prop :=
  ∃ k : Nat, k ≤ l.length ∧ c = .int .i64 (k : Int) ∧ wr.heap[w.heap.size]? = some (.stringIter (catB l) (catB (l.take k)).size) ∧ Below w.heap.size w wr

set_option maxRecDepth 20000 in
set_option maxHeartbeats 2000000 in
theorem count_any (l : List ByteArray) (hl : ∀ c ∈ l, IsCh c) (hn : l.length < lots) (w : World) :
    Calls Tryz.prog 105 #[.string (catB l)] w fun e w' => e = .returned (.int .i64 l.length) ∧ Below w.heap.size w w' := by
  have HL := hid (fun k hk => cat_next l hl k hk)
  unfold lots at hn
  clear hl
  go_enter Tryz.func105, Tryz.ntmps105
  go_wp2
  go_loopw [3] (fun c wr => IterInv l w c wr) (fun _ wr => (catB l).size - wr.iterPos w.heap.size)
  case atStart =>
    exact ⟨0, Nat.zero_le _, rfl, heap_alloc_new w _, (Below.refl _ w).alloc (Nat.le_refl _) _⟩
  case round =>
    obtain ⟨k, hk, rfl, hi, hb⟩ := hrel
    by_cases hlt : k < l.length
    · obtain ⟨R, K, h1, h2, h3, h4, h5, h6⟩ := HL.out k hlt
      have hnx := fun ty => Lib.run_next_any_at (P := Tryz.prog) _ w.heap.size (catB l) _ ty hi h3
      rw [h1] at hnx
      simp only at hnx
      have hi2 := iterAt_heap _ _ (catB l) _ ((catB (l.take k)).size + K) hi
      have hb2 := below_iterAt hb (Nat.le_refl _) (catB l) ((catB (l.take k)).size + K)
      clear h1 h2 HL
      generalize (catB (l.take k)).size = p at *
      go_wp2
      go_roundw
      case rel =>
        refine ⟨k + 1, hlt, by go_num, ?_, hb2⟩
        rw [h4]; exact hi2
      case measure =>
        rw [iterPos_of hi2, iterPos_of hi]
        omega
    · obtain rfl : k = l.length := by omega
      rw [List.take_length] at hi
      have hnx := fun ty => Lib.run_next_end_at (P := Tryz.prog) _ w.heap.size (catB l) _ ty hi (Nat.lt_irrefl _)
      go_wp2
      go_ret
      exact ⟨rfl, hb⟩

def FindPost (l : List ByteArray) (off : Int) (w : World) (e : Ending) (w' : World) : Prop :=
  Below w.heap.size w w' ∧ ((∃ o : Nat, off = o ∧ o ≤ l.length ∧ e = .returned (.tuple #[.int .i64 (catB (l.take o)).size, .nilIface])) ∨ ((off < 0 ∨ (l.length : Int) < off) ∧ e = .returned (.tuple #[.int .i64 0, outV off])))

set_option maxRecDepth 20000 in
set_option maxHeartbeats 2000000 in
theorem find_any (l : List ByteArray) (hl : ∀ c ∈ l, IsCh c) (hn : l.length < lots) (off : Int) (w : World) :
    Calls Tryz.prog 102 #[.string (catB l), .int .i64 off] w (FindPost l off w) := by
  have HL := hid (fun k hk => cat_next l hl k hk)
  unfold lots at hn
  clear hl
  go_enter Tryz.func102, Tryz.ntmps102
  go_wp2
  go_loopw [6] (fun c wr => IterInv l w c wr ∧ (off < 0 ∨ intOf c ≤ off)) (fun _ wr => (catB l).size - wr.iterPos w.heap.size)
  case atStart =>
    exact ⟨⟨0, Nat.zero_le _, rfl, heap_alloc_new w _, (Below.refl _ w).alloc (Nat.le_refl _) _⟩, by simp [intOf]; omega⟩
  case round =>
    obtain ⟨⟨k, hk, rfl, hi, hb⟩, ho⟩ := hrel
    simp only [intOf] at ho
    by_cases hlt : k < l.length
    · obtain ⟨R, K, h1, h2, h3, h4, h5, h6⟩ := HL.out k hlt
      have hnx := fun ty => Lib.run_next_any_at (P := Tryz.prog) _ w.heap.size (catB l) _ ty hi h3
      rw [h1] at hnx
      simp only at hnx
      have hi2 := iterAt_heap _ _ (catB l) _ ((catB (l.take k)).size + K) hi
      have hb2 := below_iterAt hb (Nat.le_refl _) (catB l) ((catB (l.take k)).size + K)
      clear h1 h2 HL
      obtain ⟨p, hp⟩ : ∃ p, (catB (l.take k)).size = p := ⟨_, rfl⟩
      rw [hp] at hnx hi2 hb2 hi h3 h4
      by_cases hoff : (k : Int) = off
      · have hoff' : ((k : Int) == off) = true := by simpa using hoff
        go_wp2
        go_ret2
        exact ⟨hb2, .inl ⟨k, hoff.symm, hk, by rw [hp]; rfl⟩⟩
      · have hoff' : ((k : Int) == off) = false := by simpa using hoff
        go_wp2
        go_roundw
        case rel =>
          refine ⟨⟨k + 1, hlt, by go_num, ?_, hb2⟩, ?_⟩
          · rw [h4]; exact hi2
          · have e : (IntKind.i64.wrap ((k : Int) + 1)) = (k : Int) + 1 := by rw [IntKind.wrap_i64]; omega
            simp [intOf, e]
            omega
        case measure =>
          rw [iterPos_of hi2, iterPos_of hi]
          omega
    · obtain rfl : k = l.length := by omega
      rw [List.take_length] at hi
      have hnx := fun ty => Lib.run_next_end_at (P := Tryz.prog) _ w.heap.size (catB l) _ ty hi (Nat.lt_irrefl _)
      by_cases hoff : (l.length : Int) = off
      · have hoff' : ((l.length : Int) == off) = true := by simpa using hoff
        go_wp2
        go_ret2
        exact ⟨hb, .inl ⟨l.length, hoff.symm, Nat.le_refl _, by rw [List.take_length]; rfl⟩⟩
      · have hoff' : ((l.length : Int) == off) = false := by simpa using hoff
        go_wp2
        go_ret2
        exact ⟨hb, .inr ⟨by omega, rfl⟩⟩

end Go.Proofs.YtabogkonklplcaaGreatDoor

/- errors.Is, as chars.Splice asks. -/
namespace Go.Proofs.YtabogkonklplcaaGreatDoor
open Go.RowKit Go.Extern.Stop Go.Stop Go.Extern
set_option linter.unusedSimpArgs false
set_option linter.unusedVariables false

theorem fa_cmpP (w : World) : Sem.run Tryz.prog (callFunc 240 #[.agg #[.pointer (some ⟨7, 30, none⟩)]]) w = .ok (Next.value (.bool true)) w := by kernel_rfl
theorem fa_noIsO (v : Value) (w : World) : (Instr.typeAssert (.iface 227 v) 29 151 true).run Tryz.prog w = .ok (.tuple #[.nilIface, .bool false]) w := run_typeAssert_lacksB Tryz.underlying151 (by kernel_rfl) (by kernel_rfl) v _ w
theorem fa_unwO' (v : Value) (w : World) : (Instr.typeAssert (.iface 227 v) 29 154 true).run Tryz.prog w = .ok (.tuple #[.iface 227 v, .bool true]) w := by kernel_rfl

theorem eq_nilP (y : Int) (w : World) : (binOp .eql 29 .nilIface (.iface 30 (.int .i64 y))).run Tryz.prog w = .ok (.bool false) w := by kernel_rfl
theorem eq_outP (n y : Int) (w : World) : (binOp .eql 29 (outV n) (.iface 30 (.int .i64 y))).run Tryz.prog w = .ok (.bool false) w := by kernel_rfl
theorem eq_PP (w : World) : (binOp .eql 29 (.iface 30 (.int .i64 3)) (.iface 30 (.int .i64 3))).run Tryz.prog w = .ok (.bool true) w := by kernel_rfl

set_option maxRecDepth 20000 in
theorem is_nil (y : Int) (w : World) : Calls Tryz.prog 22 #[.nilIface, .iface 30 (.int .i64 y)] w fun e w' => e = .returned (.bool false) ∧ w' = w := by
  have e0 := eq_nilP
  go_enter Tryz.func22, Tryz.ntmps22
  go_wp2
  go_ret
  exact ⟨rfl, rfl⟩

set_option maxRecDepth 20000 in
set_option maxHeartbeats 2000000 in
theorem is_out (n y : Int) (w : World) : Calls Tryz.prog 22 #[outV n, .iface 30 (.int .i64 3)] w fun e w' => e = .returned (.bool true) ∧ Below w.heap.size w w' := by
  have h10 := fx_h10
  have tO := fa_typeOfP
  have tC := fa_cmpP
  have ni := fa_noIsO
  have nu := fa_unwO'
  have e1 := eq_outP
  have e2 := eq_PP
  go_enter Tryz.func22, Tryz.ntmps22
  go_wp2
  refine wp_loop_rounds 2 ?_
  rw [rounds_succ]
  go_wp2
  rw [rounds_succ]
  go_wp2
  go_ret
  exact ⟨rfl, by go_grown⟩

end Go.Proofs.YtabogkonklplcaaGreatDoor

/- chars.Splice. -/
namespace Go.Proofs.YtabogkonklplcaaGreatDoor
open Go.RowKit Go.Lib
set_option linter.unusedSimpArgs false
set_option linter.unusedVariables false

theorem find_at (l : List ByteArray) (hl : ∀ c ∈ l, IsCh c) (hn : l.length < lots) (o : Nat) (ho : o ≤ l.length) (w : World) :
    Calls Tryz.prog 102 #[.string (catB l), .int .i64 (o : Int)] w fun e w' => e = .returned (.tuple #[.int .i64 (catB (l.take o)).size, .nilIface]) ∧ Below w.heap.size w w' := by
  refine (find_any l hl hn o w).mono ?_
  rintro e w' ⟨hb, ⟨o', h1, h2, rfl⟩ | ⟨h1, rfl⟩⟩
  · obtain rfl : o = o' := by omega
    exact ⟨rfl, hb⟩
  · omega
theorem find_out (l : List ByteArray) (hl : ∀ c ∈ l, IsCh c) (hn : l.length < lots) (off : Int) (ho : off < 0 ∨ (l.length : Int) < off) (w : World) :
    Calls Tryz.prog 102 #[.string (catB l), .int .i64 off] w fun e w' => e = .returned (.tuple #[.int .i64 0, outV off]) ∧ Below w.heap.size w w' := by
  refine (find_any l hl hn off w).mono ?_
  rintro e w' ⟨hb, ⟨o', h1, h2, rfl⟩ | ⟨h1, rfl⟩⟩
  · omega
  · exact ⟨rfl, hb⟩

set_option maxHeartbeats 1000000 in
theorem splice_off (l : List ByteArray) (hl : ∀ c ∈ l, IsCh c) (hn : l.length < lots) (off cnt : Int) (ho : off < 0 ∨ (l.length : Int) < off) (t : ByteArray) (w : World) :
    Calls Tryz.prog 113 #[.string (catB l), .int .i64 off, .int .i64 cnt, .string t, .int .i64 30] w fun e w' => e = .returned (.tuple #[.string ⟨#[]⟩, outV off]) ∧ Below w.heap.size w w' := by
  have C := hid (fun w1 => find_out l hl hn off ho w1)
  clear hl hn ho
  go_enter Tryz.func113, Tryz.ntmps113
  go_wp2_with (go_at_call 102; refine (C.out _).mono ?_; rintro e w1 ⟨rfl, hb⟩)
  go_ret2
  exact ⟨rfl, hb⟩

set_option maxHeartbeats 1000000 in
theorem splice_cnt (l : List ByteArray) (hl : ∀ c ∈ l, IsCh c) (hn : l.length < lots) (o : Nat) (ho : o ≤ l.length) (cnt : Int) (hc : cnt < 0) (t : ByteArray) (w : World) :
    Calls Tryz.prog 113 #[.string (catB l), .int .i64 (o : Int), .int .i64 cnt, .string t, .int .i64 30] w fun e w' => e = .returned (.tuple #[.string ⟨#[]⟩, outV cnt]) ∧ Below w.heap.size w w' := by
  have C := hid (fun w1 => find_at l hl hn o ho w1)
  have hcd : decide (cnt < 0) = true := decide_eq_true hc
  clear hl hn ho
  go_enter Tryz.func113, Tryz.ntmps113
  go_wp2_with (go_at_call 102; refine (C.out _).mono ?_; rintro e w1 ⟨rfl, hb⟩)
  go_ret2
  exact ⟨rfl, hb⟩

theorem join3 (a b c : ByteArray) (w : World) (bk : Nat) (hq : w.heap[bk]? = some (.cells #[.string a, .string b, .string c] 9 (0, 0))) (h : a.size + b.size + c.size ≤ 140737488355328) :
    Calls Tryz.prog 161 #[.slice (some ⟨bk, 0, none⟩) 3 3, .string ⟨#[]⟩] w fun e w' => e = .returned (.string (a ++ b ++ c)) ∧ Below w.heap.size w w' := by
  have e1 : (Lib.join ([a, b, c].map (·.data.toList)) (⟨#[]⟩ : ByteArray).data.toList) = (a ++ b ++ c).data.toList := by
    simp [Lib.join]
  have h1 := Tryz.strings_Join bk 0 3 [a, b, c] ⟨#[]⟩ w (fun j x hx => by
    have := cell_of_heap hq j
    rw [Nat.zero_add, this]
    match j, hx with
    | 0, hx => simp at hx; subst hx; rfl
    | 1, hx => simp at hx; subst hx; rfl
    | 2, hx => simp at hx; subst hx; rfl
    | k + 3, hx => simp at hx) (heap_lt hq) (by simp) (by simp) (by
      rw [e1]
      have e2 : (a ++ b ++ c).data.toList.length = (a ++ b ++ c).size := by rw [Array.length_toList]; rfl
      rw [e2, ByteArray.size_append, ByteArray.size_append]
      omega)
  rw [e1] at h1
  exact h1


set_option maxRecDepth 20000 in
set_option maxHeartbeats 2000000 in
theorem splice_no_small (l : List ByteArray) (hl : ∀ c ∈ l, IsCh c) (hn : l.length ≤ 30) (o c : Nat) (cnt : Int) (ho : o ≤ l.length) (hc0 : 0 ≤ cnt) (hcc : (c : Int) = cnt) (hcl : o + c ≤ l.length) (t : ByteArray) (ht : t.size < lots) (hno : ∀ l', ¬ TakesM (30 - o - (l.length - (o + c))) t l') (w : World) (hT : Tabs w) :
    Calls Tryz.prog 113 #[.string (catB l), .int .i64 (o : Int), .int .i64 cnt, .string t, .int .i64 30] w fun e w' => ∃ k : Int, e = .returned (.tuple #[.string ⟨#[]⟩, flawV k]) ∧ Below w.heap.size w w' := by
  have hoc : o + c ≤ l.length := by omega
  have hn' : l.length < lots := by unfold lots; omega
  have hnd : (l.drop o).length < lots := by simp; omega
  have hld : ∀ c ∈ l.drop o, IsCh c := fun c hc => hl c (List.mem_of_mem_drop hc)
  have hldd : ∀ d ∈ l.drop (o + c), IsCh d := fun d hd => hl d (List.mem_of_mem_drop hd)
  have C1 := hid (fun w1 => find_at l hl hn' o ho w1)
  have C2 := hid (fun w1 => find_at (l.drop o) hld hnd c (by simp; omega) w1)
  have C3 := hid (fun w1 => count_any (l.drop (o + c)) hldd (by simp; omega) w1)
  have CK := hid (fun w1 (hb : Below w.heap.size w w1) => check_any (30 - o - (l.length - (o + c))) (by omega) t w1 ht (hT.below hb))
  have hcd : decide (cnt < 0) = false := decide_eq_false (by omega)
  have s1 := cat_split l o
  have s2 := cat_split (l.drop o) c
  rw [List.drop_drop] at s2
  have z1 := cat_le l o
  have z2 := cat_le (l.drop o) c
  have z3 := cat_size l hl
  have z4 := cat_size (l.drop o) hld
  have z5 := cat_size (l.drop (o + c)) hldd
  have z6 : (catB (l.take o)).size ≤ 4 * 30 := by have := cat_size (l.take o) (fun c hc => hl c (List.mem_of_mem_take hc)); simp at this; omega
  have hdl : (l.drop (o + c)).length = l.length - (o + c) := by simp
  obtain ⟨p, hp⟩ : ∃ p, (catB (l.take o)).size = p := ⟨_, rfl⟩
  obtain ⟨q, hq⟩ : ∃ q, (catB ((l.drop o).take c)).size = q := ⟨_, rfl⟩
  rw [hp] at C1 s1 z1 z6
  rw [hq] at s2 z2
  rw [hq, hcc] at C2
  obtain ⟨A, hA⟩ : ∃ A, catB (l.take o) = A := ⟨_, rfl⟩
  obtain ⟨B, hB⟩ : ∃ B, catB (l.drop o) = B := ⟨_, rfl⟩
  obtain ⟨D, hD⟩ : ∃ D, catB (l.drop (o + c)) = D := ⟨_, rfl⟩
  obtain ⟨S, hS⟩ : ∃ S, catB l = S := ⟨_, rfl⟩
  have CAT : Hid (∀ lf, catB lf = t → A ++ t ++ D = catB (l.take o ++ lf ++ l.drop (o + c))) := fun lf hf => by rw [catB_append, catB_append, hf, hA, hD]
  rw [hA, hS] at s1
  rw [hB] at s1
  rw [hB, hD] at s2
  rw [hS] at C1 z1 z3 ⊢
  rw [hB] at C2 z2 z4
  rw [hD] at C3 z5
  have hA2 : A.size = p := by rw [← hA]; exact hp
  have s11 := s1.1
  have s12 := s1.2
  have s22 := s2.2
  have pI : (p : Int) ≤ S.size := by omega
  have qI : (q : Int) ≤ B.size := by omega
  have oI : (o : Int) ≤ 30 := by omega
  have dI : ((l.length - (o + c) : Nat) : Int) ≤ 30 := by omega
  have hm : (30 : Int) - (o : Int) - ((l.length - (o + c) : Nat) : Int) = ((30 - o - (l.length - (o + c)) : Nat) : Int) := by omega
  have htz : t.size ≤ 2000000 := by unfold lots at ht; omega
  clear hl hld hldd hT ht hp hq hA hB hD hS s1 s2 hn' hnd
  go_enter Tryz.func113, Tryz.ntmps113
  go_wp2_with (go_at_call 102; refine (C1.out _).mono ?_; clear C1; rintro e w1 ⟨rfl, hb0⟩)
  go_region
  have hb1 := hb0.drew
  clear hb0
  go_wp2_with (first
    | (go_at_call 102; refine (C2.out _).mono ?_; clear C2; rintro e w2 ⟨rfl, hb2⟩
       have HB2 := hid (hb1.trans (hb2.mono hb1.size)))
    | (go_at_call 22; refine (is_nil _ _).mono ?_; rintro e w3 ⟨rfl, hw3⟩
       replace hw3 := hw3.symm
       subst hw3
       have HB3 := hid HB2.out)
    | (go_at_call 105; refine (C3.out _).mono ?_; rintro e w4 ⟨rfl, hb4⟩
       have HB4 := hid (HB3.out.trans (hb4.mono HB3.out.size)))
    | (go_at_call 144
       refine (CK.out _ HB4.out).mono ?_
       rintro e w5 ⟨hb5, ⟨l', hl', _⟩ | ⟨_, kk, rfl⟩⟩; (first | exact absurd hl' (hno l') | skip)
       have HB5 := hid (HB4.out.trans (hb5.mono HB4.out.size))))
  go_ret2
  exact ⟨kk, rfl, HB5.out⟩

set_option maxRecDepth 20000 in
set_option maxHeartbeats 2000000 in
theorem splice_yes_small (l : List ByteArray) (hl : ∀ c ∈ l, IsCh c) (hn : l.length ≤ 30) (o c : Nat) (cnt : Int) (ho : o ≤ l.length) (hc0 : 0 ≤ cnt) (hcc : (c : Int) = cnt) (hcl : o + c ≤ l.length) (t : ByteArray) (ht : t.size < lots) (lf : List ByteArray) (hyes : TakesM (30 - o - (l.length - (o + c))) t lf) (w : World) (hT : Tabs w) :
    Calls Tryz.prog 113 #[.string (catB l), .int .i64 (o : Int), .int .i64 cnt, .string t, .int .i64 30] w fun e w' => e = .returned (.tuple #[.string (catB (l.take o ++ lf ++ l.drop (o + c))), .nilIface]) ∧ Below w.heap.size w w' := by
  have hoc : o + c ≤ l.length := by omega
  have hn' : l.length < lots := by unfold lots; omega
  have hnd : (l.drop o).length < lots := by simp; omega
  have hld : ∀ c ∈ l.drop o, IsCh c := fun c hc => hl c (List.mem_of_mem_drop hc)
  have hldd : ∀ d ∈ l.drop (o + c), IsCh d := fun d hd => hl d (List.mem_of_mem_drop hd)
  have C1 := hid (fun w1 => find_at l hl hn' o ho w1)
  have C2 := hid (fun w1 => find_at (l.drop o) hld hnd c (by simp; omega) w1)
  have C3 := hid (fun w1 => count_any (l.drop (o + c)) hldd (by simp; omega) w1)
  have CK := hid (fun w1 (hb : Below w.heap.size w w1) => check_any (30 - o - (l.length - (o + c))) (by omega) t w1 ht (hT.below hb))
  have hcd : decide (cnt < 0) = false := decide_eq_false (by omega)
  have s1 := cat_split l o
  have s2 := cat_split (l.drop o) c
  rw [List.drop_drop] at s2
  have z1 := cat_le l o
  have z2 := cat_le (l.drop o) c
  have z3 := cat_size l hl
  have z4 := cat_size (l.drop o) hld
  have z5 := cat_size (l.drop (o + c)) hldd
  have z6 : (catB (l.take o)).size ≤ 4 * 30 := by have := cat_size (l.take o) (fun c hc => hl c (List.mem_of_mem_take hc)); simp at this; omega
  have hdl : (l.drop (o + c)).length = l.length - (o + c) := by simp
  obtain ⟨p, hp⟩ : ∃ p, (catB (l.take o)).size = p := ⟨_, rfl⟩
  obtain ⟨q, hq⟩ : ∃ q, (catB ((l.drop o).take c)).size = q := ⟨_, rfl⟩
  rw [hp] at C1 s1 z1 z6
  rw [hq] at s2 z2
  rw [hq, hcc] at C2
  obtain ⟨A, hA⟩ : ∃ A, catB (l.take o) = A := ⟨_, rfl⟩
  obtain ⟨B, hB⟩ : ∃ B, catB (l.drop o) = B := ⟨_, rfl⟩
  obtain ⟨D, hD⟩ : ∃ D, catB (l.drop (o + c)) = D := ⟨_, rfl⟩
  obtain ⟨S, hS⟩ : ∃ S, catB l = S := ⟨_, rfl⟩
  have CAT : Hid (∀ lf, catB lf = t → A ++ t ++ D = catB (l.take o ++ lf ++ l.drop (o + c))) := fun lf hf => by rw [catB_append, catB_append, hf, hA, hD]
  rw [hA, hS] at s1
  rw [hB] at s1
  rw [hB, hD] at s2
  rw [hS] at C1 z1 z3 ⊢
  rw [hB] at C2 z2 z4
  rw [hD] at C3 z5
  have hA2 : A.size = p := by rw [← hA]; exact hp
  have s11 := s1.1
  have s12 := s1.2
  have s22 := s2.2
  have pI : (p : Int) ≤ S.size := by omega
  have qI : (q : Int) ≤ B.size := by omega
  have oI : (o : Int) ≤ 30 := by omega
  have dI : ((l.length - (o + c) : Nat) : Int) ≤ 30 := by omega
  have hm : (30 : Int) - (o : Int) - ((l.length - (o + c) : Nat) : Int) = ((30 - o - (l.length - (o + c)) : Nat) : Int) := by omega
  have htz : t.size ≤ 2000000 := by unfold lots at ht; omega
  clear hl hld hldd hT ht hp hq hA hB hD hS s1 s2 hn' hnd
  go_enter Tryz.func113, Tryz.ntmps113
  go_wp2_with (go_at_call 102; refine (C1.out _).mono ?_; clear C1; rintro e w1 ⟨rfl, hb0⟩)
  go_region
  have hb1 := hb0.drew
  clear hb0
  go_wp2_with (first
    | (go_at_call 102; refine (C2.out _).mono ?_; clear C2; rintro e w2 ⟨rfl, hb2⟩
       have HB2 := hid (hb1.trans (hb2.mono hb1.size)))
    | (go_at_call 22; refine (is_nil _ _).mono ?_; rintro e w3 ⟨rfl, hw3⟩
       replace hw3 := hw3.symm
       subst hw3
       have HB3 := hid HB2.out)
    | (go_at_call 105; refine (C3.out _).mono ?_; rintro e w4 ⟨rfl, hb4⟩
       have HB4 := hid (HB3.out.trans (hb4.mono HB3.out.size)))
    | (go_at_call 144
       refine (CK.out _ HB4.out).mono ?_
       rintro e w5 ⟨hb5, ⟨l', hl', rfl⟩ | ⟨hn5, _⟩⟩ <;> (first | exact absurd hyes (hn5 lf) | skip)
       have HB5 := hid (HB4.out.trans (hb5.mono HB4.out.size)))
    | (go_at_call 161
       refine (join3 A t D _ w5.heap.size (heap_alloc_new w5 _) (by omega)).mono ?_
       rintro e w6 ⟨rfl, hb6⟩))
  go_ret2
  have hf : catB lf = t := charsOf_cat t.size t lf (Nat.le_refl _) hyes.1
  exact ⟨by rw [← CAT.out lf hf]; rfl, (HB5.out.alloc HB5.out.size _).trans (hb6.mono (by have := HB5.out.size; simp; omega))⟩

end Go.Proofs.YtabogkonklplcaaGreatDoor

/- chars.Splice, where fewer characters are there than are to go. -/
namespace Go.Proofs.YtabogkonklplcaaGreatDoor
open Go.RowKit Go.Lib
set_option linter.unusedSimpArgs false
set_option linter.unusedVariables false

set_option maxRecDepth 20000 in
set_option maxHeartbeats 2000000 in
theorem splice_no_big (l : List ByteArray) (hl : ∀ c ∈ l, IsCh c) (hn : l.length ≤ 30) (o c : Nat) (cnt : Int) (ho : o ≤ l.length) (hc0 : 0 ≤ cnt) (hcc : (c : Int) = (l.length : Int) - o) (hcl : (l.length : Int) - o < cnt) (t : ByteArray) (ht : t.size < lots) (hno : ∀ l', ¬ TakesM (30 - o - (l.length - (o + c))) t l') (w : World) (hT : Tabs w) :
    Calls Tryz.prog 113 #[.string (catB l), .int .i64 (o : Int), .int .i64 cnt, .string t, .int .i64 30] w fun e w' => ∃ k : Int, e = .returned (.tuple #[.string ⟨#[]⟩, flawV k]) ∧ Below w.heap.size w w' := by
  have hoc : o + c ≤ l.length := by omega
  have hn' : l.length < lots := by unfold lots; omega
  have hnd : (l.drop o).length < lots := by simp; omega
  have hld : ∀ c ∈ l.drop o, IsCh c := fun c hc => hl c (List.mem_of_mem_drop hc)
  have hldd : ∀ d ∈ l.drop (o + c), IsCh d := fun d hd => hl d (List.mem_of_mem_drop hd)
  have C1 := hid (fun w1 => find_at l hl hn' o ho w1)
  have C2 := hid (fun w1 => find_out (l.drop o) hld hnd cnt (.inr (by simp; omega)) w1)
  have C3 := hid (fun w1 => count_any (l.drop (o + c)) hldd (by simp; omega) w1)
  have CK := hid (fun w1 (hb : Below w.heap.size w w1) => check_any (30 - o - (l.length - (o + c))) (by omega) t w1 ht (hT.below hb))
  have hcd : decide (cnt < 0) = false := decide_eq_false (by omega)
  have s1 := cat_split l o
  have s2 := cat_split (l.drop o) c
  rw [List.drop_drop] at s2
  have z1 := cat_le l o
  have z2 := cat_le (l.drop o) c
  have z3 := cat_size l hl
  have z4 := cat_size (l.drop o) hld
  have z5 := cat_size (l.drop (o + c)) hldd
  have z6 : (catB (l.take o)).size ≤ 4 * 30 := by have := cat_size (l.take o) (fun c hc => hl c (List.mem_of_mem_take hc)); simp at this; omega
  have hdl : (l.drop (o + c)).length = l.length - (o + c) := by simp
  obtain ⟨p, hp⟩ : ∃ p, (catB (l.take o)).size = p := ⟨_, rfl⟩
  obtain ⟨q, hq⟩ : ∃ q, (catB ((l.drop o).take c)).size = q := ⟨_, rfl⟩
  rw [hp] at C1 s1 z1 z6
  rw [hq] at s2 z2
  have hqB : q = (catB (l.drop o)).size := by rw [← hq, List.take_of_length_le (by simp; omega)]
  obtain ⟨A, hA⟩ : ∃ A, catB (l.take o) = A := ⟨_, rfl⟩
  obtain ⟨B, hB⟩ : ∃ B, catB (l.drop o) = B := ⟨_, rfl⟩
  obtain ⟨D, hD⟩ : ∃ D, catB (l.drop (o + c)) = D := ⟨_, rfl⟩
  obtain ⟨S, hS⟩ : ∃ S, catB l = S := ⟨_, rfl⟩
  have CAT : Hid (∀ lf, catB lf = t → A ++ t ++ D = catB (l.take o ++ lf ++ l.drop (o + c))) := fun lf hf => by rw [catB_append, catB_append, hf, hA, hD]
  rw [hA, hS] at s1
  rw [hB] at s1
  rw [hB, hD] at s2
  rw [hS] at C1 z1 z3 ⊢
  rw [hB] at C2 z2 z4
  rw [hD] at C3 z5
  have hA2 : A.size = p := by rw [← hA]; exact hp
  have s11 := s1.1
  have s12 := s1.2
  have s22 := s2.2
  rw [hB] at hqB
  rw [hqB] at s22
  have hDe : ByteArray.empty = D := by rw [← s22]; simp
  subst hDe
  have pI : (p : Int) ≤ S.size := by omega
  have qI : (q : Int) ≤ B.size := by omega
  have oI : (o : Int) ≤ 30 := by omega
  have dI : ((l.length - (o + c) : Nat) : Int) ≤ 30 := by omega
  have hm : (30 : Int) - (o : Int) - ((l.length - (o + c) : Nat) : Int) = ((30 - o - (l.length - (o + c)) : Nat) : Int) := by omega
  have htz : t.size ≤ 2000000 := by unfold lots at ht; omega
  clear hl hld hldd hT ht hp hq hA hB hD hS s1 s2 hn' hnd s22
  go_enter Tryz.func113, Tryz.ntmps113
  go_wp2_with (go_at_call 102; refine (C1.out _).mono ?_; clear C1; rintro e w1 ⟨rfl, hb0⟩)
  go_region
  have hb1 := hb0.drew
  clear hb0
  go_wp2_with (first
    | (go_at_call 102; refine (C2.out _).mono ?_; clear C2; rintro e w2 ⟨rfl, hb2⟩
       have HB2 := hid (hb1.trans (hb2.mono hb1.size)))
    | (go_at_call 22; refine (is_out _ 0 _).mono ?_; rintro e w3 ⟨rfl, hb3⟩
       have HB3 := hid (HB2.out.trans (hb3.mono HB2.out.size)))
    | (go_at_call 105; refine (C3.out _).mono ?_; rintro e w4 ⟨rfl, hb4⟩
       have HB4 := hid (HB3.out.trans (hb4.mono HB3.out.size)))
    | (go_at_call 144
       refine (CK.out _ HB4.out).mono ?_
       rintro e w5 ⟨hb5, ⟨l', hl', _⟩ | ⟨_, kk, rfl⟩⟩; (first | exact absurd hl' (hno l') | skip)
       have HB5 := hid (HB4.out.trans (hb5.mono HB4.out.size))))
  go_ret2
  exact ⟨kk, rfl, HB5.out⟩

set_option maxRecDepth 20000 in
set_option maxHeartbeats 2000000 in
theorem splice_yes_big (l : List ByteArray) (hl : ∀ c ∈ l, IsCh c) (hn : l.length ≤ 30) (o c : Nat) (cnt : Int) (ho : o ≤ l.length) (hc0 : 0 ≤ cnt) (hcc : (c : Int) = (l.length : Int) - o) (hcl : (l.length : Int) - o < cnt) (t : ByteArray) (ht : t.size < lots) (lf : List ByteArray) (hyes : TakesM (30 - o - (l.length - (o + c))) t lf) (w : World) (hT : Tabs w) :
    Calls Tryz.prog 113 #[.string (catB l), .int .i64 (o : Int), .int .i64 cnt, .string t, .int .i64 30] w fun e w' => e = .returned (.tuple #[.string (catB (l.take o ++ lf ++ l.drop (o + c))), .nilIface]) ∧ Below w.heap.size w w' := by
  have hoc : o + c ≤ l.length := by omega
  have hn' : l.length < lots := by unfold lots; omega
  have hnd : (l.drop o).length < lots := by simp; omega
  have hld : ∀ c ∈ l.drop o, IsCh c := fun c hc => hl c (List.mem_of_mem_drop hc)
  have hldd : ∀ d ∈ l.drop (o + c), IsCh d := fun d hd => hl d (List.mem_of_mem_drop hd)
  have C1 := hid (fun w1 => find_at l hl hn' o ho w1)
  have C2 := hid (fun w1 => find_out (l.drop o) hld hnd cnt (.inr (by simp; omega)) w1)
  have C3 := hid (fun w1 => count_any (l.drop (o + c)) hldd (by simp; omega) w1)
  have CK := hid (fun w1 (hb : Below w.heap.size w w1) => check_any (30 - o - (l.length - (o + c))) (by omega) t w1 ht (hT.below hb))
  have hcd : decide (cnt < 0) = false := decide_eq_false (by omega)
  have s1 := cat_split l o
  have s2 := cat_split (l.drop o) c
  rw [List.drop_drop] at s2
  have z1 := cat_le l o
  have z2 := cat_le (l.drop o) c
  have z3 := cat_size l hl
  have z4 := cat_size (l.drop o) hld
  have z5 := cat_size (l.drop (o + c)) hldd
  have z6 : (catB (l.take o)).size ≤ 4 * 30 := by have := cat_size (l.take o) (fun c hc => hl c (List.mem_of_mem_take hc)); simp at this; omega
  have hdl : (l.drop (o + c)).length = l.length - (o + c) := by simp
  obtain ⟨p, hp⟩ : ∃ p, (catB (l.take o)).size = p := ⟨_, rfl⟩
  obtain ⟨q, hq⟩ : ∃ q, (catB ((l.drop o).take c)).size = q := ⟨_, rfl⟩
  rw [hp] at C1 s1 z1 z6
  rw [hq] at s2 z2
  have hqB : q = (catB (l.drop o)).size := by rw [← hq, List.take_of_length_le (by simp; omega)]
  obtain ⟨A, hA⟩ : ∃ A, catB (l.take o) = A := ⟨_, rfl⟩
  obtain ⟨B, hB⟩ : ∃ B, catB (l.drop o) = B := ⟨_, rfl⟩
  obtain ⟨D, hD⟩ : ∃ D, catB (l.drop (o + c)) = D := ⟨_, rfl⟩
  obtain ⟨S, hS⟩ : ∃ S, catB l = S := ⟨_, rfl⟩
  have CAT : Hid (∀ lf, catB lf = t → A ++ t ++ D = catB (l.take o ++ lf ++ l.drop (o + c))) := fun lf hf => by rw [catB_append, catB_append, hf, hA, hD]
  rw [hA, hS] at s1
  rw [hB] at s1
  rw [hB, hD] at s2
  rw [hS] at C1 z1 z3 ⊢
  rw [hB] at C2 z2 z4
  rw [hD] at C3 z5
  have hA2 : A.size = p := by rw [← hA]; exact hp
  have s11 := s1.1
  have s12 := s1.2
  have s22 := s2.2
  rw [hB] at hqB
  rw [hqB] at s22
  have hDe : ByteArray.empty = D := by rw [← s22]; simp
  subst hDe
  have pI : (p : Int) ≤ S.size := by omega
  have qI : (q : Int) ≤ B.size := by omega
  have oI : (o : Int) ≤ 30 := by omega
  have dI : ((l.length - (o + c) : Nat) : Int) ≤ 30 := by omega
  have hm : (30 : Int) - (o : Int) - ((l.length - (o + c) : Nat) : Int) = ((30 - o - (l.length - (o + c)) : Nat) : Int) := by omega
  have htz : t.size ≤ 2000000 := by unfold lots at ht; omega
  clear hl hld hldd hT ht hp hq hA hB hD hS s1 s2 hn' hnd s22
  go_enter Tryz.func113, Tryz.ntmps113
  go_wp2_with (go_at_call 102; refine (C1.out _).mono ?_; clear C1; rintro e w1 ⟨rfl, hb0⟩)
  go_region
  have hb1 := hb0.drew
  clear hb0
  go_wp2_with (first
    | (go_at_call 102; refine (C2.out _).mono ?_; clear C2; rintro e w2 ⟨rfl, hb2⟩
       have HB2 := hid (hb1.trans (hb2.mono hb1.size)))
    | (go_at_call 22; refine (is_out _ 0 _).mono ?_; rintro e w3 ⟨rfl, hb3⟩
       have HB3 := hid (HB2.out.trans (hb3.mono HB2.out.size)))
    | (go_at_call 105; refine (C3.out _).mono ?_; rintro e w4 ⟨rfl, hb4⟩
       have HB4 := hid (HB3.out.trans (hb4.mono HB3.out.size)))
    | (go_at_call 144
       refine (CK.out _ HB4.out).mono ?_
       rintro e w5 ⟨hb5, ⟨l', hl', rfl⟩ | ⟨hn5, _⟩⟩ <;> (first | exact absurd hyes (hn5 lf) | skip)
       have HB5 := hid (HB4.out.trans (hb5.mono HB4.out.size)))
    | (go_at_call 161
       refine (join3 A t ByteArray.empty _ w5.heap.size (heap_alloc_new w5 _) (by omega)).mono ?_
       rintro e w6 ⟨rfl, hb6⟩))
  go_ret2
  have hf : catB lf = t := charsOf_cat t.size t lf (Nat.le_refl _) hyes.1
  exact ⟨by rw [← CAT.out lf hf, ByteArray.append_empty]; rfl, (HB5.out.alloc HB5.out.size _).trans (hb6.mono (by have := HB5.out.size; simp; omega))⟩

end Go.Proofs.YtabogkonklplcaaGreatDoor

/- slices.Insert of one number into a node's list of children. -/
namespace Go.Proofs.YtabogkonklplcaaGreatDoor
open Go.RowKit Go.Shelf
set_option linter.unusedSimpArgs false
set_option linter.unusedVariables false

def insRen : Go.Shelf.Ren := ⟨fun | 21 => 156 | 27 => 182 | 28 => 183 | 35 => 194 | 39 => 181 | n => n, fun | 22 => 24 | 3 => 3 | 4 => 4 | 0 => 0 | n => n, fun | n => n⟩
theorem insLay : Go.Proofs.Lays2.n21 Tryz.prog insRen := {
  mixed := by kernel_rfl
  f21 := Tryz.func156.trans (congrArg some (by kernel_rfl))
  f27 := Tryz.func182.trans (congrArg some (by kernel_rfl))
  f28 := Tryz.func183.trans (congrArg some (by kernel_rfl))
  f35 := Tryz.func194.trans (congrArg some (by kernel_rfl))
  f39 := Tryz.func181.trans (congrArg some (by kernel_rfl))
  t0 := Tryz.underlying0
  a0 := Tryz.isAgg0
  z0 := Tryz.sizeOf0
  v0 := Tryz.zeroValue0
  t3 := Tryz.underlying3
  a3 := Tryz.isAgg3
  z3 := Tryz.sizeOf3
  v3 := Tryz.zeroValue3
  t4 := Tryz.underlying4
  a4 := Tryz.isAgg4
  z4 := Tryz.sizeOf4
  v4 := Tryz.zeroValue4
  t22 := Tryz.underlying24
  a22 := Tryz.isAgg24
  z22 := Tryz.sizeOf24
  v22 := Tryz.zeroValue24
  i3 := by kernel_rfl }

theorem zeroCells_size (m : Nat) : (Builtin.zeroCells (Value.int .i64 0).cells m).size = m := by simp [Builtin.zeroCells, Value.cells]

def putAt (l : List Nat) (k j : Nat) : List Nat := l.take k ++ j :: l.drop k
theorem putAt_length (l : List Nat) (k j : Nat) (h : k ≤ l.length) : (putAt l k j).length = l.length + 1 := by simp [putAt]; omega
theorem putAt_vals (l : List Nat) (k j : Nat) : intsV (putAt l k j) = (intsV l).take k ++ Value.int .i64 (j : Int) :: (intsV l).drop k := by simp [intsV, putAt, List.map_take, List.map_drop]

/-- What Insert must leave. -/
def InsPost (v : Value) (ks : List Nat) (k j : Nat) (w : World) (e : Ending) (w' : World) : Prop :=
  ∃ g c, e = .returned (.slice (some ⟨g, 0, none⟩) (ks.length + 1) c) ∧ w'.ownsRow 0 3 1 (.slice (some ⟨g, 0, none⟩) (ks.length + 1) c) (ks.length + 1) (intsV (putAt ks k j)) ∧ Keeps (fun b => v.ownBlock = some b) w w' ∧ (v.ownBlock = some g ∨ w.heap.size ≤ g)

theorem intsV_cell1 (l : List Nat) : ∀ v ∈ intsV l, v.oneCell' = true := by
  intro v hv
  simp only [intsV, List.mem_map] at hv
  obtain ⟨a, _, rfl⟩ := hv
  rfl

section
variable {w : World} {vb : Nat}

theorem one_src {j : Nat} (hvb : w.heap[vb]? = some (.cells #[.int .i64 (j : Int)] 3 (0, 0))) : ∀ i v, [Value.int .i64 (j : Int)][i]? = some v → w.cell? ⟨vb, 0 + i, none⟩ = some v := by
  intro i v h
  cases i with
  | zero => simp at h; subst h; exact cell_of_heap hvb 0
  | succ i => simp at h

theorem ins_end_grow (base : Option Addr) (n c j : Nat) (ks : List Nat) (hvb : w.heap[vb]? = some (.cells #[.int .i64 (j : Int)] 3 (0, 0))) (hn : ks.length = n) (hnc : n ≤ c) (hroom : c < n + 1) (hbig : n < lots) (hnil : base = none → n = 0)
    (hcs : ∀ a, base = some a → ∀ i v, (intsV ks)[i]? = some v → w.cell? (a.add i) = some v) :
    Calls Tryz.prog 156 #[.slice base n c, .int .i64 (n : Int), .slice (some ⟨vb, 0, none⟩) 1 1] w (InsPost (.slice base n c) ks n j w) := by
  have C := Any2.slices_Insert_int_end_grow insLay base n c vb 0 1 1 (intsV ks) [.int .i64 (j : Int)] w (by decide) hnc hroom (by unfold lots at hbig; omega) (by simp [hn]) rfl hnil hcs (one_src hvb) (by simp [Value.oneCell'])
  refine C.mono ?_
  rintro e w' ⟨rfl, rfl⟩
  have hG := grownCap_ge w (n + 1) c (insRen.t 3)
  have hG2 := grownCap_le_maxLen w (n + 1) c (insRen.t 3) (by unfold maxLen; unfold lots at hbig; omega)
  generalize grownCap w (n + 1) c (insRen.t 3) = G at hG hG2
  refine ⟨w.heap.size, G, by rw [hn], ?_, ((Keeps.refl _ w).drew).alloc _, .inr (Nat.le_refl _)⟩
  refine ⟨by rw [intsV_length, putAt_length _ _ _ (by omega)]; omega, .inr ⟨w.heap.size, G, _, rfl, Nat.zero_le _, heap_alloc_new w.drew _, by omega, hG2, ?_, ?_⟩⟩
  · simp [zeroCells_size, hn]; omega
  · have : intsV (putAt ks n j) = intsV ks ++ [.int .i64 (j : Int)] := by
      rw [putAt_vals, List.take_of_length_le (by simp [hn]), List.drop_of_length_le (by simp [hn])]
    rw [this]
    simp only [Array.toList_append, List.toList_toArray, Nat.mul_one]
    rw [List.take_append_of_le_length (by simp), List.take_of_length_le (by simp)]

theorem ins_end_room (g n c j : Nat) (ks : List Nat) (cur : Array Value) (hvb : w.heap[vb]? = some (.cells #[.int .i64 (j : Int)] 3 (0, 0))) (hn : ks.length = n) (hroom : n + 1 ≤ c) (hc : c ≤ maxLen) (hcur : w.heap[g]? = some (.cells cur 3 (0, 0))) (hsz : cur.size = c) (ht : cur.toList.take n = intsV ks) :
    Calls Tryz.prog 156 #[.slice (some ⟨g, 0, none⟩) n c, .int .i64 (n : Int), .slice (some ⟨vb, 0, none⟩) 1 1] w (InsPost (.slice (some ⟨g, 0, none⟩) n c) ks n j w) := by
  have C := Any2.slices_Insert_int_end_room insLay g 0 n c vb 0 1 1 [.int .i64 (j : Int)] w (by decide) hroom (by unfold maxLen at hc; omega) rfl
    (fun i hi => by rw [cell_of_heap hcur, Array.getElem?_eq_getElem (by omega)]; rfl) (fun i hi => frozen_of_heap hcur _) (one_src hvb) (by simp [Value.oneCell'])
  refine C.mono ?_
  rintro e w' ⟨rfl, rfl⟩
  obtain ⟨cur', h1, h2, h3⟩ := heap_setCells g 3 [.int .i64 (j : Int)] n w cur hcur (by simp; omega)
  rw [Nat.zero_add]
  refine ⟨g, c, by rw [hn], ?_, keeps_setCells g _ _ _ (Keeps.refl _ w) rfl, .inl rfl⟩
  refine ⟨by rw [intsV_length, putAt_length _ _ _ (by omega)]; omega, .inr ⟨g, c, cur', rfl, Nat.zero_le _, h1, by omega, hc, by omega, ?_⟩⟩
  have : intsV (putAt ks n j) = intsV ks ++ [.int .i64 (j : Int)] := by
    rw [putAt_vals, List.take_of_length_le (by simp [hn]), List.drop_of_length_le (by simp [hn])]
  rw [this, h3, ht, Nat.mul_one, hn, List.take_append_of_le_length (by simp [hn]), List.take_of_length_le (by simp [hn])]

theorem ins_shift (g n c k j : Nat) (ks : List Nat) (cur : Array Value) (hvb : w.heap[vb]? = some (.cells #[.int .i64 (j : Int)] 3 (0, 0))) (hne : vb ≠ g) (hn : ks.length = n) (hk : k < n) (hroom : n + 1 ≤ c) (hc : c ≤ maxLen) (hcur : w.heap[g]? = some (.cells cur 3 (0, 0))) (hsz : cur.size = c) (ht : cur.toList.take n = intsV ks) :
    Calls Tryz.prog 156 #[.slice (some ⟨g, 0, none⟩) n c, .int .i64 (k : Int), .slice (some ⟨vb, 0, none⟩) 1 1] w (InsPost (.slice (some ⟨g, 0, none⟩) n c) ks k j w) := by
  have hcs : ∀ i v, (intsV ks)[i]? = some v → w.cell? ⟨g, 0 + i, none⟩ = some v := by
    intro i v hi
    have hil := (List.getElem?_eq_some_iff.1 hi).1
    simp [hn] at hil
    rw [← ht, List.getElem?_take_of_lt hil] at hi
    rw [cell_of_heap hcur, Nat.zero_add, ← Array.getElem?_toList]
    exact hi
  have C := Any2.slices_Insert_int_shift insLay g 0 n c k vb 0 1 1 (intsV ks) [.int .i64 (j : Int)] w hk (by decide) hroom (by unfold maxLen at hc; omega) hne (by simp [hn]) rfl hcs
    (fun i hi => by rw [cell_of_heap hcur, Array.getElem?_eq_getElem (by omega)]; rfl) (fun i hi => frozen_of_heap hcur _) (one_src hvb) (intsV_cell1 ks) (by simp [Value.oneCell'])
    3 3 1 c (by simp [World.shape?, hvb]) (by simp [World.shape?, hcur, hsz]) (by omega) (frozen_of_heap hvb _) (frozen_of_heap hvb _)
  refine C.mono ?_
  rintro e w' ⟨rfl, rfl⟩
  have hdl : ((intsV ks).drop k).length = n - k := by simp [hn]
  obtain ⟨cur1, h1, h2, h3⟩ := heap_setCells g 3 ((intsV ks).drop k) (k + 1) w.drew cur hcur (by omega)
  obtain ⟨cur2, g1, g2, g3⟩ := heap_setCells g 3 [.int .i64 (j : Int)] k _ cur1 h1 (by simp; omega)
  rw [Nat.zero_add, Nat.zero_add]
  refine ⟨g, c, by rw [hn], ?_, keeps_setCells g _ _ _ (keeps_setCells g _ _ _ ((Keeps.refl _ w).drew) rfl) rfl, .inl rfl⟩
  refine ⟨by rw [intsV_length, putAt_length _ _ _ (by omega)]; omega, .inr ⟨g, c, cur2, rfl, Nat.zero_le _, g1, by omega, hc, by omega, ?_⟩⟩
  have e1 : cur.toList.take k = (intsV ks).take k := by rw [← ht, List.take_take, Nat.min_eq_left (by omega)]
  have hcl : cur.toList.length = c := by simp [hsz]
  have e2 : cur1.toList.take k = (intsV ks).take k := by
    rw [h3, List.append_assoc, List.take_append_of_le_length (by simp; omega), List.take_take, Nat.min_eq_left (by omega), e1]
  have e3 : cur1.toList.drop (k + 1) = (intsV ks).drop k ++ cur.toList.drop (k + 1 + ((intsV ks).drop k).length) := by
    rw [h3, List.append_assoc, List.drop_left' (by rw [List.length_take]; omega)]
  rw [g3, putAt_vals, e2, Nat.mul_one, hn]
  simp only [List.length_singleton]
  rw [e3, List.append_assoc, List.singleton_append]
  have hl : ((intsV ks).take k ++ Value.int .i64 (j : Int) :: (intsV ks).drop k).length = n + 1 := by simp [hn]; omega
  rw [← List.cons_append, ← List.append_assoc, ← hl, List.take_append_of_le_length (Nat.le_refl _), List.take_of_length_le (Nat.le_refl _)]

theorem ins_grow (g n c k j : Nat) (ks : List Nat) (cur : Array Value) (hvb : w.heap[vb]? = some (.cells #[.int .i64 (j : Int)] 3 (0, 0))) (hn : ks.length = n) (hk : k < n) (hnc : n ≤ c) (hroom : c < n + 1) (hbig : n < lots) (hcur : w.heap[g]? = some (.cells cur 3 (0, 0))) (ht : cur.toList.take n = intsV ks) :
    Calls Tryz.prog 156 #[.slice (some ⟨g, 0, none⟩) n c, .int .i64 (k : Int), .slice (some ⟨vb, 0, none⟩) 1 1] w (InsPost (.slice (some ⟨g, 0, none⟩) n c) ks k j w) := by
  have hcs : ∀ i v, (intsV ks)[i]? = some v → w.cell? ⟨g, 0 + i, none⟩ = some v := by
    intro i v hi
    have hil := (List.getElem?_eq_some_iff.1 hi).1
    simp [hn] at hil
    rw [← ht, List.getElem?_take_of_lt hil] at hi
    rw [cell_of_heap hcur, Nat.zero_add, ← Array.getElem?_toList]
    exact hi
  have C := Any2.slices_Insert_int_grow insLay g 0 n c k vb 0 1 1 (intsV ks) [.int .i64 (j : Int)] w hk (by decide) hnc hroom (by unfold lots at hbig; omega) (by simp [hn]) rfl hcs (one_src hvb) (intsV_cell1 ks) (by simp [Value.oneCell'])
  refine C.mono ?_
  rintro e w' ⟨rfl, rfl⟩
  have hG := grownCap_ge w (n + 1) c (insRen.t 3)
  have hG2 := grownCap_le_maxLen w (n + 1) c (insRen.t 3) (by unfold maxLen; unfold lots at hbig; omega)
  generalize grownCap w (n + 1) c (insRen.t 3) = G at hG hG2
  obtain ⟨R, hR⟩ : ∃ R : Array Value, R = ((intsV ks).take k).toArray ++ Builtin.zeroCells (Value.int .i64 0).cells (n + 1 - k) ++ Builtin.zeroCells (Value.int .i64 0).cells (G - (n + 1)) := ⟨_, rfl⟩
  have hRs : R.size = G := by rw [hR]; simp [zeroCells_size, hn]; omega
  have hRt : R.toList.take k = (intsV ks).take k := by
    rw [hR]
    simp only [Array.toList_append, List.toList_toArray, List.append_assoc]
    rw [List.take_append_of_le_length (by simp [hn]; omega), List.take_take, Nat.min_self]
  rw [← hR]
  have h0 : ((w.alloc (.cells R (insRen.t 3))).drew).heap[w.heap.size]? = some (.cells R 3 (0, 0)) := heap_alloc_new w _
  have hdl : ((intsV ks).drop k).length = n - k := by simp [hn]
  obtain ⟨cur1, h1, h2, h3⟩ := heap_setCells w.heap.size 3 [.int .i64 (j : Int)] k _ R h0 (by simp; omega)
  obtain ⟨cur2, g1, g2, g3⟩ := heap_setCells w.heap.size 3 ((intsV ks).drop k) (k + 1) (((w.alloc (.cells R (insRen.t 3))).drew.setCells w.heap.size k [.int .i64 (j : Int)]).drew) cur1 h1 (by omega)
  have k1 : Keeps (fun b => (Value.slice (some ⟨g, 0, none⟩) n c).ownBlock = some b) w (((w.alloc (.cells R (insRen.t 3))).drew.setCells w.heap.size k [.int .i64 (j : Int)]).drew) := by
    have a1 : Keeps (fun _ => False) w ((w.alloc (.cells R (insRen.t 3))).drew) := ((Keeps.refl _ w).alloc _).drew
    have a2 : Keeps (fun b => b = w.heap.size) ((w.alloc (.cells R (insRen.t 3))).drew) (((w.alloc (.cells R (insRen.t 3))).drew.setCells w.heap.size k [.int .i64 (j : Int)]).drew) := (keeps_setCells (F := fun b => b = w.heap.size) w.heap.size _ _ _ (Keeps.refl _ _) rfl).drew
    exact (a1.trans (a2.mono (fun b _ e => .inr (by omega)))).mono (fun _ _ e => e.elim)
  have k2 : Keeps (fun b => b = w.heap.size) (((w.alloc (.cells R (insRen.t 3))).drew.setCells w.heap.size k [.int .i64 (j : Int)]).drew) _ := keeps_setCells w.heap.size ((intsV ks).drop k) (k + 1) _ (Keeps.refl _ _) rfl
  refine ⟨w.heap.size, G, by rw [hn], ?_, k1.trans (k2.mono (fun b _ e => .inr (by omega))), .inr (Nat.le_refl _)⟩
  refine ⟨by rw [intsV_length, putAt_length _ _ _ (by omega)]; omega, .inr ⟨w.heap.size, G, cur2, rfl, Nat.zero_le _, g1, by omega, hG2, by omega, ?_⟩⟩
  have e2 : cur1.toList.take (k + 1) = (intsV ks).take k ++ [.int .i64 (j : Int)] := by
    rw [h3, hRt, List.take_append_of_le_length (by simp [hn]; omega), List.take_of_length_le (by simp [hn]; omega)]
  rw [g3, putAt_vals, e2, Nat.mul_one, hn]
  have hl : ((intsV ks).take k ++ [Value.int .i64 (j : Int)] ++ (intsV ks).drop k).length = n + 1 := by simp [hn]; omega
  rw [← hl, List.take_append_of_le_length (Nat.le_refl _), List.take_of_length_le (Nat.le_refl _)]
  simp
end

theorem ins_one {w : World} {vb : Nat} {v : Value} {ks : List Nat} (hrow : w.ownsRow 0 3 1 v ks.length (intsV ks)) (k j : Nat) (hk : k ≤ ks.length) (hbig : ks.length < lots) (hvb : w.heap[vb]? = some (.cells #[.int .i64 (j : Int)] 3 (0, 0))) (hne : v.ownBlock ≠ some vb) :
    Calls Tryz.prog 156 #[v, .int .i64 (k : Int), .slice (some ⟨vb, 0, none⟩) 1 1] w (InsPost v ks k j w) := by
  obtain ⟨h1, h2⟩ := hrow
  rcases h2 with ⟨hv, h0⟩ | ⟨g, cap, cur, hv, _, hh, hn, hc, hs, ht⟩
  · have : ks = [] := List.eq_nil_of_length_eq_zero h0
    subst this
    subst hv
    obtain rfl : k = 0 := by simpa using hk
    exact ins_end_grow none 0 0 j [] hvb rfl (Nat.le_refl _) (by decide) (by unfold lots; decide) (fun _ => rfl) (fun a e => by cases e)
  · subst hv
    simp only [Nat.mul_one] at hs ht
    have hg : vb ≠ g := fun e => hne (by simp [Value.ownBlock, e])
    have hcs : ∀ i v, (intsV ks)[i]? = some v → w.cell? ⟨g, i, none⟩ = some v := by
      intro i v hi
      have hil := (List.getElem?_eq_some_iff.1 hi).1
      simp at hil
      rw [← ht, List.getElem?_take_of_lt hil] at hi
      rw [cell_of_heap hh, ← Array.getElem?_toList]
      exact hi
    by_cases hr : ks.length + 1 ≤ cap
    · rcases Nat.lt_or_ge k ks.length with hkl | hkl
      · exact ins_shift g ks.length cap k j ks cur hvb hg rfl hkl hr hc hh hs ht
      · obtain rfl : k = ks.length := by omega
        exact ins_end_room g ks.length cap j ks cur hvb rfl hr hc hh hs ht
    · rcases Nat.lt_or_ge k ks.length with hkl | hkl
      · exact ins_grow g ks.length cap k j ks cur hvb rfl hkl hn (by omega) hbig hh ht
      · obtain rfl : k = ks.length := by omega
        exact ins_end_grow (some ⟨g, 0, none⟩) ks.length cap j ks hvb rfl hn (by omega) hbig (fun e => by cases e) (fun a e i v hi => by cases e; rw [Addr.add_lit, Nat.zero_add]; exact hcs i v hi)

end Go.Proofs.YtabogkonklplcaaGreatDoor

/- strings.Builder at this program: copyCheck, WriteByte, WriteString, WriteRune. -/
namespace Go.Proofs.YtabogkonklplcaaGreatDoor
open Go.RowKit
set_option linter.unusedSimpArgs false
set_option linter.unusedVariables false

abbrev Bld (B b : Nat) (bs : List Value) (w : World) : Prop := Lib.IsBuilder 219 5 B b bs w
abbrev BldU (B b : Nat) (bs : List Value) (w : World) : Prop := Lib.BuilderAt 219 5 B b (ptr b) bs w

theorem Tryz.sizeBld : (Tryz.prog.info? 219).map (·.size) = some 2 := by kernel_rfl

set_option maxHeartbeats 1000000 in
set_option maxRecDepth 100000 in
theorem bcheck_used (b : Nat) (w : World) (h0 : w.cell? ⟨b, 0, none⟩ = some (ptr b)) :
    Calls Tryz.prog 184 #[ptr b] w fun e w' => e = .returned (.tuple #[]) ∧ w' = w := by
  obtain ⟨j, hj, _⟩ := Option.map_eq_some_iff.1 Tryz.sizeBld
  go_enter Tryz.func184, Tryz.ntmps184
  go_wp2
  rw [Lib.run_neq_ptr_same w _ Tryz.underlying216 hj]
  go_wp2
  go_end0
  exact ⟨rfl, rfl⟩

set_option maxHeartbeats 1000000 in
set_option maxRecDepth 100000 in
theorem bcheck_fresh (b : Nat) (w : World) (h0 : w.cell? ⟨b, 0, none⟩ = some (.pointer none)) (hsh : w.shape? b = some (219, 2)) (hfz : w.frozen? ⟨b, 0, none⟩ = false) :
    Calls Tryz.prog 184 #[ptr b] w fun e w' => e = .returned (.tuple #[]) ∧ w' = w.setCell ⟨b, 0, none⟩ (ptr b) := by
  obtain ⟨j, hj, hjs⟩ := Option.map_eq_some_iff.1 Tryz.sizeBld
  go_enter Tryz.func184, Tryz.ntmps184
  go_wp2
  rw [Lib.run_to_unsafe w ⟨b, 0, none⟩ Tryz.underlying216 Tryz.underlying203 hj (by rw [hjs]; decide) hsh (Nat.zero_lt_succ 1)]
  simp only [Result.andThen]
  rw [Oper.upon_value]
  go_wp2
  rw [run_callFunc_extern Tryz.func195 (by kernel_rfl) (by kernel_rfl) (by kernel_rfl) (e := Extern.AbiNoEscape.same) (by kernel_rfl)]
  rw [Lib.run_noEscape]
  simp only [Result.andThen]
  rw [Oper.upon_value]
  go_wp2
  rw [Lib.run_from_unsafe w ⟨b, 0, none⟩ Tryz.underlying203 Tryz.underlying216 hj hsh (by kernel_rfl)]
  simp only [Result.andThen]
  rw [Oper.upon_value]
  go_wp2
  go_end0
  exact ⟨rfl, rfl⟩

/-- Iterators over strings stay as they are. -/
def IterKept (w w' : World) : Prop := ∀ (k : Nat) (t : ByteArray) (p : Nat), w.heap[k]? = some (.stringIter t p) → w'.heap[k]? = some (.stringIter t p)
theorem IterKept.refl (w : World) : IterKept w w := fun _ _ _ h => h
theorem IterKept.trans {a b c : World} (h : IterKept a b) (g : IterKept b c) : IterKept a c := fun k t p hk => g k t p (h k t p hk)
theorem IterKept.alloc (w : World) (o : Obj) : IterKept w (w.alloc o) := fun k t p hk => by rw [Below.heap_alloc _ _ _ (heap_lt hk)]; exact hk
theorem IterKept.setCell {w : World} {b o : Nat} {cur : Array Value} {e : TypeId} {fz : Nat × Nat} (v : Value) (hb : w.heap[b]? = some (.cells cur e fz)) : IterKept w (w.setCell ⟨b, o, none⟩ v) := fun k t p hk => by
  have hne : k ≠ b := fun e => by subst e; rw [hb] at hk; cases hk
  have h := (Keeps.refl (fun x => x = b) w).setCell (p := ⟨b, o, none⟩) (.inl rfl) v
  rw [h.block k (heap_lt hk) hne]; exact hk
theorem IterKept.grown {w w' : World} {B : Nat} {v : Value} {n : Nat} {xs : List Value} {e : TypeId} {z : Nat} (hown : w.ownsRow B e z v n xs) (hg : w.grownBy w' v.ownBlock) : IterKept w w' := fun k t p hk => by
  rw [hg.block k (heap_lt hk) ?_]
  · exact hk
  · intro e
    rcases hown.2 with ⟨hv, _⟩ | ⟨g, cap, cur, hv, _, hh, _⟩
    · rw [hv] at e; cases e
    · rw [hv] at e
      cases e
      rw [hh] at hk; cases hk

theorem bcheck {B b : Nat} {bs : List Value} {w : World} (h : Bld B b bs w) :
    Calls Tryz.prog 184 #[ptr b] w fun e w' => e = .returned (.tuple #[]) ∧ BldU B b bs w' ∧ Below B w w' ∧ IterKept w w' := by
  rcases h with h | h
  · refine (bcheck_fresh b w h.cell0 h.shape h.frozen0).mono ?_
    rintro e w' ⟨rfl, rfl⟩
    have h2 := h
    obtain ⟨_, v, hb, _⟩ := h2
    exact ⟨rfl, h.used _, (Below.refl B w).setCell (p := ⟨b, 0, none⟩) h.1 _, IterKept.setCell _ hb⟩
  · refine (bcheck_used b w h.cell0).mono ?_
    rintro e w' ⟨rfl, rfl⟩
    exact ⟨rfl, h, Below.refl B _, IterKept.refl _⟩

end Go.Proofs.YtabogkonklplcaaGreatDoor

/- strings.Builder at this program: WriteByte, WriteString, WriteRune. -/
namespace Go.Proofs.YtabogkonklplcaaGreatDoor
open Go.RowKit
set_option linter.unusedSimpArgs false
set_option linter.unusedVariables false

theorem Tryz.info5 : (Tryz.prog.info? 5).map (fun i => (i.zero, i.size, i.bytes)) = some (some (.int .u8 0), 1, 1) := by kernel_rfl

/-- Behind an append to the buffer, and the store of what it gave. -/
theorem bld_put {B b : Nat} {bs bs' : List Value} {v v' : Value} {w0 w1 w2 : World} (hB : B ≤ b) (hbk : w1.heap[b]? = some (.cells #[ptr b, v] 219 (0, 0))) (hne : v.ownBlock ≠ some b) (hown : w1.ownsRow B 5 1 v bs.length bs)
    (h01 : Below B w0 w1) (hik : IterKept w0 w1) (hBw : B ≤ w1.heap.size) (hg : w1.grownBy w2 v.ownBlock) (hown' : w2.ownsRow B 5 1 v' bs'.length bs') :
    BldU B b bs' (w2.setCell ⟨b, 1, none⟩ v') ∧ (Below B w0 (w2.setCell ⟨b, 1, none⟩ v') ∧ IterKept w0 (w2.setCell ⟨b, 1, none⟩ v')) ∧ w2.heap[b]? = some (.cells #[ptr b, v] 219 (0, 0)) := by
  have hb2 : w2.heap[b]? = some (.cells #[ptr b, v] 219 (0, 0)) := by
    rw [hg.block b (heap_lt hbk) (fun e => hne e.symm)]
    exact hbk
  exact ⟨Lib.BuilderAt.put hB hb2 hown' (by decide), ⟨(h01.grown hg hBw (fun k hk => (hown.lt k hk).1)).setCell (p := ⟨b, 1, none⟩) hB _, (hik.trans (IterKept.grown hown hg)).trans (IterKept.setCell _ hb2)⟩, hb2⟩

theorem bld_slice {B : Nat} {bs : List Value} {v : Value} {w : World} (h : w.ownsRow B 5 1 v bs.length bs) : ∃ a n c, v = .slice a n c := by
  rcases h.2 with ⟨hv, _⟩ | ⟨g, cap, cur, hv, _⟩
  · exact ⟨_, _, _, hv⟩
  · exact ⟨_, _, _, hv⟩

set_option maxHeartbeats 2000000 in
set_option maxRecDepth 100000 in
theorem bwrite_byte {B b : Nat} {bs : List Value} (c : Int) {w : World} (h : Bld B b bs w) (hlen : bs.length < lots) (hBw : B ≤ w.heap.size) :
    Calls Tryz.prog 177 #[ptr b, .int .u8 c] w fun e w' => e = .returned .nilIface ∧ BldU B b (bs ++ [.int .u8 c]) w' ∧ Below B w w' ∧ IterKept w w' := by
  obtain ⟨i0, hi, hz0, hz1, hz2⟩ := info_parts Tryz.info5
  have C := hid (bcheck h)
  clear h
  go_enter Tryz.func177, Tryz.ntmps177
  go_wp2_with (go_at_call 184; refine C.out.mono ?_)
  rintro e w1 ⟨rfl, h1, hb1, hk1⟩
  obtain ⟨hB, v, hbk, hown, hne⟩ := h1
  have hsz := hb1.size
  obtain ⟨a0, n0, p0, rfl⟩ := bld_slice hown
  have c1 : w1.cell? ⟨b, 1, none⟩ = some (.slice a0 n0 p0) := cell_of_heap hbk 1
  have hbn : ¬ b = w1.heap.size := by have := heap_lt hbk; omega
  go_wp2_with (at_builtin; refine wpList_append_own _ rfl _ _ 217 rfl B 5 i0 (.int .u8 0) 1 1 Tryz.underlying217 hi hz0 hz1 hz2 rfl (by decide) (.slice a0 n0 p0) _ _ rfl (hown.alloc _) ⟨w1.heap.size, 0, none⟩ 1 1 [.int .u8 c] rfl rfl (cell_one_new _ _ _) (by simp [Value.oneCell']) (by unfold maxLen; unfold lots at hlen; omega) (by unfold lots at hlen; omega) (by simp; omega) ?_)
  intro v' w2 hown' hgrow _
  have hbk' : (w1.alloc (.cells #[.int .u8 c] 5)).heap[b]? = some (.cells #[ptr b, .slice a0 n0 p0] 219 (0, 0)) := by rw [Below.heap_alloc _ _ _ (heap_lt hbk)]; exact hbk
  have P := hid (bld_put (bs' := bs ++ [.int .u8 c]) hB hbk' hne (hown.alloc _) (hb1.alloc (by omega) _) (hk1.trans (IterKept.alloc _ _)) (by simp; omega) hgrow (by simpa using hown'))
  obtain ⟨ao, n', cap, rfl⟩ := bld_slice (bs := bs ++ [.int .u8 c]) (by simpa using hown')
  have d1 : w2.cell? ⟨b, 1, none⟩ = some (.slice a0 n0 p0) := cell_of_heap P.out.2.2 1
  have f1 : w2.frozen? ⟨b, 1, none⟩ = false := frozen_of_heap P.out.2.2 1
  clear hown' hgrow hbk' hown hbk hne
  go_wp2
  go_ret
  exact ⟨rfl, P.out.1, P.out.2.1⟩

set_option maxHeartbeats 2000000 in
set_option maxRecDepth 100000 in
theorem bwrite_string {B b : Nat} {bs : List Value} (s : ByteArray) {w : World} (h : Bld B b bs w) (hlen : bs.length + s.size < lots) (hBw : B ≤ w.heap.size) :
    Calls Tryz.prog 174 #[ptr b, .string s] w fun e w' => e = .returned (.tuple #[.int .i64 s.size, .nilIface]) ∧ BldU B b (bs ++ Lib.strCells s) w' ∧ Below B w w' ∧ IterKept w w' := by
  obtain ⟨i0, hi, hz0, hz1, hz2⟩ := info_parts Tryz.info5
  have C := hid (bcheck h)
  clear h
  go_enter Tryz.func174, Tryz.ntmps174
  go_wp2_with (go_at_call 184; refine C.out.mono ?_)
  rintro e w1 ⟨rfl, h1, hb1, hk1⟩
  obtain ⟨hB, v, hbk, hown, hne⟩ := h1
  have hsz := hb1.size
  obtain ⟨a0, n0, p0, rfl⟩ := bld_slice hown
  have c1 : w1.cell? ⟨b, 1, none⟩ = some (.slice a0 n0 p0) := cell_of_heap hbk 1
  go_wp2_with (at_builtin; refine Lib.wpList_append_own_string _ rfl _ _ 217 9 rfl B 5 i0 Tryz.underlying217 Tryz.underlying9 hi hz0 hz1 hz2 (.slice a0 n0 p0) _ _ rfl hown s rfl (by unfold maxLen; unfold lots at hlen; omega) (by unfold lots at hlen; omega) (by omega) ?_)
  intro v' w2 hown' hgrow _
  have P := hid (bld_put (bs' := bs ++ Lib.strCells s) hB hbk hne hown hb1 hk1 (by omega) hgrow (by simpa [Lib.strCells_length] using hown'))
  obtain ⟨ao, n', cap, rfl⟩ := bld_slice (bs := bs ++ Lib.strCells s) (by simpa [Lib.strCells_length] using hown')
  have d1 : w2.cell? ⟨b, 1, none⟩ = some (.slice a0 n0 p0) := cell_of_heap P.out.2.2 1
  have f1 : w2.frozen? ⟨b, 1, none⟩ = false := frozen_of_heap P.out.2.2 1
  clear hown' hgrow hown hbk hne
  go_wp2
  go_ret2
  exact ⟨rfl, P.out.1, P.out.2.1⟩

def RuneWrote (B b : Nat) (bs : List Value) (w : World) (e : Ending) (w' : World) : Prop := ∃ n : Int, e = .returned (.tuple #[.int .i64 n, .nilIface]) ∧ BldU B b bs w' ∧ Below B w w' ∧ IterKept w w'

set_option maxHeartbeats 2000000 in
set_option maxRecDepth 100000 in
theorem bwrite_rune {B b : Nat} {bs : List Value} (r : Int) (hr0 : 0 ≤ r) (hr1 : r ≤ 2147483647) {w : World} (h : Bld B b bs w) (hlen : bs.length < lots) (hBw : B ≤ w.heap.size) :
    Calls Tryz.prog 160 #[ptr b, .int .i32 r] w (RuneWrote B b (bs ++ Lib.runeCells r) w) := by
  have C := hid (bcheck h)
  clear h
  go_enter Tryz.func160, Tryz.ntmps160
  go_wp2_with (go_at_call 184; refine C.out.mono ?_)
  rintro e w1 ⟨rfl, h1, hb1, hk1⟩
  obtain ⟨hB, v, hbk, hown, hne⟩ := h1
  have hsz := hb1.size
  obtain ⟨a0, n0, p0, rfl⟩ := bld_slice hown
  have c1 : w1.cell? ⟨b, 1, none⟩ = some (.slice a0 n0 p0) := cell_of_heap hbk 1
  have A1 := hid (Tryz.utf8_AppendRune_plain B (.slice a0 n0 p0) bs.length bs r (by omega) hr1 w1 hown (by unfold lots at hlen; omega) (by omega))
  go_wp2_with (go_at_call 185; refine A1.out.mono ?_)
  rintro e w2 ⟨v', rfl, hown', o, hgrow⟩
  have hbk' : (w1.alloc o).heap[b]? = some (.cells #[ptr b, .slice a0 n0 p0] 219 (0, 0)) := by rw [Below.heap_alloc _ _ _ (heap_lt hbk)]; exact hbk
  have P := hid (bld_put (bs' := bs ++ Lib.runeCells r) hB hbk' hne (hown.alloc _) (hb1.alloc (by omega) _) (hk1.trans (IterKept.alloc _ _)) (by simp; omega) hgrow (by simpa using hown'))
  obtain ⟨ao, n', cap, rfl⟩ := bld_slice (bs := bs ++ Lib.runeCells r) (by simpa using hown')
  have d1 : w2.cell? ⟨b, 1, none⟩ = some (.slice a0 n0 p0) := cell_of_heap P.out.2.2 1
  have f1 : w2.frozen? ⟨b, 1, none⟩ = false := frozen_of_heap P.out.2.2 1
  clear hown' hgrow hbk' hown hbk hne
  go_wp2
  go_ret2
  exact ⟨_, rfl, P.out.1, P.out.2.1⟩

end Go.Proofs.YtabogkonklplcaaGreatDoor

/- Plain mathematics: where a place is among those of its tree, what a range covers, the characters in it by nodes and by places. -/
namespace Go.Proofs.YtabogkonklplcaaGreatDoor
set_option linter.unusedSimpArgs false
set_option linter.unusedVariables false

/-- Where a place is among some. -/
def wh : List (Nat × Nat) → Nat × Nat → Int
  | [], _ => -1
  | a :: l, p => if p = a then 0 else if wh l p < 0 then -1 else wh l p + 1

theorem wh_is (l : List (Nat × Nat)) (p : Nat × Nat) : IsWhere l p (wh l p) := by
  induction l with
  | nil => exact .inr ⟨rfl, by simp⟩
  | cons a l ih =>
    unfold wh
    by_cases h : p = a
    · rw [if_pos h]
      exact .inl ⟨0, rfl, by simp [h], by simp⟩
    · rw [if_neg h]
      rcases ih with ⟨m, e, h1, h2⟩ | ⟨e, h1⟩
      · rw [e, if_neg (by omega)]
        exact .inl ⟨m + 1, by omega, by simpa using h1, by simp [h2, h]⟩
      · rw [e, if_pos (by omega)]
        exact .inr ⟨rfl, by simp [h, h1]⟩

theorem mem_take_of {α : Type} {l : List α} {m k : Nat} {p : α} (h : l[m]? = some p) (hk : m < k) : p ∈ l.take k :=
  List.mem_of_getElem? (i := m) (by rw [List.getElem?_take, if_pos hk]; exact h)

theorem IsWhere.alone {l : List (Nat × Nat)} {p : Nat × Nat} {q q' : Int} (h : IsWhere l p q) (h' : IsWhere l p q') : q = q' := by
  rcases h with ⟨m, rfl, h1, h2⟩ | ⟨rfl, h1⟩ <;> rcases h' with ⟨m', rfl, h3, h4⟩ | ⟨rfl, h3⟩
  · rcases Nat.lt_trichotomy m m' with e | e | e
    · exact absurd (mem_take_of h1 e) h4
    · rw [e]
    · exact absurd (mem_take_of h3 e) h2
  · exact absurd (List.mem_of_getElem? h1) h3
  · exact absurd (List.mem_of_getElem? h3) h1
  · rfl

theorem IsWhere.wh {l : List (Nat × Nat)} {p : Nat × Nat} {q : Int} (h : IsWhere l p q) : q = wh l p := h.alone (wh_is l p)

theorem wh_at {l : List (Nat × Nat)} (hn : l.Nodup) {i : Nat} {p : Nat × Nat} (h : l[i]? = some p) : wh l p = i := by
  refine (IsWhere.alone (.inl ⟨i, rfl, h, fun hm => ?_⟩) (wh_is l p)).symm
  obtain ⟨j, hj⟩ := List.mem_iff_getElem?.1 hm
  rw [List.getElem?_take] at hj
  split at hj
  · rename_i hlt
    obtain ⟨h1, h2⟩ := List.getElem?_eq_some_iff.1 h
    obtain ⟨h3, h4⟩ := List.getElem?_eq_some_iff.1 hj
    exact List.pairwise_iff_getElem.1 hn j i h3 h1 hlt (h4.trans h2.symm)
  · cases hj

theorem wh_mem {l : List (Nat × Nat)} {p : Nat × Nat} (h : p ∈ l) : ∃ i : Nat, wh l p = i ∧ l[i]? = some p := by
  rcases wh_is l p with ⟨m, e, h1, _⟩ | ⟨_, h1⟩
  · exact ⟨m, e, h1⟩
  · exact absurd h h1

/-- Does a range from one place to another one cover what stands behind a place? -/
def cov (L : List (Nat × Nat)) (a b c d n k : Nat) : Bool := decide (wh L (a, b) ≤ wh L (n, k)) && decide (wh L (n, k + 1) ≤ wh L (c, d))

def csOf (s : List Nd) (n : Nat) : List ByteArray := match s[n]? with | some x => x.cs | none => []
theorem csOf_eq {s : List Nd} {n : Nat} {x : Nd} (h : s[n]? = some x) : csOf s n = x.cs := by simp [csOf, h]

/-- Of so many characters those that are asked for. -/
def pk (cs : List ByteArray) (c : Nat → Bool) (k : Nat) : List ByteArray := (List.range k).flatMap fun b => if c b then cs[b]?.toList else []
theorem pk_zero (cs : List ByteArray) (c : Nat → Bool) : pk cs c 0 = [] := rfl
theorem pk_succ (cs : List ByteArray) (c : Nat → Bool) (k : Nat) : pk cs c (k + 1) = pk cs c k ++ (if c k then cs[k]?.toList else []) := by simp [pk, List.range_succ]

/-- The characters that a range covers, node by node. -/
def readP (s : List Nd) (L : List (Nat × Nat)) (a b c d : Nat) (ns : List Nat) : List ByteArray := ns.flatMap fun n => pk (csOf s n) (cov L a b c d n) (csOf s n).length

/-- What stands between a place and the next one. -/
def chB (s : List Nd) (L : List (Nat × Nat)) (i : Nat) : List ByteArray :=
  match L[i]?, L[i + 1]? with
  | some p, some q => if p.1 = q.1 ∧ (s[p.1]?.map (·.t)) = some true then (csOf s p.1)[p.2]?.toList else []
  | _, _ => []
/-- The characters from one place on. -/
def readR (s : List Nd) (L : List (Nat × Nat)) (i : Nat) (m : Nat) : List ByteArray := (List.range m).flatMap fun j => chB s L (i + j)
theorem readR_zero (s : List Nd) (L : List (Nat × Nat)) (i : Nat) : readR s L i 0 = [] := rfl
theorem readR_succ (s : List Nd) (L : List (Nat × Nat)) (i m : Nat) : readR s L i (m + 1) = readR s L i m ++ chB s L (i + m) := by simp [readR, List.range_succ]

theorem infix_flatMap {α β : Type} {l : List α} {f : α → List β} {a : α} {z : List β} (ha : a ∈ l) (h : z <:+: f a) : z <:+: l.flatMap f := by
  obtain ⟨x, y, rfl⟩ := List.append_of_mem ha
  rw [List.flatMap_append, List.flatMap_cons]
  exact h.trans ⟨x.flatMap f, y.flatMap f, by simp⟩

/-- In a text one place follows the other. -/
theorem text_next {s : List Nd} (wf : WF s) {n b : Nat} {x : Nd} (hx : s[n]? = some x) (ht : x.t = true) (hb : b < x.cs.length) : ∀ (k m : Nat), (n, b) ∈ plF s k m → [(n, b), (n, b + 1)] <:+: plF s k m := by
  intro k
  induction k with
  | zero => intro m h; simp [plF] at h
  | succ k ih =>
    intro m h
    by_cases hm : m = n
    · subst hm
      have hk : kidsOf s m = [] := by rw [kidsOf_eq hx]; exact (wf.elem m x hx).1 ht
      have e : x.cs.length + 1 = b + (2 + (x.cs.length - b - 1)) := by omega
      rw [plF, hk, sizeAt_eq hx, sizeN_text ht, upTo, e, List.range_add, List.flatMap_append, List.range_add]
      refine List.IsInfix.trans ?_ (List.suffix_append _ _).isInfix
      rw [List.map_append, List.flatMap_append]
      refine List.IsInfix.trans ?_ (List.prefix_append _ _).isInfix
      have : (List.range 2).map (fun i => b + i) = [b, b + 1] := by simp [List.range_succ]
      rw [this]
      simp
    · rw [plF, upTo] at h ⊢
      obtain ⟨i, hi, h⟩ := List.mem_flatMap.1 h
      refine infix_flatMap hi ?_
      rcases List.mem_cons.1 h with h | h
      · simp at h; exact absurd h.1.symm hm
      · refine List.IsInfix.trans ?_ (List.suffix_cons _ _).isInfix
        split at h
        · rename_i c hc
          exact ih c h
        · simp at h

theorem pl_of_all {s : List Nd} (wf : WF s) : ∀ (k t n q : Nat), n ∈ allF s k t → q ≤ sizeAt s n → (n, q) ∈ plF s k t := by
  intro k
  induction k with
  | zero => intro t n q h; simp [allF] at h
  | succ k ih =>
    intro t n q h hq
    rw [plF, upTo, List.mem_flatMap]
    rw [allF, List.mem_cons, List.mem_flatMap] at h
    rcases h with rfl | ⟨c, hc, h⟩
    · exact ⟨q, List.mem_range.2 (by omega), List.mem_cons_self⟩
    · obtain ⟨x, hx, hcx⟩ := kidsOf_mem hc
      obtain ⟨i, hi⟩ := List.mem_iff_getElem?.1 hcx
      have hil : i < x.ks.length := (List.getElem?_eq_some_iff.1 hi).1
      have ht : x.t = false := by
        cases e : x.t with
        | false => rfl
        | true => rw [(wf.elem t x hx).1 e] at hil; simp at hil
      refine ⟨i, List.mem_range.2 (by rw [sizeAt_eq hx, sizeN_elem ht]; omega), List.mem_cons_of_mem _ ?_⟩
      rw [kidsOf_eq hx, hi]
      exact ih c n q h hq

theorem infix_at {α : Type} {l : List α} (hn : l.Nodup) {i : Nat} {p q : α} (h : [p, q] <:+: l) (hi : l[i]? = some p) : l[i + 1]? = some q := by
  obtain ⟨a, b, e⟩ := h
  have h1 : l[a.length]? = some p := by rw [← e]; simp
  have h2 : l[a.length + 1]? = some q := by rw [← e]; simp
  obtain ⟨h3, h4⟩ := List.getElem?_eq_some_iff.1 h1
  obtain ⟨h5, h6⟩ := List.getElem?_eq_some_iff.1 hi
  rcases Nat.lt_trichotomy i a.length with e | e | e
  · exact absurd (h6.trans h4.symm) (List.pairwise_iff_getElem.1 hn i a.length h5 h3 e)
  · rw [e]; exact h2
  · exact absurd (h4.trans h6.symm) (List.pairwise_iff_getElem.1 hn a.length i h3 h5 e)

/-- The next place of a text is the next one of all. -/
theorem wh_next {s : List Nd} (wf : WF s) {k t n b : Nat} {x : Nd} (hx : s[n]? = some x) (ht : x.t = true) (hb : b < x.cs.length) (hm : (n, b) ∈ plF s k t) : wh (plF s k t) (n, b + 1) = wh (plF s k t) (n, b) + 1 := by
  obtain ⟨i, e, hi⟩ := wh_mem hm
  rw [e, wh_at (pl_nodup wf k t) (infix_at (pl_nodup wf k t) (text_next wf hx ht hb k t hm) hi)]
  rfl

/-- What stands behind a place is told by the place alone. -/
theorem chB_at {s : List Nd} (wf : WF s) {k t i : Nat} {p : Nat × Nat} (hp : (plF s k t)[i]? = some p) (hi : i + 1 < (plF s k t).length) : chB s (plF s k t) i = (csOf s p.1)[p.2]?.toList := by
  obtain ⟨q, hq⟩ : ∃ q, (plF s k t)[i + 1]? = some q := ⟨_, List.getElem?_eq_getElem hi⟩
  unfold chB
  rw [hp, hq]
  simp only
  cases hx : s[p.1]? with
  | none => simp [csOf, hx]
  | some x =>
    cases ht : x.t with
    | false => simp [csOf, hx, (wf.elem p.1 x hx).2 ht]
    | true =>
      by_cases he : p.1 = q.1
      · simp [he, ht]
      · simp only [he, false_and, if_false]
        rw [csOf_eq hx]
        by_cases hb : p.2 < x.cs.length
        · have := infix_at (pl_nodup wf k t) (text_next wf hx ht hb k t (List.mem_of_getElem? hp)) hp
          rw [hq] at this
          cases this
          exact absurd rfl he
        · rw [List.getElem?_eq_none (by omega)]; rfl

theorem pl_size {s : List Nd} : ∀ (k t : Nat) (p : Nat × Nat), p ∈ plF s k t → p.2 ≤ sizeAt s p.1 := by
  intro k
  induction k with
  | zero => intro t p h; simp [plF] at h
  | succ k ih =>
    intro t p h
    rw [plF, upTo, List.mem_flatMap] at h
    obtain ⟨i, hi, h⟩ := h
    rcases List.mem_cons.1 h with rfl | h
    · have := List.mem_range.1 hi; simp only; omega
    · split at h
      · exact ih _ p h
      · simp at h

theorem text_run {s : List Nd} (wf : WF s) {k t n : Nat} {x : Nd} (hx : s[n]? = some x) (ht : x.t = true) {i b : Nat} (hi : (plF s k t)[i]? = some (n, b)) : ∀ e, b + e ≤ x.cs.length → (plF s k t)[i + e]? = some (n, b + e) := by
  intro e
  induction e with
  | zero => intro _; exact hi
  | succ e ih =>
    intro he
    have h1 := ih (by omega)
    exact infix_at (pl_nodup wf k t) (text_next (b := b + e) wf hx ht (by omega) k t (List.mem_of_getElem? h1)) h1

/-- What stands between two places of one text is a character. -/
theorem text_char {s : List Nd} (wf : WF s) {k t n : Nat} {x : Nd} (hx : s[n]? = some x) (ht : x.t = true) {i b b' : Nat} (hi : (plF s k t)[i]? = some (n, b)) (hj : (plF s k t)[i + 1]? = some (n, b')) : b < x.cs.length := by
  have h1 := pl_size k t _ (List.mem_of_getElem? hi)
  have h2 := pl_size k t _ (List.mem_of_getElem? hj)
  simp only [sizeAt_eq hx, sizeN_text ht] at h1 h2
  rcases Nat.lt_or_ge b x.cs.length with h | h
  · exact h
  · exfalso
    obtain rfl : b = x.cs.length := by omega
    have h3 := text_run wf hx ht hj (x.cs.length - b') (by omega)
    rw [show b' + (x.cs.length - b') = x.cs.length by omega] at h3
    obtain ⟨h4, h5⟩ := List.getElem?_eq_some_iff.1 hi
    obtain ⟨h6, h7⟩ := List.getElem?_eq_some_iff.1 h3
    exact List.pairwise_iff_getElem.1 (pl_nodup wf k t) i (i + 1 + (x.cs.length - b')) h4 h6 (by omega) (h5.trans h7.symm)

theorem chB_ch {s : List Nd} (wf : WF s) (L : List (Nat × Nat)) (i : Nat) : (chB s L i).length ≤ 1 ∧ ∀ c ∈ chB s L i, IsCh c := by
  unfold chB
  split
  · split
    · rename_i p q _ _ _
      cases e : (csOf s p.1)[p.2]? with
      | none => simp
      | some c =>
        refine ⟨by simp, fun d hd => ?_⟩
        simp at hd
        subst hd
        have hm := List.mem_of_getElem? e
        unfold csOf at hm
        split at hm
        · rename_i y hy
          exact (wf.chars p.1 y hy).2 d hm
        · simp at hm
    · simp
  · simp
theorem readR_ch {s : List Nd} (wf : WF s) (L : List (Nat × Nat)) (i m : Nat) : (readR s L i m).length ≤ m ∧ ∀ c ∈ readR s L i m, IsCh c := by
  induction m with
  | zero => simp [readR]
  | succ m ih =>
    have h := chB_ch wf L (i + m)
    have h1 := h.1
    have h2 := ih.1
    rw [readR_succ]
    refine ⟨by rw [List.length_append]; omega, fun c hc => ?_⟩
    rcases List.mem_append.1 hc with hc | hc
    · exact ih.2 c hc
    · exact h.2 c hc

theorem range_mid {α : Type} (N lo hi : Nat) (h1 : lo ≤ hi) (h2 : hi ≤ N) (G : Nat → List α) : (List.range N).flatMap (fun i => if lo ≤ i ∧ i < hi then G i else []) = (List.range (hi - lo)).flatMap (fun j => G (lo + j)) := by
  have e : N = lo + ((hi - lo) + (N - hi)) := by omega
  rw [e, List.range_add, List.flatMap_append, List.range_add, List.map_append, List.flatMap_append]
  have a : (List.range lo).flatMap (fun i => if lo ≤ i ∧ i < hi then G i else []) = [] := by
    rw [List.flatMap_eq_nil_iff]
    intro i hi
    rw [if_neg (by have := List.mem_range.1 hi; omega)]
  have c : (((List.range (N - hi)).map (fun x => hi - lo + x)).map (fun x => lo + x)).flatMap (fun i => if lo ≤ i ∧ i < hi then G i else []) = [] := by
    rw [List.flatMap_eq_nil_iff]
    intro i hi
    simp only [List.map_map, List.mem_map] at hi
    obtain ⟨j, _, rfl⟩ := hi
    rw [if_neg (by simp only [Function.comp]; omega)]
  rw [a, c, List.nil_append, List.append_nil, List.flatMap_map]
  rw [List.flatMap_def, List.flatMap_def]
  congr 1
  refine List.map_congr_left (fun j hj => ?_)
  rw [if_pos (by have := List.mem_range.1 hj; omega)]

theorem flatMap_index {α β : Type} (l : List α) (F : α → List β) : l.flatMap F = (List.range l.length).flatMap (fun i => match l[i]? with | some p => F p | none => []) := by
  induction l with
  | nil => rfl
  | cons a l ih =>
    rw [List.length_cons, List.range_succ_eq_map, List.flatMap_cons, List.flatMap_cons, List.flatMap_map, ih]
    rfl

/-- What is asked of texts' places alone is asked node by node. -/
theorem pl_texts {s : List Nd} (wf : WF s) (H : Nat × Nat → List ByteArray) (hH : ∀ p, (csOf s p.1).length ≤ p.2 → H p = []) : ∀ (k n : Nat), n < s.length → (plF s k n).flatMap H = (allF s k n).flatMap (fun m => (List.range (csOf s m).length).flatMap (fun b => H (m, b))) := by
  intro k
  induction k with
  | zero => intro n _; rfl
  | succ k ih =>
    intro n hn
    have hx : s[n]? = some s[n] := List.getElem?_eq_getElem hn
    generalize s[n] = x at hx
    rw [plF, upTo, allF, List.flatMap_cons, kidsOf_eq hx, sizeAt_eq hx, csOf_eq hx, List.flatMap_assoc]
    cases ht : x.t with
    | true =>
      rw [(wf.elem n x hx).1 ht, sizeN_text ht, List.range_succ, List.flatMap_append]
      simp only [List.getElem?_nil, List.flatMap_cons, List.flatMap_nil, List.append_nil]
      rw [hH (n, x.cs.length) (by rw [csOf_eq hx]; exact Nat.le_refl _), List.append_nil]
    | false =>
      have hcs : x.cs = [] := (wf.elem n x hx).2 ht
      have h0 : ∀ i, H (n, i) = [] := fun i => hH (n, i) (by rw [csOf_eq hx, hcs]; simp)
      rw [hcs, sizeN_elem ht, List.range_succ, List.flatMap_append]
      simp only [List.flatMap_cons, h0, List.nil_append, List.length_nil, List.range_zero, List.flatMap_nil, List.append_nil]
      rw [List.getElem?_eq_none (Nat.le_refl _)]
      simp only [List.flatMap_nil, List.append_nil]
      have key : ∀ l : List Nat, (∀ c ∈ l, c ∈ x.ks) → (l.flatMap (allF s k)).flatMap (fun m => (List.range (csOf s m).length).flatMap (fun b => H (m, b))) = (List.range l.length).flatMap (fun i => (match l[i]? with | some c => plF s k c | none => []).flatMap H) := by
        intro l hl
        rw [List.flatMap_assoc, flatMap_index l]
        rw [List.flatMap_def, List.flatMap_def]
        congr 1
        refine List.map_congr_left (fun i hi => ?_)
        cases hc : l[i]? with
        | none => rfl
        | some c =>
          simp only
          obtain ⟨y, hy, _⟩ := wf.kid n x hx c (hl c (List.mem_of_getElem? hc))
          rw [ih c (List.getElem?_eq_some_iff.1 hy).1]
      exact (key x.ks (fun c h => h)).symm

/-- The characters in a range: the same node by node, and place by place. -/
theorem read_same {s : List Nd} (wf : WF s) {k t a b c d i j : Nat} (ht : t < s.length) (hi : (plF s k t)[i]? = some (a, b)) (hj : (plF s k t)[j]? = some (c, d)) (hij : i ≤ j) :
    readR s (plF s k t) i (j - i) = readP s (plF s k t) a b c d (allF s k t) := by
  have hnd := pl_nodup wf k t
  have hjl : j < (plF s k t).length := (List.getElem?_eq_some_iff.1 hj).1
  have e1 : readR s (plF s k t) i (j - i) = (plF s k t).flatMap (fun p => if (i : Int) ≤ wh (plF s k t) p ∧ wh (plF s k t) p < j then (csOf s p.1)[p.2]?.toList else []) := by
    rw [flatMap_index]
    have := range_mid (plF s k t).length i j hij (Nat.le_of_lt hjl) (fun m => chB s (plF s k t) m)
    rw [readR, ← this, List.flatMap_def, List.flatMap_def]
    congr 1
    refine List.map_congr_left (fun m hm => ?_)
    have hml := List.mem_range.1 hm
    have hp : (plF s k t)[m]? = some (plF s k t)[m] := List.getElem?_eq_getElem hml
    rw [hp]
    simp only
    rw [wh_at hnd hp]
    by_cases hc : i ≤ m ∧ m < j
    · rw [if_pos hc, if_pos ⟨by omega, by omega⟩]
      exact chB_at wf hp (by omega)
    · rw [if_neg hc, if_neg (by omega)]
  rw [e1, pl_texts wf _ (fun p hp => by rw [List.getElem?_eq_none hp]; simp) k t ht]
  unfold readP
  rw [List.flatMap_def, List.flatMap_def]
  congr 1
  refine List.map_congr_left (fun n hn => ?_)
  unfold pk
  rw [List.flatMap_def, List.flatMap_def]
  congr 1
  refine List.map_congr_left (fun q hq => ?_)
  have hql := List.mem_range.1 hq
  have hnl := all_lt wf k t ht n hn
  have hx : s[n]? = some s[n] := List.getElem?_eq_getElem hnl
  generalize s[n] = x at hx
  rw [csOf_eq hx] at hql
  have htx : x.t = true := by
    cases e : x.t with
    | true => rfl
    | false => rw [(wf.elem n x hx).2 e] at hql; simp at hql
  have hmem : (n, q) ∈ plF s k t := by
    refine pl_of_all wf k t n q hn ?_
    rw [sizeAt_eq hx, sizeN_text htx]
    omega
  unfold cov
  rw [wh_at hnd hi, wh_at hnd hj, wh_next wf hx htx hql hmem]
  simp only [Bool.and_eq_true, decide_eq_true_eq]
  by_cases hc : (i : Int) ≤ wh (plF s k t) (n, q) ∧ wh (plF s k t) (n, q) < j
  · rw [if_pos hc, if_pos ⟨hc.1, by omega⟩]
  · rw [if_neg hc, if_neg (by omega)]

end Go.Proofs.YtabogkonklplcaaGreatDoor

/- utf8.AppendRune and Builder.WriteRune once more: that what is written lies where it lay, or in a new block. -/
namespace Go.Proofs.YtabogkonklplcaaGreatDoor
open Go.RowKit
set_option linter.unusedSimpArgs false
set_option linter.unusedVariables false

/-- What an append to a row of bytes has left. -/
def RunePut (v : Value) (bs : List Value) (w : World) (e : Ending) (w' : World) : Prop :=
  ∃ v', e = .returned v' ∧ w'.ownsRow 0 5 1 v' bs.length bs ∧ (∃ o, (w.alloc o).grownBy w' v.ownBlock) ∧ (v'.ownBlock = v.ownBlock ∨ v'.ownBlock = some (w.heap.size + 1))

set_option maxHeartbeats 4000000 in
set_option maxRecDepth 100000 in
theorem nonascii_two (a0 : Option Addr) (n0 p0 : Nat) (bs : List Value) (r : Int) (h0 : 128 ≤ r) (h1 : r ≤ 2047) (w : World) (hown : w.ownsRow 0 5 1 (.slice a0 n0 p0) bs.length bs) (hlen : bs.length < lots) :
    Calls Tryz.prog 196 #[.slice a0 n0 p0, .int .i32 r] w (RunePut (.slice a0 n0 p0) (bs ++ [.int .u8 (192 + r / 64), .int .u8 (128 + r % 64)]) w) := by
  obtain ⟨i0, hi, hz0, hz1, hz2⟩ := info_parts Tryz.info5
  unfold lots at hlen
  go_enter Tryz.func196, Tryz.ntmps196
  go_wp2_with (at_builtin; refine wpList_append_own_at _ rfl _ _ 217 rfl 0 5 i0 (.int .u8 0) 1 1 Tryz.underlying217 hi hz0 hz1 hz2 rfl (by decide) (.slice a0 n0 p0) _ _ rfl (hown.alloc _) ⟨w.heap.size, 0, none⟩ 2 2 [.int .u8 (192 + r / 64), .int .u8 (128 + r % 64)] rfl rfl ?c1 (by simp [Value.oneCell']) (by unfold maxLen; omega) (by omega) (Nat.zero_le _) ?_)
  case c1 =>
    intro j u hj
    match j, hj with
    | 0, hj => simp at hj; subst hj; simp [Addr.add]
    | 1, hj => simp at hj; subst hj; simp [Addr.add]
    | (j + 2), hj => simp at hj
  intro v' w2 hown' hgrow _ hat
  go_wp2
  go_ret
  exact ⟨_, rfl, by simpa using hown', ⟨_, hgrow⟩, by simpa using hat⟩

set_option maxHeartbeats 4000000 in
set_option maxRecDepth 100000 in
theorem nonascii_three (a0 : Option Addr) (n0 p0 : Nat) (bs : List Value) (r : Int) (h0 : 2048 ≤ r) (h1 : r < 55296) (w : World) (hown : w.ownsRow 0 5 1 (.slice a0 n0 p0) bs.length bs) (hlen : bs.length < lots) :
    Calls Tryz.prog 196 #[.slice a0 n0 p0, .int .i32 r] w (RunePut (.slice a0 n0 p0) (bs ++ [.int .u8 (224 + r / 4096), .int .u8 (128 + r / 64 % 64), .int .u8 (128 + r % 64)]) w) := by
  obtain ⟨i0, hi, hz0, hz1, hz2⟩ := info_parts Tryz.info5
  unfold lots at hlen
  go_enter Tryz.func196, Tryz.ntmps196
  go_wp2_with (at_builtin; refine wpList_append_own_at _ rfl _ _ 217 rfl 0 5 i0 (.int .u8 0) 1 1 Tryz.underlying217 hi hz0 hz1 hz2 rfl (by decide) (.slice a0 n0 p0) _ _ rfl (hown.alloc _) ⟨w.heap.size, 0, none⟩ 3 3 [.int .u8 (224 + r / 4096), .int .u8 (128 + r / 64 % 64), .int .u8 (128 + r % 64)] rfl rfl ?c1 (by simp [Value.oneCell']) (by unfold maxLen; omega) (by omega) (Nat.zero_le _) ?_)
  case c1 =>
    intro j u hj
    match j, hj with
    | 0, hj => simp at hj; subst hj; simp [Addr.add]
    | 1, hj => simp at hj; subst hj; simp [Addr.add]
    | 2, hj => simp at hj; subst hj; simp [Addr.add]
    | (j + 3), hj => simp at hj
  intro v' w2 hown' hgrow _ hat
  go_wp2
  go_ret
  exact ⟨_, rfl, by simpa using hown', ⟨_, hgrow⟩, by simpa using hat⟩

set_option maxHeartbeats 4000000 in
set_option maxRecDepth 100000 in
theorem nonascii_sur (a0 : Option Addr) (n0 p0 : Nat) (bs : List Value) (r : Int) (h0 : 55296 ≤ r) (h1 : r ≤ 57343) (w : World) (hown : w.ownsRow 0 5 1 (.slice a0 n0 p0) bs.length bs) (hlen : bs.length < lots) :
    Calls Tryz.prog 196 #[.slice a0 n0 p0, .int .i32 r] w (RunePut (.slice a0 n0 p0) (bs ++ [.int .u8 239, .int .u8 191, .int .u8 189]) w) := by
  obtain ⟨i0, hi, hz0, hz1, hz2⟩ := info_parts Tryz.info5
  unfold lots at hlen
  go_enter Tryz.func196, Tryz.ntmps196
  go_wp2_with (at_builtin; refine wpList_append_own_at _ rfl _ _ 217 rfl 0 5 i0 (.int .u8 0) 1 1 Tryz.underlying217 hi hz0 hz1 hz2 rfl (by decide) (.slice a0 n0 p0) _ _ rfl (hown.alloc _) ⟨w.heap.size, 0, none⟩ 3 3 [.int .u8 239, .int .u8 191, .int .u8 189] rfl rfl ?c1 (by simp [Value.oneCell']) (by unfold maxLen; omega) (by omega) (Nat.zero_le _) ?_)
  all_goals first
    | (intro v' w2 hown' hgrow _ hat; go_wp2; go_ret; exact ⟨_, rfl, by simpa using hown', ⟨_, hgrow⟩, by simpa using hat⟩)
    | (intro j u hj
       match j, hj with
       | 0, hj => simp at hj; subst hj; simp [Addr.add]
       | 1, hj => simp at hj; subst hj; simp [Addr.add]
       | 2, hj => simp at hj; subst hj; simp [Addr.add]
       | (j + 3), hj => simp at hj)

set_option maxHeartbeats 4000000 in
set_option maxRecDepth 100000 in
theorem nonascii_hi (a0 : Option Addr) (n0 p0 : Nat) (bs : List Value) (r : Int) (h0 : 57343 < r) (h1 : r ≤ 65535) (w : World) (hown : w.ownsRow 0 5 1 (.slice a0 n0 p0) bs.length bs) (hlen : bs.length < lots) :
    Calls Tryz.prog 196 #[.slice a0 n0 p0, .int .i32 r] w (RunePut (.slice a0 n0 p0) (bs ++ [.int .u8 (224 + r / 4096), .int .u8 (128 + r / 64 % 64), .int .u8 (128 + r % 64)]) w) := by
  obtain ⟨i0, hi, hz0, hz1, hz2⟩ := info_parts Tryz.info5
  unfold lots at hlen
  go_enter Tryz.func196, Tryz.ntmps196
  go_wp2_with (at_builtin; refine wpList_append_own_at _ rfl _ _ 217 rfl 0 5 i0 (.int .u8 0) 1 1 Tryz.underlying217 hi hz0 hz1 hz2 rfl (by decide) (.slice a0 n0 p0) _ _ rfl (hown.alloc _) ⟨w.heap.size, 0, none⟩ 3 3 [.int .u8 (224 + r / 4096), .int .u8 (128 + r / 64 % 64), .int .u8 (128 + r % 64)] rfl rfl ?c1 (by simp [Value.oneCell']) (by unfold maxLen; omega) (by omega) (Nat.zero_le _) ?_)
  case c1 =>
    intro j u hj
    match j, hj with
    | 0, hj => simp at hj; subst hj; simp [Addr.add]
    | 1, hj => simp at hj; subst hj; simp [Addr.add]
    | 2, hj => simp at hj; subst hj; simp [Addr.add]
    | (j + 3), hj => simp at hj
  intro v' w2 hown' hgrow _ hat
  go_wp2
  go_ret
  exact ⟨_, rfl, by simpa using hown', ⟨_, hgrow⟩, by simpa using hat⟩

set_option maxHeartbeats 4000000 in
set_option maxRecDepth 100000 in
theorem nonascii_four (a0 : Option Addr) (n0 p0 : Nat) (bs : List Value) (r : Int) (h0 : 65536 ≤ r) (h1 : r ≤ 1114111) (w : World) (hown : w.ownsRow 0 5 1 (.slice a0 n0 p0) bs.length bs) (hlen : bs.length < lots) :
    Calls Tryz.prog 196 #[.slice a0 n0 p0, .int .i32 r] w (RunePut (.slice a0 n0 p0) (bs ++ [.int .u8 (240 + r / 262144), .int .u8 (128 + r / 4096 % 64), .int .u8 (128 + r / 64 % 64), .int .u8 (128 + r % 64)]) w) := by
  obtain ⟨i0, hi, hz0, hz1, hz2⟩ := info_parts Tryz.info5
  unfold lots at hlen
  go_enter Tryz.func196, Tryz.ntmps196
  go_wp2_with (at_builtin; refine wpList_append_own_at _ rfl _ _ 217 rfl 0 5 i0 (.int .u8 0) 1 1 Tryz.underlying217 hi hz0 hz1 hz2 rfl (by decide) (.slice a0 n0 p0) _ _ rfl (hown.alloc _) ⟨w.heap.size, 0, none⟩ 4 4 [.int .u8 (240 + r / 262144), .int .u8 (128 + r / 4096 % 64), .int .u8 (128 + r / 64 % 64), .int .u8 (128 + r % 64)] rfl rfl ?c1 (by simp [Value.oneCell']) (by unfold maxLen; omega) (by omega) (Nat.zero_le _) ?_)
  case c1 =>
    intro j u hj
    match j, hj with
    | 0, hj => simp at hj; subst hj; simp [Addr.add]
    | 1, hj => simp at hj; subst hj; simp [Addr.add]
    | 2, hj => simp at hj; subst hj; simp [Addr.add]
    | 3, hj => simp at hj; subst hj; simp [Addr.add]
    | (j + 4), hj => simp at hj
  intro v' w2 hown' hgrow _ hat
  go_wp2
  go_ret
  exact ⟨_, rfl, by simpa using hown', ⟨_, hgrow⟩, by simpa using hat⟩

set_option maxHeartbeats 4000000 in
set_option maxRecDepth 100000 in
theorem nonascii_big (a0 : Option Addr) (n0 p0 : Nat) (bs : List Value) (r : Int) (h0 : 1114111 < r) (h1 : r ≤ 2147483647) (w : World) (hown : w.ownsRow 0 5 1 (.slice a0 n0 p0) bs.length bs) (hlen : bs.length < lots) :
    Calls Tryz.prog 196 #[.slice a0 n0 p0, .int .i32 r] w (RunePut (.slice a0 n0 p0) (bs ++ [.int .u8 239, .int .u8 191, .int .u8 189]) w) := by
  obtain ⟨i0, hi, hz0, hz1, hz2⟩ := info_parts Tryz.info5
  unfold lots at hlen
  go_enter Tryz.func196, Tryz.ntmps196
  go_wp2_with (at_builtin; refine wpList_append_own_at _ rfl _ _ 217 rfl 0 5 i0 (.int .u8 0) 1 1 Tryz.underlying217 hi hz0 hz1 hz2 rfl (by decide) (.slice a0 n0 p0) _ _ rfl (hown.alloc _) ⟨w.heap.size, 0, none⟩ 3 3 [.int .u8 239, .int .u8 191, .int .u8 189] rfl rfl ?c1 (by simp [Value.oneCell']) (by unfold maxLen; omega) (by omega) (Nat.zero_le _) ?_)
  case c1 =>
    intro j u hj
    match j, hj with
    | 0, hj => simp at hj; subst hj; simp [Addr.add]
    | 1, hj => simp at hj; subst hj; simp [Addr.add]
    | 2, hj => simp at hj; subst hj; simp [Addr.add]
    | (j + 3), hj => simp at hj
  intro v' w2 hown' hgrow _ hat
  go_wp2
  go_ret
  exact ⟨_, rfl, by simpa using hown', ⟨_, hgrow⟩, by simpa using hat⟩

theorem nonascii_at (a0 : Option Addr) (n0 p0 : Nat) (bs : List Value) (r : Int) (h0 : 128 ≤ r) (h1 : r ≤ 2147483647) (w : World) (hown : w.ownsRow 0 5 1 (.slice a0 n0 p0) bs.length bs) (hlen : bs.length < lots) :
    Calls Tryz.prog 196 #[.slice a0 n0 p0, .int .i32 r] w (RunePut (.slice a0 n0 p0) (bs ++ Lib.runeCells r) w) := by
  by_cases c1 : r ≤ 2047
  · rw [show Lib.runeCells r = [.int .u8 (192 + r / 64), .int .u8 (128 + r % 64)] by simp [Lib.runeCells, Lib.encodeRuneZ_two (by omega) c1]]
    exact nonascii_two a0 n0 p0 bs r (by omega) (by omega) w hown hlen
  by_cases c2 : r < 55296
  · rw [show Lib.runeCells r = [.int .u8 (224 + r / 4096), .int .u8 (128 + r / 64 % 64), .int .u8 (128 + r % 64)] by simp [Lib.runeCells, Lib.encodeRuneZ_three (Or.inl ⟨by omega, c2⟩)]]
    exact nonascii_three a0 n0 p0 bs r (by omega) (by omega) w hown hlen
  by_cases c3 : r ≤ 57343
  · rw [show Lib.runeCells r = [.int .u8 239, .int .u8 191, .int .u8 189] by simp [Lib.runeCells, Lib.encodeRuneZ_bad (Or.inr (Or.inl ⟨by omega, c3⟩))]]
    exact nonascii_sur a0 n0 p0 bs r (by omega) (by omega) w hown hlen
  by_cases c4 : r ≤ 65535
  · rw [show Lib.runeCells r = [.int .u8 (224 + r / 4096), .int .u8 (128 + r / 64 % 64), .int .u8 (128 + r % 64)] by simp [Lib.runeCells, Lib.encodeRuneZ_three (Or.inr ⟨by omega, c4⟩)]]
    exact nonascii_hi a0 n0 p0 bs r (by omega) (by omega) w hown hlen
  by_cases c5 : r ≤ 1114111
  · rw [show Lib.runeCells r = [.int .u8 (240 + r / 262144), .int .u8 (128 + r / 4096 % 64), .int .u8 (128 + r / 64 % 64), .int .u8 (128 + r % 64)] by simp [Lib.runeCells, Lib.encodeRuneZ_four (by omega) c5]]
    exact nonascii_four a0 n0 p0 bs r (by omega) (by omega) w hown hlen
  · rw [show Lib.runeCells r = [.int .u8 239, .int .u8 191, .int .u8 189] by simp [Lib.runeCells, Lib.encodeRuneZ_bad (r := r) (Or.inr (Or.inr (by omega)))]]
    exact nonascii_big a0 n0 p0 bs r (by omega) (by omega) w hown hlen

set_option maxHeartbeats 4000000 in
set_option maxRecDepth 100000 in
theorem appendRune_at (a0 : Option Addr) (n0 p0 : Nat) (bs : List Value) (r : Int) (h0 : 0 ≤ r) (h1 : r ≤ 2147483647) (w : World) (hown : w.ownsRow 0 5 1 (.slice a0 n0 p0) bs.length bs) (hlen : bs.length < lots) :
    Calls Tryz.prog 185 #[.slice a0 n0 p0, .int .i32 r] w (RunePut (.slice a0 n0 p0) (bs ++ Lib.runeCells r) w) := by
  by_cases c : r ≤ 127
  · obtain ⟨i0, hi, hz0, hz1, hz2⟩ := info_parts Tryz.info5
    unfold lots at hlen
    rw [show Lib.runeCells r = [.int .u8 r] by simp [Lib.runeCells, Lib.encodeRuneZ_one h0 c]]
    go_enter Tryz.func185, Tryz.ntmps185
    go_wp2_with (at_builtin; refine wpList_append_own_at _ rfl _ _ 217 rfl 0 5 i0 (.int .u8 0) 1 1 Tryz.underlying217 hi hz0 hz1 hz2 rfl (by decide) (.slice a0 n0 p0) _ _ rfl (hown.alloc _) ⟨w.heap.size, 0, none⟩ 1 1 [.int .u8 r] rfl rfl ?c1 (by simp [Value.oneCell']) (by unfold maxLen; omega) (by omega) (Nat.zero_le _) ?_)
    case c1 =>
      intro j u hj
      match j, hj with
      | 0, hj => simp at hj; subst hj; simp [Addr.add]
      | (j + 1), hj => simp at hj
    intro v' w2 hown' hgrow _ hat
    go_wp2
    go_ret
    exact ⟨_, rfl, by simpa using hown', ⟨_, hgrow⟩, by simpa using hat⟩
  · have C := hid (nonascii_at a0 n0 p0 bs r (by omega) h1 w hown hlen)
    clear hown
    go_enter Tryz.func185, Tryz.ntmps185
    go_wp2_with (go_at_call 196; refine C.out.mono ?_)
    rintro e w1 ⟨v', rfl, h1, h2⟩
    go_wp2
    go_ret
    exact ⟨_, rfl, h1, h2⟩

/-- A builder whose bytes lie in the row v. -/
def BldV (b : Nat) (v : Value) (bs : List Value) (w : World) : Prop :=
  (w.heap[b]? = some (.cells #[.pointer none, v] 219 (0, 0)) ∨ w.heap[b]? = some (.cells #[ptr b, v] 219 (0, 0))) ∧ w.ownsRow 0 5 1 v bs.length bs ∧ v.ownBlock ≠ some b

theorem BldV.keeps {b : Nat} {v : Value} {bs : List Value} {w w' : World} {F : Nat → Prop} (h : BldV b v bs w) (hk : Keeps F w w') (hb : ¬ F b) (hv : ∀ k, v.ownBlock = some k → ¬ F k) : BldV b v bs w' := by
  obtain ⟨h1, h2, h3⟩ := h
  refine ⟨?_, hk.row h2 hv, h3⟩
  rcases h1 with h1 | h1
  · exact .inl (by rw [hk.block b (heap_lt h1) hb]; exact h1)
  · exact .inr (by rw [hk.block b (heap_lt h1) hb]; exact h1)
theorem BldV.lt {b : Nat} {v : Value} {bs : List Value} {w : World} (h : BldV b v bs w) : b < w.heap.size := h.1.elim heap_lt heap_lt
theorem BldV.bld {b : Nat} {v : Value} {bs : List Value} {w : World} (h : BldV b v bs w) : Bld 0 b bs w := by
  obtain ⟨h1, h2, h3⟩ := h
  rcases h1 with h1 | h1
  · exact .inl ⟨Nat.zero_le _, v, h1, h2, h3⟩
  · exact .inr ⟨Nat.zero_le _, v, h1, h2, h3⟩

theorem bcheckV {b : Nat} {v : Value} {bs : List Value} {w : World} (h : BldV b v bs w) :
    Calls Tryz.prog 184 #[ptr b] w fun e w' => e = .returned (.tuple #[]) ∧ w'.heap[b]? = some (.cells #[ptr b, v] 219 (0, 0)) ∧ w'.ownsRow 0 5 1 v bs.length bs ∧ Keeps (fun k => k = b) w w' ∧ IterKept w w' ∧ w'.heap.size = w.heap.size := by
  obtain ⟨h1, h2, h3⟩ := h
  rcases h1 with h1 | h1
  · have hf : Lib.BuilderAt 219 5 0 b (.pointer none) bs w := ⟨Nat.zero_le _, v, h1, h2, h3⟩
    refine (bcheck_fresh b w hf.cell0 hf.shape hf.frozen0).mono ?_
    rintro e w' ⟨rfl, rfl⟩
    have hk := (Keeps.refl (fun k => k = b) w).setCell (p := ⟨b, 0, none⟩) (.inl rfl) (ptr b)
    exact ⟨rfl, by rw [heap_setCell_same w _ 0 _ _ _ h1]; rfl, hk.row h2 (fun k e e2 => h3 (e2 ▸ e)), hk, IterKept.setCell _ h1, by simp⟩
  · refine (bcheck_used b w (cell_of_heap h1 0)).mono ?_
    rintro e w' ⟨rfl, rfl⟩
    exact ⟨rfl, h1, h2, Keeps.refl _ _, IterKept.refl _, rfl⟩

/-- What WriteRune leaves. -/
def RuneV (b : Nat) (v : Value) (bs : List Value) (w : World) (e : Ending) (w' : World) : Prop :=
  ∃ (n : Int) (v' : Value), e = .returned (.tuple #[.int .i64 n, .nilIface]) ∧ BldV b v' bs w' ∧ Keeps (fun k => k = b ∨ v.ownBlock = some k) w w' ∧ (∀ k, v'.ownBlock = some k → v.ownBlock = some k ∨ w.heap.size ≤ k) ∧ IterKept w w'

set_option maxHeartbeats 2000000 in
set_option maxRecDepth 100000 in
theorem bruneV {b : Nat} {v : Value} {bs : List Value} (r : Int) (hr0 : 0 ≤ r) (hr1 : r ≤ 2147483647) {w : World} (h : BldV b v bs w) (hlen : bs.length < lots) :
    Calls Tryz.prog 160 #[ptr b, .int .i32 r] w (RuneV b v (bs ++ Lib.runeCells r) w) := by
  have C := hid (bcheckV h)
  have hne := h.2.2
  have hbl := h.lt
  clear h
  go_enter Tryz.func160, Tryz.ntmps160
  go_wp2_with (go_at_call 184; refine C.out.mono ?_)
  rintro e w1 ⟨rfl, hbk, hown, hk1, hi1, hs1⟩
  obtain ⟨a0, n0, p0, rfl⟩ := bld_slice hown
  have c1 : w1.cell? ⟨b, 1, none⟩ = some (.slice a0 n0 p0) := cell_of_heap hbk 1
  have A1 := hid (appendRune_at a0 n0 p0 bs r hr0 hr1 w1 hown hlen)
  have H1 := hid (And.intro hbk (And.intro hown (And.intro hk1 hi1)))
  have HS := hid hs1
  clear hbk hown hk1 hi1 hs1
  go_wp2_with (go_at_call 185; refine A1.out.mono ?_)
  rintro e w2 ⟨v', rfl, hown', ⟨o, hgrow⟩, hat⟩
  obtain ⟨hbk, hown, hk1, hi1⟩ := H1.out
  have hs1 := HS.out
  have hbk' : (w1.alloc o).heap[b]? = some (.cells #[ptr b, .slice a0 n0 p0] 219 (0, 0)) := by rw [Below.heap_alloc _ _ _ (heap_lt hbk)]; exact hbk
  have hb2 : w2.heap[b]? = some (.cells #[ptr b, .slice a0 n0 p0] 219 (0, 0)) := by
    rw [hgrow.block b (heap_lt hbk') (fun e => hne e.symm)]
    exact hbk'
  have hk2 : Keeps (fun k => k = b ∨ (Value.slice a0 n0 p0).ownBlock = some k) w w2 :=
    ((hk1.mono (fun k _ e => .inl e)).alloc o).trans (Keeps.grown hgrow (fun k e => .inl (.inl (.inr e))))
  have hi2 : IterKept w w2 := (hi1.trans (IterKept.alloc _ _)).trans (IterKept.grown (hown.alloc o) hgrow)
  have hgain : ∀ k, v'.ownBlock = some k → (Value.slice a0 n0 p0).ownBlock = some k ∨ w.heap.size ≤ k := by
    intro k e
    rcases hat with h | h
    · exact .inl (h ▸ e)
    · rw [h] at e
      cases e
      exact .inr (by omega)
  have hne' : v'.ownBlock ≠ some b := by
    rcases hat with h | h
    · rw [h]; exact hne
    · rw [h]; intro e; cases e; omega
  obtain ⟨ao, n', cap, rfl⟩ := bld_slice (bs := bs ++ Lib.runeCells r) hown'
  have d1 : w2.cell? ⟨b, 1, none⟩ = some (.slice a0 n0 p0) := cell_of_heap hb2 1
  have f1 : w2.frozen? ⟨b, 1, none⟩ = false := frozen_of_heap hb2 1
  have P := hid (And.intro hb2 (And.intro hk2 (And.intro hi2 (And.intro hgain (And.intro hne' hown')))))
  clear hown' hgrow hbk' hown hbk hb2 hk2 hi2 hgain hne' hk1 hi1 hs1 hat
  go_wp2
  go_ret2
  obtain ⟨hb2, hk2, hi2, hgain, hne', hown'⟩ := P.out
  have hk3 := (Keeps.refl (fun k => k = b) w2).setCell (p := ⟨b, 1, none⟩) (.inl rfl) (.slice ao n' cap)
  refine ⟨_, _, rfl, ⟨.inr ?_, hk3.row hown' (fun k e e2 => hne' (e2 ▸ e)), hne'⟩, hk2.setCell (p := ⟨b, 1, none⟩) (.inl (.inl rfl)) _, hgain, hi2.trans (IterKept.setCell _ hb2)⟩
  rw [heap_setCell_same w2 _ 1 _ _ _ hb2]
  rfl

end Go.Proofs.YtabogkonklplcaaGreatDoor

/- marginlaw's ranges at Read and Delete; the steps of all kinds. -/
namespace Go.Proofs.YtabogkonklplcaaGreatDoor
open Go.RowKit
set_option linter.unusedSimpArgs false
set_option linter.unusedVariables false

section
variable {PD : PDT} {G : World → Prop} {FP FR : Nat → Prop} {w : World} {yb bx bd : Nat} {psv : Value} {s : St}

set_option maxRecDepth 20000 in
set_option maxHeartbeats 4000000 in
theorem ranges_read (hPD : PDOk PD) (hGB : ∀ w w', G w → Below w.heap.size w w' → G w') (hA : PairAt PD FP FR w yb bx bd psv s) (hg : G w)
    (D A B C : Int) (S : ByteArray) (p0 p1 q0 q1 : Int) (h : ∃ b : ByteArray, Ans PD G s 33 85 [.int .i64 A] (fun v => .tuple #[.string b, v]) (fun v => .tuple #[.string b, v])) :
    Calls Tryz.prog 44 #[ptr yb, .agg #[ptr bx, ptr bd], opV 14 D A B C S p0 p1 q0 q1] w (PairPost PD FP FR w yb bx bd psv) := by
  obtain ⟨b, a, y, s', hwf, hp, hr⟩ := h
  have hB := boxed2_below w bx bd 14 D A B C S p0 p1 q0 q1
  have hbp := boxed2_pair w bx bd 14 D A B C S p0 p1 q0 q1
  have hbo := boxed2_op w bx bd 14 D A B C S p0 p1 q0 q1
  have CP := hid (hp (boxed2 w bx bd 14 D A B C S p0 p1 q0 q1) FP bx (hGB _ _ hg hB) (hPD.keeps hA.pd (Keeps.of_below (F := fun _ => False) hB) (fun _ _ e => e)))
  have HB := hid hB
  have HBP := hid hbp
  have HBO := hid hbo
  have HR := hid hr
  have HA := hid hA
  have HPD := hid hPD
  have HWF := hid hwf
  clear hp hr hB hbp hbo hA hPD hwf hg hGB
  have hbb : (b.toList == b.toList) = true := by simp
  go_enter Tryz.func44, Tryz.ntmps44
  go_wp2_with (first
    | (go_at_call 33
       refine CP.out.mono ?_
       clear CP
       rintro e w1 ⟨rfl, k1, d1⟩
       have hp1 := HA.out.old k1 (Nat.le_refl _) HBP.out
       have ho1 := HA.out.old k1 (Nat.le_succ _) HBO.out
       have c10 : w1.cell? ⟨w.heap.size, 0, none⟩ = some (ptr bx) := cell_of_heap hp1 0
       have c11 : w1.cell? ⟨w.heap.size, 1, none⟩ = some (ptr bd) := cell_of_heap hp1 1
       have c22 : w1.cell? ⟨w.heap.size + 1, 2, none⟩ = some (.int .i64 A) := cell_of_heap ho1 2
       have c23 : w1.cell? ⟨w.heap.size + 1, 3, none⟩ = some (.int .i64 B) := cell_of_heap ho1 3
       have c24 : w1.cell? ⟨w.heap.size + 1, 4, none⟩ = some (.int .i64 C) := cell_of_heap ho1 4
       have c25 : w1.cell? ⟨w.heap.size + 1, 5, none⟩ = some (.string S) := cell_of_heap ho1 5
       have CR := hid (HR.out w1 FR bd (HA.out.ref HB.out k1))
       have K1 := hid k1
       have D1 := hid d1
       clear k1 d1 hp1 ho1)
    | (go_at_call 85
       refine CR.out.mono ?_
       clear CR
       rintro e w2 ⟨rfl, k2, r2⟩
       have PL := hid (HA.out.play2 HB.out K1.out k2)
       have K2 := hid k2
       have R2 := hid r2
       clear k2 r2)
    | (go_at_call 20
       obtain ⟨l0, a0, y0, -, hq⟩ := PL.out
       refine (las_any yb psv l0 a0 y0 a y (w2.alloc (.cells #[.int .i64 a, .int .i64 y] 32)) ((Below.heap_alloc _ _ _ (heap_lt hq)).trans hq)).mono ?_
       rintro e w4 ⟨rfl, k4, hq4⟩
       have K4 := hid k4
       have Q4 := hid hq4
       clear k4 hq4 hq))
  go_ret
  exact pair_close HPD.out HA.out HWF.out HB.out K1.out D1.out K2.out R2.out ((((Keeps.refl (fun b => b = yb) w2).alloc _)).trans (K4.out.mono (fun k _ e => .inl e))) ⟨_, _, _, rfl, Q4.out⟩

set_option maxRecDepth 20000 in
set_option maxHeartbeats 4000000 in
theorem ranges_delete (hPD : PDOk PD) (hGB : ∀ w w', G w → Below w.heap.size w w' → G w') (hA : PairAt PD FP FR w yb bx bd psv s) (hg : G w)
    (D A B C : Int) (S : ByteArray) (p0 p1 q0 q1 : Int) (h : Ans PD G s 37 86 [.int .i64 A] (fun v => v) (fun v => v)) :
    Calls Tryz.prog 44 #[ptr yb, .agg #[ptr bx, ptr bd], opV 15 D A B C S p0 p1 q0 q1] w (PairPost PD FP FR w yb bx bd psv) := by
  obtain ⟨a, y, s', hwf, hp, hr⟩ := h
  have hB := boxed2_below w bx bd 15 D A B C S p0 p1 q0 q1
  have hbp := boxed2_pair w bx bd 15 D A B C S p0 p1 q0 q1
  have hbo := boxed2_op w bx bd 15 D A B C S p0 p1 q0 q1
  have CP := hid (hp (boxed2 w bx bd 15 D A B C S p0 p1 q0 q1) FP bx (hGB _ _ hg hB) (hPD.keeps hA.pd (Keeps.of_below (F := fun _ => False) hB) (fun _ _ e => e)))
  have HB := hid hB
  have HBP := hid hbp
  have HBO := hid hbo
  have HR := hid hr
  have HA := hid hA
  have HPD := hid hPD
  have HWF := hid hwf
  clear hp hr hB hbp hbo hA hPD hwf hg hGB
  go_enter Tryz.func44, Tryz.ntmps44
  go_wp2_with (first
    | (go_at_call 37
       refine CP.out.mono ?_
       clear CP
       rintro e w1 ⟨rfl, k1, d1⟩
       have hp1 := HA.out.old k1 (Nat.le_refl _) HBP.out
       have ho1 := HA.out.old k1 (Nat.le_succ _) HBO.out
       have c10 : w1.cell? ⟨w.heap.size, 0, none⟩ = some (ptr bx) := cell_of_heap hp1 0
       have c11 : w1.cell? ⟨w.heap.size, 1, none⟩ = some (ptr bd) := cell_of_heap hp1 1
       have c22 : w1.cell? ⟨w.heap.size + 1, 2, none⟩ = some (.int .i64 A) := cell_of_heap ho1 2
       have c23 : w1.cell? ⟨w.heap.size + 1, 3, none⟩ = some (.int .i64 B) := cell_of_heap ho1 3
       have c24 : w1.cell? ⟨w.heap.size + 1, 4, none⟩ = some (.int .i64 C) := cell_of_heap ho1 4
       have c25 : w1.cell? ⟨w.heap.size + 1, 5, none⟩ = some (.string S) := cell_of_heap ho1 5
       have CR := hid (HR.out w1 FR bd (HA.out.ref HB.out k1))
       have K1 := hid k1
       have D1 := hid d1
       clear k1 d1 hp1 ho1)
    | (go_at_call 86
       refine CR.out.mono ?_
       clear CR
       rintro e w2 ⟨rfl, k2, r2⟩
       have PL := hid (HA.out.play2 HB.out K1.out k2)
       have K2 := hid k2
       have R2 := hid r2
       clear k2 r2)
    | (go_at_call 20
       obtain ⟨l0, a0, y0, -, hq⟩ := PL.out
       refine (las_any yb psv l0 a0 y0 a y w2 hq).mono ?_
       rintro e w4 ⟨rfl, k4, hq4⟩
       have K4 := hid k4
       have Q4 := hid hq4
       clear k4 hq4 hq))
  go_ret
  exact pair_close HPD.out HA.out HWF.out HB.out K1.out D1.out K2.out R2.out K4.out ⟨_, _, _, rfl, Q4.out⟩

end

/-- All calls of the program's (but Walk), beside the document's own. -/
structure Answers4 (PD : PDT) (G : World → Prop) : Prop extends Answers3 PD G where
  compare : Compares PD G
  read : ∀ s, PD.ok s → ∀ A : Int, ∃ b : ByteArray, Ans PD G s 33 85 [.int .i64 A] (fun v => .tuple #[.string b, v]) (fun v => .tuple #[.string b, v])
  delete : ∀ s, PD.ok s → ∀ A : Int, Ans PD G s 37 86 [.int .i64 A] (fun v => v) (fun v => v)

theorem steps_last {PD : PDT} {G : World → Prop} (hA : Answers4 PD G) {Q : Nat → Prop} {w0 : World} {yb : Nat} (hG : ∀ W, Keeps Q w0 W → G W) (o : OpR) (ho : OpOk o) (hk : 14 ≤ o.kind ∧ o.kind ≤ 15) (W : World) (docs : List DocR) (hI : InvE PD Q w0 W yb docs) (hdl : docs.length < lots) :
    Calls Tryz.prog 15 #[ptr yb, o.val] W (StepPost PD Q w0 yb docs.length docs.length) := by
  obtain ⟨kind, D, A, B, C, S, p0, p1, q0, q1⟩ := o
  obtain ⟨d1, d2, hs⟩ := ho
  simp only at d1 d2 hs hk
  by_cases h0 : docs.length = 0
  · exact step_none hA.pd hI kind D A B C S p0 p1 q0 q1 (by omega) (.inl h0)
  refine step_ranges hA.pd hI kind D A B C S p0 p1 q0 q1 (by omega) (by omega) (by omega) hdl d1 d2 (fun W1 own psv i d hd hI1 => ?_)
  have hp := hI1.pair hd
  have hwf := (hI1.doc i d hd).2.2
  have hg := hG _ hI1.fr
  have hc : kind = 14 ∨ kind = 15 := by omega
  rcases hc with rfl | rfl
  · exact ranges_read hA.pd hA.gb hp hg D A B C S p0 p1 q0 q1 (hA.read d.s hwf A)
  · exact ranges_delete hA.pd hA.gb hp hg D A B C S p0 p1 q0 q1 (hA.delete d.s hwf A)

/-- All kinds. -/
theorem steps_of4 {PD : PDT} {G : World → Prop} (hA : Answers4 PD G) {Q : Nat → Prop} {w0 : World} {yb : Nat} (hG : ∀ W, Keeps Q w0 W → G W) : Steps PD Q w0 yb (fun k => 1 ≤ k ∧ k ≤ 15) := by
  intro o ho hk W docs hI hdl
  by_cases h9 : o.kind ≤ 9
  · exact steps_of2 hA.toAnswers2 hA.compare hG o ho ⟨hk.1, h9⟩ W docs hI hdl
  · by_cases h13 : o.kind ≤ 13
    · refine (steps_ranges hA.toAnswers3 hG o ho ⟨by omega, h13⟩ W docs hI hdl).mono ?_
      rintro e w' ⟨he, docs', h, hm, hl⟩
      exact ⟨he, docs', h, hm, by omega⟩
    · refine (steps_last hA hG o ho ⟨by omega, hk.2⟩ W docs hI hdl).mono ?_
      rintro e w' ⟨he, docs', h, hm, hl⟩
      exact ⟨he, docs', h, hm, by omega⟩

end Go.Proofs.YtabogkonklplcaaGreatDoor
