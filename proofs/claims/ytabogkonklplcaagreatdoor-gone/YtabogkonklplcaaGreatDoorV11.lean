import Derived.Test.YtabogkonklplcaaGreatDoorV09
import Derived.Lib.MapLaws
import Derived.Lib.UnsafeStr
import Derived.Lib.RuneBytes
import Derived.Lib.AppendStr
import Derived.Shelf.Spec.BytesIndexFunc
import Derived.WalkSmall
import Derived.LoopTactic
import Derived.Laws.RangeString
import Derived.Laws.RangeAny
import Derived.Deep.DeepFit
import Derived.Test.YtabogkonklplcaaGreatDoorV04
import Derived.Test.YtabogkonklplcaaGreatDoorV10
import Derived.BigQuiet
import Derived.Test.YtabogkonklplcaaGreatDoorV08
import Derived.Deep.QuietTactic

namespace Go.Proofs.YtabogkonklplcaaGreatDoor
open Go.RowKit
set_option linter.unusedSimpArgs false
set_option linter.unusedVariables false
theorem if_ext {n n' m k : Nat} {q : Prop} {d : Decidable (m ≤ n ∧ q)} {d' : Decidable (m ≤ n' ∧ q)} (hn : n ≤ n') (h : (if m ≤ n ∧ q then k else 0) ≠ 0) : (if m ≤ n' ∧ q then k else 0) = if m ≤ n ∧ q then k else 0 := by
  by_cases c : m ≤ n ∧ q
  · exact (if_pos (show m ≤ n' ∧ q from ⟨by omega, c.2⟩)).trans (if_pos c).symm
  · rw [if_neg c] at h; exact absurd rfl h
theorem headN_ext {n n' b0 b1 b2 b3 : Nat} (hn : n ≤ n') (h : headN n b0 b1 b2 b3 ≠ 0) : headN n' b0 b1 b2 b3 = headN n b0 b1 b2 b3 := by
  unfold headN at h ⊢
  by_cases a : b0 < 128
  · simp only [if_pos a]
  simp only [if_neg a] at h ⊢
  by_cases c1 : 194 ≤ b0 ∧ b0 ≤ 223
  · simp only [if_pos c1] at h ⊢
    exact if_ext hn h
  simp only [if_neg c1] at h ⊢
  by_cases c2 : b0 = 224
  · simp only [if_pos c2] at h ⊢
    exact if_ext hn h
  simp only [if_neg c2] at h ⊢
  by_cases c3 : b0 = 237
  · simp only [if_pos c3] at h ⊢
    exact if_ext hn h
  simp only [if_neg c3] at h ⊢
  by_cases c4 : 225 ≤ b0 ∧ b0 ≤ 239
  · simp only [if_pos c4] at h ⊢
    exact if_ext hn h
  simp only [if_neg c4] at h ⊢
  by_cases c5 : b0 = 240
  · simp only [if_pos c5] at h ⊢
    exact if_ext hn h
  simp only [if_neg c5] at h ⊢
  by_cases c6 : 241 ≤ b0 ∧ b0 ≤ 243
  · simp only [if_pos c6] at h ⊢
    exact if_ext hn h
  simp only [if_neg c6] at h ⊢
  by_cases c7 : b0 = 244
  · simp only [if_pos c7] at h ⊢
    exact if_ext hn h
  simp only [if_neg c7] at h ⊢
theorem byteI_app (c r : ByteArray) (i : Nat) (h : i < c.size) : byteI (c ++ r) i = byteI c i := by
  unfold byteI
  rw [dif_pos (by rw [ByteArray.size_append]; omega), dif_pos h, ByteArray.getElem_append_left h]
theorem headW_app {c : ByteArray} (h : IsCh c) (r : ByteArray) : headW (c ++ r) = c.size := by
  obtain ⟨h0, h1⟩ := h
  have hs : (c ++ r).size = c.size + r.size := ByteArray.size_append
  have e1 := headW_eq (c ++ r) (by omega) (byteN (c ++ r) 0) (byteN (c ++ r) 1) (byteN (c ++ r) 2) (byteN (c ++ r) 3) (byteI_nat _ 0 (by omega)) (fun h => byteI_nat _ 1 h) (fun h => byteI_nat _ 2 h) (fun h => byteI_nat _ 3 h)
  have e2 := headW_eq c (by omega) (byteN (c ++ r) 0) (byteN (c ++ r) 1) (byteN (c ++ r) 2) (byteN (c ++ r) 3) (by rw [← byteI_app c r 0 (by omega)]; exact byteI_nat _ 0 (by omega)) (fun h => by rw [← byteI_app c r 1 h]; exact byteI_nat _ 1 (by omega)) (fun h => by rw [← byteI_app c r 2 h]; exact byteI_nat _ 2 (by omega)) (fun h => by rw [← byteI_app c r 3 h]; exact byteI_nat _ 3 (by omega))
  rw [h1] at e2
  rw [e1, headN_ext (n := c.size) (by omega) (by rw [← e2]; exact h0), ← e2]
theorem extract_app (a b : ByteArray) : (a ++ b).extract a.size (a ++ b).size = b := by
  rw [ByteArray.size_append]
  have e := ByteArray.extract_append_size_add (a := a) (b := b) (i := 0) (j := b.size)
  rw [Nat.add_zero] at e
  rw [e]
  exact ByteArray.extract_zero_size
theorem decode_head (c r : ByteArray) (h : IsCh c) : (Utf8.decode (c ++ r) 0).2 = c.size ∧ Lib.runeCells ((Utf8.decode (c ++ r) 0).1 : Int) = Lib.strCells c := by
  have hs : (c ++ r).size = c.size + r.size := ByteArray.size_append
  have h0 := h.1
  have e0 : (c ++ r).extract 0 (c ++ r).size = c ++ r := ByteArray.extract_zero_size
  have hw := headW_at (c ++ r) 0 (by omega)
  rw [e0, headW_app h r] at hw
  rcases hw with ⟨h1, _⟩ | ⟨_, h2, h3⟩
  · exact absurd h1 h0
  · refine ⟨h2, ?_⟩
    have e := Lib.encode_decode (c ++ r).data.toList (by intro e; have : (c ++ r).size = 0 := by rw [← ByteArray.size_data, ← Array.length_toList, e]; rfl
                                                         omega) (by
      show ¬ ((Utf8.decode (c ++ r) 0).1 = 65533 ∧ (Utf8.decode (c ++ r) 0).2 = 1)
      exact fun hh => h3 (Prod.ext hh.1 hh.2))
    have e2 : Lib.decodeL (c ++ r).data.toList = Utf8.decode (c ++ r) 0 := rfl
    rw [e2, h2] at e
    rw [← Lib.byteCells_encodeRune, e, Lib.strCells_eq]
    congr 1
    simp [ByteArray.data_append]
end Go.Proofs.YtabogkonklplcaaGreatDoor

namespace Go.Proofs.YtabogkonklplcaaGreatDoor
open Go.RowKit Go.Lib
set_option linter.unusedSimpArgs false
set_option linter.unusedVariables false
theorem catB_append (a b : List ByteArray) : catB (a ++ b) = catB a ++ catB b := by
  induction a with
  | nil => show catB b = ByteArray.empty ++ catB b; simp
  | cons c a ih => rw [List.cons_append, catB_cons, catB_cons, ih, ByteArray.append_assoc]
theorem rune_le (t : ByteArray) (p : Nat) : (Utf8.decode t p).1 ≤ 2147483647 := by
  rw [Lib.decode_at]
  have h0 := byteN_lt t p
  unfold byteN at h0
  generalize (t.get! p).toNat = b0 at h0 ⊢
  unfold Lib.decodeN
  repeat' split
  all_goals simp
  all_goals omega
theorem decode_place (l : List ByteArray) (c : ByteArray) (r : List ByteArray) (h : IsCh c) :
    ∃ R : Nat, Utf8.decode (catB (l ++ c :: r)) (catB l).size = (R, c.size) ∧ Lib.runeCells (R : Int) = Lib.strCells c ∧ R ≤ 2147483647 ∧ (catB l).size < (catB (l ++ c :: r)).size ∧ (catB (l ++ [c])).size = (catB l).size + c.size := by
  have h0 := h.1
  have e1 : catB (l ++ c :: r) = catB l ++ (c ++ catB r) := by rw [catB_append, catB_cons]
  have hs : (catB (l ++ c :: r)).size = (catB l).size + (c.size + (catB r).size) := by rw [e1, ByteArray.size_append, ByteArray.size_append]
  have hd := decodeGo_tail (catB (l ++ c :: r)) (catB l).size (by omega)
  have e2 : (catB (l ++ c :: r)).extract (catB l).size (catB (l ++ c :: r)).size = c ++ catB r := by rw [e1]; exact extract_app _ _
  rw [e2] at hd
  have e3 : Lib.decodeGo (c ++ catB r) = Utf8.decode (c ++ catB r) 0 := by
    unfold Lib.decodeGo
    rw [if_neg (by rw [ByteArray.size_append]; omega)]
  rw [e3] at hd
  obtain ⟨k1, k2⟩ := decode_head c (catB r) h
  refine ⟨(Utf8.decode (c ++ catB r) 0).1, ?_, k2, rune_le _ _, by omega, ?_⟩
  · rw [← hd, ← k1]
  · rw [catB_append, ByteArray.size_append, catB_cons]
    show _ + (c ++ ByteArray.empty).size = _
    simp
theorem cat_next (l : List ByteArray) (h : ∀ c ∈ l, IsCh c) (k : Nat) (hk : k < l.length) :
    ∃ R K : Nat, Utf8.decode (catB l) (catB (l.take k)).size = (R, K) ∧ R ≤ 2147483647 ∧ (catB (l.take k)).size < (catB l).size ∧ (catB (l.take (k + 1))).size = (catB (l.take k)).size + K ∧ (catB (l.take (k + 1))).size ≤ (catB l).size ∧ 0 < K := by
  have e : l = l.take k ++ l[k] :: l.drop (k + 1) := by rw [List.getElem_cons_drop, List.take_append_drop]
  have hc : IsCh l[k] := h _ (List.getElem_mem hk)
  obtain ⟨R, h1, _, h3, h4, h5⟩ := decode_place (l.take k) l[k] (l.drop (k + 1)) hc
  rw [← e] at h1 h4
  have e2 : l.take (k + 1) = l.take k ++ [l[k]] := by rw [List.take_succ_eq_append_getElem hk]
  refine ⟨R, l[k].size, h1, h3, h4, by rw [e2]; exact h5, ?_, Nat.pos_of_ne_zero hc.1⟩
  have e3 : catB l = catB (l.take (k + 1)) ++ catB (l.drop (k + 1)) := by rw [← catB_append, List.take_append_drop]
  rw [e3, ByteArray.size_append]; omega
theorem cat_le (l : List ByteArray) (k : Nat) : (catB (l.take k)).size ≤ (catB l).size := by
  have e3 : catB l = catB (l.take k) ++ catB (l.drop k) := by rw [← catB_append, List.take_append_drop]
  rw [e3, ByteArray.size_append]; omega
theorem cat_split (l : List ByteArray) (k : Nat) : (catB l).extract 0 (catB (l.take k)).size = catB (l.take k) ∧ (catB l).extract (catB (l.take k)).size (catB l).size = catB (l.drop k) := by
  have e3 : catB l = catB (l.take k) ++ catB (l.drop k) := by rw [← catB_append, List.take_append_drop]
  constructor
  · rw [e3, ByteArray.extract_append]; simp
  · conv => lhs; rw [e3]
    exact extract_app _ _
theorem isCh_le {c : ByteArray} (h : IsCh c) : c.size ≤ 4 := h.2 ▸ headW_le4 c
theorem cat_size (l : List ByteArray) (h : ∀ c ∈ l, IsCh c) : (catB l).size ≤ 4 * l.length := by
  induction l with
  | nil => show (0 : Nat) ≤ _; omega
  | cons c l ih =>
    have := ih (fun d hd => h d (by simp [hd]))
    have h2 := isCh_le (h c (by simp))
    rw [catB_cons, ByteArray.size_append, List.length_cons]; omega
end Go.Proofs.YtabogkonklplcaaGreatDoor

namespace Go.Proofs.YtabogkonklplcaaGreatDoor
open Go.RowKit Go.Lib
set_option linter.unusedSimpArgs false
set_option linter.unusedVariables false
abbrev outV (n : Int) : Value := .iface 227 (.agg #[.int .i64 n])
def IterInv (l : List ByteArray) (w : World) (c : Value) (wr : World) : Prop :=
  ∃ k : Nat, k ≤ l.length ∧ c = .int .i64 (k : Int) ∧ wr.heap[w.heap.size]? = some (.stringIter (catB l) (catB (l.take k)).size) ∧ Below w.heap.size w wr
set_option maxRecDepth 20000 in
set_option maxHeartbeats 2000000 in
theorem count_any (l : List ByteArray) (hl : ∀ c ∈ l, IsCh c) (hn : l.length < lots) (w : World) :
    Calls Tryz.prog 105 #[.string (catB l)] w fun e w' => e = .returned (.int .i64 l.length) ∧ Below w.heap.size w w' := by
  have HL := hid (fun k hk => cat_next l hl k hk)
  unfold lots at hn
  clear hl
  go_enter Tryz.func105, Tryz.ntmps105
  go_wp2
  go_loopw [3] (fun c wr => IterInv l w c wr) (fun _ wr => (catB l).size - wr.iterPos w.heap.size)
  case atStart =>
    exact ⟨0, Nat.zero_le _, rfl, heap_alloc_new w _, (Below.refl _ w).alloc (Nat.le_refl _) _⟩
  case round =>
    obtain ⟨k, hk, rfl, hi, hb⟩ := hrel
    by_cases hlt : k < l.length
    · obtain ⟨R, K, h1, h2, h3, h4, h5, h6⟩ := HL.out k hlt
      have hnx := fun ty => Lib.run_next_any_at (P := Tryz.prog) _ w.heap.size (catB l) _ ty hi h3
      rw [h1] at hnx
      simp only at hnx
      have hi2 := iterAt_heap _ _ (catB l) _ ((catB (l.take k)).size + K) hi
      have hb2 := below_iterAt hb (Nat.le_refl _) (catB l) ((catB (l.take k)).size + K)
      clear h1 h2 HL
      generalize (catB (l.take k)).size = p at *
      go_wp2
      go_roundw
      case rel =>
        refine ⟨k + 1, hlt, by go_num, ?_, hb2⟩
        rw [h4]; exact hi2
      case measure =>
        rw [iterPos_of hi2, iterPos_of hi]
        omega
    · obtain rfl : k = l.length := by omega
      rw [List.take_length] at hi
      have hnx := fun ty => Lib.run_next_end_at (P := Tryz.prog) _ w.heap.size (catB l) _ ty hi (Nat.lt_irrefl _)
      go_wp2
      go_ret
      exact ⟨rfl, hb⟩
def FindPost (l : List ByteArray) (off : Int) (w : World) (e : Ending) (w' : World) : Prop :=
  Below w.heap.size w w' ∧ ((∃ o : Nat, off = o ∧ o ≤ l.length ∧ e = .returned (.tuple #[.int .i64 (catB (l.take o)).size, .nilIface])) ∨ ((off < 0 ∨ (l.length : Int) < off) ∧ e = .returned (.tuple #[.int .i64 0, outV off])))
set_option maxRecDepth 20000 in
set_option maxHeartbeats 2000000 in
theorem find_any (l : List ByteArray) (hl : ∀ c ∈ l, IsCh c) (hn : l.length < lots) (off : Int) (w : World) :
    Calls Tryz.prog 102 #[.string (catB l), .int .i64 off] w (FindPost l off w) := by
  have HL := hid (fun k hk => cat_next l hl k hk)
  unfold lots at hn
  clear hl
  go_enter Tryz.func102, Tryz.ntmps102
  go_wp2
  go_loopw [6] (fun c wr => IterInv l w c wr ∧ (off < 0 ∨ intOf c ≤ off)) (fun _ wr => (catB l).size - wr.iterPos w.heap.size)
  case atStart =>
    exact ⟨⟨0, Nat.zero_le _, rfl, heap_alloc_new w _, (Below.refl _ w).alloc (Nat.le_refl _) _⟩, by simp [intOf]; omega⟩
  case round =>
    obtain ⟨⟨k, hk, rfl, hi, hb⟩, ho⟩ := hrel
    simp only [intOf] at ho
    by_cases hlt : k < l.length
    · obtain ⟨R, K, h1, h2, h3, h4, h5, h6⟩ := HL.out k hlt
      have hnx := fun ty => Lib.run_next_any_at (P := Tryz.prog) _ w.heap.size (catB l) _ ty hi h3
      rw [h1] at hnx
      simp only at hnx
      have hi2 := iterAt_heap _ _ (catB l) _ ((catB (l.take k)).size + K) hi
      have hb2 := below_iterAt hb (Nat.le_refl _) (catB l) ((catB (l.take k)).size + K)
      clear h1 h2 HL
      obtain ⟨p, hp⟩ : ∃ p, (catB (l.take k)).size = p := ⟨_, rfl⟩
      rw [hp] at hnx hi2 hb2 hi h3 h4
      by_cases hoff : (k : Int) = off
      · have hoff' : ((k : Int) == off) = true := by simpa using hoff
        go_wp2
        go_ret2
        exact ⟨hb2, .inl ⟨k, hoff.symm, hk, by rw [hp]; rfl⟩⟩
      · have hoff' : ((k : Int) == off) = false := by simpa using hoff
        go_wp2
        go_roundw
        case rel =>
          refine ⟨⟨k + 1, hlt, by go_num, ?_, hb2⟩, ?_⟩
          · rw [h4]; exact hi2
          · have e : (IntKind.i64.wrap ((k : Int) + 1)) = (k : Int) + 1 := by rw [IntKind.wrap_i64]; omega
            simp [intOf, e]
            omega
        case measure =>
          rw [iterPos_of hi2, iterPos_of hi]
          omega
    · obtain rfl : k = l.length := by omega
      rw [List.take_length] at hi
      have hnx := fun ty => Lib.run_next_end_at (P := Tryz.prog) _ w.heap.size (catB l) _ ty hi (Nat.lt_irrefl _)
      by_cases hoff : (l.length : Int) = off
      · have hoff' : ((l.length : Int) == off) = true := by simpa using hoff
        go_wp2
        go_ret2
        exact ⟨hb, .inl ⟨l.length, hoff.symm, Nat.le_refl _, by rw [List.take_length]; rfl⟩⟩
      · have hoff' : ((l.length : Int) == off) = false := by simpa using hoff
        go_wp2
        go_ret2
        exact ⟨hb, .inr ⟨by omega, rfl⟩⟩
end Go.Proofs.YtabogkonklplcaaGreatDoor

namespace Go.Proofs.YtabogkonklplcaaGreatDoor
open Go.RowKit Go.Extern.Stop Go.Stop Go.Extern
set_option linter.unusedSimpArgs false
set_option linter.unusedVariables false
theorem fa_cmpP (w : World) : Sem.run Tryz.prog (callFunc 240 #[.agg #[.pointer (some ⟨7, 30, none⟩)]]) w = .ok (Next.value (.bool true)) w := by kernel_rfl
theorem fa_noIsO (v : Value) (w : World) : (Instr.typeAssert (.iface 227 v) 29 151 true).run Tryz.prog w = .ok (.tuple #[.nilIface, .bool false]) w := run_typeAssert_lacksB Tryz.underlying151 (by kernel_rfl) (by kernel_rfl) v _ w
theorem fa_unwO' (v : Value) (w : World) : (Instr.typeAssert (.iface 227 v) 29 154 true).run Tryz.prog w = .ok (.tuple #[.iface 227 v, .bool true]) w := by kernel_rfl
theorem eq_nilP (y : Int) (w : World) : (binOp .eql 29 .nilIface (.iface 30 (.int .i64 y))).run Tryz.prog w = .ok (.bool false) w := by kernel_rfl
theorem eq_outP (n y : Int) (w : World) : (binOp .eql 29 (outV n) (.iface 30 (.int .i64 y))).run Tryz.prog w = .ok (.bool false) w := by kernel_rfl
theorem eq_PP (w : World) : (binOp .eql 29 (.iface 30 (.int .i64 3)) (.iface 30 (.int .i64 3))).run Tryz.prog w = .ok (.bool true) w := by kernel_rfl
set_option maxRecDepth 20000 in
theorem is_nil (y : Int) (w : World) : Calls Tryz.prog 22 #[.nilIface, .iface 30 (.int .i64 y)] w fun e w' => e = .returned (.bool false) ∧ w' = w := by
  have e0 := eq_nilP
  go_enter Tryz.func22, Tryz.ntmps22
  go_wp2
  go_ret
  exact ⟨rfl, rfl⟩
set_option maxRecDepth 20000 in
set_option maxHeartbeats 2000000 in
theorem is_out (n y : Int) (w : World) : Calls Tryz.prog 22 #[outV n, .iface 30 (.int .i64 3)] w fun e w' => e = .returned (.bool true) ∧ Below w.heap.size w w' := by
  have h10 := fx_h10
  have tO := fa_typeOfP
  have tC := fa_cmpP
  have ni := fa_noIsO
  have nu := fa_unwO'
  have e1 := eq_outP
  have e2 := eq_PP
  go_enter Tryz.func22, Tryz.ntmps22
  go_wp2
  refine wp_loop_rounds 2 ?_
  rw [rounds_succ]
  go_wp2
  rw [rounds_succ]
  go_wp2
  go_ret
  exact ⟨rfl, by go_grown⟩
end Go.Proofs.YtabogkonklplcaaGreatDoor

namespace Go.Proofs.YtabogkonklplcaaGreatDoor
open Go.RowKit
set_option linter.unusedSimpArgs false
set_option linter.unusedVariables false
def sizeN (x : Nd) : Nat := if x.t = true then x.cs.length else x.ks.length
theorem sizeN_text {x : Nd} (h : x.t = true) : sizeN x = x.cs.length := by simp [sizeN, h]
theorem sizeN_elem {x : Nd} (h : x.t = false) : sizeN x = x.ks.length := by simp [sizeN, h]
def IsTop (s : List Nd) (n t : Nat) : Prop := (∃ m, climb s m n = (t : Int)) ∧ ∃ x, s[t]? = some x ∧ x.p = -1
def TopPost (s : List Nd) (n : Nat) (w : World) (e : Ending) (w' : World) : Prop := (∃ t : Nat, e = .returned (.int .i64 t) ∧ IsTop s n t) ∧ w' = w
def TopInv (s : List Nd) (n : Nat) (w : World) (a : Value) (wr : World) : Prop := wr = w ∧ ∃ (c m : Nat), a = .int .i64 c ∧ c < s.length ∧ climb s m n = (c : Int)
section
variable {w : World} {F : Nat → Prop} {bd bn cap : Nat} {rn : List RN} {rv : Value} {s : List Nd} {rs : List Sp}
abbrev pf (w : World) (n k : Int) : World := (w.alloc (.cells #[.int .i64 n, .int .i64 k] 37)).alloc (.cells #[.int .i64 0, .int .i64 0] 32)
theorem RDocAt.pf (hD : RDocAt w F bd bn cap rn rv s rs) (n k : Int) : RDocAt (pf w n k) F bd bn cap rn rv s rs := hD.below (((Below.refl _ w).alloc (Nat.le_refl _) _).alloc (by simp) _)
end
end Go.Proofs.YtabogkonklplcaaGreatDoor

namespace Go.Proofs.YtabogkonklplcaaGreatDoor
open Go.RowKit
set_option linter.unusedSimpArgs false
set_option linter.unusedVariables false
def plV (l : List (Nat × Nat)) : List Value := l.flatMap fun p => [.int .i64 p.1, .int .i64 p.2]
@[simp] theorem plV_length (l : List (Nat × Nat)) : (plV l).length = 2 * l.length := by
  induction l with
  | nil => rfl
  | cons a l ih => simp [plV] at ih ⊢; omega
@[simp] theorem plV_append (l m : List (Nat × Nat)) : plV (l ++ m) = plV l ++ plV m := by simp [plV]
theorem below_drewN {B : Nat} {a w : World} (h : Below B a w) (n : Nat) : Below B a (w.drewN n) := ⟨h.os, h.tape, h.output, h.size, h.block⟩
def IsWhere (l : List (Nat × Nat)) (p : Nat × Nat) (q : Int) : Prop := (∃ m : Nat, q = m ∧ l[m]? = some p ∧ p ∉ l.take m) ∨ (q = -1 ∧ p ∉ l)
end Go.Proofs.YtabogkonklplcaaGreatDoor

namespace Go.Proofs.YtabogkonklplcaaGreatDoor
open Go.RowKit
set_option linter.unusedSimpArgs false
set_option linter.unusedVariables false
def upTo (n : Nat) (ks : List Nat) (f : Nat → List (Nat × Nat)) (m : Nat) : List (Nat × Nat) :=
  (List.range m).flatMap fun i => (n, i) :: (match ks[i]? with | some c => f c | none => [])
theorem upTo_succ_none {n m : Nat} {ks : List Nat} {f : Nat → List (Nat × Nat)} (h : ks[m]? = none) : upTo n ks f (m + 1) = upTo n ks f m ++ [(n, m)] := by
  simp [upTo, List.range_succ, h]
def sizeAt (s : List Nd) (n : Nat) : Nat := match s[n]? with | some x => sizeN x | none => 0
theorem sizeAt_eq {s : List Nd} {n : Nat} {x : Nd} (h : s[n]? = some x) : sizeAt s n = sizeN x := by simp [sizeAt, h]
def plF (s : List Nd) : Nat → Nat → List (Nat × Nat)
  | 0, _ => []
  | k + 1, n => upTo n (kidsOf s n) (plF s k) (sizeAt s n + 1)
theorem kids_le {s : List Nd} (wf : WF s) {n : Nat} {x : Nd} (hx : s[n]? = some x) : x.ks.length ≤ 40 := by
  obtain ⟨h, B, u⟩ := wf.up
  exact Nat.le_trans (nodup_length s.length _ (wf.nodup n x hx) (fun c hc => (wf.kid_lt u hx hc).1)) wf.cap
theorem sizeN_le {s : List Nd} (wf : WF s) {n : Nat} {x : Nd} (hx : s[n]? = some x) : sizeN x ≤ 40 := by
  unfold sizeN
  split
  · have := (wf.chars n x hx).1; omega
  · exact kids_le wf hx
section
variable {F : Nat → Prop} {bd bn cap : Nat} {rn : List RN} {rv : Value} {s : List Nd} {rs : List Sp}
end
end Go.Proofs.YtabogkonklplcaaGreatDoor

namespace Go.Proofs.YtabogkonklplcaaGreatDoor
set_option linter.unusedSimpArgs false
set_option linter.unusedVariables false
abbrev Mvf : Type := Int → Int → Int × Int
def shiftF (n o d : Int) : Mvf := fun a b => if a = n ∧ o < b then (a, b + d) else (a, b)
def gatherF (l : List Nat) (p q : Int) (g : Mvf) : Mvf := fun a b => if (l.map Int.ofNat).contains a then (p, q) else g a b
def resizeF (n o t g : Int) : Mvf := fun a b => if a = n ∧ o < b ∧ b ≤ o + t then (n, o) else shiftF n (o + t) (g - t) a b
def carryF (n o fr : Int) (g : Mvf) : Mvf := fun a b => if a = n ∧ o < b then (fr, b - o) else g a b
def mvSp (f : Mvf) (x : Sp) : Sp := ⟨(f x.a x.b).1, (f x.a x.b).2, (f x.c x.d).1, (f x.c x.d).2⟩
def PlOk (s : List Nd) (a b : Int) : Prop := ∃ n k : Nat, a = (n : Int) ∧ b = (k : Int) ∧ n < s.length ∧ k ≤ sizeAt s n
def SpOk (s : List Nd) (x : Sp) : Prop := PlOk s x.a x.b ∧ PlOk s x.c x.d
theorem sizeAt_set {s : List Nd} {i : Nat} (hi : i < s.length) (x : Nd) (n : Nat) : sizeAt (s.set i x) n = if n = i then sizeN x else sizeAt s n := by
  unfold sizeAt
  by_cases h : n = i
  · subst h
    simp [hi]
  · rw [List.getElem?_set_ne (fun e => h e.symm), if_neg h]
theorem sizeAt_push {s : List Nd} (x : Nd) {n : Nat} (hn : n < s.length) : sizeAt (s ++ [x]) n = sizeAt s n := by
  unfold sizeAt
  rw [List.getElem?_append_left hn]
theorem PlOk.push {s : List Nd} {a b : Int} (h : PlOk s a b) (x : Nd) : PlOk (s ++ [x]) a b := by
  obtain ⟨n, k, rfl, rfl, hn, hk⟩ := h
  exact ⟨n, k, rfl, rfl, by simp; omega, by rw [sizeAt_push x hn]; exact hk⟩
theorem PlOk.insert {s : List Nd} {i j k : Nat} {x y : Nd} (hx : s[i]? = some x) (hy : s[j]? = some y) (hij : i ≠ j) (ht : x.t = false) (hk : k ≤ x.ks.length) {a b : Int} (h : PlOk s a b) :
    PlOk ((s.set i { x with ks := x.ks.take k ++ j :: x.ks.drop k }).set j { y with p := i }) (shiftF i k 1 a b).1 (shiftF i k 1 a b).2 := by
  obtain ⟨n, m, rfl, rfl, hn, hm⟩ := h
  have hi : i < s.length := (List.getElem?_eq_some_iff.1 hx).1
  have hj : j < s.length := (List.getElem?_eq_some_iff.1 hy).1
  have hsz : sizeAt ((s.set i { x with ks := x.ks.take k ++ j :: x.ks.drop k }).set j { y with p := i }) n = if n = i then sizeAt s n + 1 else sizeAt s n := by
    rw [sizeAt_set (by simpa using hj), sizeAt_set hi]
    by_cases h1 : n = j
    · subst h1
      rw [if_pos rfl, if_neg (fun e => hij e.symm), sizeAt_eq hy]
      rfl
    · rw [if_neg h1]
      by_cases h2 : n = i
      · subst h2
        rw [if_pos rfl, if_pos rfl, sizeAt_eq hx, sizeN_elem ht, sizeN_elem (x := { x with ks := x.ks.take k ++ j :: x.ks.drop k }) ht]
        simp; omega
      · rw [if_neg h2, if_neg h2]
  unfold shiftF
  by_cases hc : (n : Int) = (i : Int) ∧ (k : Int) < (m : Int)
  · rw [if_pos hc]
    refine ⟨n, m + 1, rfl, by simp, by simpa using hn, ?_⟩
    rw [hsz, if_pos (by omega)]; omega
  · rw [if_neg hc]
    refine ⟨n, m, rfl, rfl, by simpa using hn, ?_⟩
    rw [hsz]; split <;> omega
theorem PlOk.remove {s : List Nd} {i j m : Nat} {x y : Nd} (hx : s[i]? = some x) (hy : s[j]? = some y) (hij : i ≠ j) (ht : y.t = false) (hm : m < y.ks.length) (l : List Nat) (hjl : j ∉ l) {a b : Int} (h : PlOk s a b) :
    PlOk ((s.set j { y with ks := y.ks.take m ++ y.ks.drop (m + 1) }).set i { x with p := -1 }) (gatherF l j m (shiftF j m (-1)) a b).1 (gatherF l j m (shiftF j m (-1)) a b).2 := by
  obtain ⟨n, o, rfl, rfl, hn, ho⟩ := h
  have hi : i < s.length := (List.getElem?_eq_some_iff.1 hx).1
  have hj : j < s.length := (List.getElem?_eq_some_iff.1 hy).1
  have hsz : ∀ n, sizeAt ((s.set j { y with ks := y.ks.take m ++ y.ks.drop (m + 1) }).set i { x with p := -1 }) n = if n = j then sizeAt s n - 1 else sizeAt s n := by
    intro n
    rw [sizeAt_set (by simpa using hi), sizeAt_set hj]
    by_cases h1 : n = i
    · subst h1
      rw [if_pos rfl, if_neg hij, sizeAt_eq hx]
      rfl
    · rw [if_neg h1]
      by_cases h2 : n = j
      · subst h2
        rw [if_pos rfl, if_pos rfl, sizeAt_eq hy, sizeN_elem ht, sizeN_elem (x := { y with ks := y.ks.take m ++ y.ks.drop (m + 1) }) ht]
        simp; omega
      · rw [if_neg h2, if_neg h2]
  have hsj : sizeAt s j = y.ks.length := by rw [sizeAt_eq hy, sizeN_elem ht]
  unfold gatherF
  split
  · exact ⟨j, m, rfl, rfl, by simpa using hj, by rw [hsz, if_pos rfl, hsj]; omega⟩
  · unfold shiftF
    by_cases hc : (n : Int) = (j : Int) ∧ (m : Int) < (o : Int)
    · rw [if_pos hc]
      obtain rfl : n = j := by omega
      exact ⟨n, o - 1, rfl, by show (o : Int) + -1 = _; omega, by simpa using hn, by rw [hsz, if_pos rfl]; omega⟩
    · rw [if_neg hc]
      refine ⟨n, o, rfl, rfl, by simpa using hn, ?_⟩
      rw [hsz]
      split
      · rename_i e
        subst e
        omega
      · exact ho
theorem PlOk.replace {s : List Nd} {i o c : Nat} {x : Nd} {cs : List ByteArray} {g : Nat} (hx : s[i]? = some x) (ht : x.t = true) (hc : o + c ≤ x.cs.length) (hcs : cs.length = x.cs.length - c + g) {a b : Int} (h : PlOk s a b) :
    PlOk (s.set i { x with cs := cs }) (resizeF i o c g a b).1 (resizeF i o c g a b).2 := by
  obtain ⟨n, m, rfl, rfl, hn, hm⟩ := h
  have hi : i < s.length := (List.getElem?_eq_some_iff.1 hx).1
  have hsi : sizeAt s i = x.cs.length := by rw [sizeAt_eq hx, sizeN_text ht]
  have hsz : ∀ n, sizeAt (s.set i { x with cs := cs }) n = if n = i then cs.length else sizeAt s n := by
    intro n
    rw [sizeAt_set hi, sizeN_text (x := { x with cs := cs }) ht]
  unfold resizeF
  split
  · exact ⟨i, o, rfl, rfl, by simpa using hi, by rw [hsz, if_pos rfl]; omega⟩
  · rename_i h1
    unfold shiftF
    split
    · rename_i h2
      obtain rfl : n = i := by omega
      exact ⟨n, m - c + g, rfl, by show (m : Int) + _ = _; omega, by simpa using hn, by rw [hsz, if_pos rfl]; omega⟩
    · rename_i h2
      refine ⟨n, m, rfl, rfl, by simpa using hn, ?_⟩
      rw [hsz]
      split
      · rename_i e
        subst e
        have : m ≤ o := by
          rcases Nat.lt_or_ge o m with h | h
          · exfalso
            have h3 : ¬ ((m : Int) ≤ (o : Int) + (c : Int)) := fun h4 => h1 ⟨rfl, by omega, h4⟩
            exact h2 ⟨rfl, by omega⟩
          · exact h
        omega
      · exact hm
theorem SpOk.mv {s s' : List Nd} {f : Mvf} (hf : ∀ a b : Int, PlOk s a b → PlOk s' (f a b).1 (f a b).2) {x : Sp} (h : SpOk s x) : SpOk s' (mvSp f x) := ⟨hf _ _ h.1, hf _ _ h.2⟩
theorem PlOk.small {s : List Nd} (wf : WF s) {a b : Int} (h : PlOk s a b) : 0 ≤ b ∧ b ≤ 40 := by
  obtain ⟨n, k, rfl, rfl, hn, hk⟩ := h
  have hx := List.getElem?_eq_getElem hn
  rw [sizeAt_eq hx] at hk
  have := sizeN_le wf hx
  omega
end Go.Proofs.YtabogkonklplcaaGreatDoor

namespace Go.Proofs.YtabogkonklplcaaGreatDoor
open Go.RowKit
set_option linter.unusedSimpArgs false
set_option linter.unusedVariables false
section
variable {w : World} {F : Nat → Prop} {bd bn cap : Nat} {rn : List RN} {rv : Value} {s : List Nd} {rs : List Sp}
end
end Go.Proofs.YtabogkonklplcaaGreatDoor

namespace Go.Proofs.YtabogkonklplcaaGreatDoor
open Go.RowKit
set_option linter.unusedSimpArgs false
set_option linter.unusedVariables false
section
variable {w : World} {F : Nat → Prop} {bd bn cap : Nat} {rn : List RN} {rv : Value} {s : List Nd} {rs : List Sp}
end
end Go.Proofs.YtabogkonklplcaaGreatDoor
