import Derived.Test.YtabogkonklplcaaGreatDoorL12
import Derived.Test.YtabogkonklplcaaGreatDoorL13
import Derived.Test.YtabogkonklplcaaGreatDoorL11
import Derived.Test.YtabogkonklplcaaGreatDoorL14
import Derived.Shelf.Spec.SlicesInsert
import Derived.Shelf.Spec.SlicesInsertGrow
import Derived.Test.YtabogkonklplcaaGreatDoorL15
import Derived.Deep.RegionLaw
import Derived.Deep.RegionWith
import Derived.Deep.Cut
import Derived.Deep.CutRange
import Derived.Deep.QuietTactic
import Derived.BigQuiet
import Derived.Lib.Builder
import Derived.Lib.AppendStr
import Derived.Lib.UnsafeStr
import Derived.Lib.Walk
import Derived.Lib.RuneBytes
import Derived.Laws.Externs
import Derived.Shelf.Strings.BuilderX
import Derived.Test.YtabogkonklplcaaGreatDoorL06
import Derived.Maps.AppendAt

namespace Go.Proofs.YtabogkonklplcaaGreatDoor
open Go.RowKit Go.Extern.Stop Go.Stop Go.Extern
set_option linter.unusedSimpArgs false
set_option linter.unusedVariables false
theorem fa_cmpP (w : World) : Sem.run Tryz.prog (callFunc 240 #[.agg #[.pointer (some ⟨7, 30, none⟩)]]) w = .ok (Next.value (.bool true)) w := by kernel_rfl
theorem fa_noIsO (v : Value) (w : World) : (Instr.typeAssert (.iface 227 v) 29 151 true).run Tryz.prog w = .ok (.tuple #[.nilIface, .bool false]) w := run_typeAssert_lacksB Tryz.underlying151 (by kernel_rfl) (by kernel_rfl) v _ w
theorem fa_unwO' (v : Value) (w : World) : (Instr.typeAssert (.iface 227 v) 29 154 true).run Tryz.prog w = .ok (.tuple #[.iface 227 v, .bool true]) w := by kernel_rfl
theorem eq_nilP (y : Int) (w : World) : (binOp .eql 29 .nilIface (.iface 30 (.int .i64 y))).run Tryz.prog w = .ok (.bool false) w := by kernel_rfl
theorem eq_outP (n y : Int) (w : World) : (binOp .eql 29 (outV n) (.iface 30 (.int .i64 y))).run Tryz.prog w = .ok (.bool false) w := by kernel_rfl
theorem eq_PP (w : World) : (binOp .eql 29 (.iface 30 (.int .i64 3)) (.iface 30 (.int .i64 3))).run Tryz.prog w = .ok (.bool true) w := by kernel_rfl
set_option maxRecDepth 20000 in
theorem is_nil (y : Int) (w : World) : Calls Tryz.prog 22 #[.nilIface, .iface 30 (.int .i64 y)] w fun e w' => e = .returned (.bool false) ∧ w' = w := by
  have e0 := eq_nilP
  go_enter Tryz.func22, Tryz.ntmps22
  go_wp2
  go_ret
  exact ⟨rfl, rfl⟩
set_option maxRecDepth 20000 in
set_option maxHeartbeats 2000000 in
theorem is_out (n y : Int) (w : World) : Calls Tryz.prog 22 #[outV n, .iface 30 (.int .i64 3)] w fun e w' => e = .returned (.bool true) ∧ Below w.heap.size w w' := by
  have h10 := fx_h10
  have tO := fa_typeOfP
  have tC := fa_cmpP
  have ni := fa_noIsO
  have nu := fa_unwO'
  have e1 := eq_outP
  have e2 := eq_PP
  go_enter Tryz.func22, Tryz.ntmps22
  go_wp2
  refine wp_loop_rounds 2 ?_
  rw [rounds_succ]
  go_wp2
  rw [rounds_succ]
  go_wp2
  go_ret
  exact ⟨rfl, by go_grown⟩
end Go.Proofs.YtabogkonklplcaaGreatDoor

namespace Go.Proofs.YtabogkonklplcaaGreatDoor
open Go.RowKit Go.Lib
set_option linter.unusedSimpArgs false
set_option linter.unusedVariables false
theorem find_at (l : List ByteArray) (hl : ∀ c ∈ l, IsCh c) (hn : l.length < lots) (o : Nat) (ho : o ≤ l.length) (w : World) :
    Calls Tryz.prog 102 #[.string (catB l), .int .i64 (o : Int)] w fun e w' => e = .returned (.tuple #[.int .i64 (catB (l.take o)).size, .nilIface]) ∧ Below w.heap.size w w' := by
  refine (find_any l hl hn o w).mono ?_
  rintro e w' ⟨hb, ⟨o', h1, h2, rfl⟩ | ⟨h1, rfl⟩⟩
  · obtain rfl : o = o' := by omega
    exact ⟨rfl, hb⟩
  · omega
theorem find_out (l : List ByteArray) (hl : ∀ c ∈ l, IsCh c) (hn : l.length < lots) (off : Int) (ho : off < 0 ∨ (l.length : Int) < off) (w : World) :
    Calls Tryz.prog 102 #[.string (catB l), .int .i64 off] w fun e w' => e = .returned (.tuple #[.int .i64 0, outV off]) ∧ Below w.heap.size w w' := by
  refine (find_any l hl hn off w).mono ?_
  rintro e w' ⟨hb, ⟨o', h1, h2, rfl⟩ | ⟨h1, rfl⟩⟩
  · omega
  · exact ⟨rfl, hb⟩
set_option maxHeartbeats 1000000 in
theorem splice_off (l : List ByteArray) (hl : ∀ c ∈ l, IsCh c) (hn : l.length < lots) (off cnt : Int) (ho : off < 0 ∨ (l.length : Int) < off) (t : ByteArray) (w : World) :
    Calls Tryz.prog 113 #[.string (catB l), .int .i64 off, .int .i64 cnt, .string t, .int .i64 30] w fun e w' => e = .returned (.tuple #[.string ⟨#[]⟩, outV off]) ∧ Below w.heap.size w w' := by
  have C := hid (fun w1 => find_out l hl hn off ho w1)
  clear hl hn ho
  go_enter Tryz.func113, Tryz.ntmps113
  go_wp2_with (go_at_call 102; refine (C.out _).mono ?_; rintro e w1 ⟨rfl, hb⟩)
  go_ret2
  exact ⟨rfl, hb⟩
set_option maxHeartbeats 1000000 in
theorem splice_cnt (l : List ByteArray) (hl : ∀ c ∈ l, IsCh c) (hn : l.length < lots) (o : Nat) (ho : o ≤ l.length) (cnt : Int) (hc : cnt < 0) (t : ByteArray) (w : World) :
    Calls Tryz.prog 113 #[.string (catB l), .int .i64 (o : Int), .int .i64 cnt, .string t, .int .i64 30] w fun e w' => e = .returned (.tuple #[.string ⟨#[]⟩, outV cnt]) ∧ Below w.heap.size w w' := by
  have C := hid (fun w1 => find_at l hl hn o ho w1)
  have hcd : decide (cnt < 0) = true := decide_eq_true hc
  clear hl hn ho
  go_enter Tryz.func113, Tryz.ntmps113
  go_wp2_with (go_at_call 102; refine (C.out _).mono ?_; rintro e w1 ⟨rfl, hb⟩)
  go_ret2
  exact ⟨rfl, hb⟩
theorem join3 (a b c : ByteArray) (w : World) (bk : Nat) (hq : w.heap[bk]? = some (.cells #[.string a, .string b, .string c] 9 (0, 0))) (h : a.size + b.size + c.size ≤ 140737488355328) :
    Calls Tryz.prog 161 #[.slice (some ⟨bk, 0, none⟩) 3 3, .string ⟨#[]⟩] w fun e w' => e = .returned (.string (a ++ b ++ c)) ∧ Below w.heap.size w w' := by
  have e1 : (Lib.join ([a, b, c].map (·.data.toList)) (⟨#[]⟩ : ByteArray).data.toList) = (a ++ b ++ c).data.toList := by
    simp [Lib.join]
  have h1 := Tryz.strings_Join bk 0 3 [a, b, c] ⟨#[]⟩ w (fun j x hx => by
    have := cell_of_heap hq j
    rw [Nat.zero_add, this]
    match j, hx with
    | 0, hx => simp at hx; subst hx; rfl
    | 1, hx => simp at hx; subst hx; rfl
    | 2, hx => simp at hx; subst hx; rfl
    | k + 3, hx => simp at hx) (heap_lt hq) (by simp) (by simp) (by
      rw [e1]
      have e2 : (a ++ b ++ c).data.toList.length = (a ++ b ++ c).size := by rw [Array.length_toList]; rfl
      rw [e2, ByteArray.size_append, ByteArray.size_append]
      omega)
  rw [e1] at h1
  exact h1
set_option maxRecDepth 20000 in
set_option maxHeartbeats 2000000 in
theorem splice_no_small (l : List ByteArray) (hl : ∀ c ∈ l, IsCh c) (hn : l.length ≤ 30) (o c : Nat) (cnt : Int) (ho : o ≤ l.length) (hc0 : 0 ≤ cnt) (hcc : (c : Int) = cnt) (hcl : o + c ≤ l.length) (t : ByteArray) (ht : t.size < lots) (hno : ∀ l', ¬ TakesM (30 - o - (l.length - (o + c))) t l') (w : World) (hT : Tabs w) :
    Calls Tryz.prog 113 #[.string (catB l), .int .i64 (o : Int), .int .i64 cnt, .string t, .int .i64 30] w fun e w' => ∃ k : Int, e = .returned (.tuple #[.string ⟨#[]⟩, flawV k]) ∧ Below w.heap.size w w' := by
  have hoc : o + c ≤ l.length := by omega
  have hn' : l.length < lots := by unfold lots; omega
  have hnd : (l.drop o).length < lots := by simp; omega
  have hld : ∀ c ∈ l.drop o, IsCh c := fun c hc => hl c (List.mem_of_mem_drop hc)
  have hldd : ∀ d ∈ l.drop (o + c), IsCh d := fun d hd => hl d (List.mem_of_mem_drop hd)
  have C1 := hid (fun w1 => find_at l hl hn' o ho w1)
  have C2 := hid (fun w1 => find_at (l.drop o) hld hnd c (by simp; omega) w1)
  have C3 := hid (fun w1 => count_any (l.drop (o + c)) hldd (by simp; omega) w1)
  have CK := hid (fun w1 (hb : Below w.heap.size w w1) => check_any (30 - o - (l.length - (o + c))) (by omega) t w1 ht (hT.below hb))
  have hcd : decide (cnt < 0) = false := decide_eq_false (by omega)
  have s1 := cat_split l o
  have s2 := cat_split (l.drop o) c
  rw [List.drop_drop] at s2
  have z1 := cat_le l o
  have z2 := cat_le (l.drop o) c
  have z3 := cat_size l hl
  have z4 := cat_size (l.drop o) hld
  have z5 := cat_size (l.drop (o + c)) hldd
  have z6 : (catB (l.take o)).size ≤ 4 * 30 := by have := cat_size (l.take o) (fun c hc => hl c (List.mem_of_mem_take hc)); simp at this; omega
  have hdl : (l.drop (o + c)).length = l.length - (o + c) := by simp
  obtain ⟨p, hp⟩ : ∃ p, (catB (l.take o)).size = p := ⟨_, rfl⟩
  obtain ⟨q, hq⟩ : ∃ q, (catB ((l.drop o).take c)).size = q := ⟨_, rfl⟩
  rw [hp] at C1 s1 z1 z6
  rw [hq] at s2 z2
  rw [hq, hcc] at C2
  obtain ⟨A, hA⟩ : ∃ A, catB (l.take o) = A := ⟨_, rfl⟩
  obtain ⟨B, hB⟩ : ∃ B, catB (l.drop o) = B := ⟨_, rfl⟩
  obtain ⟨D, hD⟩ : ∃ D, catB (l.drop (o + c)) = D := ⟨_, rfl⟩
  obtain ⟨S, hS⟩ : ∃ S, catB l = S := ⟨_, rfl⟩
  have CAT : Hid (∀ lf, catB lf = t → A ++ t ++ D = catB (l.take o ++ lf ++ l.drop (o + c))) := fun lf hf => by rw [catB_append, catB_append, hf, hA, hD]
  rw [hA, hS] at s1
  rw [hB] at s1
  rw [hB, hD] at s2
  rw [hS] at C1 z1 z3 ⊢
  rw [hB] at C2 z2 z4
  rw [hD] at C3 z5
  have hA2 : A.size = p := by rw [← hA]; exact hp
  have s11 := s1.1
  have s12 := s1.2
  have s22 := s2.2
  have pI : (p : Int) ≤ S.size := by omega
  have qI : (q : Int) ≤ B.size := by omega
  have oI : (o : Int) ≤ 30 := by omega
  have dI : ((l.length - (o + c) : Nat) : Int) ≤ 30 := by omega
  have hm : (30 : Int) - (o : Int) - ((l.length - (o + c) : Nat) : Int) = ((30 - o - (l.length - (o + c)) : Nat) : Int) := by omega
  have htz : t.size ≤ 2000000 := by unfold lots at ht; omega
  clear hl hld hldd hT ht hp hq hA hB hD hS s1 s2 hn' hnd
  go_enter Tryz.func113, Tryz.ntmps113
  go_wp2_with (go_at_call 102; refine (C1.out _).mono ?_; clear C1; rintro e w1 ⟨rfl, hb0⟩)
  go_region
  have hb1 := hb0.drew
  clear hb0
  go_wp2_with (first
    | (go_at_call 102; refine (C2.out _).mono ?_; clear C2; rintro e w2 ⟨rfl, hb2⟩
       have HB2 := hid (hb1.trans (hb2.mono hb1.size)))
    | (go_at_call 22; refine (is_nil _ _).mono ?_; rintro e w3 ⟨rfl, hw3⟩
       replace hw3 := hw3.symm
       subst hw3
       have HB3 := hid HB2.out)
    | (go_at_call 105; refine (C3.out _).mono ?_; rintro e w4 ⟨rfl, hb4⟩
       have HB4 := hid (HB3.out.trans (hb4.mono HB3.out.size)))
    | (go_at_call 144
       refine (CK.out _ HB4.out).mono ?_
       rintro e w5 ⟨hb5, ⟨l', hl', _⟩ | ⟨_, kk, rfl⟩⟩; (first | exact absurd hl' (hno l') | skip)
       have HB5 := hid (HB4.out.trans (hb5.mono HB4.out.size))))
  go_ret2
  exact ⟨kk, rfl, HB5.out⟩
set_option maxRecDepth 20000 in
set_option maxHeartbeats 2000000 in
theorem splice_yes_small (l : List ByteArray) (hl : ∀ c ∈ l, IsCh c) (hn : l.length ≤ 30) (o c : Nat) (cnt : Int) (ho : o ≤ l.length) (hc0 : 0 ≤ cnt) (hcc : (c : Int) = cnt) (hcl : o + c ≤ l.length) (t : ByteArray) (ht : t.size < lots) (lf : List ByteArray) (hyes : TakesM (30 - o - (l.length - (o + c))) t lf) (w : World) (hT : Tabs w) :
    Calls Tryz.prog 113 #[.string (catB l), .int .i64 (o : Int), .int .i64 cnt, .string t, .int .i64 30] w fun e w' => e = .returned (.tuple #[.string (catB (l.take o ++ lf ++ l.drop (o + c))), .nilIface]) ∧ Below w.heap.size w w' := by
  have hoc : o + c ≤ l.length := by omega
  have hn' : l.length < lots := by unfold lots; omega
  have hnd : (l.drop o).length < lots := by simp; omega
  have hld : ∀ c ∈ l.drop o, IsCh c := fun c hc => hl c (List.mem_of_mem_drop hc)
  have hldd : ∀ d ∈ l.drop (o + c), IsCh d := fun d hd => hl d (List.mem_of_mem_drop hd)
  have C1 := hid (fun w1 => find_at l hl hn' o ho w1)
  have C2 := hid (fun w1 => find_at (l.drop o) hld hnd c (by simp; omega) w1)
  have C3 := hid (fun w1 => count_any (l.drop (o + c)) hldd (by simp; omega) w1)
  have CK := hid (fun w1 (hb : Below w.heap.size w w1) => check_any (30 - o - (l.length - (o + c))) (by omega) t w1 ht (hT.below hb))
  have hcd : decide (cnt < 0) = false := decide_eq_false (by omega)
  have s1 := cat_split l o
  have s2 := cat_split (l.drop o) c
  rw [List.drop_drop] at s2
  have z1 := cat_le l o
  have z2 := cat_le (l.drop o) c
  have z3 := cat_size l hl
  have z4 := cat_size (l.drop o) hld
  have z5 := cat_size (l.drop (o + c)) hldd
  have z6 : (catB (l.take o)).size ≤ 4 * 30 := by have := cat_size (l.take o) (fun c hc => hl c (List.mem_of_mem_take hc)); simp at this; omega
  have hdl : (l.drop (o + c)).length = l.length - (o + c) := by simp
  obtain ⟨p, hp⟩ : ∃ p, (catB (l.take o)).size = p := ⟨_, rfl⟩
  obtain ⟨q, hq⟩ : ∃ q, (catB ((l.drop o).take c)).size = q := ⟨_, rfl⟩
  rw [hp] at C1 s1 z1 z6
  rw [hq] at s2 z2
  rw [hq, hcc] at C2
  obtain ⟨A, hA⟩ : ∃ A, catB (l.take o) = A := ⟨_, rfl⟩
  obtain ⟨B, hB⟩ : ∃ B, catB (l.drop o) = B := ⟨_, rfl⟩
  obtain ⟨D, hD⟩ : ∃ D, catB (l.drop (o + c)) = D := ⟨_, rfl⟩
  obtain ⟨S, hS⟩ : ∃ S, catB l = S := ⟨_, rfl⟩
  have CAT : Hid (∀ lf, catB lf = t → A ++ t ++ D = catB (l.take o ++ lf ++ l.drop (o + c))) := fun lf hf => by rw [catB_append, catB_append, hf, hA, hD]
  rw [hA, hS] at s1
  rw [hB] at s1
  rw [hB, hD] at s2
  rw [hS] at C1 z1 z3 ⊢
  rw [hB] at C2 z2 z4
  rw [hD] at C3 z5
  have hA2 : A.size = p := by rw [← hA]; exact hp
  have s11 := s1.1
  have s12 := s1.2
  have s22 := s2.2
  have pI : (p : Int) ≤ S.size := by omega
  have qI : (q : Int) ≤ B.size := by omega
  have oI : (o : Int) ≤ 30 := by omega
  have dI : ((l.length - (o + c) : Nat) : Int) ≤ 30 := by omega
  have hm : (30 : Int) - (o : Int) - ((l.length - (o + c) : Nat) : Int) = ((30 - o - (l.length - (o + c)) : Nat) : Int) := by omega
  have htz : t.size ≤ 2000000 := by unfold lots at ht; omega
  clear hl hld hldd hT ht hp hq hA hB hD hS s1 s2 hn' hnd
  go_enter Tryz.func113, Tryz.ntmps113
  go_wp2_with (go_at_call 102; refine (C1.out _).mono ?_; clear C1; rintro e w1 ⟨rfl, hb0⟩)
  go_region
  have hb1 := hb0.drew
  clear hb0
  go_wp2_with (first
    | (go_at_call 102; refine (C2.out _).mono ?_; clear C2; rintro e w2 ⟨rfl, hb2⟩
       have HB2 := hid (hb1.trans (hb2.mono hb1.size)))
    | (go_at_call 22; refine (is_nil _ _).mono ?_; rintro e w3 ⟨rfl, hw3⟩
       replace hw3 := hw3.symm
       subst hw3
       have HB3 := hid HB2.out)
    | (go_at_call 105; refine (C3.out _).mono ?_; rintro e w4 ⟨rfl, hb4⟩
       have HB4 := hid (HB3.out.trans (hb4.mono HB3.out.size)))
    | (go_at_call 144
       refine (CK.out _ HB4.out).mono ?_
       rintro e w5 ⟨hb5, ⟨l', hl', rfl⟩ | ⟨hn5, _⟩⟩ <;> (first | exact absurd hyes (hn5 lf) | skip)
       have HB5 := hid (HB4.out.trans (hb5.mono HB4.out.size)))
    | (go_at_call 161
       refine (join3 A t D _ w5.heap.size (heap_alloc_new w5 _) (by omega)).mono ?_
       rintro e w6 ⟨rfl, hb6⟩))
  go_ret2
  have hf : catB lf = t := charsOf_cat t.size t lf (Nat.le_refl _) hyes.1
  exact ⟨by rw [← CAT.out lf hf]; rfl, (HB5.out.alloc HB5.out.size _).trans (hb6.mono (by have := HB5.out.size; simp; omega))⟩
end Go.Proofs.YtabogkonklplcaaGreatDoor

namespace Go.Proofs.YtabogkonklplcaaGreatDoor
open Go.RowKit Go.Lib
set_option linter.unusedSimpArgs false
set_option linter.unusedVariables false
set_option maxRecDepth 20000 in
set_option maxHeartbeats 2000000 in
theorem splice_no_big (l : List ByteArray) (hl : ∀ c ∈ l, IsCh c) (hn : l.length ≤ 30) (o c : Nat) (cnt : Int) (ho : o ≤ l.length) (hc0 : 0 ≤ cnt) (hcc : (c : Int) = (l.length : Int) - o) (hcl : (l.length : Int) - o < cnt) (t : ByteArray) (ht : t.size < lots) (hno : ∀ l', ¬ TakesM (30 - o - (l.length - (o + c))) t l') (w : World) (hT : Tabs w) :
    Calls Tryz.prog 113 #[.string (catB l), .int .i64 (o : Int), .int .i64 cnt, .string t, .int .i64 30] w fun e w' => ∃ k : Int, e = .returned (.tuple #[.string ⟨#[]⟩, flawV k]) ∧ Below w.heap.size w w' := by
  have hoc : o + c ≤ l.length := by omega
  have hn' : l.length < lots := by unfold lots; omega
  have hnd : (l.drop o).length < lots := by simp; omega
  have hld : ∀ c ∈ l.drop o, IsCh c := fun c hc => hl c (List.mem_of_mem_drop hc)
  have hldd : ∀ d ∈ l.drop (o + c), IsCh d := fun d hd => hl d (List.mem_of_mem_drop hd)
  have C1 := hid (fun w1 => find_at l hl hn' o ho w1)
  have C2 := hid (fun w1 => find_out (l.drop o) hld hnd cnt (.inr (by simp; omega)) w1)
  have C3 := hid (fun w1 => count_any (l.drop (o + c)) hldd (by simp; omega) w1)
  have CK := hid (fun w1 (hb : Below w.heap.size w w1) => check_any (30 - o - (l.length - (o + c))) (by omega) t w1 ht (hT.below hb))
  have hcd : decide (cnt < 0) = false := decide_eq_false (by omega)
  have s1 := cat_split l o
  have s2 := cat_split (l.drop o) c
  rw [List.drop_drop] at s2
  have z1 := cat_le l o
  have z2 := cat_le (l.drop o) c
  have z3 := cat_size l hl
  have z4 := cat_size (l.drop o) hld
  have z5 := cat_size (l.drop (o + c)) hldd
  have z6 : (catB (l.take o)).size ≤ 4 * 30 := by have := cat_size (l.take o) (fun c hc => hl c (List.mem_of_mem_take hc)); simp at this; omega
  have hdl : (l.drop (o + c)).length = l.length - (o + c) := by simp
  obtain ⟨p, hp⟩ : ∃ p, (catB (l.take o)).size = p := ⟨_, rfl⟩
  obtain ⟨q, hq⟩ : ∃ q, (catB ((l.drop o).take c)).size = q := ⟨_, rfl⟩
  rw [hp] at C1 s1 z1 z6
  rw [hq] at s2 z2
  have hqB : q = (catB (l.drop o)).size := by rw [← hq, List.take_of_length_le (by simp; omega)]
  obtain ⟨A, hA⟩ : ∃ A, catB (l.take o) = A := ⟨_, rfl⟩
  obtain ⟨B, hB⟩ : ∃ B, catB (l.drop o) = B := ⟨_, rfl⟩
  obtain ⟨D, hD⟩ : ∃ D, catB (l.drop (o + c)) = D := ⟨_, rfl⟩
  obtain ⟨S, hS⟩ : ∃ S, catB l = S := ⟨_, rfl⟩
  have CAT : Hid (∀ lf, catB lf = t → A ++ t ++ D = catB (l.take o ++ lf ++ l.drop (o + c))) := fun lf hf => by rw [catB_append, catB_append, hf, hA, hD]
  rw [hA, hS] at s1
  rw [hB] at s1
  rw [hB, hD] at s2
  rw [hS] at C1 z1 z3 ⊢
  rw [hB] at C2 z2 z4
  rw [hD] at C3 z5
  have hA2 : A.size = p := by rw [← hA]; exact hp
  have s11 := s1.1
  have s12 := s1.2
  have s22 := s2.2
  rw [hB] at hqB
  rw [hqB] at s22
  have hDe : ByteArray.empty = D := by rw [← s22]; simp
  subst hDe
  have pI : (p : Int) ≤ S.size := by omega
  have qI : (q : Int) ≤ B.size := by omega
  have oI : (o : Int) ≤ 30 := by omega
  have dI : ((l.length - (o + c) : Nat) : Int) ≤ 30 := by omega
  have hm : (30 : Int) - (o : Int) - ((l.length - (o + c) : Nat) : Int) = ((30 - o - (l.length - (o + c)) : Nat) : Int) := by omega
  have htz : t.size ≤ 2000000 := by unfold lots at ht; omega
  clear hl hld hldd hT ht hp hq hA hB hD hS s1 s2 hn' hnd s22
  go_enter Tryz.func113, Tryz.ntmps113
  go_wp2_with (go_at_call 102; refine (C1.out _).mono ?_; clear C1; rintro e w1 ⟨rfl, hb0⟩)
  go_region
  have hb1 := hb0.drew
  clear hb0
  go_wp2_with (first
    | (go_at_call 102; refine (C2.out _).mono ?_; clear C2; rintro e w2 ⟨rfl, hb2⟩
       have HB2 := hid (hb1.trans (hb2.mono hb1.size)))
    | (go_at_call 22; refine (is_out _ 0 _).mono ?_; rintro e w3 ⟨rfl, hb3⟩
       have HB3 := hid (HB2.out.trans (hb3.mono HB2.out.size)))
    | (go_at_call 105; refine (C3.out _).mono ?_; rintro e w4 ⟨rfl, hb4⟩
       have HB4 := hid (HB3.out.trans (hb4.mono HB3.out.size)))
    | (go_at_call 144
       refine (CK.out _ HB4.out).mono ?_
       rintro e w5 ⟨hb5, ⟨l', hl', _⟩ | ⟨_, kk, rfl⟩⟩; (first | exact absurd hl' (hno l') | skip)
       have HB5 := hid (HB4.out.trans (hb5.mono HB4.out.size))))
  go_ret2
  exact ⟨kk, rfl, HB5.out⟩
set_option maxRecDepth 20000 in
set_option maxHeartbeats 2000000 in
theorem splice_yes_big (l : List ByteArray) (hl : ∀ c ∈ l, IsCh c) (hn : l.length ≤ 30) (o c : Nat) (cnt : Int) (ho : o ≤ l.length) (hc0 : 0 ≤ cnt) (hcc : (c : Int) = (l.length : Int) - o) (hcl : (l.length : Int) - o < cnt) (t : ByteArray) (ht : t.size < lots) (lf : List ByteArray) (hyes : TakesM (30 - o - (l.length - (o + c))) t lf) (w : World) (hT : Tabs w) :
    Calls Tryz.prog 113 #[.string (catB l), .int .i64 (o : Int), .int .i64 cnt, .string t, .int .i64 30] w fun e w' => e = .returned (.tuple #[.string (catB (l.take o ++ lf ++ l.drop (o + c))), .nilIface]) ∧ Below w.heap.size w w' := by
  have hoc : o + c ≤ l.length := by omega
  have hn' : l.length < lots := by unfold lots; omega
  have hnd : (l.drop o).length < lots := by simp; omega
  have hld : ∀ c ∈ l.drop o, IsCh c := fun c hc => hl c (List.mem_of_mem_drop hc)
  have hldd : ∀ d ∈ l.drop (o + c), IsCh d := fun d hd => hl d (List.mem_of_mem_drop hd)
  have C1 := hid (fun w1 => find_at l hl hn' o ho w1)
  have C2 := hid (fun w1 => find_out (l.drop o) hld hnd cnt (.inr (by simp; omega)) w1)
  have C3 := hid (fun w1 => count_any (l.drop (o + c)) hldd (by simp; omega) w1)
  have CK := hid (fun w1 (hb : Below w.heap.size w w1) => check_any (30 - o - (l.length - (o + c))) (by omega) t w1 ht (hT.below hb))
  have hcd : decide (cnt < 0) = false := decide_eq_false (by omega)
  have s1 := cat_split l o
  have s2 := cat_split (l.drop o) c
  rw [List.drop_drop] at s2
  have z1 := cat_le l o
  have z2 := cat_le (l.drop o) c
  have z3 := cat_size l hl
  have z4 := cat_size (l.drop o) hld
  have z5 := cat_size (l.drop (o + c)) hldd
  have z6 : (catB (l.take o)).size ≤ 4 * 30 := by have := cat_size (l.take o) (fun c hc => hl c (List.mem_of_mem_take hc)); simp at this; omega
  have hdl : (l.drop (o + c)).length = l.length - (o + c) := by simp
  obtain ⟨p, hp⟩ : ∃ p, (catB (l.take o)).size = p := ⟨_, rfl⟩
  obtain ⟨q, hq⟩ : ∃ q, (catB ((l.drop o).take c)).size = q := ⟨_, rfl⟩
  rw [hp] at C1 s1 z1 z6
  rw [hq] at s2 z2
  have hqB : q = (catB (l.drop o)).size := by rw [← hq, List.take_of_length_le (by simp; omega)]
  obtain ⟨A, hA⟩ : ∃ A, catB (l.take o) = A := ⟨_, rfl⟩
  obtain ⟨B, hB⟩ : ∃ B, catB (l.drop o) = B := ⟨_, rfl⟩
  obtain ⟨D, hD⟩ : ∃ D, catB (l.drop (o + c)) = D := ⟨_, rfl⟩
  obtain ⟨S, hS⟩ : ∃ S, catB l = S := ⟨_, rfl⟩
  have CAT : Hid (∀ lf, catB lf = t → A ++ t ++ D = catB (l.take o ++ lf ++ l.drop (o + c))) := fun lf hf => by rw [catB_append, catB_append, hf, hA, hD]
  rw [hA, hS] at s1
  rw [hB] at s1
  rw [hB, hD] at s2
  rw [hS] at C1 z1 z3 ⊢
  rw [hB] at C2 z2 z4
  rw [hD] at C3 z5
  have hA2 : A.size = p := by rw [← hA]; exact hp
  have s11 := s1.1
  have s12 := s1.2
  have s22 := s2.2
  rw [hB] at hqB
  rw [hqB] at s22
  have hDe : ByteArray.empty = D := by rw [← s22]; simp
  subst hDe
  have pI : (p : Int) ≤ S.size := by omega
  have qI : (q : Int) ≤ B.size := by omega
  have oI : (o : Int) ≤ 30 := by omega
  have dI : ((l.length - (o + c) : Nat) : Int) ≤ 30 := by omega
  have hm : (30 : Int) - (o : Int) - ((l.length - (o + c) : Nat) : Int) = ((30 - o - (l.length - (o + c)) : Nat) : Int) := by omega
  have htz : t.size ≤ 2000000 := by unfold lots at ht; omega
  clear hl hld hldd hT ht hp hq hA hB hD hS s1 s2 hn' hnd s22
  go_enter Tryz.func113, Tryz.ntmps113
  go_wp2_with (go_at_call 102; refine (C1.out _).mono ?_; clear C1; rintro e w1 ⟨rfl, hb0⟩)
  go_region
  have hb1 := hb0.drew
  clear hb0
  go_wp2_with (first
    | (go_at_call 102; refine (C2.out _).mono ?_; clear C2; rintro e w2 ⟨rfl, hb2⟩
       have HB2 := hid (hb1.trans (hb2.mono hb1.size)))
    | (go_at_call 22; refine (is_out _ 0 _).mono ?_; rintro e w3 ⟨rfl, hb3⟩
       have HB3 := hid (HB2.out.trans (hb3.mono HB2.out.size)))
    | (go_at_call 105; refine (C3.out _).mono ?_; rintro e w4 ⟨rfl, hb4⟩
       have HB4 := hid (HB3.out.trans (hb4.mono HB3.out.size)))
    | (go_at_call 144
       refine (CK.out _ HB4.out).mono ?_
       rintro e w5 ⟨hb5, ⟨l', hl', rfl⟩ | ⟨hn5, _⟩⟩ <;> (first | exact absurd hyes (hn5 lf) | skip)
       have HB5 := hid (HB4.out.trans (hb5.mono HB4.out.size)))
    | (go_at_call 161
       refine (join3 A t ByteArray.empty _ w5.heap.size (heap_alloc_new w5 _) (by omega)).mono ?_
       rintro e w6 ⟨rfl, hb6⟩))
  go_ret2
  have hf : catB lf = t := charsOf_cat t.size t lf (Nat.le_refl _) hyes.1
  exact ⟨by rw [← CAT.out lf hf, ByteArray.append_empty]; rfl, (HB5.out.alloc HB5.out.size _).trans (hb6.mono (by have := HB5.out.size; simp; omega))⟩
end Go.Proofs.YtabogkonklplcaaGreatDoor

namespace Go.Proofs.YtabogkonklplcaaGreatDoor
open Go.RowKit Go.Shelf
set_option linter.unusedSimpArgs false
set_option linter.unusedVariables false
def insRen : Go.Shelf.Ren := ⟨fun | 21 => 156 | 27 => 182 | 28 => 183 | 35 => 194 | 39 => 181 | n => n, fun | 22 => 24 | 3 => 3 | 4 => 4 | 0 => 0 | n => n, fun | n => n⟩
theorem insLay : Go.Proofs.Lays2.n21 Tryz.prog insRen := {
  mixed := by kernel_rfl
  f21 := Tryz.func156.trans (congrArg some (by kernel_rfl))
  f27 := Tryz.func182.trans (congrArg some (by kernel_rfl))
  f28 := Tryz.func183.trans (congrArg some (by kernel_rfl))
  f35 := Tryz.func194.trans (congrArg some (by kernel_rfl))
  f39 := Tryz.func181.trans (congrArg some (by kernel_rfl))
  t0 := Tryz.underlying0
  a0 := Tryz.isAgg0
  z0 := Tryz.sizeOf0
  v0 := Tryz.zeroValue0
  t3 := Tryz.underlying3
  a3 := Tryz.isAgg3
  z3 := Tryz.sizeOf3
  v3 := Tryz.zeroValue3
  t4 := Tryz.underlying4
  a4 := Tryz.isAgg4
  z4 := Tryz.sizeOf4
  v4 := Tryz.zeroValue4
  t22 := Tryz.underlying24
  a22 := Tryz.isAgg24
  z22 := Tryz.sizeOf24
  v22 := Tryz.zeroValue24
  i3 := by kernel_rfl }
theorem zeroCells_size (m : Nat) : (Builtin.zeroCells (Value.int .i64 0).cells m).size = m := by simp [Builtin.zeroCells, Value.cells]
def putAt (l : List Nat) (k j : Nat) : List Nat := l.take k ++ j :: l.drop k
theorem putAt_length (l : List Nat) (k j : Nat) (h : k ≤ l.length) : (putAt l k j).length = l.length + 1 := by simp [putAt]; omega
theorem putAt_vals (l : List Nat) (k j : Nat) : intsV (putAt l k j) = (intsV l).take k ++ Value.int .i64 (j : Int) :: (intsV l).drop k := by simp [intsV, putAt, List.map_take, List.map_drop]
def InsPost (v : Value) (ks : List Nat) (k j : Nat) (w : World) (e : Ending) (w' : World) : Prop :=
  ∃ g c, e = .returned (.slice (some ⟨g, 0, none⟩) (ks.length + 1) c) ∧ w'.ownsRow 0 3 1 (.slice (some ⟨g, 0, none⟩) (ks.length + 1) c) (ks.length + 1) (intsV (putAt ks k j)) ∧ Keeps (fun b => v.ownBlock = some b) w w' ∧ (v.ownBlock = some g ∨ w.heap.size ≤ g)
theorem intsV_cell1 (l : List Nat) : ∀ v ∈ intsV l, v.oneCell' = true := by
  intro v hv
  simp only [intsV, List.mem_map] at hv
  obtain ⟨a, _, rfl⟩ := hv
  rfl
section
variable {w : World} {vb : Nat}
theorem one_src {j : Nat} (hvb : w.heap[vb]? = some (.cells #[.int .i64 (j : Int)] 3 (0, 0))) : ∀ i v, [Value.int .i64 (j : Int)][i]? = some v → w.cell? ⟨vb, 0 + i, none⟩ = some v := by
  intro i v h
  cases i with
  | zero => simp at h; subst h; exact cell_of_heap hvb 0
  | succ i => simp at h
theorem ins_end_grow (base : Option Addr) (n c j : Nat) (ks : List Nat) (hvb : w.heap[vb]? = some (.cells #[.int .i64 (j : Int)] 3 (0, 0))) (hn : ks.length = n) (hnc : n ≤ c) (hroom : c < n + 1) (hbig : n < lots) (hnil : base = none → n = 0)
    (hcs : ∀ a, base = some a → ∀ i v, (intsV ks)[i]? = some v → w.cell? (a.add i) = some v) :
    Calls Tryz.prog 156 #[.slice base n c, .int .i64 (n : Int), .slice (some ⟨vb, 0, none⟩) 1 1] w (InsPost (.slice base n c) ks n j w) := by
  have C := Any2.slices_Insert_int_end_grow insLay base n c vb 0 1 1 (intsV ks) [.int .i64 (j : Int)] w (by decide) hnc hroom (by unfold lots at hbig; omega) (by simp [hn]) rfl hnil hcs (one_src hvb) (by simp [Value.oneCell'])
  refine C.mono ?_
  rintro e w' ⟨rfl, rfl⟩
  have hG := grownCap_ge w (n + 1) c (insRen.t 3)
  have hG2 := grownCap_le_maxLen w (n + 1) c (insRen.t 3) (by unfold maxLen; unfold lots at hbig; omega)
  generalize grownCap w (n + 1) c (insRen.t 3) = G at hG hG2
  refine ⟨w.heap.size, G, by rw [hn], ?_, ((Keeps.refl _ w).drew).alloc _, .inr (Nat.le_refl _)⟩
  refine ⟨by rw [intsV_length, putAt_length _ _ _ (by omega)]; omega, .inr ⟨w.heap.size, G, _, rfl, Nat.zero_le _, heap_alloc_new w.drew _, by omega, hG2, ?_, ?_⟩⟩
  · simp [zeroCells_size, hn]; omega
  · have : intsV (putAt ks n j) = intsV ks ++ [.int .i64 (j : Int)] := by
      rw [putAt_vals, List.take_of_length_le (by simp [hn]), List.drop_of_length_le (by simp [hn])]
    rw [this]
    simp only [Array.toList_append, List.toList_toArray, Nat.mul_one]
    rw [List.take_append_of_le_length (by simp), List.take_of_length_le (by simp)]
theorem ins_end_room (g n c j : Nat) (ks : List Nat) (cur : Array Value) (hvb : w.heap[vb]? = some (.cells #[.int .i64 (j : Int)] 3 (0, 0))) (hn : ks.length = n) (hroom : n + 1 ≤ c) (hc : c ≤ maxLen) (hcur : w.heap[g]? = some (.cells cur 3 (0, 0))) (hsz : cur.size = c) (ht : cur.toList.take n = intsV ks) :
    Calls Tryz.prog 156 #[.slice (some ⟨g, 0, none⟩) n c, .int .i64 (n : Int), .slice (some ⟨vb, 0, none⟩) 1 1] w (InsPost (.slice (some ⟨g, 0, none⟩) n c) ks n j w) := by
  have C := Any2.slices_Insert_int_end_room insLay g 0 n c vb 0 1 1 [.int .i64 (j : Int)] w (by decide) hroom (by unfold maxLen at hc; omega) rfl
    (fun i hi => by rw [cell_of_heap hcur, Array.getElem?_eq_getElem (by omega)]; rfl) (fun i hi => frozen_of_heap hcur _) (one_src hvb) (by simp [Value.oneCell'])
  refine C.mono ?_
  rintro e w' ⟨rfl, rfl⟩
  obtain ⟨cur', h1, h2, h3⟩ := heap_setCells g 3 [.int .i64 (j : Int)] n w cur hcur (by simp; omega)
  rw [Nat.zero_add]
  refine ⟨g, c, by rw [hn], ?_, keeps_setCells g _ _ _ (Keeps.refl _ w) rfl, .inl rfl⟩
  refine ⟨by rw [intsV_length, putAt_length _ _ _ (by omega)]; omega, .inr ⟨g, c, cur', rfl, Nat.zero_le _, h1, by omega, hc, by omega, ?_⟩⟩
  have : intsV (putAt ks n j) = intsV ks ++ [.int .i64 (j : Int)] := by
    rw [putAt_vals, List.take_of_length_le (by simp [hn]), List.drop_of_length_le (by simp [hn])]
  rw [this, h3, ht, Nat.mul_one, hn, List.take_append_of_le_length (by simp [hn]), List.take_of_length_le (by simp [hn])]
theorem ins_shift (g n c k j : Nat) (ks : List Nat) (cur : Array Value) (hvb : w.heap[vb]? = some (.cells #[.int .i64 (j : Int)] 3 (0, 0))) (hne : vb ≠ g) (hn : ks.length = n) (hk : k < n) (hroom : n + 1 ≤ c) (hc : c ≤ maxLen) (hcur : w.heap[g]? = some (.cells cur 3 (0, 0))) (hsz : cur.size = c) (ht : cur.toList.take n = intsV ks) :
    Calls Tryz.prog 156 #[.slice (some ⟨g, 0, none⟩) n c, .int .i64 (k : Int), .slice (some ⟨vb, 0, none⟩) 1 1] w (InsPost (.slice (some ⟨g, 0, none⟩) n c) ks k j w) := by
  have hcs : ∀ i v, (intsV ks)[i]? = some v → w.cell? ⟨g, 0 + i, none⟩ = some v := by
    intro i v hi
    have hil := (List.getElem?_eq_some_iff.1 hi).1
    simp [hn] at hil
    rw [← ht, List.getElem?_take_of_lt hil] at hi
    rw [cell_of_heap hcur, Nat.zero_add, ← Array.getElem?_toList]
    exact hi
  have C := Any2.slices_Insert_int_shift insLay g 0 n c k vb 0 1 1 (intsV ks) [.int .i64 (j : Int)] w hk (by decide) hroom (by unfold maxLen at hc; omega) hne (by simp [hn]) rfl hcs
    (fun i hi => by rw [cell_of_heap hcur, Array.getElem?_eq_getElem (by omega)]; rfl) (fun i hi => frozen_of_heap hcur _) (one_src hvb) (intsV_cell1 ks) (by simp [Value.oneCell'])
    3 3 1 c (by simp [World.shape?, hvb]) (by simp [World.shape?, hcur, hsz]) (by omega) (frozen_of_heap hvb _) (frozen_of_heap hvb _)
  refine C.mono ?_
  rintro e w' ⟨rfl, rfl⟩
  have hdl : ((intsV ks).drop k).length = n - k := by simp [hn]
  obtain ⟨cur1, h1, h2, h3⟩ := heap_setCells g 3 ((intsV ks).drop k) (k + 1) w.drew cur hcur (by omega)
  obtain ⟨cur2, g1, g2, g3⟩ := heap_setCells g 3 [.int .i64 (j : Int)] k _ cur1 h1 (by simp; omega)
  rw [Nat.zero_add, Nat.zero_add]
  refine ⟨g, c, by rw [hn], ?_, keeps_setCells g _ _ _ (keeps_setCells g _ _ _ ((Keeps.refl _ w).drew) rfl) rfl, .inl rfl⟩
  refine ⟨by rw [intsV_length, putAt_length _ _ _ (by omega)]; omega, .inr ⟨g, c, cur2, rfl, Nat.zero_le _, g1, by omega, hc, by omega, ?_⟩⟩
  have e1 : cur.toList.take k = (intsV ks).take k := by rw [← ht, List.take_take, Nat.min_eq_left (by omega)]
  have hcl : cur.toList.length = c := by simp [hsz]
  have e2 : cur1.toList.take k = (intsV ks).take k := by
    rw [h3, List.append_assoc, List.take_append_of_le_length (by simp; omega), List.take_take, Nat.min_eq_left (by omega), e1]
  have e3 : cur1.toList.drop (k + 1) = (intsV ks).drop k ++ cur.toList.drop (k + 1 + ((intsV ks).drop k).length) := by
    rw [h3, List.append_assoc, List.drop_left' (by rw [List.length_take]; omega)]
  rw [g3, putAt_vals, e2, Nat.mul_one, hn]
  simp only [List.length_singleton]
  rw [e3, List.append_assoc, List.singleton_append]
  have hl : ((intsV ks).take k ++ Value.int .i64 (j : Int) :: (intsV ks).drop k).length = n + 1 := by simp [hn]; omega
  rw [← List.cons_append, ← List.append_assoc, ← hl, List.take_append_of_le_length (Nat.le_refl _), List.take_of_length_le (Nat.le_refl _)]
theorem ins_grow (g n c k j : Nat) (ks : List Nat) (cur : Array Value) (hvb : w.heap[vb]? = some (.cells #[.int .i64 (j : Int)] 3 (0, 0))) (hn : ks.length = n) (hk : k < n) (hnc : n ≤ c) (hroom : c < n + 1) (hbig : n < lots) (hcur : w.heap[g]? = some (.cells cur 3 (0, 0))) (ht : cur.toList.take n = intsV ks) :
    Calls Tryz.prog 156 #[.slice (some ⟨g, 0, none⟩) n c, .int .i64 (k : Int), .slice (some ⟨vb, 0, none⟩) 1 1] w (InsPost (.slice (some ⟨g, 0, none⟩) n c) ks k j w) := by
  have hcs : ∀ i v, (intsV ks)[i]? = some v → w.cell? ⟨g, 0 + i, none⟩ = some v := by
    intro i v hi
    have hil := (List.getElem?_eq_some_iff.1 hi).1
    simp [hn] at hil
    rw [← ht, List.getElem?_take_of_lt hil] at hi
    rw [cell_of_heap hcur, Nat.zero_add, ← Array.getElem?_toList]
    exact hi
  have C := Any2.slices_Insert_int_grow insLay g 0 n c k vb 0 1 1 (intsV ks) [.int .i64 (j : Int)] w hk (by decide) hnc hroom (by unfold lots at hbig; omega) (by simp [hn]) rfl hcs (one_src hvb) (intsV_cell1 ks) (by simp [Value.oneCell'])
  refine C.mono ?_
  rintro e w' ⟨rfl, rfl⟩
  have hG := grownCap_ge w (n + 1) c (insRen.t 3)
  have hG2 := grownCap_le_maxLen w (n + 1) c (insRen.t 3) (by unfold maxLen; unfold lots at hbig; omega)
  generalize grownCap w (n + 1) c (insRen.t 3) = G at hG hG2
  obtain ⟨R, hR⟩ : ∃ R : Array Value, R = ((intsV ks).take k).toArray ++ Builtin.zeroCells (Value.int .i64 0).cells (n + 1 - k) ++ Builtin.zeroCells (Value.int .i64 0).cells (G - (n + 1)) := ⟨_, rfl⟩
  have hRs : R.size = G := by rw [hR]; simp [zeroCells_size, hn]; omega
  have hRt : R.toList.take k = (intsV ks).take k := by
    rw [hR]
    simp only [Array.toList_append, List.toList_toArray, List.append_assoc]
    rw [List.take_append_of_le_length (by simp [hn]; omega), List.take_take, Nat.min_self]
  rw [← hR]
  have h0 : ((w.alloc (.cells R (insRen.t 3))).drew).heap[w.heap.size]? = some (.cells R 3 (0, 0)) := heap_alloc_new w _
  have hdl : ((intsV ks).drop k).length = n - k := by simp [hn]
  obtain ⟨cur1, h1, h2, h3⟩ := heap_setCells w.heap.size 3 [.int .i64 (j : Int)] k _ R h0 (by simp; omega)
  obtain ⟨cur2, g1, g2, g3⟩ := heap_setCells w.heap.size 3 ((intsV ks).drop k) (k + 1) (((w.alloc (.cells R (insRen.t 3))).drew.setCells w.heap.size k [.int .i64 (j : Int)]).drew) cur1 h1 (by omega)
  have k1 : Keeps (fun b => (Value.slice (some ⟨g, 0, none⟩) n c).ownBlock = some b) w (((w.alloc (.cells R (insRen.t 3))).drew.setCells w.heap.size k [.int .i64 (j : Int)]).drew) := by
    have a1 : Keeps (fun _ => False) w ((w.alloc (.cells R (insRen.t 3))).drew) := ((Keeps.refl _ w).alloc _).drew
    have a2 : Keeps (fun b => b = w.heap.size) ((w.alloc (.cells R (insRen.t 3))).drew) (((w.alloc (.cells R (insRen.t 3))).drew.setCells w.heap.size k [.int .i64 (j : Int)]).drew) := (keeps_setCells (F := fun b => b = w.heap.size) w.heap.size _ _ _ (Keeps.refl _ _) rfl).drew
    exact (a1.trans (a2.mono (fun b _ e => .inr (by omega)))).mono (fun _ _ e => e.elim)
  have k2 : Keeps (fun b => b = w.heap.size) (((w.alloc (.cells R (insRen.t 3))).drew.setCells w.heap.size k [.int .i64 (j : Int)]).drew) _ := keeps_setCells w.heap.size ((intsV ks).drop k) (k + 1) _ (Keeps.refl _ _) rfl
  refine ⟨w.heap.size, G, by rw [hn], ?_, k1.trans (k2.mono (fun b _ e => .inr (by omega))), .inr (Nat.le_refl _)⟩
  refine ⟨by rw [intsV_length, putAt_length _ _ _ (by omega)]; omega, .inr ⟨w.heap.size, G, cur2, rfl, Nat.zero_le _, g1, by omega, hG2, by omega, ?_⟩⟩
  have e2 : cur1.toList.take (k + 1) = (intsV ks).take k ++ [.int .i64 (j : Int)] := by
    rw [h3, hRt, List.take_append_of_le_length (by simp [hn]; omega), List.take_of_length_le (by simp [hn]; omega)]
  rw [g3, putAt_vals, e2, Nat.mul_one, hn]
  have hl : ((intsV ks).take k ++ [Value.int .i64 (j : Int)] ++ (intsV ks).drop k).length = n + 1 := by simp [hn]; omega
  rw [← hl, List.take_append_of_le_length (Nat.le_refl _), List.take_of_length_le (Nat.le_refl _)]
  simp
end
theorem ins_one {w : World} {vb : Nat} {v : Value} {ks : List Nat} (hrow : w.ownsRow 0 3 1 v ks.length (intsV ks)) (k j : Nat) (hk : k ≤ ks.length) (hbig : ks.length < lots) (hvb : w.heap[vb]? = some (.cells #[.int .i64 (j : Int)] 3 (0, 0))) (hne : v.ownBlock ≠ some vb) :
    Calls Tryz.prog 156 #[v, .int .i64 (k : Int), .slice (some ⟨vb, 0, none⟩) 1 1] w (InsPost v ks k j w) := by
  obtain ⟨h1, h2⟩ := hrow
  rcases h2 with ⟨hv, h0⟩ | ⟨g, cap, cur, hv, _, hh, hn, hc, hs, ht⟩
  · have : ks = [] := List.eq_nil_of_length_eq_zero h0
    subst this
    subst hv
    obtain rfl : k = 0 := by simpa using hk
    exact ins_end_grow none 0 0 j [] hvb rfl (Nat.le_refl _) (by decide) (by unfold lots; decide) (fun _ => rfl) (fun a e => by cases e)
  · subst hv
    simp only [Nat.mul_one] at hs ht
    have hg : vb ≠ g := fun e => hne (by simp [Value.ownBlock, e])
    have hcs : ∀ i v, (intsV ks)[i]? = some v → w.cell? ⟨g, i, none⟩ = some v := by
      intro i v hi
      have hil := (List.getElem?_eq_some_iff.1 hi).1
      simp at hil
      rw [← ht, List.getElem?_take_of_lt hil] at hi
      rw [cell_of_heap hh, ← Array.getElem?_toList]
      exact hi
    by_cases hr : ks.length + 1 ≤ cap
    · rcases Nat.lt_or_ge k ks.length with hkl | hkl
      · exact ins_shift g ks.length cap k j ks cur hvb hg rfl hkl hr hc hh hs ht
      · obtain rfl : k = ks.length := by omega
        exact ins_end_room g ks.length cap j ks cur hvb rfl hr hc hh hs ht
    · rcases Nat.lt_or_ge k ks.length with hkl | hkl
      · exact ins_grow g ks.length cap k j ks cur hvb rfl hkl hn (by omega) hbig hh ht
      · obtain rfl : k = ks.length := by omega
        exact ins_end_grow (some ⟨g, 0, none⟩) ks.length cap j ks hvb rfl hn (by omega) hbig (fun e => by cases e) (fun a e i v hi => by cases e; rw [Addr.add_lit, Nat.zero_add]; exact hcs i v hi)
end Go.Proofs.YtabogkonklplcaaGreatDoor

namespace Go.Proofs.YtabogkonklplcaaGreatDoor
open Go.RowKit
set_option linter.unusedSimpArgs false
set_option linter.unusedVariables false
section
variable {w : World} {F : Nat → Prop} {bd bn cap : Nat} {rn : List RN} {rv : Value} {s : List Nd} {rs : List Sp}
end
end Go.Proofs.YtabogkonklplcaaGreatDoor

namespace Go.Proofs.YtabogkonklplcaaGreatDoor
open Go.RowKit
set_option linter.unusedSimpArgs false
set_option linter.unusedVariables false
abbrev spV (x : Sp) : Value := .agg #[.int .i64 x.a, .int .i64 x.b, .int .i64 x.c, .int .i64 x.d]
section
variable {w : World} {F : Nat → Prop} {bd bn cap : Nat} {rn : List RN} {rv : Value} {s : List Nd} {rs : List Sp}
end
end Go.Proofs.YtabogkonklplcaaGreatDoor

namespace Go.Proofs.YtabogkonklplcaaGreatDoor
open Go.RowKit
set_option linter.unusedSimpArgs false
set_option linter.unusedVariables false
theorem Tryz.info79 : (Tryz.prog.info? 79).map (fun i => (i.zero, i.size, i.bytes)) = some (some (.agg #[.int .i64 0, .int .i64 0, .int .i64 0, .int .i64 0]), 4, 32) := by kernel_rfl
section
variable {w : World} {F : Nat → Prop} {bd bn cap : Nat} {rn : List RN} {rv : Value} {s : List Nd} {rs : List Sp}
end
end Go.Proofs.YtabogkonklplcaaGreatDoor

namespace Go.Proofs.YtabogkonklplcaaGreatDoor
open Go.RowKit
set_option linter.unusedSimpArgs false
set_option linter.unusedVariables false
section
variable {w : World} {F : Nat → Prop} {bd bn cap : Nat} {rn : List RN} {rv : Value} {s : List Nd} {rs : List Sp}
end
end Go.Proofs.YtabogkonklplcaaGreatDoor

namespace Go.Proofs.YtabogkonklplcaaGreatDoor
open Go.RowKit
set_option linter.unusedSimpArgs false
set_option linter.unusedVariables false
theorem climb_neg {s : List Nd} {j n : Nat} (h : climb s j n < 0) : ∀ i, climb s (j + i) n < 0 := by
  intro i
  induction i with
  | zero => exact h
  | succ i ih =>
    show climb s (j + i + 1) n < 0
    simp [climb, ih]
theorem IsTop.one {s : List Nd} {n t t' : Nat} (h : IsTop s n t) (h' : IsTop s n t') : t = t' := by
  have key : ∀ {a b : Nat} {i j : Nat} {x : Nd}, climb s i n = (a : Int) → s[a]? = some x → x.p = -1 → climb s j n = (b : Int) → ¬ i < j := by
    intro a b i j x h1 h2 h3 h4 hlt
    have e : climb s (i + 1) n < 0 := by rw [climb_step h1]; simp [parOf, h2, h3]
    have := climb_neg e (j - (i + 1))
    rw [show i + 1 + (j - (i + 1)) = j by omega, h4] at this
    omega
  obtain ⟨⟨i, hi⟩, x, hx, hp⟩ := h
  obtain ⟨⟨j, hj⟩, y, hy, hq⟩ := h'
  have h1 := key hi hx hp hj
  have h2 := key hj hy hq hi
  obtain rfl : i = j := by omega
  rw [hi] at hj
  omega
theorem IsTop.up {s : List Nd} {n q t : Nat} {x : Nd} (hx : s[n]? = some x) (hp : x.p = (q : Int)) (h : IsTop s q t) : IsTop s n t := by
  obtain ⟨⟨m, hm⟩, r⟩ := h
  have e : climb s 1 n = (q : Int) := by
    show climb s (0 + 1) n = _
    rw [climb_step (show climb s 0 n = (n : Int) from rfl)]
    simp [parOf, hx, hp]
  exact ⟨⟨1 + m, by rw [climb_add e, hm]⟩, r⟩
theorem top_there {s : List Nd} (wf : WF s) : ∀ n, n < s.length → ∃ t, IsTop s n t := by
  obtain ⟨h, B, u⟩ := wf.up
  have key : ∀ k n, n < s.length → B - h n < k → ∃ t, IsTop s n t := by
    intro k
    induction k with
    | zero => intro n _ hk; omega
    | succ k ih =>
      intro n hn hk
      have hx : s[n]? = some s[n] := List.getElem?_eq_getElem hn
      rcases wf.par n _ hx with e | ⟨q, y, e, hy, _⟩
      · exact ⟨n, ⟨0, rfl⟩, _, hx, e⟩
      · have hup := u.par n _ hx (by omega)
        rw [e] at hup
        simp at hup
        have := u.le q
        obtain ⟨t, ht⟩ := ih q (List.getElem?_eq_some_iff.1 hy).1 (by omega)
        exact ⟨t, ht.up hx e⟩
  intro n hn
  exact key (B - h n + 1) n hn (by omega)
section
variable {w : World} {F : Nat → Prop} {bd bn cap : Nat} {rn : List RN} {rv : Value} {s : List Nd} {rs : List Sp}
theorem IsWhere.one {l : List (Nat × Nat)} {p : Nat × Nat} {q q' : Int} (h : IsWhere l p q) (h' : IsWhere l p q') : q = q' := by
  have key : ∀ {i j : Nat}, l[i]? = some p → p ∉ l.take j → ¬ i < j := fun h1 h2 hlt => h2 (List.mem_of_getElem? (i := _) (by rw [List.getElem?_take, if_pos hlt]; exact h1))
  rcases h with ⟨i, rfl, hi, hi'⟩ | ⟨rfl, hn⟩ <;> rcases h' with ⟨j, rfl, hj, hj'⟩ | ⟨rfl, hn'⟩
  · have h1 := key hi hj'
    have h2 := key hj hi'
    omega
  · exact absurd (List.mem_of_getElem? hi) hn'
  · exact absurd (List.mem_of_getElem? hj) hn
  · rfl
end
end Go.Proofs.YtabogkonklplcaaGreatDoor

namespace Go.Proofs.YtabogkonklplcaaGreatDoor
open Go.RowKit
set_option linter.unusedSimpArgs false
set_option linter.unusedVariables false
theorem spcells_set (rs : List Sp) (i : Nat) (r r' : Sp) (h : rs[i]? = some r) (j : Nat) (hj : j < 4) (u : Value) (he : r'.cells = r.cells.set j u) :
    (rs.flatMap Sp.cells).set (i * 4 + j) u = (rs.set i r').flatMap Sp.cells := by
  induction rs generalizing i with
  | nil => simp at h
  | cons a l ih =>
    cases i with
    | zero =>
      simp at h; subst h
      simp only [List.flatMap_cons, List.set_cons_zero, Nat.zero_mul, Nat.zero_add]
      rw [List.set_append_left _ _ (by simpa [Sp.cells] using hj), ← he]
    | succ i =>
      have e : (i + 1) * 4 + j = (i * 4 + j) + 4 := by omega
      simp only [List.flatMap_cons, List.set_cons_succ]
      rw [e, List.set_append_right _ _ (by simp [Sp.cells])]
      congr 1
      simpa [Sp.cells] using ih i (by simpa using h)
section
variable {w : World} {F : Nat → Prop} {bd bn cap : Nat} {rn : List RN} {rv : Value} {s : List Nd} {rs : List Sp}
theorem RDocAt.spanCells (hD : RDocAt w F bd bn cap rn rv s rs) {r : Nat} {x : Sp} (hx : rs[r]? = some x) : ∃ g c, rv = .slice (some ⟨g, 0, none⟩) rs.length c ∧ g < w.heap.size ∧ F g ∧ g ≠ bd ∧ g ≠ bn ∧ w.cell? ⟨g, r * 4, none⟩ = some (.int .i64 x.a) ∧ w.cell? ⟨g, r * 4 + 1, none⟩ = some (.int .i64 x.b) ∧ w.cell? ⟨g, r * 4 + 2, none⟩ = some (.int .i64 x.c) ∧ w.cell? ⟨g, r * 4 + 3, none⟩ = some (.int .i64 x.d) ∧
    (∀ o, w.frozen? ⟨g, o, none⟩ = false) := by
  have hr : r < rs.length := (List.getElem?_eq_some_iff.1 hx).1
  obtain ⟨g, rc, hrve⟩ : ∃ g c, rv = .slice (some ⟨g, 0, none⟩) rs.length c := by
    rcases row_cases hD.ranges with ⟨_, h0⟩ | ⟨g, c, h⟩
    · omega
    · exact ⟨g, c, h⟩
  have hrow := hD.ranges
  have ha := hD.apart g (by rw [hrve]; rfl)
  rw [hrve] at hrow
  refine ⟨g, rc, hrve, (hrow.lt g rfl).2, ha.1, ha.2.1, ha.2.2, ?_, ?_, ?_, ?_, fun o => hrow.frozenAt o⟩
  · have := hrow.cellAt (r * 4 + 0) (by omega); rw [spcells_get rs r x hx 0 (by omega)] at this; simpa [Sp.cells] using this
  · have := hrow.cellAt (r * 4 + 1) (by omega); rw [spcells_get rs r x hx 1 (by omega)] at this; simpa [Sp.cells] using this
  · have := hrow.cellAt (r * 4 + 2) (by omega); rw [spcells_get rs r x hx 2 (by omega)] at this; simpa [Sp.cells] using this
  · have := hrow.cellAt (r * 4 + 3) (by omega); rw [spcells_get rs r x hx 3 (by omega)] at this; simpa [Sp.cells] using this
end
theorem set_mid {α : Type} (f : α → α) (rs : List α) (q : Nat) (x : α) (hx : rs[q]? = some x) : ((rs.take q).map f ++ rs.drop q).set q (f x) = (rs.take (q + 1)).map f ++ rs.drop (q + 1) := by
  have hq : q < rs.length := (List.getElem?_eq_some_iff.1 hx).1
  have hd : rs.drop q = x :: rs.drop (q + 1) := by
    rw [List.drop_eq_getElem_cons hq]
    rw [(List.getElem?_eq_some_iff.1 hx).2]
  rw [hd, List.set_append_right _ _ (by simp; omega)]
  have e : q - ((rs.take q).map f).length = 0 := by simp; omega
  rw [e, List.set_cons_zero, List.take_add_one, hx]
  simp
theorem get_mid {α : Type} (f : α → α) (rs : List α) (q : Nat) (x : α) (hx : rs[q]? = some x) : ((rs.take q).map f ++ rs.drop q)[q]? = some x := by
  have hq : q < rs.length := (List.getElem?_eq_some_iff.1 hx).1
  rw [List.getElem?_append_right (by simp; omega)]
  have e : q - ((rs.take q).map f).length = 0 := by simp; omega
  rw [e]
  simpa using hx
section
variable {w : World} {F : Nat → Prop} {bd bn cap : Nat} {rn : List RN} {rv : Value} {s : List Nd} {rs : List Sp}
end
end Go.Proofs.YtabogkonklplcaaGreatDoor

namespace Go.Proofs.YtabogkonklplcaaGreatDoor
open Go.RowKit
set_option linter.unusedSimpArgs false
set_option linter.unusedVariables false
def leftN (n : Nat) (t : Value) : Nat := n - (intOf t).toNat
section
variable {w : World} {F : Nat → Prop} {bd bn cap : Nat} {rn : List RN} {rv : Value} {s : List Nd} {rs : List Sp}
theorem RDocAt.spanAt (hD : RDocAt w F bd bn cap rn rv s rs) {r g c n : Nat} {x : Sp} (hx : rs[r]? = some x) (hv : rv = .slice (some ⟨g, 0, none⟩) n c) : w.cell? ⟨g, r * 4, none⟩ = some (.int .i64 x.a) ∧ w.cell? ⟨g, r * 4 + 1, none⟩ = some (.int .i64 x.b) ∧ w.cell? ⟨g, r * 4 + 2, none⟩ = some (.int .i64 x.c) ∧ w.cell? ⟨g, r * 4 + 3, none⟩ = some (.int .i64 x.d) ∧
    (∀ o, w.frozen? ⟨g, o, none⟩ = false) := by
  obtain ⟨g', c', hv', _, _, _, _, h⟩ := hD.spanCells hx
  rw [hv] at hv'
  cases hv'
  exact h
end
def Small (rs : List Sp) : Prop := ∀ x ∈ rs, 0 ≤ x.b ∧ x.b ≤ 100 ∧ 0 ≤ x.d ∧ x.d ≤ 100
theorem Small.of {s : List Nd} (wf : WF s) {rs : List Sp} (h : ∀ x ∈ rs, SpOk s x) : Small rs := fun x hx => by
  have h1 := (h x hx).1.small wf
  have h2 := (h x hx).2.small wf
  omega
end Go.Proofs.YtabogkonklplcaaGreatDoor

namespace Go.Proofs.YtabogkonklplcaaGreatDoor
open Go.RowKit
set_option linter.unusedSimpArgs false
set_option linter.unusedVariables false
section
variable {w : World} {F : Nat → Prop} {bd bn cap : Nat} {rn : List RN} {rv : Value} {s : List Nd} {rs : List Sp}
end
end Go.Proofs.YtabogkonklplcaaGreatDoor

namespace Go.Proofs.YtabogkonklplcaaGreatDoor
open Go.RowKit
set_option linter.unusedSimpArgs false
set_option linter.unusedVariables false
section
variable {w : World} {F : Nat → Prop} {bd bn cap : Nat} {rn : List RN} {rv : Value} {s : List Nd} {rs : List Sp}
end
end Go.Proofs.YtabogkonklplcaaGreatDoor

namespace Go.Proofs.YtabogkonklplcaaGreatDoor
open Go.RowKit
set_option linter.unusedSimpArgs false
set_option linter.unusedVariables false
section
variable {w : World} {F : Nat → Prop} {bd bn cap : Nat} {rn : List RN} {rv : Value} {s : List Nd} {rs : List Sp}
end
end Go.Proofs.YtabogkonklplcaaGreatDoor

namespace Go.Proofs.YtabogkonklplcaaGreatDoor
open Go.RowKit
set_option linter.unusedSimpArgs false
set_option linter.unusedVariables false
abbrev Bld (B b : Nat) (bs : List Value) (w : World) : Prop := Lib.IsBuilder 219 5 B b bs w
abbrev BldU (B b : Nat) (bs : List Value) (w : World) : Prop := Lib.BuilderAt 219 5 B b (ptr b) bs w
theorem Tryz.sizeBld : (Tryz.prog.info? 219).map (·.size) = some 2 := by kernel_rfl
set_option maxHeartbeats 1000000 in
set_option maxRecDepth 100000 in
theorem bcheck_used (b : Nat) (w : World) (h0 : w.cell? ⟨b, 0, none⟩ = some (ptr b)) :
    Calls Tryz.prog 184 #[ptr b] w fun e w' => e = .returned (.tuple #[]) ∧ w' = w := by
  obtain ⟨j, hj, _⟩ := Option.map_eq_some_iff.1 Tryz.sizeBld
  go_enter Tryz.func184, Tryz.ntmps184
  go_wp2
  rw [Lib.run_neq_ptr_same w _ Tryz.underlying216 hj]
  go_wp2
  go_end0
  exact ⟨rfl, rfl⟩
set_option maxHeartbeats 1000000 in
set_option maxRecDepth 100000 in
theorem bcheck_fresh (b : Nat) (w : World) (h0 : w.cell? ⟨b, 0, none⟩ = some (.pointer none)) (hsh : w.shape? b = some (219, 2)) (hfz : w.frozen? ⟨b, 0, none⟩ = false) :
    Calls Tryz.prog 184 #[ptr b] w fun e w' => e = .returned (.tuple #[]) ∧ w' = w.setCell ⟨b, 0, none⟩ (ptr b) := by
  obtain ⟨j, hj, hjs⟩ := Option.map_eq_some_iff.1 Tryz.sizeBld
  go_enter Tryz.func184, Tryz.ntmps184
  go_wp2
  rw [Lib.run_to_unsafe w ⟨b, 0, none⟩ Tryz.underlying216 Tryz.underlying203 hj (by rw [hjs]; decide) hsh (Nat.zero_lt_succ 1)]
  simp only [Result.andThen]
  rw [Oper.upon_value]
  go_wp2
  rw [run_callFunc_extern Tryz.func195 (by kernel_rfl) (by kernel_rfl) (by kernel_rfl) (e := Extern.AbiNoEscape.same) (by kernel_rfl)]
  rw [Lib.run_noEscape]
  simp only [Result.andThen]
  rw [Oper.upon_value]
  go_wp2
  rw [Lib.run_from_unsafe w ⟨b, 0, none⟩ Tryz.underlying203 Tryz.underlying216 hj hsh (by kernel_rfl)]
  simp only [Result.andThen]
  rw [Oper.upon_value]
  go_wp2
  go_end0
  exact ⟨rfl, rfl⟩
def IterKept (w w' : World) : Prop := ∀ (k : Nat) (t : ByteArray) (p : Nat), w.heap[k]? = some (.stringIter t p) → w'.heap[k]? = some (.stringIter t p)
theorem IterKept.refl (w : World) : IterKept w w := fun _ _ _ h => h
theorem IterKept.trans {a b c : World} (h : IterKept a b) (g : IterKept b c) : IterKept a c := fun k t p hk => g k t p (h k t p hk)
theorem IterKept.alloc (w : World) (o : Obj) : IterKept w (w.alloc o) := fun k t p hk => by rw [Below.heap_alloc _ _ _ (heap_lt hk)]; exact hk
theorem IterKept.setCell {w : World} {b o : Nat} {cur : Array Value} {e : TypeId} {fz : Nat × Nat} (v : Value) (hb : w.heap[b]? = some (.cells cur e fz)) : IterKept w (w.setCell ⟨b, o, none⟩ v) := fun k t p hk => by
  have hne : k ≠ b := fun e => by subst e; rw [hb] at hk; cases hk
  have h := (Keeps.refl (fun x => x = b) w).setCell (p := ⟨b, o, none⟩) (.inl rfl) v
  rw [h.block k (heap_lt hk) hne]; exact hk
theorem IterKept.grown {w w' : World} {B : Nat} {v : Value} {n : Nat} {xs : List Value} {e : TypeId} {z : Nat} (hown : w.ownsRow B e z v n xs) (hg : w.grownBy w' v.ownBlock) : IterKept w w' := fun k t p hk => by
  rw [hg.block k (heap_lt hk) ?_]
  · exact hk
  · intro e
    rcases hown.2 with ⟨hv, _⟩ | ⟨g, cap, cur, hv, _, hh, _⟩
    · rw [hv] at e; cases e
    · rw [hv] at e
      cases e
      rw [hh] at hk; cases hk
theorem bcheck {B b : Nat} {bs : List Value} {w : World} (h : Bld B b bs w) :
    Calls Tryz.prog 184 #[ptr b] w fun e w' => e = .returned (.tuple #[]) ∧ BldU B b bs w' ∧ Below B w w' ∧ IterKept w w' := by
  rcases h with h | h
  · refine (bcheck_fresh b w h.cell0 h.shape h.frozen0).mono ?_
    rintro e w' ⟨rfl, rfl⟩
    have h2 := h
    obtain ⟨_, v, hb, _⟩ := h2
    exact ⟨rfl, h.used _, (Below.refl B w).setCell (p := ⟨b, 0, none⟩) h.1 _, IterKept.setCell _ hb⟩
  · refine (bcheck_used b w h.cell0).mono ?_
    rintro e w' ⟨rfl, rfl⟩
    exact ⟨rfl, h, Below.refl B _, IterKept.refl _⟩
end Go.Proofs.YtabogkonklplcaaGreatDoor

namespace Go.Proofs.YtabogkonklplcaaGreatDoor
open Go.RowKit
set_option linter.unusedSimpArgs false
set_option linter.unusedVariables false
theorem Tryz.info5 : (Tryz.prog.info? 5).map (fun i => (i.zero, i.size, i.bytes)) = some (some (.int .u8 0), 1, 1) := by kernel_rfl
theorem bld_put {B b : Nat} {bs bs' : List Value} {v v' : Value} {w0 w1 w2 : World} (hB : B ≤ b) (hbk : w1.heap[b]? = some (.cells #[ptr b, v] 219 (0, 0))) (hne : v.ownBlock ≠ some b) (hown : w1.ownsRow B 5 1 v bs.length bs)
    (h01 : Below B w0 w1) (hik : IterKept w0 w1) (hBw : B ≤ w1.heap.size) (hg : w1.grownBy w2 v.ownBlock) (hown' : w2.ownsRow B 5 1 v' bs'.length bs') :
    BldU B b bs' (w2.setCell ⟨b, 1, none⟩ v') ∧ (Below B w0 (w2.setCell ⟨b, 1, none⟩ v') ∧ IterKept w0 (w2.setCell ⟨b, 1, none⟩ v')) ∧ w2.heap[b]? = some (.cells #[ptr b, v] 219 (0, 0)) := by
  have hb2 : w2.heap[b]? = some (.cells #[ptr b, v] 219 (0, 0)) := by
    rw [hg.block b (heap_lt hbk) (fun e => hne e.symm)]
    exact hbk
  exact ⟨Lib.BuilderAt.put hB hb2 hown' (by decide), ⟨(h01.grown hg hBw (fun k hk => (hown.lt k hk).1)).setCell (p := ⟨b, 1, none⟩) hB _, (hik.trans (IterKept.grown hown hg)).trans (IterKept.setCell _ hb2)⟩, hb2⟩
theorem bld_slice {B : Nat} {bs : List Value} {v : Value} {w : World} (h : w.ownsRow B 5 1 v bs.length bs) : ∃ a n c, v = .slice a n c := by
  rcases h.2 with ⟨hv, _⟩ | ⟨g, cap, cur, hv, _⟩
  · exact ⟨_, _, _, hv⟩
  · exact ⟨_, _, _, hv⟩
set_option maxHeartbeats 2000000 in
set_option maxRecDepth 100000 in
theorem bwrite_byte {B b : Nat} {bs : List Value} (c : Int) {w : World} (h : Bld B b bs w) (hlen : bs.length < lots) (hBw : B ≤ w.heap.size) :
    Calls Tryz.prog 177 #[ptr b, .int .u8 c] w fun e w' => e = .returned .nilIface ∧ BldU B b (bs ++ [.int .u8 c]) w' ∧ Below B w w' ∧ IterKept w w' := by
  obtain ⟨i0, hi, hz0, hz1, hz2⟩ := info_parts Tryz.info5
  have C := hid (bcheck h)
  clear h
  go_enter Tryz.func177, Tryz.ntmps177
  go_wp2_with (go_at_call 184; refine C.out.mono ?_)
  rintro e w1 ⟨rfl, h1, hb1, hk1⟩
  obtain ⟨hB, v, hbk, hown, hne⟩ := h1
  have hsz := hb1.size
  obtain ⟨a0, n0, p0, rfl⟩ := bld_slice hown
  have c1 : w1.cell? ⟨b, 1, none⟩ = some (.slice a0 n0 p0) := cell_of_heap hbk 1
  have hbn : ¬ b = w1.heap.size := by have := heap_lt hbk; omega
  go_wp2_with (at_builtin; refine wpList_append_own _ rfl _ _ 217 rfl B 5 i0 (.int .u8 0) 1 1 Tryz.underlying217 hi hz0 hz1 hz2 rfl (by decide) (.slice a0 n0 p0) _ _ rfl (hown.alloc _) ⟨w1.heap.size, 0, none⟩ 1 1 [.int .u8 c] rfl rfl (cell_one_new _ _ _) (by simp [Value.oneCell']) (by unfold maxLen; unfold lots at hlen; omega) (by unfold lots at hlen; omega) (by simp; omega) ?_)
  intro v' w2 hown' hgrow _
  have hbk' : (w1.alloc (.cells #[.int .u8 c] 5)).heap[b]? = some (.cells #[ptr b, .slice a0 n0 p0] 219 (0, 0)) := by rw [Below.heap_alloc _ _ _ (heap_lt hbk)]; exact hbk
  have P := hid (bld_put (bs' := bs ++ [.int .u8 c]) hB hbk' hne (hown.alloc _) (hb1.alloc (by omega) _) (hk1.trans (IterKept.alloc _ _)) (by simp; omega) hgrow (by simpa using hown'))
  obtain ⟨ao, n', cap, rfl⟩ := bld_slice (bs := bs ++ [.int .u8 c]) (by simpa using hown')
  have d1 : w2.cell? ⟨b, 1, none⟩ = some (.slice a0 n0 p0) := cell_of_heap P.out.2.2 1
  have f1 : w2.frozen? ⟨b, 1, none⟩ = false := frozen_of_heap P.out.2.2 1
  clear hown' hgrow hbk' hown hbk hne
  go_wp2
  go_ret
  exact ⟨rfl, P.out.1, P.out.2.1⟩
set_option maxHeartbeats 2000000 in
set_option maxRecDepth 100000 in
theorem bwrite_string {B b : Nat} {bs : List Value} (s : ByteArray) {w : World} (h : Bld B b bs w) (hlen : bs.length + s.size < lots) (hBw : B ≤ w.heap.size) :
    Calls Tryz.prog 174 #[ptr b, .string s] w fun e w' => e = .returned (.tuple #[.int .i64 s.size, .nilIface]) ∧ BldU B b (bs ++ Lib.strCells s) w' ∧ Below B w w' ∧ IterKept w w' := by
  obtain ⟨i0, hi, hz0, hz1, hz2⟩ := info_parts Tryz.info5
  have C := hid (bcheck h)
  clear h
  go_enter Tryz.func174, Tryz.ntmps174
  go_wp2_with (go_at_call 184; refine C.out.mono ?_)
  rintro e w1 ⟨rfl, h1, hb1, hk1⟩
  obtain ⟨hB, v, hbk, hown, hne⟩ := h1
  have hsz := hb1.size
  obtain ⟨a0, n0, p0, rfl⟩ := bld_slice hown
  have c1 : w1.cell? ⟨b, 1, none⟩ = some (.slice a0 n0 p0) := cell_of_heap hbk 1
  go_wp2_with (at_builtin; refine Lib.wpList_append_own_string _ rfl _ _ 217 9 rfl B 5 i0 Tryz.underlying217 Tryz.underlying9 hi hz0 hz1 hz2 (.slice a0 n0 p0) _ _ rfl hown s rfl (by unfold maxLen; unfold lots at hlen; omega) (by unfold lots at hlen; omega) (by omega) ?_)
  intro v' w2 hown' hgrow _
  have P := hid (bld_put (bs' := bs ++ Lib.strCells s) hB hbk hne hown hb1 hk1 (by omega) hgrow (by simpa [Lib.strCells_length] using hown'))
  obtain ⟨ao, n', cap, rfl⟩ := bld_slice (bs := bs ++ Lib.strCells s) (by simpa [Lib.strCells_length] using hown')
  have d1 : w2.cell? ⟨b, 1, none⟩ = some (.slice a0 n0 p0) := cell_of_heap P.out.2.2 1
  have f1 : w2.frozen? ⟨b, 1, none⟩ = false := frozen_of_heap P.out.2.2 1
  clear hown' hgrow hown hbk hne
  go_wp2
  go_ret2
  exact ⟨rfl, P.out.1, P.out.2.1⟩
def RuneWrote (B b : Nat) (bs : List Value) (w : World) (e : Ending) (w' : World) : Prop := ∃ n : Int, e = .returned (.tuple #[.int .i64 n, .nilIface]) ∧ BldU B b bs w' ∧ Below B w w' ∧ IterKept w w'
set_option maxHeartbeats 2000000 in
set_option maxRecDepth 100000 in
theorem bwrite_rune {B b : Nat} {bs : List Value} (r : Int) (hr0 : 0 ≤ r) (hr1 : r ≤ 2147483647) {w : World} (h : Bld B b bs w) (hlen : bs.length < lots) (hBw : B ≤ w.heap.size) :
    Calls Tryz.prog 160 #[ptr b, .int .i32 r] w (RuneWrote B b (bs ++ Lib.runeCells r) w) := by
  have C := hid (bcheck h)
  clear h
  go_enter Tryz.func160, Tryz.ntmps160
  go_wp2_with (go_at_call 184; refine C.out.mono ?_)
  rintro e w1 ⟨rfl, h1, hb1, hk1⟩
  obtain ⟨hB, v, hbk, hown, hne⟩ := h1
  have hsz := hb1.size
  obtain ⟨a0, n0, p0, rfl⟩ := bld_slice hown
  have c1 : w1.cell? ⟨b, 1, none⟩ = some (.slice a0 n0 p0) := cell_of_heap hbk 1
  have A1 := hid (Tryz.utf8_AppendRune_plain B (.slice a0 n0 p0) bs.length bs r (by omega) hr1 w1 hown (by unfold lots at hlen; omega) (by omega))
  go_wp2_with (go_at_call 185; refine A1.out.mono ?_)
  rintro e w2 ⟨v', rfl, hown', o, hgrow⟩
  have hbk' : (w1.alloc o).heap[b]? = some (.cells #[ptr b, .slice a0 n0 p0] 219 (0, 0)) := by rw [Below.heap_alloc _ _ _ (heap_lt hbk)]; exact hbk
  have P := hid (bld_put (bs' := bs ++ Lib.runeCells r) hB hbk' hne (hown.alloc _) (hb1.alloc (by omega) _) (hk1.trans (IterKept.alloc _ _)) (by simp; omega) hgrow (by simpa using hown'))
  obtain ⟨ao, n', cap, rfl⟩ := bld_slice (bs := bs ++ Lib.runeCells r) (by simpa using hown')
  have d1 : w2.cell? ⟨b, 1, none⟩ = some (.slice a0 n0 p0) := cell_of_heap P.out.2.2 1
  have f1 : w2.frozen? ⟨b, 1, none⟩ = false := frozen_of_heap P.out.2.2 1
  clear hown' hgrow hbk' hown hbk hne
  go_wp2
  go_ret2
  exact ⟨_, rfl, P.out.1, P.out.2.1⟩
end Go.Proofs.YtabogkonklplcaaGreatDoor

namespace Go.Proofs.YtabogkonklplcaaGreatDoor
open Go.RowKit
set_option linter.unusedSimpArgs false
set_option linter.unusedVariables false
theorem strCells_append (a b : ByteArray) : Lib.strCells (a ++ b) = Lib.strCells a ++ Lib.strCells b := by
  simp [Lib.strCells, ByteArray.data_append]
theorem enc_39 {r : Int} (h : Lib.runeCells r = [.int .u8 39]) : r = 39 := by
  unfold Lib.runeCells Lib.encodeRuneZ at h
  split at h
  · simpa using h
  · (repeat' split at h) <;> simp at h
theorem enc_92 {r : Int} (h : Lib.runeCells r = [.int .u8 92]) : r = 92 := by
  unfold Lib.runeCells Lib.encodeRuneZ at h
  split at h
  · simpa using h
  · (repeat' split at h) <;> simp at h
theorem strCells_39 {c : ByteArray} (h : Lib.strCells c = [.int .u8 39]) : c.data.toList = [39] := by
  unfold Lib.strCells at h
  rw [List.map_eq_singleton_iff] at h
  obtain ⟨a, h1, h2⟩ := h
  rw [h1]
  simp at h2
  have : a.toNat = 39 := by omega
  rw [show a = 39 from UInt8.toNat_inj.1 this]
theorem strCells_92 {c : ByteArray} (h : Lib.strCells c = [.int .u8 92]) : c.data.toList = [92] := by
  unfold Lib.strCells at h
  rw [List.map_eq_singleton_iff] at h
  obtain ⟨a, h1, h2⟩ := h
  rw [h1]
  simp at h2
  have : a.toNat = 92 := by omega
  rw [show a = 92 from UInt8.toNat_inj.1 this]
theorem rune_q {c : ByteArray} {R : Nat} (h : Lib.runeCells (R : Int) = Lib.strCells c) : isQ c = (decide (R = 39) || decide (R = 92)) := by
  unfold isQ
  rw [Lib.toList_data]
  by_cases h1 : R = 39
  · subst h1
    have e : Lib.runeCells ((39 : Nat) : Int) = [.int .u8 39] := by unfold Lib.runeCells; rw [Lib.encodeRuneZ_one (by decide) (by decide)]; rfl
    rw [e] at h
    rw [strCells_39 h.symm]
    decide
  · by_cases h2 : R = 92
    · subst h2
      have e : Lib.runeCells ((92 : Nat) : Int) = [.int .u8 92] := by unfold Lib.runeCells; rw [Lib.encodeRuneZ_one (by decide) (by decide)]; rfl
      rw [e] at h
      rw [strCells_92 h.symm]
      decide
    · have n1 : (c.data.toList == [39]) = false := by
        rw [beq_eq_false_iff_ne]
        intro e
        have : Lib.strCells c = [.int .u8 39] := by unfold Lib.strCells; rw [e]; rfl
        rw [this] at h
        have := enc_39 h
        omega
      have n2 : (c.data.toList == [92]) = false := by
        rw [beq_eq_false_iff_ne]
        intro e
        have : Lib.strCells c = [.int .u8 92] := by unfold Lib.strCells; rw [e]; rfl
        rw [this] at h
        have := enc_92 h
        omega
      rw [n1, n2]
      simp [h1, h2]
end Go.Proofs.YtabogkonklplcaaGreatDoor

namespace Go.Proofs.YtabogkonklplcaaGreatDoor
open Go.RowKit
set_option linter.unusedSimpArgs false
set_option linter.unusedVariables false
def RunePut (v : Value) (bs : List Value) (w : World) (e : Ending) (w' : World) : Prop :=
  ∃ v', e = .returned v' ∧ w'.ownsRow 0 5 1 v' bs.length bs ∧ (∃ o, (w.alloc o).grownBy w' v.ownBlock) ∧ (v'.ownBlock = v.ownBlock ∨ v'.ownBlock = some (w.heap.size + 1))
set_option maxHeartbeats 4000000 in
set_option maxRecDepth 100000 in
theorem nonascii_two (a0 : Option Addr) (n0 p0 : Nat) (bs : List Value) (r : Int) (h0 : 128 ≤ r) (h1 : r ≤ 2047) (w : World) (hown : w.ownsRow 0 5 1 (.slice a0 n0 p0) bs.length bs) (hlen : bs.length < lots) :
    Calls Tryz.prog 196 #[.slice a0 n0 p0, .int .i32 r] w (RunePut (.slice a0 n0 p0) (bs ++ [.int .u8 (192 + r / 64), .int .u8 (128 + r % 64)]) w) := by
  obtain ⟨i0, hi, hz0, hz1, hz2⟩ := info_parts Tryz.info5
  unfold lots at hlen
  go_enter Tryz.func196, Tryz.ntmps196
  go_wp2_with (at_builtin; refine wpList_append_own_at _ rfl _ _ 217 rfl 0 5 i0 (.int .u8 0) 1 1 Tryz.underlying217 hi hz0 hz1 hz2 rfl (by decide) (.slice a0 n0 p0) _ _ rfl (hown.alloc _) ⟨w.heap.size, 0, none⟩ 2 2 [.int .u8 (192 + r / 64), .int .u8 (128 + r % 64)] rfl rfl ?c1 (by simp [Value.oneCell']) (by unfold maxLen; omega) (by omega) (Nat.zero_le _) ?_)
  case c1 =>
    intro j u hj
    match j, hj with
    | 0, hj => simp at hj; subst hj; simp [Addr.add]
    | 1, hj => simp at hj; subst hj; simp [Addr.add]
    | (j + 2), hj => simp at hj
  intro v' w2 hown' hgrow _ hat
  go_wp2
  go_ret
  exact ⟨_, rfl, by simpa using hown', ⟨_, hgrow⟩, by simpa using hat⟩
set_option maxHeartbeats 4000000 in
set_option maxRecDepth 100000 in
theorem nonascii_three (a0 : Option Addr) (n0 p0 : Nat) (bs : List Value) (r : Int) (h0 : 2048 ≤ r) (h1 : r < 55296) (w : World) (hown : w.ownsRow 0 5 1 (.slice a0 n0 p0) bs.length bs) (hlen : bs.length < lots) :
    Calls Tryz.prog 196 #[.slice a0 n0 p0, .int .i32 r] w (RunePut (.slice a0 n0 p0) (bs ++ [.int .u8 (224 + r / 4096), .int .u8 (128 + r / 64 % 64), .int .u8 (128 + r % 64)]) w) := by
  obtain ⟨i0, hi, hz0, hz1, hz2⟩ := info_parts Tryz.info5
  unfold lots at hlen
  go_enter Tryz.func196, Tryz.ntmps196
  go_wp2_with (at_builtin; refine wpList_append_own_at _ rfl _ _ 217 rfl 0 5 i0 (.int .u8 0) 1 1 Tryz.underlying217 hi hz0 hz1 hz2 rfl (by decide) (.slice a0 n0 p0) _ _ rfl (hown.alloc _) ⟨w.heap.size, 0, none⟩ 3 3 [.int .u8 (224 + r / 4096), .int .u8 (128 + r / 64 % 64), .int .u8 (128 + r % 64)] rfl rfl ?c1 (by simp [Value.oneCell']) (by unfold maxLen; omega) (by omega) (Nat.zero_le _) ?_)
  case c1 =>
    intro j u hj
    match j, hj with
    | 0, hj => simp at hj; subst hj; simp [Addr.add]
    | 1, hj => simp at hj; subst hj; simp [Addr.add]
    | 2, hj => simp at hj; subst hj; simp [Addr.add]
    | (j + 3), hj => simp at hj
  intro v' w2 hown' hgrow _ hat
  go_wp2
  go_ret
  exact ⟨_, rfl, by simpa using hown', ⟨_, hgrow⟩, by simpa using hat⟩
set_option maxHeartbeats 4000000 in
set_option maxRecDepth 100000 in
theorem nonascii_sur (a0 : Option Addr) (n0 p0 : Nat) (bs : List Value) (r : Int) (h0 : 55296 ≤ r) (h1 : r ≤ 57343) (w : World) (hown : w.ownsRow 0 5 1 (.slice a0 n0 p0) bs.length bs) (hlen : bs.length < lots) :
    Calls Tryz.prog 196 #[.slice a0 n0 p0, .int .i32 r] w (RunePut (.slice a0 n0 p0) (bs ++ [.int .u8 239, .int .u8 191, .int .u8 189]) w) := by
  obtain ⟨i0, hi, hz0, hz1, hz2⟩ := info_parts Tryz.info5
  unfold lots at hlen
  go_enter Tryz.func196, Tryz.ntmps196
  go_wp2_with (at_builtin; refine wpList_append_own_at _ rfl _ _ 217 rfl 0 5 i0 (.int .u8 0) 1 1 Tryz.underlying217 hi hz0 hz1 hz2 rfl (by decide) (.slice a0 n0 p0) _ _ rfl (hown.alloc _) ⟨w.heap.size, 0, none⟩ 3 3 [.int .u8 239, .int .u8 191, .int .u8 189] rfl rfl ?c1 (by simp [Value.oneCell']) (by unfold maxLen; omega) (by omega) (Nat.zero_le _) ?_)
  all_goals first
    | (intro v' w2 hown' hgrow _ hat; go_wp2; go_ret; exact ⟨_, rfl, by simpa using hown', ⟨_, hgrow⟩, by simpa using hat⟩)
    | (intro j u hj
       match j, hj with
       | 0, hj => simp at hj; subst hj; simp [Addr.add]
       | 1, hj => simp at hj; subst hj; simp [Addr.add]
       | 2, hj => simp at hj; subst hj; simp [Addr.add]
       | (j + 3), hj => simp at hj)
set_option maxHeartbeats 4000000 in
set_option maxRecDepth 100000 in
theorem nonascii_hi (a0 : Option Addr) (n0 p0 : Nat) (bs : List Value) (r : Int) (h0 : 57343 < r) (h1 : r ≤ 65535) (w : World) (hown : w.ownsRow 0 5 1 (.slice a0 n0 p0) bs.length bs) (hlen : bs.length < lots) :
    Calls Tryz.prog 196 #[.slice a0 n0 p0, .int .i32 r] w (RunePut (.slice a0 n0 p0) (bs ++ [.int .u8 (224 + r / 4096), .int .u8 (128 + r / 64 % 64), .int .u8 (128 + r % 64)]) w) := by
  obtain ⟨i0, hi, hz0, hz1, hz2⟩ := info_parts Tryz.info5
  unfold lots at hlen
  go_enter Tryz.func196, Tryz.ntmps196
  go_wp2_with (at_builtin; refine wpList_append_own_at _ rfl _ _ 217 rfl 0 5 i0 (.int .u8 0) 1 1 Tryz.underlying217 hi hz0 hz1 hz2 rfl (by decide) (.slice a0 n0 p0) _ _ rfl (hown.alloc _) ⟨w.heap.size, 0, none⟩ 3 3 [.int .u8 (224 + r / 4096), .int .u8 (128 + r / 64 % 64), .int .u8 (128 + r % 64)] rfl rfl ?c1 (by simp [Value.oneCell']) (by unfold maxLen; omega) (by omega) (Nat.zero_le _) ?_)
  case c1 =>
    intro j u hj
    match j, hj with
    | 0, hj => simp at hj; subst hj; simp [Addr.add]
    | 1, hj => simp at hj; subst hj; simp [Addr.add]
    | 2, hj => simp at hj; subst hj; simp [Addr.add]
    | (j + 3), hj => simp at hj
  intro v' w2 hown' hgrow _ hat
  go_wp2
  go_ret
  exact ⟨_, rfl, by simpa using hown', ⟨_, hgrow⟩, by simpa using hat⟩
set_option maxHeartbeats 4000000 in
set_option maxRecDepth 100000 in
theorem nonascii_four (a0 : Option Addr) (n0 p0 : Nat) (bs : List Value) (r : Int) (h0 : 65536 ≤ r) (h1 : r ≤ 1114111) (w : World) (hown : w.ownsRow 0 5 1 (.slice a0 n0 p0) bs.length bs) (hlen : bs.length < lots) :
    Calls Tryz.prog 196 #[.slice a0 n0 p0, .int .i32 r] w (RunePut (.slice a0 n0 p0) (bs ++ [.int .u8 (240 + r / 262144), .int .u8 (128 + r / 4096 % 64), .int .u8 (128 + r / 64 % 64), .int .u8 (128 + r % 64)]) w) := by
  obtain ⟨i0, hi, hz0, hz1, hz2⟩ := info_parts Tryz.info5
  unfold lots at hlen
  go_enter Tryz.func196, Tryz.ntmps196
  go_wp2_with (at_builtin; refine wpList_append_own_at _ rfl _ _ 217 rfl 0 5 i0 (.int .u8 0) 1 1 Tryz.underlying217 hi hz0 hz1 hz2 rfl (by decide) (.slice a0 n0 p0) _ _ rfl (hown.alloc _) ⟨w.heap.size, 0, none⟩ 4 4 [.int .u8 (240 + r / 262144), .int .u8 (128 + r / 4096 % 64), .int .u8 (128 + r / 64 % 64), .int .u8 (128 + r % 64)] rfl rfl ?c1 (by simp [Value.oneCell']) (by unfold maxLen; omega) (by omega) (Nat.zero_le _) ?_)
  case c1 =>
    intro j u hj
    match j, hj with
    | 0, hj => simp at hj; subst hj; simp [Addr.add]
    | 1, hj => simp at hj; subst hj; simp [Addr.add]
    | 2, hj => simp at hj; subst hj; simp [Addr.add]
    | 3, hj => simp at hj; subst hj; simp [Addr.add]
    | (j + 4), hj => simp at hj
  intro v' w2 hown' hgrow _ hat
  go_wp2
  go_ret
  exact ⟨_, rfl, by simpa using hown', ⟨_, hgrow⟩, by simpa using hat⟩
set_option maxHeartbeats 4000000 in
set_option maxRecDepth 100000 in
theorem nonascii_big (a0 : Option Addr) (n0 p0 : Nat) (bs : List Value) (r : Int) (h0 : 1114111 < r) (h1 : r ≤ 2147483647) (w : World) (hown : w.ownsRow 0 5 1 (.slice a0 n0 p0) bs.length bs) (hlen : bs.length < lots) :
    Calls Tryz.prog 196 #[.slice a0 n0 p0, .int .i32 r] w (RunePut (.slice a0 n0 p0) (bs ++ [.int .u8 239, .int .u8 191, .int .u8 189]) w) := by
  obtain ⟨i0, hi, hz0, hz1, hz2⟩ := info_parts Tryz.info5
  unfold lots at hlen
  go_enter Tryz.func196, Tryz.ntmps196
  go_wp2_with (at_builtin; refine wpList_append_own_at _ rfl _ _ 217 rfl 0 5 i0 (.int .u8 0) 1 1 Tryz.underlying217 hi hz0 hz1 hz2 rfl (by decide) (.slice a0 n0 p0) _ _ rfl (hown.alloc _) ⟨w.heap.size, 0, none⟩ 3 3 [.int .u8 239, .int .u8 191, .int .u8 189] rfl rfl ?c1 (by simp [Value.oneCell']) (by unfold maxLen; omega) (by omega) (Nat.zero_le _) ?_)
  case c1 =>
    intro j u hj
    match j, hj with
    | 0, hj => simp at hj; subst hj; simp [Addr.add]
    | 1, hj => simp at hj; subst hj; simp [Addr.add]
    | 2, hj => simp at hj; subst hj; simp [Addr.add]
    | (j + 3), hj => simp at hj
  intro v' w2 hown' hgrow _ hat
  go_wp2
  go_ret
  exact ⟨_, rfl, by simpa using hown', ⟨_, hgrow⟩, by simpa using hat⟩
theorem nonascii_at (a0 : Option Addr) (n0 p0 : Nat) (bs : List Value) (r : Int) (h0 : 128 ≤ r) (h1 : r ≤ 2147483647) (w : World) (hown : w.ownsRow 0 5 1 (.slice a0 n0 p0) bs.length bs) (hlen : bs.length < lots) :
    Calls Tryz.prog 196 #[.slice a0 n0 p0, .int .i32 r] w (RunePut (.slice a0 n0 p0) (bs ++ Lib.runeCells r) w) := by
  by_cases c1 : r ≤ 2047
  · rw [show Lib.runeCells r = [.int .u8 (192 + r / 64), .int .u8 (128 + r % 64)] by simp [Lib.runeCells, Lib.encodeRuneZ_two (by omega) c1]]
    exact nonascii_two a0 n0 p0 bs r (by omega) (by omega) w hown hlen
  by_cases c2 : r < 55296
  · rw [show Lib.runeCells r = [.int .u8 (224 + r / 4096), .int .u8 (128 + r / 64 % 64), .int .u8 (128 + r % 64)] by simp [Lib.runeCells, Lib.encodeRuneZ_three (Or.inl ⟨by omega, c2⟩)]]
    exact nonascii_three a0 n0 p0 bs r (by omega) (by omega) w hown hlen
  by_cases c3 : r ≤ 57343
  · rw [show Lib.runeCells r = [.int .u8 239, .int .u8 191, .int .u8 189] by simp [Lib.runeCells, Lib.encodeRuneZ_bad (Or.inr (Or.inl ⟨by omega, c3⟩))]]
    exact nonascii_sur a0 n0 p0 bs r (by omega) (by omega) w hown hlen
  by_cases c4 : r ≤ 65535
  · rw [show Lib.runeCells r = [.int .u8 (224 + r / 4096), .int .u8 (128 + r / 64 % 64), .int .u8 (128 + r % 64)] by simp [Lib.runeCells, Lib.encodeRuneZ_three (Or.inr ⟨by omega, c4⟩)]]
    exact nonascii_hi a0 n0 p0 bs r (by omega) (by omega) w hown hlen
  by_cases c5 : r ≤ 1114111
  · rw [show Lib.runeCells r = [.int .u8 (240 + r / 262144), .int .u8 (128 + r / 4096 % 64), .int .u8 (128 + r / 64 % 64), .int .u8 (128 + r % 64)] by simp [Lib.runeCells, Lib.encodeRuneZ_four (by omega) c5]]
    exact nonascii_four a0 n0 p0 bs r (by omega) (by omega) w hown hlen
  · rw [show Lib.runeCells r = [.int .u8 239, .int .u8 191, .int .u8 189] by simp [Lib.runeCells, Lib.encodeRuneZ_bad (r := r) (Or.inr (Or.inr (by omega)))]]
    exact nonascii_big a0 n0 p0 bs r (by omega) (by omega) w hown hlen
set_option maxHeartbeats 4000000 in
set_option maxRecDepth 100000 in
theorem appendRune_at (a0 : Option Addr) (n0 p0 : Nat) (bs : List Value) (r : Int) (h0 : 0 ≤ r) (h1 : r ≤ 2147483647) (w : World) (hown : w.ownsRow 0 5 1 (.slice a0 n0 p0) bs.length bs) (hlen : bs.length < lots) :
    Calls Tryz.prog 185 #[.slice a0 n0 p0, .int .i32 r] w (RunePut (.slice a0 n0 p0) (bs ++ Lib.runeCells r) w) := by
  by_cases c : r ≤ 127
  · obtain ⟨i0, hi, hz0, hz1, hz2⟩ := info_parts Tryz.info5
    unfold lots at hlen
    rw [show Lib.runeCells r = [.int .u8 r] by simp [Lib.runeCells, Lib.encodeRuneZ_one h0 c]]
    go_enter Tryz.func185, Tryz.ntmps185
    go_wp2_with (at_builtin; refine wpList_append_own_at _ rfl _ _ 217 rfl 0 5 i0 (.int .u8 0) 1 1 Tryz.underlying217 hi hz0 hz1 hz2 rfl (by decide) (.slice a0 n0 p0) _ _ rfl (hown.alloc _) ⟨w.heap.size, 0, none⟩ 1 1 [.int .u8 r] rfl rfl ?c1 (by simp [Value.oneCell']) (by unfold maxLen; omega) (by omega) (Nat.zero_le _) ?_)
    case c1 =>
      intro j u hj
      match j, hj with
      | 0, hj => simp at hj; subst hj; simp [Addr.add]
      | (j + 1), hj => simp at hj
    intro v' w2 hown' hgrow _ hat
    go_wp2
    go_ret
    exact ⟨_, rfl, by simpa using hown', ⟨_, hgrow⟩, by simpa using hat⟩
  · have C := hid (nonascii_at a0 n0 p0 bs r (by omega) h1 w hown hlen)
    clear hown
    go_enter Tryz.func185, Tryz.ntmps185
    go_wp2_with (go_at_call 196; refine C.out.mono ?_)
    rintro e w1 ⟨v', rfl, h1, h2⟩
    go_wp2
    go_ret
    exact ⟨_, rfl, h1, h2⟩
def BldV (b : Nat) (v : Value) (bs : List Value) (w : World) : Prop :=
  (w.heap[b]? = some (.cells #[.pointer none, v] 219 (0, 0)) ∨ w.heap[b]? = some (.cells #[ptr b, v] 219 (0, 0))) ∧ w.ownsRow 0 5 1 v bs.length bs ∧ v.ownBlock ≠ some b
theorem BldV.keeps {b : Nat} {v : Value} {bs : List Value} {w w' : World} {F : Nat → Prop} (h : BldV b v bs w) (hk : Keeps F w w') (hb : ¬ F b) (hv : ∀ k, v.ownBlock = some k → ¬ F k) : BldV b v bs w' := by
  obtain ⟨h1, h2, h3⟩ := h
  refine ⟨?_, hk.row h2 hv, h3⟩
  rcases h1 with h1 | h1
  · exact .inl (by rw [hk.block b (heap_lt h1) hb]; exact h1)
  · exact .inr (by rw [hk.block b (heap_lt h1) hb]; exact h1)
theorem BldV.lt {b : Nat} {v : Value} {bs : List Value} {w : World} (h : BldV b v bs w) : b < w.heap.size := h.1.elim heap_lt heap_lt
theorem bcheckV {b : Nat} {v : Value} {bs : List Value} {w : World} (h : BldV b v bs w) :
    Calls Tryz.prog 184 #[ptr b] w fun e w' => e = .returned (.tuple #[]) ∧ w'.heap[b]? = some (.cells #[ptr b, v] 219 (0, 0)) ∧ w'.ownsRow 0 5 1 v bs.length bs ∧ Keeps (fun k => k = b) w w' ∧ IterKept w w' ∧ w'.heap.size = w.heap.size := by
  obtain ⟨h1, h2, h3⟩ := h
  rcases h1 with h1 | h1
  · have hf : Lib.BuilderAt 219 5 0 b (.pointer none) bs w := ⟨Nat.zero_le _, v, h1, h2, h3⟩
    refine (bcheck_fresh b w hf.cell0 hf.shape hf.frozen0).mono ?_
    rintro e w' ⟨rfl, rfl⟩
    have hk := (Keeps.refl (fun k => k = b) w).setCell (p := ⟨b, 0, none⟩) (.inl rfl) (ptr b)
    exact ⟨rfl, by rw [heap_setCell_same w _ 0 _ _ _ h1]; rfl, hk.row h2 (fun k e e2 => h3 (e2 ▸ e)), hk, IterKept.setCell _ h1, by simp⟩
  · refine (bcheck_used b w (cell_of_heap h1 0)).mono ?_
    rintro e w' ⟨rfl, rfl⟩
    exact ⟨rfl, h1, h2, Keeps.refl _ _, IterKept.refl _, rfl⟩
def RuneV (b : Nat) (v : Value) (bs : List Value) (w : World) (e : Ending) (w' : World) : Prop :=
  ∃ (n : Int) (v' : Value), e = .returned (.tuple #[.int .i64 n, .nilIface]) ∧ BldV b v' bs w' ∧ Keeps (fun k => k = b ∨ v.ownBlock = some k) w w' ∧ (∀ k, v'.ownBlock = some k → v.ownBlock = some k ∨ w.heap.size ≤ k) ∧ IterKept w w'
set_option maxHeartbeats 2000000 in
set_option maxRecDepth 100000 in
theorem bruneV {b : Nat} {v : Value} {bs : List Value} (r : Int) (hr0 : 0 ≤ r) (hr1 : r ≤ 2147483647) {w : World} (h : BldV b v bs w) (hlen : bs.length < lots) :
    Calls Tryz.prog 160 #[ptr b, .int .i32 r] w (RuneV b v (bs ++ Lib.runeCells r) w) := by
  have C := hid (bcheckV h)
  have hne := h.2.2
  have hbl := h.lt
  clear h
  go_enter Tryz.func160, Tryz.ntmps160
  go_wp2_with (go_at_call 184; refine C.out.mono ?_)
  rintro e w1 ⟨rfl, hbk, hown, hk1, hi1, hs1⟩
  obtain ⟨a0, n0, p0, rfl⟩ := bld_slice hown
  have c1 : w1.cell? ⟨b, 1, none⟩ = some (.slice a0 n0 p0) := cell_of_heap hbk 1
  have A1 := hid (appendRune_at a0 n0 p0 bs r hr0 hr1 w1 hown hlen)
  have H1 := hid (And.intro hbk (And.intro hown (And.intro hk1 hi1)))
  have HS := hid hs1
  clear hbk hown hk1 hi1 hs1
  go_wp2_with (go_at_call 185; refine A1.out.mono ?_)
  rintro e w2 ⟨v', rfl, hown', ⟨o, hgrow⟩, hat⟩
  obtain ⟨hbk, hown, hk1, hi1⟩ := H1.out
  have hs1 := HS.out
  have hbk' : (w1.alloc o).heap[b]? = some (.cells #[ptr b, .slice a0 n0 p0] 219 (0, 0)) := by rw [Below.heap_alloc _ _ _ (heap_lt hbk)]; exact hbk
  have hb2 : w2.heap[b]? = some (.cells #[ptr b, .slice a0 n0 p0] 219 (0, 0)) := by
    rw [hgrow.block b (heap_lt hbk') (fun e => hne e.symm)]
    exact hbk'
  have hk2 : Keeps (fun k => k = b ∨ (Value.slice a0 n0 p0).ownBlock = some k) w w2 :=
    ((hk1.mono (fun k _ e => .inl e)).alloc o).trans (Keeps.grown hgrow (fun k e => .inl (.inl (.inr e))))
  have hi2 : IterKept w w2 := (hi1.trans (IterKept.alloc _ _)).trans (IterKept.grown (hown.alloc o) hgrow)
  have hgain : ∀ k, v'.ownBlock = some k → (Value.slice a0 n0 p0).ownBlock = some k ∨ w.heap.size ≤ k := by
    intro k e
    rcases hat with h | h
    · exact .inl (h ▸ e)
    · rw [h] at e
      cases e
      exact .inr (by omega)
  have hne' : v'.ownBlock ≠ some b := by
    rcases hat with h | h
    · rw [h]; exact hne
    · rw [h]; intro e; cases e; omega
  obtain ⟨ao, n', cap, rfl⟩ := bld_slice (bs := bs ++ Lib.runeCells r) hown'
  have d1 : w2.cell? ⟨b, 1, none⟩ = some (.slice a0 n0 p0) := cell_of_heap hb2 1
  have f1 : w2.frozen? ⟨b, 1, none⟩ = false := frozen_of_heap hb2 1
  have P := hid (And.intro hb2 (And.intro hk2 (And.intro hi2 (And.intro hgain (And.intro hne' hown')))))
  clear hown' hgrow hbk' hown hbk hb2 hk2 hi2 hgain hne' hk1 hi1 hs1 hat
  go_wp2
  go_ret2
  obtain ⟨hb2, hk2, hi2, hgain, hne', hown'⟩ := P.out
  have hk3 := (Keeps.refl (fun k => k = b) w2).setCell (p := ⟨b, 1, none⟩) (.inl rfl) (.slice ao n' cap)
  refine ⟨_, _, rfl, ⟨.inr ?_, hk3.row hown' (fun k e e2 => hne' (e2 ▸ e)), hne'⟩, hk2.setCell (p := ⟨b, 1, none⟩) (.inl (.inl rfl)) _, hgain, hi2.trans (IterKept.setCell _ hb2)⟩
  rw [heap_setCell_same w2 _ 1 _ _ _ hb2]
  rfl
end Go.Proofs.YtabogkonklplcaaGreatDoor

namespace Go.Proofs.YtabogkonklplcaaGreatDoor
open Go.RowKit
set_option linter.unusedSimpArgs false
set_option linter.unusedVariables false
theorem keeps_freeze {F : Nat → Prop} {a w : World} (h : Keeps F a w) {p : Addr} (hp : F p.block) (n : Nat) : Keeps F a (w.freeze p n) := by
  refine h.trans (Keeps.mono (F := F) ?_ (fun k _ e => .inl e))
  unfold World.freeze
  split
  · exact Keeps.refl _ _
  · exact ⟨rfl, rfl, rfl, by simp, fun k hk hF => by
      simp only [Array.getElem?_modify]
      rw [if_neg (fun e => hF (by rw [← e]; exact hp))]⟩
theorem Tryz.cellsByte : Tryz.prog.cellsOf 5 = 1 := by kernel_rfl
set_option maxHeartbeats 2000000 in
set_option maxRecDepth 100000 in
theorem bstringV {b : Nat} {v : Value} (l : List UInt8) {w : World} (h : BldV b v (Lib.byteCells l) w) :
    Calls Tryz.prog 148 #[ptr b] w fun e w' => e = .returned (.string ⟨l.toArray⟩) ∧ Keeps (fun k => v.ownBlock = some k) w w' := by
  obtain ⟨h1, hown, hne⟩ := h
  obtain ⟨p, hbk⟩ : ∃ p, w.heap[b]? = some (.cells #[p, v] 219 (0, 0)) := h1.elim (fun h => ⟨_, h⟩) (fun h => ⟨_, h⟩)
  clear h1
  have hlt := heap_lt hbk
  rw [Lib.byteCells_length] at hown
  by_cases h0 : l = []
  · subst h0
    have hUS := fun (W : World) (q : Option Addr) => Lib.run_unsafeString_none (P := Tryz.prog) W 252 3 9 q
    rcases hown.2 with ⟨rfl, _⟩ | ⟨g, cap, cur, rfl, hbg, hg, _, _, _, _⟩
    · have c1 : w.drew.cell? ⟨b, 1, none⟩ = some (.slice none 0 0) := cell_of_heap (w := w.drew) hbk 1
      have hSD : (Builtin.unsafeSliceData_ #[217] 252 #[.slice none 0 0]).run Tryz.prog w.drew = .ok (.pointer none) w.drew := rfl
      clear hown hbk
      go_enter Tryz.func148, Tryz.ntmps148
      go_wp2
      go_region
      all_goals (go_wp2; go_ret; exact ⟨rfl, (Keeps.refl _ w).drew⟩)
    · by_cases hc0 : cap = 0
      · subst hc0
        have c0 : w.cell? ⟨b, 1, none⟩ = some (.slice (some ⟨g, 0, none⟩) 0 0) := cell_of_heap hbk 1
        have c1 : w.drew.cell? ⟨b, 1, none⟩ = some (.slice (some ⟨g, 0, none⟩) 0 0) := c0
        have hSD : (Builtin.unsafeSliceData_ #[217] 252 #[.slice (some ⟨g, 0, none⟩) 0 0]).run Tryz.prog w.drew = .ok (.pointer (some ⟨w.drew.heap.size, 0, none⟩)) (w.drew.alloc (.view ⟨g, 0, none⟩ 5)) :=
          Lib.run_unsafeSliceData_zero w.drew _ _ 5 Tryz.underlying252 ⟨g, 0, none⟩ 0 (5, cur.size) (by have hg' : w.drew.heap[g]? = some (.cells cur 5 (0, 0)) := hg; simp [World.shape?, hg'])
        have c2 : (w.drew.alloc (.view ⟨g, 0, none⟩ 5)).cell? ⟨b, 1, none⟩ = some (.slice (some ⟨g, 0, none⟩) 0 0) := by
          have : (w.drew.alloc (.view ⟨g, 0, none⟩ 5)).heap[b]? = _ := (Below.heap_alloc w.drew _ b hlt).trans hbk
          exact cell_of_heap this 1
        have c3 : (w.alloc (.view ⟨g, 0, none⟩ 5)).drew.cell? ⟨b, 1, none⟩ = some (.slice (some ⟨g, 0, none⟩) 0 0) := c2
        clear hown hbk hg
        go_enter Tryz.func148, Tryz.ntmps148
        go_wp2
        go_region
        all_goals (go_wp2; go_ret; exact ⟨rfl, ((Keeps.refl _ w).drew).alloc _⟩)
      · have c1 : w.drew.cell? ⟨b, 1, none⟩ = some (.slice (some ⟨g, 0, none⟩) 0 cap) := cell_of_heap (w := w.drew) hbk 1
        have hSD : (Builtin.unsafeSliceData_ #[217] 252 #[.slice (some ⟨g, 0, none⟩) 0 cap]).run Tryz.prog w.drew = .ok (.pointer (some ⟨g, 0, none⟩)) w.drew := Lib.run_unsafeSliceData_row _ _ _ _ _ _ hc0
        clear hown hbk hg hc0
        go_enter Tryz.func148, Tryz.ntmps148
        go_wp2
        go_region
        all_goals (go_wp2; go_ret; exact ⟨rfl, (Keeps.refl _ w).drew⟩)
  · have hl0 : l.length ≠ 0 := by simpa using h0
    obtain ⟨g, cap, cur, rfl, hbg, hg, hnc, hcm, hcs, htake⟩ : ∃ g cap cur, v = .slice (some ⟨g, 0, none⟩) l.length cap ∧ 0 ≤ g ∧ w.heap[g]? = some (.cells cur 5 (0, 0)) ∧ l.length ≤ cap ∧ cap ≤ maxLen ∧ cur.size = cap * 1 ∧ cur.toList.take (l.length * 1) = Lib.byteCells l := by
      rcases hown.2 with ⟨_, hz⟩ | ⟨g, cap, cur, hv, r⟩
      · exact absurd hz hl0
      · exact ⟨g, cap, cur, hv, r⟩
    have c1 : w.drew.cell? ⟨b, 1, none⟩ = some (.slice (some ⟨g, 0, none⟩) l.length cap) := cell_of_heap (w := w.drew) hbk 1
    have hSD : (Builtin.unsafeSliceData_ #[217] 252 #[.slice (some ⟨g, 0, none⟩) l.length cap]).run Tryz.prog w.drew = .ok (.pointer (some ⟨g, 0, none⟩)) w.drew := Lib.run_unsafeSliceData_row _ _ _ _ _ _ (by omega)
    have hUS : (Builtin.unsafeString_ #[252, 3] 9 #[.pointer (some ⟨g, 0, none⟩), .int .i64 l.length]).run Tryz.prog w.drew = .ok (.string ⟨l.toArray⟩) (w.drew.freeze ⟨g, 0, none⟩ l.length) := by
      refine Lib.run_unsafeString_row w.drew 252 3 9 5 Tryz.underlying252 Tryz.cellsByte g cur.size (by have hg' : w.drew.heap[g]? = some (.cells cur 5 (0, 0)) := hg; simp [World.shape?, hg']) l h0 (by omega) (by unfold maxLen at hcm; omega) ?_
      intro j x hx
      have := hown.cells (g := g) rfl j (.int .u8 x.toNat) (by simp [Lib.byteCells, hx])
      exact this
    have HK := hid (keeps_freeze (F := fun k => (Value.slice (some ⟨g, 0, none⟩) l.length cap).ownBlock = some k) ((Keeps.refl _ w).drew) (p := ⟨g, 0, none⟩) rfl l.length)
    clear hown hbk hg hnc hcm hcs htake
    go_enter Tryz.func148, Tryz.ntmps148
    go_wp2
    go_region
    all_goals (go_wp2; go_ret; exact ⟨rfl, HK.out⟩)
end Go.Proofs.YtabogkonklplcaaGreatDoor
