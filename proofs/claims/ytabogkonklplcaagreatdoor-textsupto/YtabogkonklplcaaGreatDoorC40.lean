import Derived.Test.YtabogkonklplcaaGreatDoorC39
import Derived.Test.YtabogkonklplcaaGreatDoorC19

/- chars.Splice, where fewer characters are there than are to go. -/
namespace Go.Proofs.YtabogkonklplcaaGreatDoor
open Go.RowKit Go.Lib
set_option linter.unusedSimpArgs false
set_option linter.unusedVariables false

set_option maxRecDepth 20000 in
set_option maxHeartbeats 2000000 in
theorem splice_no_big (l : List ByteArray) (hl : ∀ c ∈ l, IsCh c) (hn : l.length ≤ 30) (o c : Nat) (cnt : Int) (ho : o ≤ l.length) (hc0 : 0 ≤ cnt) (hcc : (c : Int) = (l.length : Int) - o) (hcl : (l.length : Int) - o < cnt) (t : ByteArray) (ht : t.size < lots) (hno : ∀ l', ¬ TakesM (30 - o - (l.length - (o + c))) t l') (w : World) (hT : Tabs w) :
    Calls Tryz.prog 113 #[.string (catB l), .int .i64 (o : Int), .int .i64 cnt, .string t, .int .i64 30] w fun e w' => ∃ k : Int, e = .returned (.tuple #[.string ⟨#[]⟩, flawV k]) ∧ Below w.heap.size w w' := by
  have hoc : o + c ≤ l.length := by omega
  have hn' : l.length < lots := by unfold lots; omega
  have hnd : (l.drop o).length < lots := by simp; omega
  have hld : ∀ c ∈ l.drop o, IsCh c := fun c hc => hl c (List.mem_of_mem_drop hc)
  have hldd : ∀ d ∈ l.drop (o + c), IsCh d := fun d hd => hl d (List.mem_of_mem_drop hd)
  have C1 := hid (fun w1 => find_at l hl hn' o ho w1)
  have C2 := hid (fun w1 => find_out (l.drop o) hld hnd cnt (.inr (by simp; omega)) w1)
  have C3 := hid (fun w1 => count_any (l.drop (o + c)) hldd (by simp; omega) w1)
  have CK := hid (fun w1 (hb : Below w.heap.size w w1) => check_any (30 - o - (l.length - (o + c))) (by omega) t w1 ht (hT.below hb))
  have hcd : decide (cnt < 0) = false := decide_eq_false (by omega)
  have s1 := cat_split l o
  have s2 := cat_split (l.drop o) c
  rw [List.drop_drop] at s2
  have z1 := cat_le l o
  have z2 := cat_le (l.drop o) c
  have z3 := cat_size l hl
  have z4 := cat_size (l.drop o) hld
  have z5 := cat_size (l.drop (o + c)) hldd
  have z6 : (catB (l.take o)).size ≤ 4 * 30 := by have := cat_size (l.take o) (fun c hc => hl c (List.mem_of_mem_take hc)); simp at this; omega
  have hdl : (l.drop (o + c)).length = l.length - (o + c) := by simp
  obtain ⟨p, hp⟩ : ∃ p, (catB (l.take o)).size = p := ⟨_, rfl⟩
  obtain ⟨q, hq⟩ : ∃ q, (catB ((l.drop o).take c)).size = q := ⟨_, rfl⟩
  rw [hp] at C1 s1 z1 z6
  rw [hq] at s2 z2
  have hqB : q = (catB (l.drop o)).size := by rw [← hq, List.take_of_length_le (by simp; omega)]
  obtain ⟨A, hA⟩ : ∃ A, catB (l.take o) = A := ⟨_, rfl⟩
  obtain ⟨B, hB⟩ : ∃ B, catB (l.drop o) = B := ⟨_, rfl⟩
  obtain ⟨D, hD⟩ : ∃ D, catB (l.drop (o + c)) = D := ⟨_, rfl⟩
  obtain ⟨S, hS⟩ : ∃ S, catB l = S := ⟨_, rfl⟩
  have CAT : Hid (∀ lf, catB lf = t → A ++ t ++ D = catB (l.take o ++ lf ++ l.drop (o + c))) := fun lf hf => by rw [catB_append, catB_append, hf, hA, hD]
  rw [hA, hS] at s1
  rw [hB] at s1
  rw [hB, hD] at s2
  rw [hS] at C1 z1 z3 ⊢
  rw [hB] at C2 z2 z4
  rw [hD] at C3 z5
  have hA2 : A.size = p := by rw [← hA]; exact hp
  have s11 := s1.1
  have s12 := s1.2
  have s22 := s2.2
  rw [hB] at hqB
  rw [hqB] at s22
  have hDe : ByteArray.empty = D := by rw [← s22]; simp
  subst hDe
  have pI : (p : Int) ≤ S.size := by omega
  have qI : (q : Int) ≤ B.size := by omega
  have oI : (o : Int) ≤ 30 := by omega
  have dI : ((l.length - (o + c) : Nat) : Int) ≤ 30 := by omega
  have hm : (30 : Int) - (o : Int) - ((l.length - (o + c) : Nat) : Int) = ((30 - o - (l.length - (o + c)) : Nat) : Int) := by omega
  have htz : t.size ≤ 2000000 := by unfold lots at ht; omega
  clear hl hld hldd hT ht hp hq hA hB hD hS s1 s2 hn' hnd s22
  go_enter Tryz.func113, Tryz.ntmps113
  go_wp2_with (go_at_call 102; refine (C1.out _).mono ?_; clear C1; rintro e w1 ⟨rfl, hb0⟩)
  go_region
  have hb1 := hb0.drew
  clear hb0
  go_wp2_with (first
    | (go_at_call 102; refine (C2.out _).mono ?_; clear C2; rintro e w2 ⟨rfl, hb2⟩
       have HB2 := hid (hb1.trans (hb2.mono hb1.size)))
    | (go_at_call 22; refine (is_out _ 0 _).mono ?_; rintro e w3 ⟨rfl, hb3⟩
       have HB3 := hid (HB2.out.trans (hb3.mono HB2.out.size)))
    | (go_at_call 105; refine (C3.out _).mono ?_; rintro e w4 ⟨rfl, hb4⟩
       have HB4 := hid (HB3.out.trans (hb4.mono HB3.out.size)))
    | (go_at_call 144
       refine (CK.out _ HB4.out).mono ?_
       rintro e w5 ⟨hb5, ⟨l', hl', _⟩ | ⟨_, kk, rfl⟩⟩; (first | exact absurd hl' (hno l') | skip)
       have HB5 := hid (HB4.out.trans (hb5.mono HB4.out.size))))
  go_ret2
  exact ⟨kk, rfl, HB5.out⟩

set_option maxRecDepth 20000 in
set_option maxHeartbeats 2000000 in
theorem splice_yes_big (l : List ByteArray) (hl : ∀ c ∈ l, IsCh c) (hn : l.length ≤ 30) (o c : Nat) (cnt : Int) (ho : o ≤ l.length) (hc0 : 0 ≤ cnt) (hcc : (c : Int) = (l.length : Int) - o) (hcl : (l.length : Int) - o < cnt) (t : ByteArray) (ht : t.size < lots) (lf : List ByteArray) (hyes : TakesM (30 - o - (l.length - (o + c))) t lf) (w : World) (hT : Tabs w) :
    Calls Tryz.prog 113 #[.string (catB l), .int .i64 (o : Int), .int .i64 cnt, .string t, .int .i64 30] w fun e w' => e = .returned (.tuple #[.string (catB (l.take o ++ lf ++ l.drop (o + c))), .nilIface]) ∧ Below w.heap.size w w' := by
  have hoc : o + c ≤ l.length := by omega
  have hn' : l.length < lots := by unfold lots; omega
  have hnd : (l.drop o).length < lots := by simp; omega
  have hld : ∀ c ∈ l.drop o, IsCh c := fun c hc => hl c (List.mem_of_mem_drop hc)
  have hldd : ∀ d ∈ l.drop (o + c), IsCh d := fun d hd => hl d (List.mem_of_mem_drop hd)
  have C1 := hid (fun w1 => find_at l hl hn' o ho w1)
  have C2 := hid (fun w1 => find_out (l.drop o) hld hnd cnt (.inr (by simp; omega)) w1)
  have C3 := hid (fun w1 => count_any (l.drop (o + c)) hldd (by simp; omega) w1)
  have CK := hid (fun w1 (hb : Below w.heap.size w w1) => check_any (30 - o - (l.length - (o + c))) (by omega) t w1 ht (hT.below hb))
  have hcd : decide (cnt < 0) = false := decide_eq_false (by omega)
  have s1 := cat_split l o
  have s2 := cat_split (l.drop o) c
  rw [List.drop_drop] at s2
  have z1 := cat_le l o
  have z2 := cat_le (l.drop o) c
  have z3 := cat_size l hl
  have z4 := cat_size (l.drop o) hld
  have z5 := cat_size (l.drop (o + c)) hldd
  have z6 : (catB (l.take o)).size ≤ 4 * 30 := by have := cat_size (l.take o) (fun c hc => hl c (List.mem_of_mem_take hc)); simp at this; omega
  have hdl : (l.drop (o + c)).length = l.length - (o + c) := by simp
  obtain ⟨p, hp⟩ : ∃ p, (catB (l.take o)).size = p := ⟨_, rfl⟩
  obtain ⟨q, hq⟩ : ∃ q, (catB ((l.drop o).take c)).size = q := ⟨_, rfl⟩
  rw [hp] at C1 s1 z1 z6
  rw [hq] at s2 z2
  have hqB : q = (catB (l.drop o)).size := by rw [← hq, List.take_of_length_le (by simp; omega)]
  obtain ⟨A, hA⟩ : ∃ A, catB (l.take o) = A := ⟨_, rfl⟩
  obtain ⟨B, hB⟩ : ∃ B, catB (l.drop o) = B := ⟨_, rfl⟩
  obtain ⟨D, hD⟩ : ∃ D, catB (l.drop (o + c)) = D := ⟨_, rfl⟩
  obtain ⟨S, hS⟩ : ∃ S, catB l = S := ⟨_, rfl⟩
  have CAT : Hid (∀ lf, catB lf = t → A ++ t ++ D = catB (l.take o ++ lf ++ l.drop (o + c))) := fun lf hf => by rw [catB_append, catB_append, hf, hA, hD]
  rw [hA, hS] at s1
  rw [hB] at s1
  rw [hB, hD] at s2
  rw [hS] at C1 z1 z3 ⊢
  rw [hB] at C2 z2 z4
  rw [hD] at C3 z5
  have hA2 : A.size = p := by rw [← hA]; exact hp
  have s11 := s1.1
  have s12 := s1.2
  have s22 := s2.2
  rw [hB] at hqB
  rw [hqB] at s22
  have hDe : ByteArray.empty = D := by rw [← s22]; simp
  subst hDe
  have pI : (p : Int) ≤ S.size := by omega
  have qI : (q : Int) ≤ B.size := by omega
  have oI : (o : Int) ≤ 30 := by omega
  have dI : ((l.length - (o + c) : Nat) : Int) ≤ 30 := by omega
  have hm : (30 : Int) - (o : Int) - ((l.length - (o + c) : Nat) : Int) = ((30 - o - (l.length - (o + c)) : Nat) : Int) := by omega
  have htz : t.size ≤ 2000000 := by unfold lots at ht; omega
  clear hl hld hldd hT ht hp hq hA hB hD hS s1 s2 hn' hnd s22
  go_enter Tryz.func113, Tryz.ntmps113
  go_wp2_with (go_at_call 102; refine (C1.out _).mono ?_; clear C1; rintro e w1 ⟨rfl, hb0⟩)
  go_region
  have hb1 := hb0.drew
  clear hb0
  go_wp2_with (first
    | (go_at_call 102; refine (C2.out _).mono ?_; clear C2; rintro e w2 ⟨rfl, hb2⟩
       have HB2 := hid (hb1.trans (hb2.mono hb1.size)))
    | (go_at_call 22; refine (is_out _ 0 _).mono ?_; rintro e w3 ⟨rfl, hb3⟩
       have HB3 := hid (HB2.out.trans (hb3.mono HB2.out.size)))
    | (go_at_call 105; refine (C3.out _).mono ?_; rintro e w4 ⟨rfl, hb4⟩
       have HB4 := hid (HB3.out.trans (hb4.mono HB3.out.size)))
    | (go_at_call 144
       refine (CK.out _ HB4.out).mono ?_
       rintro e w5 ⟨hb5, ⟨l', hl', rfl⟩ | ⟨hn5, _⟩⟩ <;> (first | exact absurd hyes (hn5 lf) | skip)
       have HB5 := hid (HB4.out.trans (hb5.mono HB4.out.size)))
    | (go_at_call 161
       refine (join3 A t ByteArray.empty _ w5.heap.size (heap_alloc_new w5 _) (by omega)).mono ?_
       rintro e w6 ⟨rfl, hb6⟩))
  go_ret2
  have hf : catB lf = t := charsOf_cat t.size t lf (Nat.le_refl _) hyes.1
  exact ⟨by rw [← CAT.out lf hf, ByteArray.append_empty]; rfl, (HB5.out.alloc HB5.out.size _).trans (hb6.mono (by have := HB5.out.size; simp; omega))⟩

end Go.Proofs.YtabogkonklplcaaGreatDoor

/- errors.As at a Refusal of an Outside; fault there. -/
namespace Go.Proofs.YtabogkonklplcaaGreatDoor
open Go.RowKit Go.Extern.Stop Go.Stop Go.Extern
set_option linter.unusedSimpArgs false
set_option linter.unusedVariables false

theorem fa_typeOfO (v : Value) (w : World) : (ReflectliteType.typeOf #[.iface 227 v]).run Tryz.prog w = .ok (.iface 149 (.agg #[.pointer (some ⟨7, 227, none⟩)])) w := by kernel_rfl
theorem fa_asgOP (w : World) : (ReflectliteType.relation "AssignableTo" ReflectliteType.assignableTo #[.agg #[.pointer (some ⟨7, 227, none⟩)], .iface 149 (.agg #[.pointer (some ⟨7, 30, none⟩)])]).run Tryz.prog w = .ok (.bool false) w := by kernel_rfl
theorem fa_asgOM (w : World) : (ReflectliteType.relation "AssignableTo" ReflectliteType.assignableTo #[.agg #[.pointer (some ⟨7, 227, none⟩)], .iface 149 (.agg #[.pointer (some ⟨7, 141, none⟩)])]).run Tryz.prog w = .ok (.bool false) w := by kernel_rfl
theorem fa_noAsO (v : Value) (w : World) : (Instr.typeAssert (.iface 227 v) 29 244 true).run Tryz.prog w = .ok (.tuple #[.nilIface, .bool false]) w := run_typeAssert_lacksB Tryz.underlying244 (by kernel_rfl) (by kernel_rfl) v _ w
theorem fa_unwO (v : Value) (w : World) : (Instr.typeAssert (.iface 227 v) 29 154 true).run Tryz.prog w = .ok (.tuple #[.iface 227 v, .bool true]) w := by kernel_rfl

set_option maxRecDepth 20000 in
set_option maxHeartbeats 8000000 in
theorem as_O (n y at_ : Int) (tb : Nat) (o0 : Value) (w : World) (hg : Glob w) (hq : w.heap[tb]? = some (.cells #[o0] 30 (0, 0))) :
    Calls Tryz.prog 91 #[.iface 145 (.agg #[.int .i64 n, .iface 227 (.agg #[.int .i64 at_])]), .iface 147 (.pointer (some ⟨tb, 0, none⟩))] w fun e w' => e = .returned (.bool true) ∧
      w' = (((((((w.alloc (.cells #[.pointer (some ⟨tb, 0, none⟩)] 147)).alloc (.cells #[.pointer (some ⟨7, 147, none⟩), .pointer (some ⟨w.heap.size, 0, none⟩), .int .u64 150] 206)).alloc (.cells #[.pointer (some ⟨7, 147, none⟩), .pointer (some ⟨w.heap.size, 0, none⟩), .int .u64 150] 206)).alloc (.cells #[.int .i64 n, .iface 227 (.agg #[.int .i64 at_])] 145)).alloc (.cells #[.int .i64 at_] 227)).alloc (.cells #[.int .i64 3] 30)).setCell ⟨tb, 0, none⟩ (.int .i64 3)) := by
  have htl : tb < w.heap.size := heap_lt hq
  have hgl := hg.lt
  have h6 := fx_h6
  have h7 := fx_h7
  have h8 := fx_h8
  have h27 := fx_h27
  have h37 := fx_h37
  have h38 := fx_h38
  have h10 := fx_h10
  have h35 := fx_h35
  have h11 := fx_h11
  have h12 := fx_h12
  have f6 := fa_valueOfP
  have f7 := fa_typeP
  have k1 := fa_kindPP
  have k2 := fa_kindP
  have e1 := fa_elemP
  have i1 := fa_implP
  have tO := fa_typeOfP
  have tO2 := fa_typeOfR
  have tO3 := fa_typeOfO
  have a1 := fa_asgPP
  have a2 := fa_asgRP
  have a3 := fa_asgOP
  have v1 := fa_valP
  have n8 := fa_isNilP ⟨w.heap.size, 0, none⟩ ⟨tb, 0, none⟩ ((w.alloc (.cells #[.pointer (some ⟨tb, 0, none⟩)] 147)).alloc (.cells #[.pointer (some ⟨7, 147, none⟩), .pointer (some ⟨w.heap.size, 0, none⟩), .int .u64 150] 206)) (by simp)
  have hg2 : ((w.alloc (.cells #[.pointer (some ⟨tb, 0, none⟩)] 147)).alloc (.cells #[.pointer (some ⟨7, 147, none⟩), .pointer (some ⟨w.heap.size, 0, none⟩), .int .u64 150] 206)).cell? ⟨0, 0, none⟩ = some (.iface 149 (.agg #[.pointer (some ⟨7, 29, none⟩)])) := by
    rw [World.cell?_alloc_lt _ _ ⟨0, 0, none⟩ (by simp only [World.size_alloc]; omega), World.cell?_alloc_lt _ _ ⟨0, 0, none⟩ hgl]; exact hg
  have hq1 : (((((w.alloc (.cells #[.pointer (some ⟨tb, 0, none⟩)] 147)).alloc (.cells #[.pointer (some ⟨7, 147, none⟩), .pointer (some ⟨w.heap.size, 0, none⟩), .int .u64 150] 206)).alloc (.cells #[.pointer (some ⟨7, 147, none⟩), .pointer (some ⟨w.heap.size, 0, none⟩), .int .u64 150] 206)).alloc (.cells #[.int .i64 n, .iface 227 (.agg #[.int .i64 at_])] 145)).alloc (.cells #[.int .i64 at_] 227)).heap[w.heap.size]? = some (.cells #[.pointer (some ⟨tb, 0, none⟩)] 147 (0, 0)) := by
    rw [Below.heap_alloc _ _ _ (by simp only [World.size_alloc]; omega), Below.heap_alloc _ _ _ (by simp only [World.size_alloc]; omega), Below.heap_alloc _ _ _ (by simp only [World.size_alloc]; omega), Below.heap_alloc _ _ _ (by simp only [World.size_alloc]; omega), heap_alloc_new]
  have el := fa_elemVP ⟨w.heap.size, 0, none⟩ ⟨tb, 0, none⟩ (((((w.alloc (.cells #[.pointer (some ⟨tb, 0, none⟩)] 147)).alloc (.cells #[.pointer (some ⟨7, 147, none⟩), .pointer (some ⟨w.heap.size, 0, none⟩), .int .u64 150] 206)).alloc (.cells #[.pointer (some ⟨7, 147, none⟩), .pointer (some ⟨w.heap.size, 0, none⟩), .int .u64 150] 206)).alloc (.cells #[.int .i64 n, .iface 227 (.agg #[.int .i64 at_])] 145)).alloc (.cells #[.int .i64 at_] 227)) (cell_of_heap hq1 0)
  have hq4 : ((((((w.alloc (.cells #[.pointer (some ⟨tb, 0, none⟩)] 147)).alloc (.cells #[.pointer (some ⟨7, 147, none⟩), .pointer (some ⟨w.heap.size, 0, none⟩), .int .u64 150] 206)).alloc (.cells #[.pointer (some ⟨7, 147, none⟩), .pointer (some ⟨w.heap.size, 0, none⟩), .int .u64 150] 206)).alloc (.cells #[.int .i64 n, .iface 227 (.agg #[.int .i64 at_])] 145)).alloc (.cells #[.int .i64 at_] 227)).alloc (.cells #[.int .i64 3] 30)).heap[tb]? = some (.cells #[o0] 30 (0, 0)) := by
    rw [Below.heap_alloc _ _ _ (by simp only [World.size_alloc]; omega), Below.heap_alloc _ _ _ (by simp only [World.size_alloc]; omega), Below.heap_alloc _ _ _ (by simp only [World.size_alloc]; omega), Below.heap_alloc _ _ _ (by simp only [World.size_alloc]; omega), Below.heap_alloc _ _ _ (by simp only [World.size_alloc]; omega), Below.heap_alloc _ _ _ htl]; exact hq
  have hnew := heap_alloc_new (((((w.alloc (.cells #[.pointer (some ⟨tb, 0, none⟩)] 147)).alloc (.cells #[.pointer (some ⟨7, 147, none⟩), .pointer (some ⟨w.heap.size, 0, none⟩), .int .u64 150] 206)).alloc (.cells #[.pointer (some ⟨7, 147, none⟩), .pointer (some ⟨w.heap.size, 0, none⟩), .int .u64 150] 206)).alloc (.cells #[.int .i64 n, .iface 227 (.agg #[.int .i64 at_])] 145)).alloc (.cells #[.int .i64 at_] 227)) (.cells #[.int .i64 3] 30)
  have st := fa_setP ⟨tb, 0, none⟩ ⟨w.heap.size + 1 + 1 + 1 + 1 + 1, 0, none⟩ 3 o0 ((((((w.alloc (.cells #[.pointer (some ⟨tb, 0, none⟩)] 147)).alloc (.cells #[.pointer (some ⟨7, 147, none⟩), .pointer (some ⟨w.heap.size, 0, none⟩), .int .u64 150] 206)).alloc (.cells #[.pointer (some ⟨7, 147, none⟩), .pointer (some ⟨w.heap.size, 0, none⟩), .int .u64 150] 206)).alloc (.cells #[.int .i64 n, .iface 227 (.agg #[.int .i64 at_])] 145)).alloc (.cells #[.int .i64 at_] 227)).alloc (.cells #[.int .i64 3] 30))
    (by have := cell_of_heap hnew 0; simpa using this) (cell_of_heap hq4 0) (frozen_of_heap hq4 0)
  clear hq hq1 hq4 hnew hg
  have na := fa_noAsR
  have nu := fa_unwR
  have na2 := fa_noAsO
  have nu2 := fa_unwO
  go_enter Tryz.func91, Tryz.ntmps91
  go_wp2
  refine wp_loop_rounds 3 ?_
  rw [rounds_succ]
  go_wp2
  rw [rounds_succ]
  go_wp2
  rw [rounds_succ]
  go_wp2
  go_ret
  exact ⟨rfl, rfl⟩

set_option maxRecDepth 20000 in
set_option maxHeartbeats 8000000 in
theorem as_MO (n at_ : Int) (tb : Nat) (o0 : Value) (w : World) (hg : Glob w) (hq : w.heap[tb]? = some (.cells #[o0] 141 (0, 0))) :
    Calls Tryz.prog 91 #[.iface 145 (.agg #[.int .i64 n, .iface 227 (.agg #[.int .i64 at_])]), .iface 143 (.pointer (some ⟨tb, 0, none⟩))] w fun e w' => e = .returned (.bool false) ∧ Below w.heap.size w w' := by
  have htl : tb < w.heap.size := heap_lt hq
  have hgl := hg.lt
  have h6 := fx_h6
  have h7 := fx_h7
  have h8 := fx_h8
  have h27 := fx_h27
  have h37 := fx_h37
  have h38 := fx_h38
  have h10 := fx_h10
  have h35 := fx_h35
  have f6 := fa_valueOfM
  have f7 := fa_typeM
  have k1 := fa_kindPM
  have k2 := fa_kindM
  have e1 := fa_elemM
  have i1 := fa_implM
  have tO := fa_typeOfP
  have tO2 := fa_typeOfR
  have tO3 := fa_typeOfO
  have a1 := fa_asgPM
  have a2 := fa_asgRM
  have a3 := fa_asgOM
  have n8 := fa_isNilM ⟨w.heap.size, 0, none⟩ ⟨tb, 0, none⟩ ((w.alloc (.cells #[.pointer (some ⟨tb, 0, none⟩)] 143)).alloc (.cells #[.pointer (some ⟨7, 143, none⟩), .pointer (some ⟨w.heap.size, 0, none⟩), .int .u64 150] 206)) (by simp)
  have hg2 : ((w.alloc (.cells #[.pointer (some ⟨tb, 0, none⟩)] 143)).alloc (.cells #[.pointer (some ⟨7, 143, none⟩), .pointer (some ⟨w.heap.size, 0, none⟩), .int .u64 150] 206)).cell? ⟨0, 0, none⟩ = some (.iface 149 (.agg #[.pointer (some ⟨7, 29, none⟩)])) := by
    rw [World.cell?_alloc_lt _ _ ⟨0, 0, none⟩ (by simp only [World.size_alloc]; omega), World.cell?_alloc_lt _ _ ⟨0, 0, none⟩ hgl]; exact hg
  clear hq hg
  have na := fa_noAsR
  have nu := fa_unwR
  have na2 := fa_noAsO
  have nu2 := fa_unwO
  have na3 := fa_noAsP
  have nu3 := fa_noUnwP
  have nu4 := fa_noUnwsP
  go_enter Tryz.func91, Tryz.ntmps91
  go_wp2
  refine wp_loop_rounds 3 ?_
  rw [rounds_succ]
  go_wp2
  rw [rounds_succ]
  go_wp2
  rw [rounds_succ]
  go_wp2
  go_ret
  exact ⟨rfl, by go_grown⟩

theorem as_O' (n at_ : Int) (tb : Nat) (o0 : Value) (w : World) (hg : Glob w) (hq : w.heap[tb]? = some (.cells #[o0] 30 (0, 0))) :
    Calls Tryz.prog 91 #[.iface 145 (.agg #[.int .i64 n, .iface 227 (.agg #[.int .i64 at_])]), .iface 147 (.pointer (some ⟨tb, 0, none⟩))] w fun e w' => e = .returned (.bool true) ∧
      Keeps (fun b => b = tb) w w' ∧ w'.heap[tb]? = some (.cells #[.int .i64 3] 30 (0, 0)) := by
  refine (as_O n 0 at_ tb o0 w hg hq).mono ?_
  rintro e w' ⟨rfl, rfl⟩
  have htl := heap_lt hq
  refine ⟨rfl, ?_, setCell_heap1 (o := o0) ?_⟩
  · exact (((((((Keeps.refl (fun b => b = tb) w).alloc _).alloc _).alloc _).alloc _).alloc _).alloc _).setCell (p := ⟨tb, 0, none⟩) (.inl rfl) _
  · rw [Below.heap_alloc _ _ _ (by simp only [World.size_alloc]; omega), Below.heap_alloc _ _ _ (by simp only [World.size_alloc]; omega), Below.heap_alloc _ _ _ (by simp only [World.size_alloc]; omega), Below.heap_alloc _ _ _ (by simp only [World.size_alloc]; omega), Below.heap_alloc _ _ _ (by simp only [World.size_alloc]; omega), Below.heap_alloc _ _ _ htl]; exact hq

theorem fault_O (n at_ : Int) (w : World) (hg : Glob w) :
    Calls Tryz.prog 46 #[.iface 145 (.agg #[.int .i64 n, .iface 227 (.agg #[.int .i64 at_])])] w fun e w' => e = .returned (.iface 32 (.agg #[.int .i64 n, .int .i64 3])) ∧ Below w.heap.size w w' :=
  fault_of n 3 _ rfl w hg (fun tb o0 w1 h1 h2 => as_MO n at_ tb o0 w1 h1 h2) (fun tb o0 w1 h1 h2 => as_O' n at_ tb o0 w1 h1 h2)

end Go.Proofs.YtabogkonklplcaaGreatDoor
