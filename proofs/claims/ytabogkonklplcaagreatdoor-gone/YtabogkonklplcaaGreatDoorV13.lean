import Derived.Test.YtabogkonklplcaaGreatDoorV11
import Derived.Test.YtabogkonklplcaaGreatDoorV12

namespace Go.Proofs.YtabogkonklplcaaGreatDoor
open Go.RowKit Go.Lib
set_option linter.unusedSimpArgs false
set_option linter.unusedVariables false
theorem find_at (l : List ByteArray) (hl : ∀ c ∈ l, IsCh c) (hn : l.length < lots) (o : Nat) (ho : o ≤ l.length) (w : World) :
    Calls Tryz.prog 102 #[.string (catB l), .int .i64 (o : Int)] w fun e w' => e = .returned (.tuple #[.int .i64 (catB (l.take o)).size, .nilIface]) ∧ Below w.heap.size w w' := by
  refine (find_any l hl hn o w).mono ?_
  rintro e w' ⟨hb, ⟨o', h1, h2, rfl⟩ | ⟨h1, rfl⟩⟩
  · obtain rfl : o = o' := by omega
    exact ⟨rfl, hb⟩
  · omega
theorem find_out (l : List ByteArray) (hl : ∀ c ∈ l, IsCh c) (hn : l.length < lots) (off : Int) (ho : off < 0 ∨ (l.length : Int) < off) (w : World) :
    Calls Tryz.prog 102 #[.string (catB l), .int .i64 off] w fun e w' => e = .returned (.tuple #[.int .i64 0, outV off]) ∧ Below w.heap.size w w' := by
  refine (find_any l hl hn off w).mono ?_
  rintro e w' ⟨hb, ⟨o', h1, h2, rfl⟩ | ⟨h1, rfl⟩⟩
  · omega
  · exact ⟨rfl, hb⟩
set_option maxHeartbeats 1000000 in
theorem splice_off (l : List ByteArray) (hl : ∀ c ∈ l, IsCh c) (hn : l.length < lots) (off cnt : Int) (ho : off < 0 ∨ (l.length : Int) < off) (t : ByteArray) (w : World) :
    Calls Tryz.prog 113 #[.string (catB l), .int .i64 off, .int .i64 cnt, .string t, .int .i64 30] w fun e w' => e = .returned (.tuple #[.string ⟨#[]⟩, outV off]) ∧ Below w.heap.size w w' := by
  have C := hid (fun w1 => find_out l hl hn off ho w1)
  clear hl hn ho
  go_enter Tryz.func113, Tryz.ntmps113
  go_wp2_with (go_at_call 102; refine (C.out _).mono ?_; rintro e w1 ⟨rfl, hb⟩)
  go_ret2
  exact ⟨rfl, hb⟩
set_option maxHeartbeats 1000000 in
theorem splice_cnt (l : List ByteArray) (hl : ∀ c ∈ l, IsCh c) (hn : l.length < lots) (o : Nat) (ho : o ≤ l.length) (cnt : Int) (hc : cnt < 0) (t : ByteArray) (w : World) :
    Calls Tryz.prog 113 #[.string (catB l), .int .i64 (o : Int), .int .i64 cnt, .string t, .int .i64 30] w fun e w' => e = .returned (.tuple #[.string ⟨#[]⟩, outV cnt]) ∧ Below w.heap.size w w' := by
  have C := hid (fun w1 => find_at l hl hn o ho w1)
  have hcd : decide (cnt < 0) = true := decide_eq_true hc
  clear hl hn ho
  go_enter Tryz.func113, Tryz.ntmps113
  go_wp2_with (go_at_call 102; refine (C.out _).mono ?_; rintro e w1 ⟨rfl, hb⟩)
  go_ret2
  exact ⟨rfl, hb⟩
theorem join3 (a b c : ByteArray) (w : World) (bk : Nat) (hq : w.heap[bk]? = some (.cells #[.string a, .string b, .string c] 9 (0, 0))) (h : a.size + b.size + c.size ≤ 140737488355328) :
    Calls Tryz.prog 161 #[.slice (some ⟨bk, 0, none⟩) 3 3, .string ⟨#[]⟩] w fun e w' => e = .returned (.string (a ++ b ++ c)) ∧ Below w.heap.size w w' := by
  have e1 : (Lib.join ([a, b, c].map (·.data.toList)) (⟨#[]⟩ : ByteArray).data.toList) = (a ++ b ++ c).data.toList := by
    simp [Lib.join]
  have h1 := Tryz.strings_Join bk 0 3 [a, b, c] ⟨#[]⟩ w (fun j x hx => by
    have := cell_of_heap hq j
    rw [Nat.zero_add, this]
    match j, hx with
    | 0, hx => simp at hx; subst hx; rfl
    | 1, hx => simp at hx; subst hx; rfl
    | 2, hx => simp at hx; subst hx; rfl
    | k + 3, hx => simp at hx) (heap_lt hq) (by simp) (by simp) (by
      rw [e1]
      have e2 : (a ++ b ++ c).data.toList.length = (a ++ b ++ c).size := by rw [Array.length_toList]; rfl
      rw [e2, ByteArray.size_append, ByteArray.size_append]
      omega)
  rw [e1] at h1
  exact h1
set_option maxRecDepth 20000 in
set_option maxHeartbeats 2000000 in
theorem splice_no_small (l : List ByteArray) (hl : ∀ c ∈ l, IsCh c) (hn : l.length ≤ 30) (o c : Nat) (cnt : Int) (ho : o ≤ l.length) (hc0 : 0 ≤ cnt) (hcc : (c : Int) = cnt) (hcl : o + c ≤ l.length) (t : ByteArray) (ht : t.size < lots) (hno : ∀ l', ¬ TakesM (30 - o - (l.length - (o + c))) t l') (w : World) (hT : Tabs w) :
    Calls Tryz.prog 113 #[.string (catB l), .int .i64 (o : Int), .int .i64 cnt, .string t, .int .i64 30] w fun e w' => ∃ k : Int, e = .returned (.tuple #[.string ⟨#[]⟩, flawV k]) ∧ Below w.heap.size w w' := by
  have hoc : o + c ≤ l.length := by omega
  have hn' : l.length < lots := by unfold lots; omega
  have hnd : (l.drop o).length < lots := by simp; omega
  have hld : ∀ c ∈ l.drop o, IsCh c := fun c hc => hl c (List.mem_of_mem_drop hc)
  have hldd : ∀ d ∈ l.drop (o + c), IsCh d := fun d hd => hl d (List.mem_of_mem_drop hd)
  have C1 := hid (fun w1 => find_at l hl hn' o ho w1)
  have C2 := hid (fun w1 => find_at (l.drop o) hld hnd c (by simp; omega) w1)
  have C3 := hid (fun w1 => count_any (l.drop (o + c)) hldd (by simp; omega) w1)
  have CK := hid (fun w1 (hb : Below w.heap.size w w1) => check_any (30 - o - (l.length - (o + c))) (by omega) t w1 ht (hT.below hb))
  have hcd : decide (cnt < 0) = false := decide_eq_false (by omega)
  have s1 := cat_split l o
  have s2 := cat_split (l.drop o) c
  rw [List.drop_drop] at s2
  have z1 := cat_le l o
  have z2 := cat_le (l.drop o) c
  have z3 := cat_size l hl
  have z4 := cat_size (l.drop o) hld
  have z5 := cat_size (l.drop (o + c)) hldd
  have z6 : (catB (l.take o)).size ≤ 4 * 30 := by have := cat_size (l.take o) (fun c hc => hl c (List.mem_of_mem_take hc)); simp at this; omega
  have hdl : (l.drop (o + c)).length = l.length - (o + c) := by simp
  obtain ⟨p, hp⟩ : ∃ p, (catB (l.take o)).size = p := ⟨_, rfl⟩
  obtain ⟨q, hq⟩ : ∃ q, (catB ((l.drop o).take c)).size = q := ⟨_, rfl⟩
  rw [hp] at C1 s1 z1 z6
  rw [hq] at s2 z2
  rw [hq, hcc] at C2
  obtain ⟨A, hA⟩ : ∃ A, catB (l.take o) = A := ⟨_, rfl⟩
  obtain ⟨B, hB⟩ : ∃ B, catB (l.drop o) = B := ⟨_, rfl⟩
  obtain ⟨D, hD⟩ : ∃ D, catB (l.drop (o + c)) = D := ⟨_, rfl⟩
  obtain ⟨S, hS⟩ : ∃ S, catB l = S := ⟨_, rfl⟩
  have CAT : Hid (∀ lf, catB lf = t → A ++ t ++ D = catB (l.take o ++ lf ++ l.drop (o + c))) := fun lf hf => by rw [catB_append, catB_append, hf, hA, hD]
  rw [hA, hS] at s1
  rw [hB] at s1
  rw [hB, hD] at s2
  rw [hS] at C1 z1 z3 ⊢
  rw [hB] at C2 z2 z4
  rw [hD] at C3 z5
  have hA2 : A.size = p := by rw [← hA]; exact hp
  have s11 := s1.1
  have s12 := s1.2
  have s22 := s2.2
  have pI : (p : Int) ≤ S.size := by omega
  have qI : (q : Int) ≤ B.size := by omega
  have oI : (o : Int) ≤ 30 := by omega
  have dI : ((l.length - (o + c) : Nat) : Int) ≤ 30 := by omega
  have hm : (30 : Int) - (o : Int) - ((l.length - (o + c) : Nat) : Int) = ((30 - o - (l.length - (o + c)) : Nat) : Int) := by omega
  have htz : t.size ≤ 2000000 := by unfold lots at ht; omega
  clear hl hld hldd hT ht hp hq hA hB hD hS s1 s2 hn' hnd
  go_enter Tryz.func113, Tryz.ntmps113
  go_wp2_with (go_at_call 102; refine (C1.out _).mono ?_; clear C1; rintro e w1 ⟨rfl, hb0⟩)
  go_region
  have hb1 := hb0.drew
  clear hb0
  go_wp2_with (first
    | (go_at_call 102; refine (C2.out _).mono ?_; clear C2; rintro e w2 ⟨rfl, hb2⟩
       have HB2 := hid (hb1.trans (hb2.mono hb1.size)))
    | (go_at_call 22; refine (is_nil _ _).mono ?_; rintro e w3 ⟨rfl, hw3⟩
       replace hw3 := hw3.symm
       subst hw3
       have HB3 := hid HB2.out)
    | (go_at_call 105; refine (C3.out _).mono ?_; rintro e w4 ⟨rfl, hb4⟩
       have HB4 := hid (HB3.out.trans (hb4.mono HB3.out.size)))
    | (go_at_call 144
       refine (CK.out _ HB4.out).mono ?_
       rintro e w5 ⟨hb5, ⟨l', hl', _⟩ | ⟨_, kk, rfl⟩⟩; (first | exact absurd hl' (hno l') | skip)
       have HB5 := hid (HB4.out.trans (hb5.mono HB4.out.size))))
  go_ret2
  exact ⟨kk, rfl, HB5.out⟩
set_option maxRecDepth 20000 in
set_option maxHeartbeats 2000000 in
theorem splice_yes_small (l : List ByteArray) (hl : ∀ c ∈ l, IsCh c) (hn : l.length ≤ 30) (o c : Nat) (cnt : Int) (ho : o ≤ l.length) (hc0 : 0 ≤ cnt) (hcc : (c : Int) = cnt) (hcl : o + c ≤ l.length) (t : ByteArray) (ht : t.size < lots) (lf : List ByteArray) (hyes : TakesM (30 - o - (l.length - (o + c))) t lf) (w : World) (hT : Tabs w) :
    Calls Tryz.prog 113 #[.string (catB l), .int .i64 (o : Int), .int .i64 cnt, .string t, .int .i64 30] w fun e w' => e = .returned (.tuple #[.string (catB (l.take o ++ lf ++ l.drop (o + c))), .nilIface]) ∧ Below w.heap.size w w' := by
  have hoc : o + c ≤ l.length := by omega
  have hn' : l.length < lots := by unfold lots; omega
  have hnd : (l.drop o).length < lots := by simp; omega
  have hld : ∀ c ∈ l.drop o, IsCh c := fun c hc => hl c (List.mem_of_mem_drop hc)
  have hldd : ∀ d ∈ l.drop (o + c), IsCh d := fun d hd => hl d (List.mem_of_mem_drop hd)
  have C1 := hid (fun w1 => find_at l hl hn' o ho w1)
  have C2 := hid (fun w1 => find_at (l.drop o) hld hnd c (by simp; omega) w1)
  have C3 := hid (fun w1 => count_any (l.drop (o + c)) hldd (by simp; omega) w1)
  have CK := hid (fun w1 (hb : Below w.heap.size w w1) => check_any (30 - o - (l.length - (o + c))) (by omega) t w1 ht (hT.below hb))
  have hcd : decide (cnt < 0) = false := decide_eq_false (by omega)
  have s1 := cat_split l o
  have s2 := cat_split (l.drop o) c
  rw [List.drop_drop] at s2
  have z1 := cat_le l o
  have z2 := cat_le (l.drop o) c
  have z3 := cat_size l hl
  have z4 := cat_size (l.drop o) hld
  have z5 := cat_size (l.drop (o + c)) hldd
  have z6 : (catB (l.take o)).size ≤ 4 * 30 := by have := cat_size (l.take o) (fun c hc => hl c (List.mem_of_mem_take hc)); simp at this; omega
  have hdl : (l.drop (o + c)).length = l.length - (o + c) := by simp
  obtain ⟨p, hp⟩ : ∃ p, (catB (l.take o)).size = p := ⟨_, rfl⟩
  obtain ⟨q, hq⟩ : ∃ q, (catB ((l.drop o).take c)).size = q := ⟨_, rfl⟩
  rw [hp] at C1 s1 z1 z6
  rw [hq] at s2 z2
  rw [hq, hcc] at C2
  obtain ⟨A, hA⟩ : ∃ A, catB (l.take o) = A := ⟨_, rfl⟩
  obtain ⟨B, hB⟩ : ∃ B, catB (l.drop o) = B := ⟨_, rfl⟩
  obtain ⟨D, hD⟩ : ∃ D, catB (l.drop (o + c)) = D := ⟨_, rfl⟩
  obtain ⟨S, hS⟩ : ∃ S, catB l = S := ⟨_, rfl⟩
  have CAT : Hid (∀ lf, catB lf = t → A ++ t ++ D = catB (l.take o ++ lf ++ l.drop (o + c))) := fun lf hf => by rw [catB_append, catB_append, hf, hA, hD]
  rw [hA, hS] at s1
  rw [hB] at s1
  rw [hB, hD] at s2
  rw [hS] at C1 z1 z3 ⊢
  rw [hB] at C2 z2 z4
  rw [hD] at C3 z5
  have hA2 : A.size = p := by rw [← hA]; exact hp
  have s11 := s1.1
  have s12 := s1.2
  have s22 := s2.2
  have pI : (p : Int) ≤ S.size := by omega
  have qI : (q : Int) ≤ B.size := by omega
  have oI : (o : Int) ≤ 30 := by omega
  have dI : ((l.length - (o + c) : Nat) : Int) ≤ 30 := by omega
  have hm : (30 : Int) - (o : Int) - ((l.length - (o + c) : Nat) : Int) = ((30 - o - (l.length - (o + c)) : Nat) : Int) := by omega
  have htz : t.size ≤ 2000000 := by unfold lots at ht; omega
  clear hl hld hldd hT ht hp hq hA hB hD hS s1 s2 hn' hnd
  go_enter Tryz.func113, Tryz.ntmps113
  go_wp2_with (go_at_call 102; refine (C1.out _).mono ?_; clear C1; rintro e w1 ⟨rfl, hb0⟩)
  go_region
  have hb1 := hb0.drew
  clear hb0
  go_wp2_with (first
    | (go_at_call 102; refine (C2.out _).mono ?_; clear C2; rintro e w2 ⟨rfl, hb2⟩
       have HB2 := hid (hb1.trans (hb2.mono hb1.size)))
    | (go_at_call 22; refine (is_nil _ _).mono ?_; rintro e w3 ⟨rfl, hw3⟩
       replace hw3 := hw3.symm
       subst hw3
       have HB3 := hid HB2.out)
    | (go_at_call 105; refine (C3.out _).mono ?_; rintro e w4 ⟨rfl, hb4⟩
       have HB4 := hid (HB3.out.trans (hb4.mono HB3.out.size)))
    | (go_at_call 144
       refine (CK.out _ HB4.out).mono ?_
       rintro e w5 ⟨hb5, ⟨l', hl', rfl⟩ | ⟨hn5, _⟩⟩ <;> (first | exact absurd hyes (hn5 lf) | skip)
       have HB5 := hid (HB4.out.trans (hb5.mono HB4.out.size)))
    | (go_at_call 161
       refine (join3 A t D _ w5.heap.size (heap_alloc_new w5 _) (by omega)).mono ?_
       rintro e w6 ⟨rfl, hb6⟩))
  go_ret2
  have hf : catB lf = t := charsOf_cat t.size t lf (Nat.le_refl _) hyes.1
  exact ⟨by rw [← CAT.out lf hf]; rfl, (HB5.out.alloc HB5.out.size _).trans (hb6.mono (by have := HB5.out.size; simp; omega))⟩
end Go.Proofs.YtabogkonklplcaaGreatDoor

namespace Go.Proofs.YtabogkonklplcaaGreatDoor
open Go.RowKit Go.Lib
set_option linter.unusedSimpArgs false
set_option linter.unusedVariables false
set_option maxRecDepth 20000 in
set_option maxHeartbeats 2000000 in
theorem splice_no_big (l : List ByteArray) (hl : ∀ c ∈ l, IsCh c) (hn : l.length ≤ 30) (o c : Nat) (cnt : Int) (ho : o ≤ l.length) (hc0 : 0 ≤ cnt) (hcc : (c : Int) = (l.length : Int) - o) (hcl : (l.length : Int) - o < cnt) (t : ByteArray) (ht : t.size < lots) (hno : ∀ l', ¬ TakesM (30 - o - (l.length - (o + c))) t l') (w : World) (hT : Tabs w) :
    Calls Tryz.prog 113 #[.string (catB l), .int .i64 (o : Int), .int .i64 cnt, .string t, .int .i64 30] w fun e w' => ∃ k : Int, e = .returned (.tuple #[.string ⟨#[]⟩, flawV k]) ∧ Below w.heap.size w w' := by
  have hoc : o + c ≤ l.length := by omega
  have hn' : l.length < lots := by unfold lots; omega
  have hnd : (l.drop o).length < lots := by simp; omega
  have hld : ∀ c ∈ l.drop o, IsCh c := fun c hc => hl c (List.mem_of_mem_drop hc)
  have hldd : ∀ d ∈ l.drop (o + c), IsCh d := fun d hd => hl d (List.mem_of_mem_drop hd)
  have C1 := hid (fun w1 => find_at l hl hn' o ho w1)
  have C2 := hid (fun w1 => find_out (l.drop o) hld hnd cnt (.inr (by simp; omega)) w1)
  have C3 := hid (fun w1 => count_any (l.drop (o + c)) hldd (by simp; omega) w1)
  have CK := hid (fun w1 (hb : Below w.heap.size w w1) => check_any (30 - o - (l.length - (o + c))) (by omega) t w1 ht (hT.below hb))
  have hcd : decide (cnt < 0) = false := decide_eq_false (by omega)
  have s1 := cat_split l o
  have s2 := cat_split (l.drop o) c
  rw [List.drop_drop] at s2
  have z1 := cat_le l o
  have z2 := cat_le (l.drop o) c
  have z3 := cat_size l hl
  have z4 := cat_size (l.drop o) hld
  have z5 := cat_size (l.drop (o + c)) hldd
  have z6 : (catB (l.take o)).size ≤ 4 * 30 := by have := cat_size (l.take o) (fun c hc => hl c (List.mem_of_mem_take hc)); simp at this; omega
  have hdl : (l.drop (o + c)).length = l.length - (o + c) := by simp
  obtain ⟨p, hp⟩ : ∃ p, (catB (l.take o)).size = p := ⟨_, rfl⟩
  obtain ⟨q, hq⟩ : ∃ q, (catB ((l.drop o).take c)).size = q := ⟨_, rfl⟩
  rw [hp] at C1 s1 z1 z6
  rw [hq] at s2 z2
  have hqB : q = (catB (l.drop o)).size := by rw [← hq, List.take_of_length_le (by simp; omega)]
  obtain ⟨A, hA⟩ : ∃ A, catB (l.take o) = A := ⟨_, rfl⟩
  obtain ⟨B, hB⟩ : ∃ B, catB (l.drop o) = B := ⟨_, rfl⟩
  obtain ⟨D, hD⟩ : ∃ D, catB (l.drop (o + c)) = D := ⟨_, rfl⟩
  obtain ⟨S, hS⟩ : ∃ S, catB l = S := ⟨_, rfl⟩
  have CAT : Hid (∀ lf, catB lf = t → A ++ t ++ D = catB (l.take o ++ lf ++ l.drop (o + c))) := fun lf hf => by rw [catB_append, catB_append, hf, hA, hD]
  rw [hA, hS] at s1
  rw [hB] at s1
  rw [hB, hD] at s2
  rw [hS] at C1 z1 z3 ⊢
  rw [hB] at C2 z2 z4
  rw [hD] at C3 z5
  have hA2 : A.size = p := by rw [← hA]; exact hp
  have s11 := s1.1
  have s12 := s1.2
  have s22 := s2.2
  rw [hB] at hqB
  rw [hqB] at s22
  have hDe : ByteArray.empty = D := by rw [← s22]; simp
  subst hDe
  have pI : (p : Int) ≤ S.size := by omega
  have qI : (q : Int) ≤ B.size := by omega
  have oI : (o : Int) ≤ 30 := by omega
  have dI : ((l.length - (o + c) : Nat) : Int) ≤ 30 := by omega
  have hm : (30 : Int) - (o : Int) - ((l.length - (o + c) : Nat) : Int) = ((30 - o - (l.length - (o + c)) : Nat) : Int) := by omega
  have htz : t.size ≤ 2000000 := by unfold lots at ht; omega
  clear hl hld hldd hT ht hp hq hA hB hD hS s1 s2 hn' hnd s22
  go_enter Tryz.func113, Tryz.ntmps113
  go_wp2_with (go_at_call 102; refine (C1.out _).mono ?_; clear C1; rintro e w1 ⟨rfl, hb0⟩)
  go_region
  have hb1 := hb0.drew
  clear hb0
  go_wp2_with (first
    | (go_at_call 102; refine (C2.out _).mono ?_; clear C2; rintro e w2 ⟨rfl, hb2⟩
       have HB2 := hid (hb1.trans (hb2.mono hb1.size)))
    | (go_at_call 22; refine (is_out _ 0 _).mono ?_; rintro e w3 ⟨rfl, hb3⟩
       have HB3 := hid (HB2.out.trans (hb3.mono HB2.out.size)))
    | (go_at_call 105; refine (C3.out _).mono ?_; rintro e w4 ⟨rfl, hb4⟩
       have HB4 := hid (HB3.out.trans (hb4.mono HB3.out.size)))
    | (go_at_call 144
       refine (CK.out _ HB4.out).mono ?_
       rintro e w5 ⟨hb5, ⟨l', hl', _⟩ | ⟨_, kk, rfl⟩⟩; (first | exact absurd hl' (hno l') | skip)
       have HB5 := hid (HB4.out.trans (hb5.mono HB4.out.size))))
  go_ret2
  exact ⟨kk, rfl, HB5.out⟩
set_option maxRecDepth 20000 in
set_option maxHeartbeats 2000000 in
theorem splice_yes_big (l : List ByteArray) (hl : ∀ c ∈ l, IsCh c) (hn : l.length ≤ 30) (o c : Nat) (cnt : Int) (ho : o ≤ l.length) (hc0 : 0 ≤ cnt) (hcc : (c : Int) = (l.length : Int) - o) (hcl : (l.length : Int) - o < cnt) (t : ByteArray) (ht : t.size < lots) (lf : List ByteArray) (hyes : TakesM (30 - o - (l.length - (o + c))) t lf) (w : World) (hT : Tabs w) :
    Calls Tryz.prog 113 #[.string (catB l), .int .i64 (o : Int), .int .i64 cnt, .string t, .int .i64 30] w fun e w' => e = .returned (.tuple #[.string (catB (l.take o ++ lf ++ l.drop (o + c))), .nilIface]) ∧ Below w.heap.size w w' := by
  have hoc : o + c ≤ l.length := by omega
  have hn' : l.length < lots := by unfold lots; omega
  have hnd : (l.drop o).length < lots := by simp; omega
  have hld : ∀ c ∈ l.drop o, IsCh c := fun c hc => hl c (List.mem_of_mem_drop hc)
  have hldd : ∀ d ∈ l.drop (o + c), IsCh d := fun d hd => hl d (List.mem_of_mem_drop hd)
  have C1 := hid (fun w1 => find_at l hl hn' o ho w1)
  have C2 := hid (fun w1 => find_out (l.drop o) hld hnd cnt (.inr (by simp; omega)) w1)
  have C3 := hid (fun w1 => count_any (l.drop (o + c)) hldd (by simp; omega) w1)
  have CK := hid (fun w1 (hb : Below w.heap.size w w1) => check_any (30 - o - (l.length - (o + c))) (by omega) t w1 ht (hT.below hb))
  have hcd : decide (cnt < 0) = false := decide_eq_false (by omega)
  have s1 := cat_split l o
  have s2 := cat_split (l.drop o) c
  rw [List.drop_drop] at s2
  have z1 := cat_le l o
  have z2 := cat_le (l.drop o) c
  have z3 := cat_size l hl
  have z4 := cat_size (l.drop o) hld
  have z5 := cat_size (l.drop (o + c)) hldd
  have z6 : (catB (l.take o)).size ≤ 4 * 30 := by have := cat_size (l.take o) (fun c hc => hl c (List.mem_of_mem_take hc)); simp at this; omega
  have hdl : (l.drop (o + c)).length = l.length - (o + c) := by simp
  obtain ⟨p, hp⟩ : ∃ p, (catB (l.take o)).size = p := ⟨_, rfl⟩
  obtain ⟨q, hq⟩ : ∃ q, (catB ((l.drop o).take c)).size = q := ⟨_, rfl⟩
  rw [hp] at C1 s1 z1 z6
  rw [hq] at s2 z2
  have hqB : q = (catB (l.drop o)).size := by rw [← hq, List.take_of_length_le (by simp; omega)]
  obtain ⟨A, hA⟩ : ∃ A, catB (l.take o) = A := ⟨_, rfl⟩
  obtain ⟨B, hB⟩ : ∃ B, catB (l.drop o) = B := ⟨_, rfl⟩
  obtain ⟨D, hD⟩ : ∃ D, catB (l.drop (o + c)) = D := ⟨_, rfl⟩
  obtain ⟨S, hS⟩ : ∃ S, catB l = S := ⟨_, rfl⟩
  have CAT : Hid (∀ lf, catB lf = t → A ++ t ++ D = catB (l.take o ++ lf ++ l.drop (o + c))) := fun lf hf => by rw [catB_append, catB_append, hf, hA, hD]
  rw [hA, hS] at s1
  rw [hB] at s1
  rw [hB, hD] at s2
  rw [hS] at C1 z1 z3 ⊢
  rw [hB] at C2 z2 z4
  rw [hD] at C3 z5
  have hA2 : A.size = p := by rw [← hA]; exact hp
  have s11 := s1.1
  have s12 := s1.2
  have s22 := s2.2
  rw [hB] at hqB
  rw [hqB] at s22
  have hDe : ByteArray.empty = D := by rw [← s22]; simp
  subst hDe
  have pI : (p : Int) ≤ S.size := by omega
  have qI : (q : Int) ≤ B.size := by omega
  have oI : (o : Int) ≤ 30 := by omega
  have dI : ((l.length - (o + c) : Nat) : Int) ≤ 30 := by omega
  have hm : (30 : Int) - (o : Int) - ((l.length - (o + c) : Nat) : Int) = ((30 - o - (l.length - (o + c)) : Nat) : Int) := by omega
  have htz : t.size ≤ 2000000 := by unfold lots at ht; omega
  clear hl hld hldd hT ht hp hq hA hB hD hS s1 s2 hn' hnd s22
  go_enter Tryz.func113, Tryz.ntmps113
  go_wp2_with (go_at_call 102; refine (C1.out _).mono ?_; clear C1; rintro e w1 ⟨rfl, hb0⟩)
  go_region
  have hb1 := hb0.drew
  clear hb0
  go_wp2_with (first
    | (go_at_call 102; refine (C2.out _).mono ?_; clear C2; rintro e w2 ⟨rfl, hb2⟩
       have HB2 := hid (hb1.trans (hb2.mono hb1.size)))
    | (go_at_call 22; refine (is_out _ 0 _).mono ?_; rintro e w3 ⟨rfl, hb3⟩
       have HB3 := hid (HB2.out.trans (hb3.mono HB2.out.size)))
    | (go_at_call 105; refine (C3.out _).mono ?_; rintro e w4 ⟨rfl, hb4⟩
       have HB4 := hid (HB3.out.trans (hb4.mono HB3.out.size)))
    | (go_at_call 144
       refine (CK.out _ HB4.out).mono ?_
       rintro e w5 ⟨hb5, ⟨l', hl', rfl⟩ | ⟨hn5, _⟩⟩ <;> (first | exact absurd hyes (hn5 lf) | skip)
       have HB5 := hid (HB4.out.trans (hb5.mono HB4.out.size)))
    | (go_at_call 161
       refine (join3 A t ByteArray.empty _ w5.heap.size (heap_alloc_new w5 _) (by omega)).mono ?_
       rintro e w6 ⟨rfl, hb6⟩))
  go_ret2
  have hf : catB lf = t := charsOf_cat t.size t lf (Nat.le_refl _) hyes.1
  exact ⟨by rw [← CAT.out lf hf, ByteArray.append_empty]; rfl, (HB5.out.alloc HB5.out.size _).trans (hb6.mono (by have := HB5.out.size; simp; omega))⟩
end Go.Proofs.YtabogkonklplcaaGreatDoor
