import Derived.Test.YtabogkonklplcaaGreatDoorV15
import Derived.Shelf.Spec.SlicesInsert
import Derived.Shelf.Spec.SlicesInsertGrow

namespace Go.Proofs.YtabogkonklplcaaGreatDoor
open Go.RowKit Go.Shelf
set_option linter.unusedSimpArgs false
set_option linter.unusedVariables false
def insRen : Go.Shelf.Ren := ⟨fun | 21 => 156 | 27 => 182 | 28 => 183 | 35 => 194 | 39 => 181 | n => n, fun | 22 => 24 | 3 => 3 | 4 => 4 | 0 => 0 | n => n, fun | n => n⟩
theorem insLay : Go.Proofs.Lays2.n21 Tryz.prog insRen := {
  mixed := by kernel_rfl
  f21 := Tryz.func156.trans (congrArg some (by kernel_rfl))
  f27 := Tryz.func182.trans (congrArg some (by kernel_rfl))
  f28 := Tryz.func183.trans (congrArg some (by kernel_rfl))
  f35 := Tryz.func194.trans (congrArg some (by kernel_rfl))
  f39 := Tryz.func181.trans (congrArg some (by kernel_rfl))
  t0 := Tryz.underlying0
  a0 := Tryz.isAgg0
  z0 := Tryz.sizeOf0
  v0 := Tryz.zeroValue0
  t3 := Tryz.underlying3
  a3 := Tryz.isAgg3
  z3 := Tryz.sizeOf3
  v3 := Tryz.zeroValue3
  t4 := Tryz.underlying4
  a4 := Tryz.isAgg4
  z4 := Tryz.sizeOf4
  v4 := Tryz.zeroValue4
  t22 := Tryz.underlying24
  a22 := Tryz.isAgg24
  z22 := Tryz.sizeOf24
  v22 := Tryz.zeroValue24
  i3 := by kernel_rfl }
theorem zeroCells_size (m : Nat) : (Builtin.zeroCells (Value.int .i64 0).cells m).size = m := by simp [Builtin.zeroCells, Value.cells]
def putAt (l : List Nat) (k j : Nat) : List Nat := l.take k ++ j :: l.drop k
theorem putAt_length (l : List Nat) (k j : Nat) (h : k ≤ l.length) : (putAt l k j).length = l.length + 1 := by simp [putAt]; omega
theorem putAt_vals (l : List Nat) (k j : Nat) : intsV (putAt l k j) = (intsV l).take k ++ Value.int .i64 (j : Int) :: (intsV l).drop k := by simp [intsV, putAt, List.map_take, List.map_drop]
def InsPost (v : Value) (ks : List Nat) (k j : Nat) (w : World) (e : Ending) (w' : World) : Prop :=
  ∃ g c, e = .returned (.slice (some ⟨g, 0, none⟩) (ks.length + 1) c) ∧ w'.ownsRow 0 3 1 (.slice (some ⟨g, 0, none⟩) (ks.length + 1) c) (ks.length + 1) (intsV (putAt ks k j)) ∧ Keeps (fun b => v.ownBlock = some b) w w' ∧ (v.ownBlock = some g ∨ w.heap.size ≤ g)
theorem intsV_cell1 (l : List Nat) : ∀ v ∈ intsV l, v.oneCell' = true := by
  intro v hv
  simp only [intsV, List.mem_map] at hv
  obtain ⟨a, _, rfl⟩ := hv
  rfl
section
variable {w : World} {vb : Nat}
theorem one_src {j : Nat} (hvb : w.heap[vb]? = some (.cells #[.int .i64 (j : Int)] 3 (0, 0))) : ∀ i v, [Value.int .i64 (j : Int)][i]? = some v → w.cell? ⟨vb, 0 + i, none⟩ = some v := by
  intro i v h
  cases i with
  | zero => simp at h; subst h; exact cell_of_heap hvb 0
  | succ i => simp at h
theorem ins_end_grow (base : Option Addr) (n c j : Nat) (ks : List Nat) (hvb : w.heap[vb]? = some (.cells #[.int .i64 (j : Int)] 3 (0, 0))) (hn : ks.length = n) (hnc : n ≤ c) (hroom : c < n + 1) (hbig : n < lots) (hnil : base = none → n = 0)
    (hcs : ∀ a, base = some a → ∀ i v, (intsV ks)[i]? = some v → w.cell? (a.add i) = some v) :
    Calls Tryz.prog 156 #[.slice base n c, .int .i64 (n : Int), .slice (some ⟨vb, 0, none⟩) 1 1] w (InsPost (.slice base n c) ks n j w) := by
  have C := Any2.slices_Insert_int_end_grow insLay base n c vb 0 1 1 (intsV ks) [.int .i64 (j : Int)] w (by decide) hnc hroom (by unfold lots at hbig; omega) (by simp [hn]) rfl hnil hcs (one_src hvb) (by simp [Value.oneCell'])
  refine C.mono ?_
  rintro e w' ⟨rfl, rfl⟩
  have hG := grownCap_ge w (n + 1) c (insRen.t 3)
  have hG2 := grownCap_le_maxLen w (n + 1) c (insRen.t 3) (by unfold maxLen; unfold lots at hbig; omega)
  generalize grownCap w (n + 1) c (insRen.t 3) = G at hG hG2
  refine ⟨w.heap.size, G, by rw [hn], ?_, ((Keeps.refl _ w).drew).alloc _, .inr (Nat.le_refl _)⟩
  refine ⟨by rw [intsV_length, putAt_length _ _ _ (by omega)]; omega, .inr ⟨w.heap.size, G, _, rfl, Nat.zero_le _, heap_alloc_new w.drew _, by omega, hG2, ?_, ?_⟩⟩
  · simp [zeroCells_size, hn]; omega
  · have : intsV (putAt ks n j) = intsV ks ++ [.int .i64 (j : Int)] := by
      rw [putAt_vals, List.take_of_length_le (by simp [hn]), List.drop_of_length_le (by simp [hn])]
    rw [this]
    simp only [Array.toList_append, List.toList_toArray, Nat.mul_one]
    rw [List.take_append_of_le_length (by simp), List.take_of_length_le (by simp)]
theorem ins_end_room (g n c j : Nat) (ks : List Nat) (cur : Array Value) (hvb : w.heap[vb]? = some (.cells #[.int .i64 (j : Int)] 3 (0, 0))) (hn : ks.length = n) (hroom : n + 1 ≤ c) (hc : c ≤ maxLen) (hcur : w.heap[g]? = some (.cells cur 3 (0, 0))) (hsz : cur.size = c) (ht : cur.toList.take n = intsV ks) :
    Calls Tryz.prog 156 #[.slice (some ⟨g, 0, none⟩) n c, .int .i64 (n : Int), .slice (some ⟨vb, 0, none⟩) 1 1] w (InsPost (.slice (some ⟨g, 0, none⟩) n c) ks n j w) := by
  have C := Any2.slices_Insert_int_end_room insLay g 0 n c vb 0 1 1 [.int .i64 (j : Int)] w (by decide) hroom (by unfold maxLen at hc; omega) rfl
    (fun i hi => by rw [cell_of_heap hcur, Array.getElem?_eq_getElem (by omega)]; rfl) (fun i hi => frozen_of_heap hcur _) (one_src hvb) (by simp [Value.oneCell'])
  refine C.mono ?_
  rintro e w' ⟨rfl, rfl⟩
  obtain ⟨cur', h1, h2, h3⟩ := heap_setCells g 3 [.int .i64 (j : Int)] n w cur hcur (by simp; omega)
  rw [Nat.zero_add]
  refine ⟨g, c, by rw [hn], ?_, keeps_setCells g _ _ _ (Keeps.refl _ w) rfl, .inl rfl⟩
  refine ⟨by rw [intsV_length, putAt_length _ _ _ (by omega)]; omega, .inr ⟨g, c, cur', rfl, Nat.zero_le _, h1, by omega, hc, by omega, ?_⟩⟩
  have : intsV (putAt ks n j) = intsV ks ++ [.int .i64 (j : Int)] := by
    rw [putAt_vals, List.take_of_length_le (by simp [hn]), List.drop_of_length_le (by simp [hn])]
  rw [this, h3, ht, Nat.mul_one, hn, List.take_append_of_le_length (by simp [hn]), List.take_of_length_le (by simp [hn])]
theorem ins_shift (g n c k j : Nat) (ks : List Nat) (cur : Array Value) (hvb : w.heap[vb]? = some (.cells #[.int .i64 (j : Int)] 3 (0, 0))) (hne : vb ≠ g) (hn : ks.length = n) (hk : k < n) (hroom : n + 1 ≤ c) (hc : c ≤ maxLen) (hcur : w.heap[g]? = some (.cells cur 3 (0, 0))) (hsz : cur.size = c) (ht : cur.toList.take n = intsV ks) :
    Calls Tryz.prog 156 #[.slice (some ⟨g, 0, none⟩) n c, .int .i64 (k : Int), .slice (some ⟨vb, 0, none⟩) 1 1] w (InsPost (.slice (some ⟨g, 0, none⟩) n c) ks k j w) := by
  have hcs : ∀ i v, (intsV ks)[i]? = some v → w.cell? ⟨g, 0 + i, none⟩ = some v := by
    intro i v hi
    have hil := (List.getElem?_eq_some_iff.1 hi).1
    simp [hn] at hil
    rw [← ht, List.getElem?_take_of_lt hil] at hi
    rw [cell_of_heap hcur, Nat.zero_add, ← Array.getElem?_toList]
    exact hi
  have C := Any2.slices_Insert_int_shift insLay g 0 n c k vb 0 1 1 (intsV ks) [.int .i64 (j : Int)] w hk (by decide) hroom (by unfold maxLen at hc; omega) hne (by simp [hn]) rfl hcs
    (fun i hi => by rw [cell_of_heap hcur, Array.getElem?_eq_getElem (by omega)]; rfl) (fun i hi => frozen_of_heap hcur _) (one_src hvb) (intsV_cell1 ks) (by simp [Value.oneCell'])
    3 3 1 c (by simp [World.shape?, hvb]) (by simp [World.shape?, hcur, hsz]) (by omega) (frozen_of_heap hvb _) (frozen_of_heap hvb _)
  refine C.mono ?_
  rintro e w' ⟨rfl, rfl⟩
  have hdl : ((intsV ks).drop k).length = n - k := by simp [hn]
  obtain ⟨cur1, h1, h2, h3⟩ := heap_setCells g 3 ((intsV ks).drop k) (k + 1) w.drew cur hcur (by omega)
  obtain ⟨cur2, g1, g2, g3⟩ := heap_setCells g 3 [.int .i64 (j : Int)] k _ cur1 h1 (by simp; omega)
  rw [Nat.zero_add, Nat.zero_add]
  refine ⟨g, c, by rw [hn], ?_, keeps_setCells g _ _ _ (keeps_setCells g _ _ _ ((Keeps.refl _ w).drew) rfl) rfl, .inl rfl⟩
  refine ⟨by rw [intsV_length, putAt_length _ _ _ (by omega)]; omega, .inr ⟨g, c, cur2, rfl, Nat.zero_le _, g1, by omega, hc, by omega, ?_⟩⟩
  have e1 : cur.toList.take k = (intsV ks).take k := by rw [← ht, List.take_take, Nat.min_eq_left (by omega)]
  have hcl : cur.toList.length = c := by simp [hsz]
  have e2 : cur1.toList.take k = (intsV ks).take k := by
    rw [h3, List.append_assoc, List.take_append_of_le_length (by simp; omega), List.take_take, Nat.min_eq_left (by omega), e1]
  have e3 : cur1.toList.drop (k + 1) = (intsV ks).drop k ++ cur.toList.drop (k + 1 + ((intsV ks).drop k).length) := by
    rw [h3, List.append_assoc, List.drop_left' (by rw [List.length_take]; omega)]
  rw [g3, putAt_vals, e2, Nat.mul_one, hn]
  simp only [List.length_singleton]
  rw [e3, List.append_assoc, List.singleton_append]
  have hl : ((intsV ks).take k ++ Value.int .i64 (j : Int) :: (intsV ks).drop k).length = n + 1 := by simp [hn]; omega
  rw [← List.cons_append, ← List.append_assoc, ← hl, List.take_append_of_le_length (Nat.le_refl _), List.take_of_length_le (Nat.le_refl _)]
theorem ins_grow (g n c k j : Nat) (ks : List Nat) (cur : Array Value) (hvb : w.heap[vb]? = some (.cells #[.int .i64 (j : Int)] 3 (0, 0))) (hn : ks.length = n) (hk : k < n) (hnc : n ≤ c) (hroom : c < n + 1) (hbig : n < lots) (hcur : w.heap[g]? = some (.cells cur 3 (0, 0))) (ht : cur.toList.take n = intsV ks) :
    Calls Tryz.prog 156 #[.slice (some ⟨g, 0, none⟩) n c, .int .i64 (k : Int), .slice (some ⟨vb, 0, none⟩) 1 1] w (InsPost (.slice (some ⟨g, 0, none⟩) n c) ks k j w) := by
  have hcs : ∀ i v, (intsV ks)[i]? = some v → w.cell? ⟨g, 0 + i, none⟩ = some v := by
    intro i v hi
    have hil := (List.getElem?_eq_some_iff.1 hi).1
    simp [hn] at hil
    rw [← ht, List.getElem?_take_of_lt hil] at hi
    rw [cell_of_heap hcur, Nat.zero_add, ← Array.getElem?_toList]
    exact hi
  have C := Any2.slices_Insert_int_grow insLay g 0 n c k vb 0 1 1 (intsV ks) [.int .i64 (j : Int)] w hk (by decide) hnc hroom (by unfold lots at hbig; omega) (by simp [hn]) rfl hcs (one_src hvb) (intsV_cell1 ks) (by simp [Value.oneCell'])
  refine C.mono ?_
  rintro e w' ⟨rfl, rfl⟩
  have hG := grownCap_ge w (n + 1) c (insRen.t 3)
  have hG2 := grownCap_le_maxLen w (n + 1) c (insRen.t 3) (by unfold maxLen; unfold lots at hbig; omega)
  generalize grownCap w (n + 1) c (insRen.t 3) = G at hG hG2
  obtain ⟨R, hR⟩ : ∃ R : Array Value, R = ((intsV ks).take k).toArray ++ Builtin.zeroCells (Value.int .i64 0).cells (n + 1 - k) ++ Builtin.zeroCells (Value.int .i64 0).cells (G - (n + 1)) := ⟨_, rfl⟩
  have hRs : R.size = G := by rw [hR]; simp [zeroCells_size, hn]; omega
  have hRt : R.toList.take k = (intsV ks).take k := by
    rw [hR]
    simp only [Array.toList_append, List.toList_toArray, List.append_assoc]
    rw [List.take_append_of_le_length (by simp [hn]; omega), List.take_take, Nat.min_self]
  rw [← hR]
  have h0 : ((w.alloc (.cells R (insRen.t 3))).drew).heap[w.heap.size]? = some (.cells R 3 (0, 0)) := heap_alloc_new w _
  have hdl : ((intsV ks).drop k).length = n - k := by simp [hn]
  obtain ⟨cur1, h1, h2, h3⟩ := heap_setCells w.heap.size 3 [.int .i64 (j : Int)] k _ R h0 (by simp; omega)
  obtain ⟨cur2, g1, g2, g3⟩ := heap_setCells w.heap.size 3 ((intsV ks).drop k) (k + 1) (((w.alloc (.cells R (insRen.t 3))).drew.setCells w.heap.size k [.int .i64 (j : Int)]).drew) cur1 h1 (by omega)
  have k1 : Keeps (fun b => (Value.slice (some ⟨g, 0, none⟩) n c).ownBlock = some b) w (((w.alloc (.cells R (insRen.t 3))).drew.setCells w.heap.size k [.int .i64 (j : Int)]).drew) := by
    have a1 : Keeps (fun _ => False) w ((w.alloc (.cells R (insRen.t 3))).drew) := ((Keeps.refl _ w).alloc _).drew
    have a2 : Keeps (fun b => b = w.heap.size) ((w.alloc (.cells R (insRen.t 3))).drew) (((w.alloc (.cells R (insRen.t 3))).drew.setCells w.heap.size k [.int .i64 (j : Int)]).drew) := (keeps_setCells (F := fun b => b = w.heap.size) w.heap.size _ _ _ (Keeps.refl _ _) rfl).drew
    exact (a1.trans (a2.mono (fun b _ e => .inr (by omega)))).mono (fun _ _ e => e.elim)
  have k2 : Keeps (fun b => b = w.heap.size) (((w.alloc (.cells R (insRen.t 3))).drew.setCells w.heap.size k [.int .i64 (j : Int)]).drew) _ := keeps_setCells w.heap.size ((intsV ks).drop k) (k + 1) _ (Keeps.refl _ _) rfl
  refine ⟨w.heap.size, G, by rw [hn], ?_, k1.trans (k2.mono (fun b _ e => .inr (by omega))), .inr (Nat.le_refl _)⟩
  refine ⟨by rw [intsV_length, putAt_length _ _ _ (by omega)]; omega, .inr ⟨w.heap.size, G, cur2, rfl, Nat.zero_le _, g1, by omega, hG2, by omega, ?_⟩⟩
  have e2 : cur1.toList.take (k + 1) = (intsV ks).take k ++ [.int .i64 (j : Int)] := by
    rw [h3, hRt, List.take_append_of_le_length (by simp [hn]; omega), List.take_of_length_le (by simp [hn]; omega)]
  rw [g3, putAt_vals, e2, Nat.mul_one, hn]
  have hl : ((intsV ks).take k ++ [Value.int .i64 (j : Int)] ++ (intsV ks).drop k).length = n + 1 := by simp [hn]; omega
  rw [← hl, List.take_append_of_le_length (Nat.le_refl _), List.take_of_length_le (Nat.le_refl _)]
  simp
end
theorem ins_one {w : World} {vb : Nat} {v : Value} {ks : List Nat} (hrow : w.ownsRow 0 3 1 v ks.length (intsV ks)) (k j : Nat) (hk : k ≤ ks.length) (hbig : ks.length < lots) (hvb : w.heap[vb]? = some (.cells #[.int .i64 (j : Int)] 3 (0, 0))) (hne : v.ownBlock ≠ some vb) :
    Calls Tryz.prog 156 #[v, .int .i64 (k : Int), .slice (some ⟨vb, 0, none⟩) 1 1] w (InsPost v ks k j w) := by
  obtain ⟨h1, h2⟩ := hrow
  rcases h2 with ⟨hv, h0⟩ | ⟨g, cap, cur, hv, _, hh, hn, hc, hs, ht⟩
  · have : ks = [] := List.eq_nil_of_length_eq_zero h0
    subst this
    subst hv
    obtain rfl : k = 0 := by simpa using hk
    exact ins_end_grow none 0 0 j [] hvb rfl (Nat.le_refl _) (by decide) (by unfold lots; decide) (fun _ => rfl) (fun a e => by cases e)
  · subst hv
    simp only [Nat.mul_one] at hs ht
    have hg : vb ≠ g := fun e => hne (by simp [Value.ownBlock, e])
    have hcs : ∀ i v, (intsV ks)[i]? = some v → w.cell? ⟨g, i, none⟩ = some v := by
      intro i v hi
      have hil := (List.getElem?_eq_some_iff.1 hi).1
      simp at hil
      rw [← ht, List.getElem?_take_of_lt hil] at hi
      rw [cell_of_heap hh, ← Array.getElem?_toList]
      exact hi
    by_cases hr : ks.length + 1 ≤ cap
    · rcases Nat.lt_or_ge k ks.length with hkl | hkl
      · exact ins_shift g ks.length cap k j ks cur hvb hg rfl hkl hr hc hh hs ht
      · obtain rfl : k = ks.length := by omega
        exact ins_end_room g ks.length cap j ks cur hvb rfl hr hc hh hs ht
    · rcases Nat.lt_or_ge k ks.length with hkl | hkl
      · exact ins_grow g ks.length cap k j ks cur hvb rfl hkl hn (by omega) hbig hh ht
      · obtain rfl : k = ks.length := by omega
        exact ins_end_grow (some ⟨g, 0, none⟩) ks.length cap j ks hvb rfl hn (by omega) hbig (fun e => by cases e) (fun a e i v hi => by cases e; rw [Addr.add_lit, Nat.zero_add]; exact hcs i v hi)
end Go.Proofs.YtabogkonklplcaaGreatDoor
