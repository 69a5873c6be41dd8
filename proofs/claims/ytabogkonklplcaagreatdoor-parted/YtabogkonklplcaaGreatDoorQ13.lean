import Derived.Test.YtabogkonklplcaaGreatDoorQ10
import Derived.WalkSmall
import Derived.LoopTactic
import Derived.Laws.RangeString
import Derived.Laws.RangeAny
import Derived.Deep.DeepFit
import Derived.Test.YtabogkonklplcaaGreatDoorQ11
import Derived.Shelf.Spec.SlicesInsert
import Derived.Shelf.Spec.SlicesInsertGrow
import Derived.Test.YtabogkonklplcaaGreatDoorQ09
import Derived.Test.YtabogkonklplcaaGreatDoorQ12
import Derived.Lib.Builder
import Derived.Lib.AppendStr
import Derived.Lib.UnsafeStr
import Derived.Lib.Walk
import Derived.Lib.RuneBytes
import Derived.Laws.Externs
import Derived.Shelf.Strings.BuilderX
import Derived.Test.YtabogkonklplcaaGreatDoorQ06

namespace Go.Proofs.YtabogkonklplcaaGreatDoor
open Go.RowKit Go.Lib
set_option linter.unusedSimpArgs false
set_option linter.unusedVariables false
theorem catB_append (a b : List ByteArray) : catB (a ++ b) = catB a ++ catB b := by
  induction a with
  | nil => show catB b = ByteArray.empty ++ catB b; simp
  | cons c a ih => rw [List.cons_append, catB_cons, catB_cons, ih, ByteArray.append_assoc]
theorem rune_le (t : ByteArray) (p : Nat) : (Utf8.decode t p).1 ≤ 2147483647 := by
  rw [Lib.decode_at]
  have h0 := byteN_lt t p
  unfold byteN at h0
  generalize (t.get! p).toNat = b0 at h0 ⊢
  unfold Lib.decodeN
  repeat' split
  all_goals simp
  all_goals omega
theorem decode_place (l : List ByteArray) (c : ByteArray) (r : List ByteArray) (h : IsCh c) :
    ∃ R : Nat, Utf8.decode (catB (l ++ c :: r)) (catB l).size = (R, c.size) ∧ Lib.runeCells (R : Int) = Lib.strCells c ∧ R ≤ 2147483647 ∧ (catB l).size < (catB (l ++ c :: r)).size ∧ (catB (l ++ [c])).size = (catB l).size + c.size := by
  have h0 := h.1
  have e1 : catB (l ++ c :: r) = catB l ++ (c ++ catB r) := by rw [catB_append, catB_cons]
  have hs : (catB (l ++ c :: r)).size = (catB l).size + (c.size + (catB r).size) := by rw [e1, ByteArray.size_append, ByteArray.size_append]
  have hd := decodeGo_tail (catB (l ++ c :: r)) (catB l).size (by omega)
  have e2 : (catB (l ++ c :: r)).extract (catB l).size (catB (l ++ c :: r)).size = c ++ catB r := by rw [e1]; exact extract_app _ _
  rw [e2] at hd
  have e3 : Lib.decodeGo (c ++ catB r) = Utf8.decode (c ++ catB r) 0 := by
    unfold Lib.decodeGo
    rw [if_neg (by rw [ByteArray.size_append]; omega)]
  rw [e3] at hd
  obtain ⟨k1, k2⟩ := decode_head c (catB r) h
  refine ⟨(Utf8.decode (c ++ catB r) 0).1, ?_, k2, rune_le _ _, by omega, ?_⟩
  · rw [← hd, ← k1]
  · rw [catB_append, ByteArray.size_append, catB_cons]
    show _ + (c ++ ByteArray.empty).size = _
    simp
theorem cat_next (l : List ByteArray) (h : ∀ c ∈ l, IsCh c) (k : Nat) (hk : k < l.length) :
    ∃ R K : Nat, Utf8.decode (catB l) (catB (l.take k)).size = (R, K) ∧ R ≤ 2147483647 ∧ (catB (l.take k)).size < (catB l).size ∧ (catB (l.take (k + 1))).size = (catB (l.take k)).size + K ∧ (catB (l.take (k + 1))).size ≤ (catB l).size ∧ 0 < K := by
  have e : l = l.take k ++ l[k] :: l.drop (k + 1) := by rw [List.getElem_cons_drop, List.take_append_drop]
  have hc : IsCh l[k] := h _ (List.getElem_mem hk)
  obtain ⟨R, h1, _, h3, h4, h5⟩ := decode_place (l.take k) l[k] (l.drop (k + 1)) hc
  rw [← e] at h1 h4
  have e2 : l.take (k + 1) = l.take k ++ [l[k]] := by rw [List.take_succ_eq_append_getElem hk]
  refine ⟨R, l[k].size, h1, h3, h4, by rw [e2]; exact h5, ?_, Nat.pos_of_ne_zero hc.1⟩
  have e3 : catB l = catB (l.take (k + 1)) ++ catB (l.drop (k + 1)) := by rw [← catB_append, List.take_append_drop]
  rw [e3, ByteArray.size_append]; omega
theorem cat_le (l : List ByteArray) (k : Nat) : (catB (l.take k)).size ≤ (catB l).size := by
  have e3 : catB l = catB (l.take k) ++ catB (l.drop k) := by rw [← catB_append, List.take_append_drop]
  rw [e3, ByteArray.size_append]; omega
theorem cat_split (l : List ByteArray) (k : Nat) : (catB l).extract 0 (catB (l.take k)).size = catB (l.take k) ∧ (catB l).extract (catB (l.take k)).size (catB l).size = catB (l.drop k) := by
  have e3 : catB l = catB (l.take k) ++ catB (l.drop k) := by rw [← catB_append, List.take_append_drop]
  constructor
  · rw [e3, ByteArray.extract_append]; simp
  · conv => lhs; rw [e3]
    exact extract_app _ _
theorem isCh_le {c : ByteArray} (h : IsCh c) : c.size ≤ 4 := h.2 ▸ headW_le4 c
theorem cat_size (l : List ByteArray) (h : ∀ c ∈ l, IsCh c) : (catB l).size ≤ 4 * l.length := by
  induction l with
  | nil => show (0 : Nat) ≤ _; omega
  | cons c l ih =>
    have := ih (fun d hd => h d (by simp [hd]))
    have h2 := isCh_le (h c (by simp))
    rw [catB_cons, ByteArray.size_append, List.length_cons]; omega
end Go.Proofs.YtabogkonklplcaaGreatDoor

namespace Go.Proofs.YtabogkonklplcaaGreatDoor
open Go.RowKit Go.Lib
set_option linter.unusedSimpArgs false
set_option linter.unusedVariables false
abbrev outV (n : Int) : Value := .iface 227 (.agg #[.int .i64 n])
def IterInv (l : List ByteArray) (w : World) (c : Value) (wr : World) : Prop :=
  ∃ k : Nat, k ≤ l.length ∧ c = .int .i64 (k : Int) ∧ wr.heap[w.heap.size]? = some (.stringIter (catB l) (catB (l.take k)).size) ∧ Below w.heap.size w wr
set_option maxRecDepth 20000 in
set_option maxHeartbeats 2000000 in
theorem count_any (l : List ByteArray) (hl : ∀ c ∈ l, IsCh c) (hn : l.length < lots) (w : World) :
    Calls Tryz.prog 105 #[.string (catB l)] w fun e w' => e = .returned (.int .i64 l.length) ∧ Below w.heap.size w w' := by
  have HL := hid (fun k hk => cat_next l hl k hk)
  unfold lots at hn
  clear hl
  go_enter Tryz.func105, Tryz.ntmps105
  go_wp2
  go_loopw [3] (fun c wr => IterInv l w c wr) (fun _ wr => (catB l).size - wr.iterPos w.heap.size)
  case atStart =>
    exact ⟨0, Nat.zero_le _, rfl, heap_alloc_new w _, (Below.refl _ w).alloc (Nat.le_refl _) _⟩
  case round =>
    obtain ⟨k, hk, rfl, hi, hb⟩ := hrel
    by_cases hlt : k < l.length
    · obtain ⟨R, K, h1, h2, h3, h4, h5, h6⟩ := HL.out k hlt
      have hnx := fun ty => Lib.run_next_any_at (P := Tryz.prog) _ w.heap.size (catB l) _ ty hi h3
      rw [h1] at hnx
      simp only at hnx
      have hi2 := iterAt_heap _ _ (catB l) _ ((catB (l.take k)).size + K) hi
      have hb2 := below_iterAt hb (Nat.le_refl _) (catB l) ((catB (l.take k)).size + K)
      clear h1 h2 HL
      generalize (catB (l.take k)).size = p at *
      go_wp2
      go_roundw
      case rel =>
        refine ⟨k + 1, hlt, by go_num, ?_, hb2⟩
        rw [h4]; exact hi2
      case measure =>
        rw [iterPos_of hi2, iterPos_of hi]
        omega
    · obtain rfl : k = l.length := by omega
      rw [List.take_length] at hi
      have hnx := fun ty => Lib.run_next_end_at (P := Tryz.prog) _ w.heap.size (catB l) _ ty hi (Nat.lt_irrefl _)
      go_wp2
      go_ret
      exact ⟨rfl, hb⟩
def FindPost (l : List ByteArray) (off : Int) (w : World) (e : Ending) (w' : World) : Prop :=
  Below w.heap.size w w' ∧ ((∃ o : Nat, off = o ∧ o ≤ l.length ∧ e = .returned (.tuple #[.int .i64 (catB (l.take o)).size, .nilIface])) ∨ ((off < 0 ∨ (l.length : Int) < off) ∧ e = .returned (.tuple #[.int .i64 0, outV off])))
set_option maxRecDepth 20000 in
set_option maxHeartbeats 2000000 in
theorem find_any (l : List ByteArray) (hl : ∀ c ∈ l, IsCh c) (hn : l.length < lots) (off : Int) (w : World) :
    Calls Tryz.prog 102 #[.string (catB l), .int .i64 off] w (FindPost l off w) := by
  have HL := hid (fun k hk => cat_next l hl k hk)
  unfold lots at hn
  clear hl
  go_enter Tryz.func102, Tryz.ntmps102
  go_wp2
  go_loopw [6] (fun c wr => IterInv l w c wr ∧ (off < 0 ∨ intOf c ≤ off)) (fun _ wr => (catB l).size - wr.iterPos w.heap.size)
  case atStart =>
    exact ⟨⟨0, Nat.zero_le _, rfl, heap_alloc_new w _, (Below.refl _ w).alloc (Nat.le_refl _) _⟩, by simp [intOf]; omega⟩
  case round =>
    obtain ⟨⟨k, hk, rfl, hi, hb⟩, ho⟩ := hrel
    simp only [intOf] at ho
    by_cases hlt : k < l.length
    · obtain ⟨R, K, h1, h2, h3, h4, h5, h6⟩ := HL.out k hlt
      have hnx := fun ty => Lib.run_next_any_at (P := Tryz.prog) _ w.heap.size (catB l) _ ty hi h3
      rw [h1] at hnx
      simp only at hnx
      have hi2 := iterAt_heap _ _ (catB l) _ ((catB (l.take k)).size + K) hi
      have hb2 := below_iterAt hb (Nat.le_refl _) (catB l) ((catB (l.take k)).size + K)
      clear h1 h2 HL
      obtain ⟨p, hp⟩ : ∃ p, (catB (l.take k)).size = p := ⟨_, rfl⟩
      rw [hp] at hnx hi2 hb2 hi h3 h4
      by_cases hoff : (k : Int) = off
      · have hoff' : ((k : Int) == off) = true := by simpa using hoff
        go_wp2
        go_ret2
        exact ⟨hb2, .inl ⟨k, hoff.symm, hk, by rw [hp]; rfl⟩⟩
      · have hoff' : ((k : Int) == off) = false := by simpa using hoff
        go_wp2
        go_roundw
        case rel =>
          refine ⟨⟨k + 1, hlt, by go_num, ?_, hb2⟩, ?_⟩
          · rw [h4]; exact hi2
          · have e : (IntKind.i64.wrap ((k : Int) + 1)) = (k : Int) + 1 := by rw [IntKind.wrap_i64]; omega
            simp [intOf, e]
            omega
        case measure =>
          rw [iterPos_of hi2, iterPos_of hi]
          omega
    · obtain rfl : k = l.length := by omega
      rw [List.take_length] at hi
      have hnx := fun ty => Lib.run_next_end_at (P := Tryz.prog) _ w.heap.size (catB l) _ ty hi (Nat.lt_irrefl _)
      by_cases hoff : (l.length : Int) = off
      · have hoff' : ((l.length : Int) == off) = true := by simpa using hoff
        go_wp2
        go_ret2
        exact ⟨hb, .inl ⟨l.length, hoff.symm, Nat.le_refl _, by rw [List.take_length]; rfl⟩⟩
      · have hoff' : ((l.length : Int) == off) = false := by simpa using hoff
        go_wp2
        go_ret2
        exact ⟨hb, .inr ⟨by omega, rfl⟩⟩
end Go.Proofs.YtabogkonklplcaaGreatDoor

namespace Go.Proofs.YtabogkonklplcaaGreatDoor
open Go.RowKit Go.Shelf
set_option linter.unusedSimpArgs false
set_option linter.unusedVariables false
def insRen : Go.Shelf.Ren := ⟨fun | 21 => 156 | 27 => 182 | 28 => 183 | 35 => 194 | 39 => 181 | n => n, fun | 22 => 24 | 3 => 3 | 4 => 4 | 0 => 0 | n => n, fun | n => n⟩
theorem insLay : Go.Proofs.Lays2.n21 Tryz.prog insRen := {
  mixed := by kernel_rfl
  f21 := Tryz.func156.trans (congrArg some (by kernel_rfl))
  f27 := Tryz.func182.trans (congrArg some (by kernel_rfl))
  f28 := Tryz.func183.trans (congrArg some (by kernel_rfl))
  f35 := Tryz.func194.trans (congrArg some (by kernel_rfl))
  f39 := Tryz.func181.trans (congrArg some (by kernel_rfl))
  t0 := Tryz.underlying0
  a0 := Tryz.isAgg0
  z0 := Tryz.sizeOf0
  v0 := Tryz.zeroValue0
  t3 := Tryz.underlying3
  a3 := Tryz.isAgg3
  z3 := Tryz.sizeOf3
  v3 := Tryz.zeroValue3
  t4 := Tryz.underlying4
  a4 := Tryz.isAgg4
  z4 := Tryz.sizeOf4
  v4 := Tryz.zeroValue4
  t22 := Tryz.underlying24
  a22 := Tryz.isAgg24
  z22 := Tryz.sizeOf24
  v22 := Tryz.zeroValue24
  i3 := by kernel_rfl }
theorem zeroCells_size (m : Nat) : (Builtin.zeroCells (Value.int .i64 0).cells m).size = m := by simp [Builtin.zeroCells, Value.cells]
def putAt (l : List Nat) (k j : Nat) : List Nat := l.take k ++ j :: l.drop k
theorem putAt_length (l : List Nat) (k j : Nat) (h : k ≤ l.length) : (putAt l k j).length = l.length + 1 := by simp [putAt]; omega
theorem putAt_vals (l : List Nat) (k j : Nat) : intsV (putAt l k j) = (intsV l).take k ++ Value.int .i64 (j : Int) :: (intsV l).drop k := by simp [intsV, putAt, List.map_take, List.map_drop]
def InsPost (v : Value) (ks : List Nat) (k j : Nat) (w : World) (e : Ending) (w' : World) : Prop :=
  ∃ g c, e = .returned (.slice (some ⟨g, 0, none⟩) (ks.length + 1) c) ∧ w'.ownsRow 0 3 1 (.slice (some ⟨g, 0, none⟩) (ks.length + 1) c) (ks.length + 1) (intsV (putAt ks k j)) ∧ Keeps (fun b => v.ownBlock = some b) w w' ∧ (v.ownBlock = some g ∨ w.heap.size ≤ g)
theorem intsV_cell1 (l : List Nat) : ∀ v ∈ intsV l, v.oneCell' = true := by
  intro v hv
  simp only [intsV, List.mem_map] at hv
  obtain ⟨a, _, rfl⟩ := hv
  rfl
section
variable {w : World} {vb : Nat}
theorem one_src {j : Nat} (hvb : w.heap[vb]? = some (.cells #[.int .i64 (j : Int)] 3 (0, 0))) : ∀ i v, [Value.int .i64 (j : Int)][i]? = some v → w.cell? ⟨vb, 0 + i, none⟩ = some v := by
  intro i v h
  cases i with
  | zero => simp at h; subst h; exact cell_of_heap hvb 0
  | succ i => simp at h
theorem ins_end_grow (base : Option Addr) (n c j : Nat) (ks : List Nat) (hvb : w.heap[vb]? = some (.cells #[.int .i64 (j : Int)] 3 (0, 0))) (hn : ks.length = n) (hnc : n ≤ c) (hroom : c < n + 1) (hbig : n < lots) (hnil : base = none → n = 0)
    (hcs : ∀ a, base = some a → ∀ i v, (intsV ks)[i]? = some v → w.cell? (a.add i) = some v) :
    Calls Tryz.prog 156 #[.slice base n c, .int .i64 (n : Int), .slice (some ⟨vb, 0, none⟩) 1 1] w (InsPost (.slice base n c) ks n j w) := by
  have C := Any2.slices_Insert_int_end_grow insLay base n c vb 0 1 1 (intsV ks) [.int .i64 (j : Int)] w (by decide) hnc hroom (by unfold lots at hbig; omega) (by simp [hn]) rfl hnil hcs (one_src hvb) (by simp [Value.oneCell'])
  refine C.mono ?_
  rintro e w' ⟨rfl, rfl⟩
  have hG := grownCap_ge w (n + 1) c (insRen.t 3)
  have hG2 := grownCap_le_maxLen w (n + 1) c (insRen.t 3) (by unfold maxLen; unfold lots at hbig; omega)
  generalize grownCap w (n + 1) c (insRen.t 3) = G at hG hG2
  refine ⟨w.heap.size, G, by rw [hn], ?_, ((Keeps.refl _ w).drew).alloc _, .inr (Nat.le_refl _)⟩
  refine ⟨by rw [intsV_length, putAt_length _ _ _ (by omega)]; omega, .inr ⟨w.heap.size, G, _, rfl, Nat.zero_le _, heap_alloc_new w.drew _, by omega, hG2, ?_, ?_⟩⟩
  · simp [zeroCells_size, hn]; omega
  · have : intsV (putAt ks n j) = intsV ks ++ [.int .i64 (j : Int)] := by
      rw [putAt_vals, List.take_of_length_le (by simp [hn]), List.drop_of_length_le (by simp [hn])]
    rw [this]
    simp only [Array.toList_append, List.toList_toArray, Nat.mul_one]
    rw [List.take_append_of_le_length (by simp), List.take_of_length_le (by simp)]
theorem ins_end_room (g n c j : Nat) (ks : List Nat) (cur : Array Value) (hvb : w.heap[vb]? = some (.cells #[.int .i64 (j : Int)] 3 (0, 0))) (hn : ks.length = n) (hroom : n + 1 ≤ c) (hc : c ≤ maxLen) (hcur : w.heap[g]? = some (.cells cur 3 (0, 0))) (hsz : cur.size = c) (ht : cur.toList.take n = intsV ks) :
    Calls Tryz.prog 156 #[.slice (some ⟨g, 0, none⟩) n c, .int .i64 (n : Int), .slice (some ⟨vb, 0, none⟩) 1 1] w (InsPost (.slice (some ⟨g, 0, none⟩) n c) ks n j w) := by
  have C := Any2.slices_Insert_int_end_room insLay g 0 n c vb 0 1 1 [.int .i64 (j : Int)] w (by decide) hroom (by unfold maxLen at hc; omega) rfl
    (fun i hi => by rw [cell_of_heap hcur, Array.getElem?_eq_getElem (by omega)]; rfl) (fun i hi => frozen_of_heap hcur _) (one_src hvb) (by simp [Value.oneCell'])
  refine C.mono ?_
  rintro e w' ⟨rfl, rfl⟩
  obtain ⟨cur', h1, h2, h3⟩ := heap_setCells g 3 [.int .i64 (j : Int)] n w cur hcur (by simp; omega)
  rw [Nat.zero_add]
  refine ⟨g, c, by rw [hn], ?_, keeps_setCells g _ _ _ (Keeps.refl _ w) rfl, .inl rfl⟩
  refine ⟨by rw [intsV_length, putAt_length _ _ _ (by omega)]; omega, .inr ⟨g, c, cur', rfl, Nat.zero_le _, h1, by omega, hc, by omega, ?_⟩⟩
  have : intsV (putAt ks n j) = intsV ks ++ [.int .i64 (j : Int)] := by
    rw [putAt_vals, List.take_of_length_le (by simp [hn]), List.drop_of_length_le (by simp [hn])]
  rw [this, h3, ht, Nat.mul_one, hn, List.take_append_of_le_length (by simp [hn]), List.take_of_length_le (by simp [hn])]
theorem ins_shift (g n c k j : Nat) (ks : List Nat) (cur : Array Value) (hvb : w.heap[vb]? = some (.cells #[.int .i64 (j : Int)] 3 (0, 0))) (hne : vb ≠ g) (hn : ks.length = n) (hk : k < n) (hroom : n + 1 ≤ c) (hc : c ≤ maxLen) (hcur : w.heap[g]? = some (.cells cur 3 (0, 0))) (hsz : cur.size = c) (ht : cur.toList.take n = intsV ks) :
    Calls Tryz.prog 156 #[.slice (some ⟨g, 0, none⟩) n c, .int .i64 (k : Int), .slice (some ⟨vb, 0, none⟩) 1 1] w (InsPost (.slice (some ⟨g, 0, none⟩) n c) ks k j w) := by
  have hcs : ∀ i v, (intsV ks)[i]? = some v → w.cell? ⟨g, 0 + i, none⟩ = some v := by
    intro i v hi
    have hil := (List.getElem?_eq_some_iff.1 hi).1
    simp [hn] at hil
    rw [← ht, List.getElem?_take_of_lt hil] at hi
    rw [cell_of_heap hcur, Nat.zero_add, ← Array.getElem?_toList]
    exact hi
  have C := Any2.slices_Insert_int_shift insLay g 0 n c k vb 0 1 1 (intsV ks) [.int .i64 (j : Int)] w hk (by decide) hroom (by unfold maxLen at hc; omega) hne (by simp [hn]) rfl hcs
    (fun i hi => by rw [cell_of_heap hcur, Array.getElem?_eq_getElem (by omega)]; rfl) (fun i hi => frozen_of_heap hcur _) (one_src hvb) (intsV_cell1 ks) (by simp [Value.oneCell'])
    3 3 1 c (by simp [World.shape?, hvb]) (by simp [World.shape?, hcur, hsz]) (by omega) (frozen_of_heap hvb _) (frozen_of_heap hvb _)
  refine C.mono ?_
  rintro e w' ⟨rfl, rfl⟩
  have hdl : ((intsV ks).drop k).length = n - k := by simp [hn]
  obtain ⟨cur1, h1, h2, h3⟩ := heap_setCells g 3 ((intsV ks).drop k) (k + 1) w.drew cur hcur (by omega)
  obtain ⟨cur2, g1, g2, g3⟩ := heap_setCells g 3 [.int .i64 (j : Int)] k _ cur1 h1 (by simp; omega)
  rw [Nat.zero_add, Nat.zero_add]
  refine ⟨g, c, by rw [hn], ?_, keeps_setCells g _ _ _ (keeps_setCells g _ _ _ ((Keeps.refl _ w).drew) rfl) rfl, .inl rfl⟩
  refine ⟨by rw [intsV_length, putAt_length _ _ _ (by omega)]; omega, .inr ⟨g, c, cur2, rfl, Nat.zero_le _, g1, by omega, hc, by omega, ?_⟩⟩
  have e1 : cur.toList.take k = (intsV ks).take k := by rw [← ht, List.take_take, Nat.min_eq_left (by omega)]
  have hcl : cur.toList.length = c := by simp [hsz]
  have e2 : cur1.toList.take k = (intsV ks).take k := by
    rw [h3, List.append_assoc, List.take_append_of_le_length (by simp; omega), List.take_take, Nat.min_eq_left (by omega), e1]
  have e3 : cur1.toList.drop (k + 1) = (intsV ks).drop k ++ cur.toList.drop (k + 1 + ((intsV ks).drop k).length) := by
    rw [h3, List.append_assoc, List.drop_left' (by rw [List.length_take]; omega)]
  rw [g3, putAt_vals, e2, Nat.mul_one, hn]
  simp only [List.length_singleton]
  rw [e3, List.append_assoc, List.singleton_append]
  have hl : ((intsV ks).take k ++ Value.int .i64 (j : Int) :: (intsV ks).drop k).length = n + 1 := by simp [hn]; omega
  rw [← List.cons_append, ← List.append_assoc, ← hl, List.take_append_of_le_length (Nat.le_refl _), List.take_of_length_le (Nat.le_refl _)]
theorem ins_grow (g n c k j : Nat) (ks : List Nat) (cur : Array Value) (hvb : w.heap[vb]? = some (.cells #[.int .i64 (j : Int)] 3 (0, 0))) (hn : ks.length = n) (hk : k < n) (hnc : n ≤ c) (hroom : c < n + 1) (hbig : n < lots) (hcur : w.heap[g]? = some (.cells cur 3 (0, 0))) (ht : cur.toList.take n = intsV ks) :
    Calls Tryz.prog 156 #[.slice (some ⟨g, 0, none⟩) n c, .int .i64 (k : Int), .slice (some ⟨vb, 0, none⟩) 1 1] w (InsPost (.slice (some ⟨g, 0, none⟩) n c) ks k j w) := by
  have hcs : ∀ i v, (intsV ks)[i]? = some v → w.cell? ⟨g, 0 + i, none⟩ = some v := by
    intro i v hi
    have hil := (List.getElem?_eq_some_iff.1 hi).1
    simp [hn] at hil
    rw [← ht, List.getElem?_take_of_lt hil] at hi
    rw [cell_of_heap hcur, Nat.zero_add, ← Array.getElem?_toList]
    exact hi
  have C := Any2.slices_Insert_int_grow insLay g 0 n c k vb 0 1 1 (intsV ks) [.int .i64 (j : Int)] w hk (by decide) hnc hroom (by unfold lots at hbig; omega) (by simp [hn]) rfl hcs (one_src hvb) (intsV_cell1 ks) (by simp [Value.oneCell'])
  refine C.mono ?_
  rintro e w' ⟨rfl, rfl⟩
  have hG := grownCap_ge w (n + 1) c (insRen.t 3)
  have hG2 := grownCap_le_maxLen w (n + 1) c (insRen.t 3) (by unfold maxLen; unfold lots at hbig; omega)
  generalize grownCap w (n + 1) c (insRen.t 3) = G at hG hG2
  obtain ⟨R, hR⟩ : ∃ R : Array Value, R = ((intsV ks).take k).toArray ++ Builtin.zeroCells (Value.int .i64 0).cells (n + 1 - k) ++ Builtin.zeroCells (Value.int .i64 0).cells (G - (n + 1)) := ⟨_, rfl⟩
  have hRs : R.size = G := by rw [hR]; simp [zeroCells_size, hn]; omega
  have hRt : R.toList.take k = (intsV ks).take k := by
    rw [hR]
    simp only [Array.toList_append, List.toList_toArray, List.append_assoc]
    rw [List.take_append_of_le_length (by simp [hn]; omega), List.take_take, Nat.min_self]
  rw [← hR]
  have h0 : ((w.alloc (.cells R (insRen.t 3))).drew).heap[w.heap.size]? = some (.cells R 3 (0, 0)) := heap_alloc_new w _
  have hdl : ((intsV ks).drop k).length = n - k := by simp [hn]
  obtain ⟨cur1, h1, h2, h3⟩ := heap_setCells w.heap.size 3 [.int .i64 (j : Int)] k _ R h0 (by simp; omega)
  obtain ⟨cur2, g1, g2, g3⟩ := heap_setCells w.heap.size 3 ((intsV ks).drop k) (k + 1) (((w.alloc (.cells R (insRen.t 3))).drew.setCells w.heap.size k [.int .i64 (j : Int)]).drew) cur1 h1 (by omega)
  have k1 : Keeps (fun b => (Value.slice (some ⟨g, 0, none⟩) n c).ownBlock = some b) w (((w.alloc (.cells R (insRen.t 3))).drew.setCells w.heap.size k [.int .i64 (j : Int)]).drew) := by
    have a1 : Keeps (fun _ => False) w ((w.alloc (.cells R (insRen.t 3))).drew) := ((Keeps.refl _ w).alloc _).drew
    have a2 : Keeps (fun b => b = w.heap.size) ((w.alloc (.cells R (insRen.t 3))).drew) (((w.alloc (.cells R (insRen.t 3))).drew.setCells w.heap.size k [.int .i64 (j : Int)]).drew) := (keeps_setCells (F := fun b => b = w.heap.size) w.heap.size _ _ _ (Keeps.refl _ _) rfl).drew
    exact (a1.trans (a2.mono (fun b _ e => .inr (by omega)))).mono (fun _ _ e => e.elim)
  have k2 : Keeps (fun b => b = w.heap.size) (((w.alloc (.cells R (insRen.t 3))).drew.setCells w.heap.size k [.int .i64 (j : Int)]).drew) _ := keeps_setCells w.heap.size ((intsV ks).drop k) (k + 1) _ (Keeps.refl _ _) rfl
  refine ⟨w.heap.size, G, by rw [hn], ?_, k1.trans (k2.mono (fun b _ e => .inr (by omega))), .inr (Nat.le_refl _)⟩
  refine ⟨by rw [intsV_length, putAt_length _ _ _ (by omega)]; omega, .inr ⟨w.heap.size, G, cur2, rfl, Nat.zero_le _, g1, by omega, hG2, by omega, ?_⟩⟩
  have e2 : cur1.toList.take (k + 1) = (intsV ks).take k ++ [.int .i64 (j : Int)] := by
    rw [h3, hRt, List.take_append_of_le_length (by simp [hn]; omega), List.take_of_length_le (by simp [hn]; omega)]
  rw [g3, putAt_vals, e2, Nat.mul_one, hn]
  have hl : ((intsV ks).take k ++ [Value.int .i64 (j : Int)] ++ (intsV ks).drop k).length = n + 1 := by simp [hn]; omega
  rw [← hl, List.take_append_of_le_length (Nat.le_refl _), List.take_of_length_le (Nat.le_refl _)]
  simp
end
theorem ins_one {w : World} {vb : Nat} {v : Value} {ks : List Nat} (hrow : w.ownsRow 0 3 1 v ks.length (intsV ks)) (k j : Nat) (hk : k ≤ ks.length) (hbig : ks.length < lots) (hvb : w.heap[vb]? = some (.cells #[.int .i64 (j : Int)] 3 (0, 0))) (hne : v.ownBlock ≠ some vb) :
    Calls Tryz.prog 156 #[v, .int .i64 (k : Int), .slice (some ⟨vb, 0, none⟩) 1 1] w (InsPost v ks k j w) := by
  obtain ⟨h1, h2⟩ := hrow
  rcases h2 with ⟨hv, h0⟩ | ⟨g, cap, cur, hv, _, hh, hn, hc, hs, ht⟩
  · have : ks = [] := List.eq_nil_of_length_eq_zero h0
    subst this
    subst hv
    obtain rfl : k = 0 := by simpa using hk
    exact ins_end_grow none 0 0 j [] hvb rfl (Nat.le_refl _) (by decide) (by unfold lots; decide) (fun _ => rfl) (fun a e => by cases e)
  · subst hv
    simp only [Nat.mul_one] at hs ht
    have hg : vb ≠ g := fun e => hne (by simp [Value.ownBlock, e])
    have hcs : ∀ i v, (intsV ks)[i]? = some v → w.cell? ⟨g, i, none⟩ = some v := by
      intro i v hi
      have hil := (List.getElem?_eq_some_iff.1 hi).1
      simp at hil
      rw [← ht, List.getElem?_take_of_lt hil] at hi
      rw [cell_of_heap hh, ← Array.getElem?_toList]
      exact hi
    by_cases hr : ks.length + 1 ≤ cap
    · rcases Nat.lt_or_ge k ks.length with hkl | hkl
      · exact ins_shift g ks.length cap k j ks cur hvb hg rfl hkl hr hc hh hs ht
      · obtain rfl : k = ks.length := by omega
        exact ins_end_room g ks.length cap j ks cur hvb rfl hr hc hh hs ht
    · rcases Nat.lt_or_ge k ks.length with hkl | hkl
      · exact ins_grow g ks.length cap k j ks cur hvb rfl hkl hn (by omega) hbig hh ht
      · obtain rfl : k = ks.length := by omega
        exact ins_end_grow (some ⟨g, 0, none⟩) ks.length cap j ks hvb rfl hn (by omega) hbig (fun e => by cases e) (fun a e i v hi => by cases e; rw [Addr.add_lit, Nat.zero_add]; exact hcs i v hi)
end Go.Proofs.YtabogkonklplcaaGreatDoor

namespace Go.Proofs.YtabogkonklplcaaGreatDoor
open Go.RowKit
set_option linter.unusedSimpArgs false
set_option linter.unusedVariables false
theorem spcells_get (rs : List Sp) (i : Nat) (x : Sp) (h : rs[i]? = some x) (j : Nat) (hj : j < 4) : (rs.flatMap Sp.cells)[i * 4 + j]? = x.cells[j]? := by
  induction rs generalizing i with
  | nil => simp at h
  | cons a l ih =>
    cases i with
    | zero =>
      simp at h; subst h
      rw [List.flatMap_cons, Nat.zero_mul, Nat.zero_add, List.getElem?_append_left (by simpa [Sp.cells] using hj)]
    | succ i =>
      have e : (i + 1) * 4 + j = (i * 4 + j) + 4 := by omega
      rw [e, List.flatMap_cons, List.getElem?_append_right (by simp [Sp.cells])]
      simpa [Sp.cells] using ih i (by simpa using h)
section
variable {w : World} {F : Nat → Prop} {bd bn cap : Nat} {rn : List RN} {rv : Value} {s : List Nd} {rs : List Sp}
end
end Go.Proofs.YtabogkonklplcaaGreatDoor

namespace Go.Proofs.YtabogkonklplcaaGreatDoor
open Go.RowKit
set_option linter.unusedSimpArgs false
set_option linter.unusedVariables false
abbrev spV (x : Sp) : Value := .agg #[.int .i64 x.a, .int .i64 x.b, .int .i64 x.c, .int .i64 x.d]
section
variable {w : World} {F : Nat → Prop} {bd bn cap : Nat} {rn : List RN} {rv : Value} {s : List Nd} {rs : List Sp}
end
end Go.Proofs.YtabogkonklplcaaGreatDoor

namespace Go.Proofs.YtabogkonklplcaaGreatDoor
open Go.RowKit
set_option linter.unusedSimpArgs false
set_option linter.unusedVariables false
theorem Tryz.info79 : (Tryz.prog.info? 79).map (fun i => (i.zero, i.size, i.bytes)) = some (some (.agg #[.int .i64 0, .int .i64 0, .int .i64 0, .int .i64 0]), 4, 32) := by kernel_rfl
section
variable {w : World} {F : Nat → Prop} {bd bn cap : Nat} {rn : List RN} {rv : Value} {s : List Nd} {rs : List Sp}
end
end Go.Proofs.YtabogkonklplcaaGreatDoor

namespace Go.Proofs.YtabogkonklplcaaGreatDoor
open Go.RowKit Go.Extern.Stop Go.Stop Go.Extern
set_option linter.unusedSimpArgs false
set_option linter.unusedVariables false
end Go.Proofs.YtabogkonklplcaaGreatDoor

namespace Go.Proofs.YtabogkonklplcaaGreatDoor
open Go.RowKit
set_option linter.unusedSimpArgs false
set_option linter.unusedVariables false
structure Cmp (w : World) (W fb : Nat) (a0 a1 b0 b1 f0 f1 : Int) : Prop where
  a : w.heap[W]? = some (.cells #[.int .i64 a0, .int .i64 a1] 37 (0, 0))
  b : w.heap[W + 1]? = some (.cells #[.int .i64 b0, .int .i64 b1] 37 (0, 0))
  z : w.heap[W + 1 + 1]? = some (.cells #[.int .i64 0, .int .i64 0] 32 (0, 0))
  f : w.heap[fb]? = some (.cells #[.int .i64 f0, .int .i64 f1] 32 (0, 0))
  gt : W + 2 < fb
section
variable {w w' : World} {W fb : Nat} {a0 a1 b0 b1 f0 f1 : Int}
theorem Cmp.below (h : Cmp w W fb a0 a1 b0 b1 f0 f1) (hb : Below w.heap.size w w') : Cmp w' W fb a0 a1 b0 b1 f0 f1 :=
  ⟨(hb.block _ (heap_lt h.a)).trans h.a, (hb.block _ (heap_lt h.b)).trans h.b, (hb.block _ (heap_lt h.z)).trans h.z, (hb.block _ (heap_lt h.f)).trans h.f, h.gt⟩
theorem Cmp.put (h : Cmp w W fb a0 a1 b0 b1 f0 f1) (g0 g1 : Int) : Cmp ((w.setCell ⟨fb, 0, none⟩ (.int .i64 g0)).setCell ⟨fb, 1, none⟩ (.int .i64 g1)) W fb a0 a1 b0 b1 g0 g1 := by
  have hg := h.gt
  have hk : ∀ i, i ≠ fb → ((w.setCell ⟨fb, 0, none⟩ (.int .i64 g0)).setCell ⟨fb, 1, none⟩ (.int .i64 g1)).heap[i]? = w.heap[i]? := fun i hi => by
    rw [Below.heap_setCell _ _ _ _ (by simpa using hi), Below.heap_setCell _ _ _ _ (by simpa using hi)]
  refine ⟨(hk _ (by omega)).trans h.a, (hk _ (by omega)).trans h.b, (hk _ (by omega)).trans h.z, ?_, hg⟩
  rw [heap_setCell_same _ fb 1 _ _ _ (heap_setCell_same w fb 0 _ _ _ h.f)]
  simp
theorem Cmp.cells (h : Cmp w W fb a0 a1 b0 b1 f0 f1) :
    (w.cell? ⟨W, 0, none⟩ = some (.int .i64 a0) ∧ w.cell? ⟨W, 1, none⟩ = some (.int .i64 a1)) ∧ (w.cell? ⟨W + 1, 0, none⟩ = some (.int .i64 b0) ∧ w.cell? ⟨W + 1, 1, none⟩ = some (.int .i64 b1)) ∧
    (w.cell? ⟨W + 1 + 1, 0, none⟩ = some (.int .i64 0) ∧ w.cell? ⟨W + 1 + 1, 1, none⟩ = some (.int .i64 0)) ∧ (w.cell? ⟨fb, 0, none⟩ = some (.int .i64 f0) ∧ w.cell? ⟨fb, 1, none⟩ = some (.int .i64 f1)) :=
  ⟨⟨cell_of_heap h.a 0, cell_of_heap h.a 1⟩, ⟨cell_of_heap h.b 0, cell_of_heap h.b 1⟩, ⟨cell_of_heap h.z 0, cell_of_heap h.z 1⟩, ⟨cell_of_heap h.f 0, cell_of_heap h.f 1⟩⟩
theorem Cmp.first {w1 w2 : World} (hb1 : Below (three w a0 a1 b0 b1).heap.size (three w a0 a1 b0 b1) w1) (hb2 : Below (w1.alloc (.cells #[.int .i64 f0, .int .i64 f1] 32)).heap.size (w1.alloc (.cells #[.int .i64 f0, .int .i64 f1] 32)) w2) :
    Cmp w2 w.heap.size w1.heap.size a0 a1 b0 b1 f0 f1 ∧ Below w.heap.size w w2 := by
  have hs1 : w.heap.size + 3 ≤ w1.heap.size := by have := hb1.size; simpa using this
  have hB1 : Below w.heap.size w w1 := (three_below w a0 a1 b0 b1).trans (hb1.mono (three_below w a0 a1 b0 b1).size)
  have hal := ((Below.refl _ w1).alloc (Nat.le_refl _) (.cells #[.int .i64 f0, .int .i64 f1] 32)).trans (hb2.mono (by simp))
  have k0 : (three w a0 a1 b0 b1).heap[w.heap.size]? = some (.cells #[.int .i64 a0, .int .i64 a1] 37 (0, 0)) := by
    rw [((Below.refl _ (w.alloc (.cells #[.int .i64 a0, .int .i64 a1] 37))).alloc (Nat.le_refl _) (.cells #[.int .i64 b0, .int .i64 b1] 37)).alloc (by simp) (.cells #[.int .i64 0, .int .i64 0] 32) |>.block w.heap.size (by simp)]
    exact heap_alloc_new w _
  have k1 : (three w a0 a1 b0 b1).heap[w.heap.size + 1]? = some (.cells #[.int .i64 b0, .int .i64 b1] 37 (0, 0)) := by
    rw [((Below.refl _ ((w.alloc (.cells #[.int .i64 a0, .int .i64 a1] 37)).alloc (.cells #[.int .i64 b0, .int .i64 b1] 37))).alloc (Nat.le_refl _) (.cells #[.int .i64 0, .int .i64 0] 32)).block (w.heap.size + 1) (by simp)]
    have := heap_alloc_new (w.alloc (.cells #[.int .i64 a0, .int .i64 a1] 37)) (.cells #[.int .i64 b0, .int .i64 b1] 37)
    simpa using this
  have k2 : (three w a0 a1 b0 b1).heap[w.heap.size + 1 + 1]? = some (.cells #[.int .i64 0, .int .i64 0] 32 (0, 0)) := by
    have := heap_alloc_new ((w.alloc (.cells #[.int .i64 a0, .int .i64 a1] 37)).alloc (.cells #[.int .i64 b0, .int .i64 b1] 37)) (.cells #[.int .i64 0, .int .i64 0] 32)
    simpa using this
  have up : ∀ i, i < w.heap.size + 3 → w2.heap[i]? = (three w a0 a1 b0 b1).heap[i]? := fun i hi => (hal.block i (by omega)).trans (hb1.block i (by simp; omega))
  refine ⟨⟨(up _ (by omega)).trans k0, (up _ (by omega)).trans k1, (up _ (by omega)).trans k2, (hb2.block _ (by simp)).trans (heap_alloc_new w1 _), by omega⟩, hB1.trans (hal.mono hB1.size)⟩
end
end Go.Proofs.YtabogkonklplcaaGreatDoor

namespace Go.Proofs.YtabogkonklplcaaGreatDoor
open Go.RowKit
set_option linter.unusedSimpArgs false
set_option linter.unusedVariables false
section
variable {w : World} {F : Nat → Prop} {bd bn cap : Nat} {rn : List RN} {rv : Value} {s : List Nd} {rs : List Sp}
end
end Go.Proofs.YtabogkonklplcaaGreatDoor

namespace Go.Proofs.YtabogkonklplcaaGreatDoor
open Go.RowKit
set_option linter.unusedSimpArgs false
set_option linter.unusedVariables false
theorem climb_neg {s : List Nd} {j n : Nat} (h : climb s j n < 0) : ∀ i, climb s (j + i) n < 0 := by
  intro i
  induction i with
  | zero => exact h
  | succ i ih =>
    show climb s (j + i + 1) n < 0
    simp [climb, ih]
theorem IsTop.one {s : List Nd} {n t t' : Nat} (h : IsTop s n t) (h' : IsTop s n t') : t = t' := by
  have key : ∀ {a b : Nat} {i j : Nat} {x : Nd}, climb s i n = (a : Int) → s[a]? = some x → x.p = -1 → climb s j n = (b : Int) → ¬ i < j := by
    intro a b i j x h1 h2 h3 h4 hlt
    have e : climb s (i + 1) n < 0 := by rw [climb_step h1]; simp [parOf, h2, h3]
    have := climb_neg e (j - (i + 1))
    rw [show i + 1 + (j - (i + 1)) = j by omega, h4] at this
    omega
  obtain ⟨⟨i, hi⟩, x, hx, hp⟩ := h
  obtain ⟨⟨j, hj⟩, y, hy, hq⟩ := h'
  have h1 := key hi hx hp hj
  have h2 := key hj hy hq hi
  obtain rfl : i = j := by omega
  rw [hi] at hj
  omega
theorem IsTop.up {s : List Nd} {n q t : Nat} {x : Nd} (hx : s[n]? = some x) (hp : x.p = (q : Int)) (h : IsTop s q t) : IsTop s n t := by
  obtain ⟨⟨m, hm⟩, r⟩ := h
  have e : climb s 1 n = (q : Int) := by
    show climb s (0 + 1) n = _
    rw [climb_step (show climb s 0 n = (n : Int) from rfl)]
    simp [parOf, hx, hp]
  exact ⟨⟨1 + m, by rw [climb_add e, hm]⟩, r⟩
theorem top_there {s : List Nd} (wf : WF s) : ∀ n, n < s.length → ∃ t, IsTop s n t := by
  obtain ⟨h, B, u⟩ := wf.up
  have key : ∀ k n, n < s.length → B - h n < k → ∃ t, IsTop s n t := by
    intro k
    induction k with
    | zero => intro n _ hk; omega
    | succ k ih =>
      intro n hn hk
      have hx : s[n]? = some s[n] := List.getElem?_eq_getElem hn
      rcases wf.par n _ hx with e | ⟨q, y, e, hy, _⟩
      · exact ⟨n, ⟨0, rfl⟩, _, hx, e⟩
      · have hup := u.par n _ hx (by omega)
        rw [e] at hup
        simp at hup
        have := u.le q
        obtain ⟨t, ht⟩ := ih q (List.getElem?_eq_some_iff.1 hy).1 (by omega)
        exact ⟨t, ht.up hx e⟩
  intro n hn
  exact key (B - h n + 1) n hn (by omega)
section
variable {w : World} {F : Nat → Prop} {bd bn cap : Nat} {rn : List RN} {rv : Value} {s : List Nd} {rs : List Sp}
theorem IsWhere.one {l : List (Nat × Nat)} {p : Nat × Nat} {q q' : Int} (h : IsWhere l p q) (h' : IsWhere l p q') : q = q' := by
  have key : ∀ {i j : Nat}, l[i]? = some p → p ∉ l.take j → ¬ i < j := fun h1 h2 hlt => h2 (List.mem_of_getElem? (i := _) (by rw [List.getElem?_take, if_pos hlt]; exact h1))
  rcases h with ⟨i, rfl, hi, hi'⟩ | ⟨rfl, hn⟩ <;> rcases h' with ⟨j, rfl, hj, hj'⟩ | ⟨rfl, hn'⟩
  · have h1 := key hi hj'
    have h2 := key hj hi'
    omega
  · exact absurd (List.mem_of_getElem? hi) hn'
  · exact absurd (List.mem_of_getElem? hj) hn
  · rfl
end
end Go.Proofs.YtabogkonklplcaaGreatDoor

namespace Go.Proofs.YtabogkonklplcaaGreatDoor
open Go.RowKit
set_option linter.unusedSimpArgs false
set_option linter.unusedVariables false
theorem spcells_set (rs : List Sp) (i : Nat) (r r' : Sp) (h : rs[i]? = some r) (j : Nat) (hj : j < 4) (u : Value) (he : r'.cells = r.cells.set j u) :
    (rs.flatMap Sp.cells).set (i * 4 + j) u = (rs.set i r').flatMap Sp.cells := by
  induction rs generalizing i with
  | nil => simp at h
  | cons a l ih =>
    cases i with
    | zero =>
      simp at h; subst h
      simp only [List.flatMap_cons, List.set_cons_zero, Nat.zero_mul, Nat.zero_add]
      rw [List.set_append_left _ _ (by simpa [Sp.cells] using hj), ← he]
    | succ i =>
      have e : (i + 1) * 4 + j = (i * 4 + j) + 4 := by omega
      simp only [List.flatMap_cons, List.set_cons_succ]
      rw [e, List.set_append_right _ _ (by simp [Sp.cells])]
      congr 1
      simpa [Sp.cells] using ih i (by simpa using h)
section
variable {w : World} {F : Nat → Prop} {bd bn cap : Nat} {rn : List RN} {rv : Value} {s : List Nd} {rs : List Sp}
theorem RDocAt.spanCells (hD : RDocAt w F bd bn cap rn rv s rs) {r : Nat} {x : Sp} (hx : rs[r]? = some x) : ∃ g c, rv = .slice (some ⟨g, 0, none⟩) rs.length c ∧ g < w.heap.size ∧ F g ∧ g ≠ bd ∧ g ≠ bn ∧ w.cell? ⟨g, r * 4, none⟩ = some (.int .i64 x.a) ∧ w.cell? ⟨g, r * 4 + 1, none⟩ = some (.int .i64 x.b) ∧ w.cell? ⟨g, r * 4 + 2, none⟩ = some (.int .i64 x.c) ∧ w.cell? ⟨g, r * 4 + 3, none⟩ = some (.int .i64 x.d) ∧
    (∀ o, w.frozen? ⟨g, o, none⟩ = false) := by
  have hr : r < rs.length := (List.getElem?_eq_some_iff.1 hx).1
  obtain ⟨g, rc, hrve⟩ : ∃ g c, rv = .slice (some ⟨g, 0, none⟩) rs.length c := by
    rcases row_cases hD.ranges with ⟨_, h0⟩ | ⟨g, c, h⟩
    · omega
    · exact ⟨g, c, h⟩
  have hrow := hD.ranges
  have ha := hD.apart g (by rw [hrve]; rfl)
  rw [hrve] at hrow
  refine ⟨g, rc, hrve, (hrow.lt g rfl).2, ha.1, ha.2.1, ha.2.2, ?_, ?_, ?_, ?_, fun o => hrow.frozenAt o⟩
  · have := hrow.cellAt (r * 4 + 0) (by omega); rw [spcells_get rs r x hx 0 (by omega)] at this; simpa [Sp.cells] using this
  · have := hrow.cellAt (r * 4 + 1) (by omega); rw [spcells_get rs r x hx 1 (by omega)] at this; simpa [Sp.cells] using this
  · have := hrow.cellAt (r * 4 + 2) (by omega); rw [spcells_get rs r x hx 2 (by omega)] at this; simpa [Sp.cells] using this
  · have := hrow.cellAt (r * 4 + 3) (by omega); rw [spcells_get rs r x hx 3 (by omega)] at this; simpa [Sp.cells] using this
end
theorem set_mid {α : Type} (f : α → α) (rs : List α) (q : Nat) (x : α) (hx : rs[q]? = some x) : ((rs.take q).map f ++ rs.drop q).set q (f x) = (rs.take (q + 1)).map f ++ rs.drop (q + 1) := by
  have hq : q < rs.length := (List.getElem?_eq_some_iff.1 hx).1
  have hd : rs.drop q = x :: rs.drop (q + 1) := by
    rw [List.drop_eq_getElem_cons hq]
    rw [(List.getElem?_eq_some_iff.1 hx).2]
  rw [hd, List.set_append_right _ _ (by simp; omega)]
  have e : q - ((rs.take q).map f).length = 0 := by simp; omega
  rw [e, List.set_cons_zero, List.take_add_one, hx]
  simp
theorem get_mid {α : Type} (f : α → α) (rs : List α) (q : Nat) (x : α) (hx : rs[q]? = some x) : ((rs.take q).map f ++ rs.drop q)[q]? = some x := by
  have hq : q < rs.length := (List.getElem?_eq_some_iff.1 hx).1
  rw [List.getElem?_append_right (by simp; omega)]
  have e : q - ((rs.take q).map f).length = 0 := by simp; omega
  rw [e]
  simpa using hx
section
variable {w : World} {F : Nat → Prop} {bd bn cap : Nat} {rn : List RN} {rv : Value} {s : List Nd} {rs : List Sp}
end
end Go.Proofs.YtabogkonklplcaaGreatDoor

namespace Go.Proofs.YtabogkonklplcaaGreatDoor
open Go.RowKit
set_option linter.unusedSimpArgs false
set_option linter.unusedVariables false
section
variable {w : World} {F : Nat → Prop} {bd bn cap : Nat} {rn : List RN} {rv : Value} {s : List Nd} {rs : List Sp}
end
end Go.Proofs.YtabogkonklplcaaGreatDoor

namespace Go.Proofs.YtabogkonklplcaaGreatDoor
set_option linter.unusedSimpArgs false
set_option linter.unusedVariables false
def lexC : List Nat → List Nat → Int
  | [], [] => 0
  | [], _ :: _ => -1
  | _ :: _, [] => 1
  | a :: l, b :: m => if a < b then -1 else if b < a then 1 else lexC l m
inductive Way (s : List Nd) (t : Nat) : Nat → List Nat → Prop
  | top : Way s t t []
  | down {q c i : Nat} {l : List Nat} {y : Nd} : Way s t q l → s[q]? = some y → y.ks[i]? = some c → Way s t c (l ++ [i])
def pw (l : List Nat) (k : Nat) : List Nat := l.map (fun i => 2 * i + 1) ++ [2 * k]
theorem lexN_nil {l : List Nat} (h : lexN l []) : False := by cases h
theorem lexN_cons {a b : Nat} {l m : List Nat} (h : lexN (a :: l) (b :: m)) : a < b ∨ a = b ∧ lexN l m := by
  cases h with
  | rel h => exact .inl h
  | cons h => exact .inr ⟨rfl, h⟩
theorem pw_nil (k : Nat) : pw [] k = [2 * k] := rfl
theorem pw_cons (a : Nat) (l : List Nat) (k : Nat) : pw (a :: l) k = (2 * a + 1) :: pw l k := rfl
theorem lexC_lt : ∀ (l1 l2 : List Nat) (k1 k2 : Nat), lexN (pw l1 k1) (pw l2 k2) → lexC (l1 ++ [k1]) (l2 ++ [k2]) = -1 := by
  intro l1
  induction l1 with
  | nil =>
    intro l2 k1 k2 h
    cases l2 with
    | nil =>
      simp only [pw_nil, pw_cons] at h
      rcases lexN_cons h with h | ⟨_, h⟩
      · simp only [List.nil_append, lexC]; rw [if_pos (by omega)]
      · exact absurd h (fun h => lexN_nil h)
    | cons b m =>
      simp only [pw_nil, pw_cons] at h
      rcases lexN_cons h with h | ⟨h, _⟩
      · simp only [List.nil_append, List.cons_append, lexC]
        by_cases hb : k1 < b
        · rw [if_pos hb]
        · rw [if_neg hb, if_neg (by omega)]
          cases m <;> rfl
      · omega
  | cons a l ih =>
    intro l2 k1 k2 h
    cases l2 with
    | nil =>
      simp only [pw_nil, pw_cons] at h
      rcases lexN_cons h with h | ⟨h, _⟩
      · simp only [List.nil_append, List.cons_append, lexC]; rw [if_pos (by omega)]
      · omega
    | cons b m =>
      simp only [pw_nil, pw_cons] at h
      rcases lexN_cons h with h | ⟨h, h'⟩
      · simp only [List.cons_append, lexC]; rw [if_pos (by omega)]
      · simp only [List.cons_append, lexC]; rw [if_neg (by omega), if_neg (by omega)]; exact ih m k1 k2 h'
theorem lexC_neg : ∀ (l m : List Nat), lexC l m = - lexC m l := by
  intro l
  induction l with
  | nil => intro m; cases m <;> rfl
  | cons a l ih =>
    intro m
    cases m with
    | nil => rfl
    | cons b m =>
      simp only [lexC]
      by_cases h1 : a < b
      · rw [if_pos h1, if_neg (by omega), if_pos h1]
      · by_cases h2 : b < a
        · rw [if_neg h1, if_pos h2, if_pos h2]; rfl
        · rw [if_neg h1, if_neg h2, if_neg h2, if_neg h1]; exact ih m
theorem lexC_self (l : List Nat) : lexC l l = 0 := by
  induction l with
  | nil => rfl
  | cons a l ih => simp [lexC, ih]
theorem pw_inj {l1 l2 : List Nat} {k1 k2 : Nat} (h : pw l1 k1 = pw l2 k2) : l1 ++ [k1] = l2 ++ [k2] := by
  unfold pw at h
  have h1 := List.append_inj_left' h rfl
  have h2 := List.append_inj_right' h rfl
  have h3 : l1 = l2 := by
    refine (List.map_inj_right ?_).1 h1
    intro a b e
    omega
  have h4 : k1 = k2 := by simp at h2; omega
  rw [h3, h4]
theorem way_len {s : List Nd} {h : Nat → Nat} {B : Nat} (wf : WF s) (u : Up s h B) {t n : Nat} {l : List Nat} (w : Way s t n l) : h n + l.length ≤ h t := by
  induction w with
  | top => simp
  | down w hq hi ih =>
    have := (wf.kid_lt u hq (List.mem_of_getElem? hi)).2
    rw [List.length_append]
    simp
    omega
theorem way_pp {s : List Nd} (wf : WF s) {t n : Nat} {l : List Nat} (w : Way s t n l) : ∀ (K : Nat) (e : PP), e ∈ ppF s K n → (e.1, l.map (fun i => 2 * i + 1) ++ e.2) ∈ ppF s (K + l.length) t := by
  induction w with
  | top => intro K e h; simpa using h
  | @down q c i l y w hq hi ih =>
    intro K e h
    have hk : kidsOf s q = y.ks := kidsOf_eq hq
    have hl : i < y.ks.length := (List.getElem?_eq_some_iff.1 hi).1
    have hsz : i ≤ sizeAt s q := by
      rw [sizeAt_eq hq]
      cases ht : y.t with
      | true => have := (wf.elem q y hq).1 ht; rw [this] at hl; simp at hl
      | false => rw [sizeN_elem ht]; omega
    have h1 := ih (K + 1) _ (pp_down (k := K) (n := q) (j := i) (c := c) (by rw [hk]; exact hi) hsz h)
    have e1 : K + 1 + l.length = K + (l ++ [i]).length := by simp; omega
    rw [e1] at h1
    simpa using h1
theorem cmp_ways {s : List Nd} (wf : WF s) {h : Nat → Nat} {B : Nat} (u : Up s h B) {t n k n2 k2 : Nat} {l l2 : List Nat} (wa : Way s t n l) (wb : Way s t n2 l2) (hk : k ≤ sizeAt s n) (hk2 : k2 ≤ sizeAt s n2) {qa qb : Int} (ha : IsWhere (plF s (B + 1) t) (n, k) qa) (hb : IsWhere (plF s (B + 1) t) (n2, k2) qb) :
    lexC (l ++ [k]) (l2 ++ [k2]) = if qa < qb then -1 else if qb < qa then 1 else 0 := by
  have key : ∀ {n k : Nat} {l : List Nat}, Way s t n l → k ≤ sizeAt s n → ((n, k), pw l k) ∈ ppF s (B + 1) t := by
    intro n k l wy hk
    have h1 := way_len wf u wy
    have h2 := u.le t
    have h3 := way_pp wf wy (B - l.length + 1) _ (pp_here (k := B - l.length) hk)
    have e : B - l.length + 1 + l.length = B + 1 := by omega
    rw [e] at h3
    exact h3
  obtain ⟨o1, o2, o3⟩ := pp_order wf (key wa hk) (key wb hk2) ha hb
  by_cases h1 : qa < qb
  · rw [if_pos h1]; exact lexC_lt _ _ _ _ (o1 h1)
  · by_cases h2 : qb < qa
    · rw [if_neg h1, if_pos h2, lexC_neg, lexC_lt _ _ _ _ (o2 h2)]; rfl
    · rw [if_neg h1, if_neg h2, pw_inj (o3 (by omega)).1, lexC_self]
end Go.Proofs.YtabogkonklplcaaGreatDoor

namespace Go.Proofs.YtabogkonklplcaaGreatDoor
open Go.RowKit
set_option linter.unusedSimpArgs false
set_option linter.unusedVariables false
abbrev Bld (B b : Nat) (bs : List Value) (w : World) : Prop := Lib.IsBuilder 219 5 B b bs w
abbrev BldU (B b : Nat) (bs : List Value) (w : World) : Prop := Lib.BuilderAt 219 5 B b (ptr b) bs w
theorem Tryz.sizeBld : (Tryz.prog.info? 219).map (·.size) = some 2 := by kernel_rfl
set_option maxHeartbeats 1000000 in
set_option maxRecDepth 100000 in
theorem bcheck_used (b : Nat) (w : World) (h0 : w.cell? ⟨b, 0, none⟩ = some (ptr b)) :
    Calls Tryz.prog 184 #[ptr b] w fun e w' => e = .returned (.tuple #[]) ∧ w' = w := by
  obtain ⟨j, hj, _⟩ := Option.map_eq_some_iff.1 Tryz.sizeBld
  go_enter Tryz.func184, Tryz.ntmps184
  go_wp2
  rw [Lib.run_neq_ptr_same w _ Tryz.underlying216 hj]
  go_wp2
  go_end0
  exact ⟨rfl, rfl⟩
set_option maxHeartbeats 1000000 in
set_option maxRecDepth 100000 in
theorem bcheck_fresh (b : Nat) (w : World) (h0 : w.cell? ⟨b, 0, none⟩ = some (.pointer none)) (hsh : w.shape? b = some (219, 2)) (hfz : w.frozen? ⟨b, 0, none⟩ = false) :
    Calls Tryz.prog 184 #[ptr b] w fun e w' => e = .returned (.tuple #[]) ∧ w' = w.setCell ⟨b, 0, none⟩ (ptr b) := by
  obtain ⟨j, hj, hjs⟩ := Option.map_eq_some_iff.1 Tryz.sizeBld
  go_enter Tryz.func184, Tryz.ntmps184
  go_wp2
  rw [Lib.run_to_unsafe w ⟨b, 0, none⟩ Tryz.underlying216 Tryz.underlying203 hj (by rw [hjs]; decide) hsh (Nat.zero_lt_succ 1)]
  simp only [Result.andThen]
  rw [Oper.upon_value]
  go_wp2
  rw [run_callFunc_extern Tryz.func195 (by kernel_rfl) (by kernel_rfl) (by kernel_rfl) (e := Extern.AbiNoEscape.same) (by kernel_rfl)]
  rw [Lib.run_noEscape]
  simp only [Result.andThen]
  rw [Oper.upon_value]
  go_wp2
  rw [Lib.run_from_unsafe w ⟨b, 0, none⟩ Tryz.underlying203 Tryz.underlying216 hj hsh (by kernel_rfl)]
  simp only [Result.andThen]
  rw [Oper.upon_value]
  go_wp2
  go_end0
  exact ⟨rfl, rfl⟩
def IterKept (w w' : World) : Prop := ∀ (k : Nat) (t : ByteArray) (p : Nat), w.heap[k]? = some (.stringIter t p) → w'.heap[k]? = some (.stringIter t p)
theorem IterKept.refl (w : World) : IterKept w w := fun _ _ _ h => h
theorem IterKept.trans {a b c : World} (h : IterKept a b) (g : IterKept b c) : IterKept a c := fun k t p hk => g k t p (h k t p hk)
theorem IterKept.alloc (w : World) (o : Obj) : IterKept w (w.alloc o) := fun k t p hk => by rw [Below.heap_alloc _ _ _ (heap_lt hk)]; exact hk
theorem IterKept.setCell {w : World} {b o : Nat} {cur : Array Value} {e : TypeId} {fz : Nat × Nat} (v : Value) (hb : w.heap[b]? = some (.cells cur e fz)) : IterKept w (w.setCell ⟨b, o, none⟩ v) := fun k t p hk => by
  have hne : k ≠ b := fun e => by subst e; rw [hb] at hk; cases hk
  have h := (Keeps.refl (fun x => x = b) w).setCell (p := ⟨b, o, none⟩) (.inl rfl) v
  rw [h.block k (heap_lt hk) hne]; exact hk
theorem IterKept.grown {w w' : World} {B : Nat} {v : Value} {n : Nat} {xs : List Value} {e : TypeId} {z : Nat} (hown : w.ownsRow B e z v n xs) (hg : w.grownBy w' v.ownBlock) : IterKept w w' := fun k t p hk => by
  rw [hg.block k (heap_lt hk) ?_]
  · exact hk
  · intro e
    rcases hown.2 with ⟨hv, _⟩ | ⟨g, cap, cur, hv, _, hh, _⟩
    · rw [hv] at e; cases e
    · rw [hv] at e
      cases e
      rw [hh] at hk; cases hk
theorem bcheck {B b : Nat} {bs : List Value} {w : World} (h : Bld B b bs w) :
    Calls Tryz.prog 184 #[ptr b] w fun e w' => e = .returned (.tuple #[]) ∧ BldU B b bs w' ∧ Below B w w' ∧ IterKept w w' := by
  rcases h with h | h
  · refine (bcheck_fresh b w h.cell0 h.shape h.frozen0).mono ?_
    rintro e w' ⟨rfl, rfl⟩
    have h2 := h
    obtain ⟨_, v, hb, _⟩ := h2
    exact ⟨rfl, h.used _, (Below.refl B w).setCell (p := ⟨b, 0, none⟩) h.1 _, IterKept.setCell _ hb⟩
  · refine (bcheck_used b w h.cell0).mono ?_
    rintro e w' ⟨rfl, rfl⟩
    exact ⟨rfl, h, Below.refl B _, IterKept.refl _⟩
end Go.Proofs.YtabogkonklplcaaGreatDoor

namespace Go.Proofs.YtabogkonklplcaaGreatDoor
open Go.RowKit
set_option linter.unusedSimpArgs false
set_option linter.unusedVariables false
theorem Tryz.info5 : (Tryz.prog.info? 5).map (fun i => (i.zero, i.size, i.bytes)) = some (some (.int .u8 0), 1, 1) := by kernel_rfl
theorem bld_put {B b : Nat} {bs bs' : List Value} {v v' : Value} {w0 w1 w2 : World} (hB : B ≤ b) (hbk : w1.heap[b]? = some (.cells #[ptr b, v] 219 (0, 0))) (hne : v.ownBlock ≠ some b) (hown : w1.ownsRow B 5 1 v bs.length bs)
    (h01 : Below B w0 w1) (hik : IterKept w0 w1) (hBw : B ≤ w1.heap.size) (hg : w1.grownBy w2 v.ownBlock) (hown' : w2.ownsRow B 5 1 v' bs'.length bs') :
    BldU B b bs' (w2.setCell ⟨b, 1, none⟩ v') ∧ (Below B w0 (w2.setCell ⟨b, 1, none⟩ v') ∧ IterKept w0 (w2.setCell ⟨b, 1, none⟩ v')) ∧ w2.heap[b]? = some (.cells #[ptr b, v] 219 (0, 0)) := by
  have hb2 : w2.heap[b]? = some (.cells #[ptr b, v] 219 (0, 0)) := by
    rw [hg.block b (heap_lt hbk) (fun e => hne e.symm)]
    exact hbk
  exact ⟨Lib.BuilderAt.put hB hb2 hown' (by decide), ⟨(h01.grown hg hBw (fun k hk => (hown.lt k hk).1)).setCell (p := ⟨b, 1, none⟩) hB _, (hik.trans (IterKept.grown hown hg)).trans (IterKept.setCell _ hb2)⟩, hb2⟩
theorem bld_slice {B : Nat} {bs : List Value} {v : Value} {w : World} (h : w.ownsRow B 5 1 v bs.length bs) : ∃ a n c, v = .slice a n c := by
  rcases h.2 with ⟨hv, _⟩ | ⟨g, cap, cur, hv, _⟩
  · exact ⟨_, _, _, hv⟩
  · exact ⟨_, _, _, hv⟩
set_option maxHeartbeats 2000000 in
set_option maxRecDepth 100000 in
theorem bwrite_byte {B b : Nat} {bs : List Value} (c : Int) {w : World} (h : Bld B b bs w) (hlen : bs.length < lots) (hBw : B ≤ w.heap.size) :
    Calls Tryz.prog 177 #[ptr b, .int .u8 c] w fun e w' => e = .returned .nilIface ∧ BldU B b (bs ++ [.int .u8 c]) w' ∧ Below B w w' ∧ IterKept w w' := by
  obtain ⟨i0, hi, hz0, hz1, hz2⟩ := info_parts Tryz.info5
  have C := hid (bcheck h)
  clear h
  go_enter Tryz.func177, Tryz.ntmps177
  go_wp2_with (go_at_call 184; refine C.out.mono ?_)
  rintro e w1 ⟨rfl, h1, hb1, hk1⟩
  obtain ⟨hB, v, hbk, hown, hne⟩ := h1
  have hsz := hb1.size
  obtain ⟨a0, n0, p0, rfl⟩ := bld_slice hown
  have c1 : w1.cell? ⟨b, 1, none⟩ = some (.slice a0 n0 p0) := cell_of_heap hbk 1
  have hbn : ¬ b = w1.heap.size := by have := heap_lt hbk; omega
  go_wp2_with (at_builtin; refine wpList_append_own _ rfl _ _ 217 rfl B 5 i0 (.int .u8 0) 1 1 Tryz.underlying217 hi hz0 hz1 hz2 rfl (by decide) (.slice a0 n0 p0) _ _ rfl (hown.alloc _) ⟨w1.heap.size, 0, none⟩ 1 1 [.int .u8 c] rfl rfl (cell_one_new _ _ _) (by simp [Value.oneCell']) (by unfold maxLen; unfold lots at hlen; omega) (by unfold lots at hlen; omega) (by simp; omega) ?_)
  intro v' w2 hown' hgrow _
  have hbk' : (w1.alloc (.cells #[.int .u8 c] 5)).heap[b]? = some (.cells #[ptr b, .slice a0 n0 p0] 219 (0, 0)) := by rw [Below.heap_alloc _ _ _ (heap_lt hbk)]; exact hbk
  have P := hid (bld_put (bs' := bs ++ [.int .u8 c]) hB hbk' hne (hown.alloc _) (hb1.alloc (by omega) _) (hk1.trans (IterKept.alloc _ _)) (by simp; omega) hgrow (by simpa using hown'))
  obtain ⟨ao, n', cap, rfl⟩ := bld_slice (bs := bs ++ [.int .u8 c]) (by simpa using hown')
  have d1 : w2.cell? ⟨b, 1, none⟩ = some (.slice a0 n0 p0) := cell_of_heap P.out.2.2 1
  have f1 : w2.frozen? ⟨b, 1, none⟩ = false := frozen_of_heap P.out.2.2 1
  clear hown' hgrow hbk' hown hbk hne
  go_wp2
  go_ret
  exact ⟨rfl, P.out.1, P.out.2.1⟩
set_option maxHeartbeats 2000000 in
set_option maxRecDepth 100000 in
theorem bwrite_string {B b : Nat} {bs : List Value} (s : ByteArray) {w : World} (h : Bld B b bs w) (hlen : bs.length + s.size < lots) (hBw : B ≤ w.heap.size) :
    Calls Tryz.prog 174 #[ptr b, .string s] w fun e w' => e = .returned (.tuple #[.int .i64 s.size, .nilIface]) ∧ BldU B b (bs ++ Lib.strCells s) w' ∧ Below B w w' ∧ IterKept w w' := by
  obtain ⟨i0, hi, hz0, hz1, hz2⟩ := info_parts Tryz.info5
  have C := hid (bcheck h)
  clear h
  go_enter Tryz.func174, Tryz.ntmps174
  go_wp2_with (go_at_call 184; refine C.out.mono ?_)
  rintro e w1 ⟨rfl, h1, hb1, hk1⟩
  obtain ⟨hB, v, hbk, hown, hne⟩ := h1
  have hsz := hb1.size
  obtain ⟨a0, n0, p0, rfl⟩ := bld_slice hown
  have c1 : w1.cell? ⟨b, 1, none⟩ = some (.slice a0 n0 p0) := cell_of_heap hbk 1
  go_wp2_with (at_builtin; refine Lib.wpList_append_own_string _ rfl _ _ 217 9 rfl B 5 i0 Tryz.underlying217 Tryz.underlying9 hi hz0 hz1 hz2 (.slice a0 n0 p0) _ _ rfl hown s rfl (by unfold maxLen; unfold lots at hlen; omega) (by unfold lots at hlen; omega) (by omega) ?_)
  intro v' w2 hown' hgrow _
  have P := hid (bld_put (bs' := bs ++ Lib.strCells s) hB hbk hne hown hb1 hk1 (by omega) hgrow (by simpa [Lib.strCells_length] using hown'))
  obtain ⟨ao, n', cap, rfl⟩ := bld_slice (bs := bs ++ Lib.strCells s) (by simpa [Lib.strCells_length] using hown')
  have d1 : w2.cell? ⟨b, 1, none⟩ = some (.slice a0 n0 p0) := cell_of_heap P.out.2.2 1
  have f1 : w2.frozen? ⟨b, 1, none⟩ = false := frozen_of_heap P.out.2.2 1
  clear hown' hgrow hown hbk hne
  go_wp2
  go_ret2
  exact ⟨rfl, P.out.1, P.out.2.1⟩
def RuneWrote (B b : Nat) (bs : List Value) (w : World) (e : Ending) (w' : World) : Prop := ∃ n : Int, e = .returned (.tuple #[.int .i64 n, .nilIface]) ∧ BldU B b bs w' ∧ Below B w w' ∧ IterKept w w'
set_option maxHeartbeats 2000000 in
set_option maxRecDepth 100000 in
theorem bwrite_rune {B b : Nat} {bs : List Value} (r : Int) (hr0 : 0 ≤ r) (hr1 : r ≤ 2147483647) {w : World} (h : Bld B b bs w) (hlen : bs.length < lots) (hBw : B ≤ w.heap.size) :
    Calls Tryz.prog 160 #[ptr b, .int .i32 r] w (RuneWrote B b (bs ++ Lib.runeCells r) w) := by
  have C := hid (bcheck h)
  clear h
  go_enter Tryz.func160, Tryz.ntmps160
  go_wp2_with (go_at_call 184; refine C.out.mono ?_)
  rintro e w1 ⟨rfl, h1, hb1, hk1⟩
  obtain ⟨hB, v, hbk, hown, hne⟩ := h1
  have hsz := hb1.size
  obtain ⟨a0, n0, p0, rfl⟩ := bld_slice hown
  have c1 : w1.cell? ⟨b, 1, none⟩ = some (.slice a0 n0 p0) := cell_of_heap hbk 1
  have A1 := hid (Tryz.utf8_AppendRune_plain B (.slice a0 n0 p0) bs.length bs r (by omega) hr1 w1 hown (by unfold lots at hlen; omega) (by omega))
  go_wp2_with (go_at_call 185; refine A1.out.mono ?_)
  rintro e w2 ⟨v', rfl, hown', o, hgrow⟩
  have hbk' : (w1.alloc o).heap[b]? = some (.cells #[ptr b, .slice a0 n0 p0] 219 (0, 0)) := by rw [Below.heap_alloc _ _ _ (heap_lt hbk)]; exact hbk
  have P := hid (bld_put (bs' := bs ++ Lib.runeCells r) hB hbk' hne (hown.alloc _) (hb1.alloc (by omega) _) (hk1.trans (IterKept.alloc _ _)) (by simp; omega) hgrow (by simpa using hown'))
  obtain ⟨ao, n', cap, rfl⟩ := bld_slice (bs := bs ++ Lib.runeCells r) (by simpa using hown')
  have d1 : w2.cell? ⟨b, 1, none⟩ = some (.slice a0 n0 p0) := cell_of_heap P.out.2.2 1
  have f1 : w2.frozen? ⟨b, 1, none⟩ = false := frozen_of_heap P.out.2.2 1
  clear hown' hgrow hbk' hown hbk hne
  go_wp2
  go_ret2
  exact ⟨_, rfl, P.out.1, P.out.2.1⟩
end Go.Proofs.YtabogkonklplcaaGreatDoor

namespace Go.Proofs.YtabogkonklplcaaGreatDoor
open Go.RowKit
set_option linter.unusedSimpArgs false
set_option linter.unusedVariables false
theorem strCells_append (a b : ByteArray) : Lib.strCells (a ++ b) = Lib.strCells a ++ Lib.strCells b := by
  simp [Lib.strCells, ByteArray.data_append]
theorem enc_39 {r : Int} (h : Lib.runeCells r = [.int .u8 39]) : r = 39 := by
  unfold Lib.runeCells Lib.encodeRuneZ at h
  split at h
  · simpa using h
  · (repeat' split at h) <;> simp at h
theorem enc_92 {r : Int} (h : Lib.runeCells r = [.int .u8 92]) : r = 92 := by
  unfold Lib.runeCells Lib.encodeRuneZ at h
  split at h
  · simpa using h
  · (repeat' split at h) <;> simp at h
theorem strCells_39 {c : ByteArray} (h : Lib.strCells c = [.int .u8 39]) : c.data.toList = [39] := by
  unfold Lib.strCells at h
  rw [List.map_eq_singleton_iff] at h
  obtain ⟨a, h1, h2⟩ := h
  rw [h1]
  simp at h2
  have : a.toNat = 39 := by omega
  rw [show a = 39 from UInt8.toNat_inj.1 this]
theorem strCells_92 {c : ByteArray} (h : Lib.strCells c = [.int .u8 92]) : c.data.toList = [92] := by
  unfold Lib.strCells at h
  rw [List.map_eq_singleton_iff] at h
  obtain ⟨a, h1, h2⟩ := h
  rw [h1]
  simp at h2
  have : a.toNat = 92 := by omega
  rw [show a = 92 from UInt8.toNat_inj.1 this]
theorem rune_q {c : ByteArray} {R : Nat} (h : Lib.runeCells (R : Int) = Lib.strCells c) : isQ c = (decide (R = 39) || decide (R = 92)) := by
  unfold isQ
  rw [Lib.toList_data]
  by_cases h1 : R = 39
  · subst h1
    have e : Lib.runeCells ((39 : Nat) : Int) = [.int .u8 39] := by unfold Lib.runeCells; rw [Lib.encodeRuneZ_one (by decide) (by decide)]; rfl
    rw [e] at h
    rw [strCells_39 h.symm]
    decide
  · by_cases h2 : R = 92
    · subst h2
      have e : Lib.runeCells ((92 : Nat) : Int) = [.int .u8 92] := by unfold Lib.runeCells; rw [Lib.encodeRuneZ_one (by decide) (by decide)]; rfl
      rw [e] at h
      rw [strCells_92 h.symm]
      decide
    · have n1 : (c.data.toList == [39]) = false := by
        rw [beq_eq_false_iff_ne]
        intro e
        have : Lib.strCells c = [.int .u8 39] := by unfold Lib.strCells; rw [e]; rfl
        rw [this] at h
        have := enc_39 h
        omega
      have n2 : (c.data.toList == [92]) = false := by
        rw [beq_eq_false_iff_ne]
        intro e
        have : Lib.strCells c = [.int .u8 92] := by unfold Lib.strCells; rw [e]; rfl
        rw [this] at h
        have := enc_92 h
        omega
      rw [n1, n2]
      simp [h1, h2]
end Go.Proofs.YtabogkonklplcaaGreatDoor
