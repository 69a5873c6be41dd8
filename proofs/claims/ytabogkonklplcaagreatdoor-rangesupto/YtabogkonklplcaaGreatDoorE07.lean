import Derived.Test.YtabogkonklplcaaGreatDoorE03

/- marginref's digits, shown, Show. -/
namespace Go.Proofs.YtabogkonklplcaaGreatDoor
open Go.RowKit
set_option linter.unusedSimpArgs false
set_option linter.unusedVariables false

def digCh (d : Nat) : ByteArray := (⟨#[48, 49, 50, 51, 52, 53, 54, 55, 56, 57]⟩ : ByteArray).extract d (d + 1)
/-- A number below 100 in digits. -/
def digB (n : Nat) : ByteArray := if n < 10 then digCh (n % 10) ++ ⟨#[]⟩ else digCh (n / 10 % 10) ++ (digCh (n % 10) ++ ⟨#[]⟩)
theorem ret_str {a b : ByteArray} (h : a = b) : Ending.returned (.string a) = .returned (.string b) := by rw [h]

theorem digCh_size (d : Nat) : (digCh d).size ≤ 1 := by unfold digCh; rw [ByteArray.size_extract]; omega
theorem digB_size (n : Nat) : (digB n).size ≤ 2 := by
  have h1 := digCh_size (n % 10)
  have h2 := digCh_size (n / 10 % 10)
  have h3 : (⟨#[]⟩ : ByteArray).size = 0 := rfl
  unfold digB
  split
  · rw [ByteArray.size_append]; omega
  · rw [ByteArray.size_append, ByteArray.size_append]; omega

set_option maxRecDepth 20000 in
set_option maxHeartbeats 400000 in
theorem digits_any (n : Nat) (hn : n < 100) (w : World) :
    Calls Tryz.prog 166 #[.int .i64 n] w fun e w' => e = .returned (.string (digB n)) ∧ w' = w := by
  by_cases h : n < 10
  · have hd : ((n : Int) / 10 == 0) = true := by simp; omega
    go_enter Tryz.func166, Tryz.ntmps166
    go_wp2
    go_rounds 1
    go_ret
    exact ⟨ret_str (by rw [digB, if_pos h]; rfl), rfl⟩
  · have hd : ((n : Int) / 10 == 0) = false := by simp; omega
    have hd2 : ((n : Int) / 10 / 10 == 0) = true := by simp; omega
    go_enter Tryz.func166, Tryz.ntmps166
    go_wp2
    go_rounds 2
    go_ret
    exact ⟨ret_str (by rw [digB, if_neg h]; rfl), rfl⟩

/-- Does a character want a backslash ahead? -/
def isQ (c : ByteArray) : Bool := (c.toList == [39]) || (c.toList == [92])
def textStep (acc c : ByteArray) : ByteArray := (if isQ c then acc ++ ⟨#[92]⟩ else acc) ++ c
def elemStep (f : Nat → ByteArray) (acc : ByteArray) (c : Nat) : ByteArray := acc ++ ⟨#[32]⟩ ++ f c

/-- A node as text, so many levels deep. -/
def shownF (s : List Nd) : Nat → Nat → ByteArray
  | 0, _ => ByteArray.empty
  | k + 1, n => match s[n]? with
    | none => ByteArray.empty
    | some x => if x.t then x.cs.foldl textStep (digB n ++ ⟨#[39]⟩) ++ ⟨#[39]⟩ else x.ks.foldl (elemStep (shownF s k)) (⟨#[60]⟩ ++ digB n) ++ ⟨#[62]⟩

theorem text_mono (l : List ByteArray) (a : ByteArray) : a.size ≤ (l.foldl textStep a).size := by
  induction l generalizing a with
  | nil => exact Nat.le_refl _
  | cons c l ih =>
    refine Nat.le_trans ?_ (ih _)
    unfold textStep
    split <;> simp only [ByteArray.size_append] <;> omega
theorem elem_mono (f : Nat → ByteArray) (l : List Nat) (a : ByteArray) : a.size ≤ (l.foldl (elemStep f) a).size := by
  induction l generalizing a with
  | nil => exact Nat.le_refl _
  | cons c l ih =>
    refine Nat.le_trans ?_ (ih _)
    unfold elemStep
    simp only [ByteArray.size_append]; omega

section
variable {w : World} {F : Nat → Prop} {bd bn cap : Nat} {rn : List RN} {rv : Value} {s : List Nd} {rs : List Sp}

set_option maxRecDepth 20000 in
set_option maxHeartbeats 1000000 in
theorem shown_text (hD : RDocAt w F bd bn cap rn rv s rs) (n : Nat) (x : Nd) (hx : s[n]? = some x) (ht : x.t = true) (hn : n < 100) (hcs : x.cs.length < lots) (hsz : (x.cs.foldl textStep (digB n ++ ⟨#[39]⟩)).size < lots) :
    Calls Tryz.prog 122 #[.pointer (some ⟨bd, 0, none⟩), .int .i64 n] w fun e w' => e = .returned (.string (x.cs.foldl textStep (digB n ++ ⟨#[39]⟩) ++ ⟨#[39]⟩)) ∧ Below w.heap.size w w' := by
  have hi : n < s.length := (List.getElem?_eq_some_iff.1 hx).1
  have h0 := hD.nodesCell
  have hl := hD.lt.1
  have hl2 := hD.lt.2
  obtain ⟨r, hr, ho, hc0, hc1, hc2, hc3⟩ := hD.look hx
  rw [ht] at hc0
  obtain ⟨a1, d1, hv1⟩ := slice_shape ho.chars
  obtain ⟨a2, d2, hv2⟩ := slice_shape ho.kids
  rw [hv1] at hc1
  rw [hv2] at hc2
  have HR : Hid (w.ownsRow 0 9 1 (.slice a1 x.cs.length d1) x.cs.length (strsV x.cs)) := by rw [← hv1]; exact ho.chars
  have hds := digB_size n
  unfold lots at hcs
  have HSZ := hid hsz
  have HX := hid hx
  clear hD hr ho hx hv1 hv2 hsz ht
  have hfirst : (digB n ++ (⟨#[39]⟩ : ByteArray)).size ≤ 3 := by rw [ByteArray.size_append]; have : (⟨#[39]⟩ : ByteArray).size = 1 := rfl; omega
  rcases row_cases HR.out with ⟨hnil, hlen0⟩ | ⟨g, c, hv⟩
  · have hz : x.cs = [] := List.length_eq_zero_iff.1 hlen0
    rw [hz]
    rw [hnil] at hc1
    clear hcs
    go_enter Tryz.func122, Tryz.ntmps122
    go_wp2_with (go_at_call 166; refine (digits_any n hn _).mono ?_; rintro e w' ⟨rfl, rfl⟩)
    go_rounds 1
    go_wp2
    go_ret
    exact ⟨rfl, (Below.refl _ w).alloc (Nat.le_refl _) _⟩
  · rw [hv] at hc1
    have hrow := HR.out
    rw [hv] at hrow
    have hgl : g < w.heap.size := (hrow.lt g rfl).2
    have CELL : Hid (∀ (j : Nat) (u : ByteArray), x.cs[j]? = some u → w.cell? ⟨g, j, none⟩ = some (.string u)) := by
      intro j u hj
      rw [hrow.cellAt j (by have := (List.getElem?_eq_some_iff.1 hj).1; omega)]
      simp [strsV, hj]
    clear hrow hv
    go_enter Tryz.func122, Tryz.ntmps122
    go_wp2_with (go_at_call 166; refine (digits_any n hn _).mono ?_; rintro e w' ⟨rfl, rfl⟩)
    go_loop [8, 9] (fun a b => ∃ j : Nat, j ≤ x.cs.length ∧ b = .int .i64 j ∧ a = .string ((x.cs.take j).foldl textStep (digB n ++ ⟨#[39]⟩))) (fun _ b => x.cs.length - (intOf b).toNat)
    case atStart => exact ⟨0, Nat.zero_le _, rfl, rfl⟩
    case round =>
      obtain ⟨j, hj, rfl, rfl⟩ := hrel
      have hacc : ((x.cs.take j).foldl textStep (digB n ++ ⟨#[39]⟩)).size < 2000000 := by
        have h1 := HSZ.out
        unfold lots at h1
        refine Nat.lt_of_le_of_lt ?_ h1
        conv => rhs; rw [← List.take_append_drop j x.cs, List.foldl_append]
        exact text_mono _ _
      by_cases hlt : j < x.cs.length
      · obtain ⟨u, hu⟩ : ∃ u, x.cs[j]? = some u := ⟨_, List.getElem?_eq_getElem hlt⟩
        have hcu := CELL.out j u hu
        have HU := hid hu
        clear hu
        have hnext : ((x.cs.take (j + 1)).foldl textStep (digB n ++ ⟨#[39]⟩)).size < 2000000 := by
          have h1 := HSZ.out
          unfold lots at h1
          refine Nat.lt_of_le_of_lt ?_ h1
          conv => rhs; rw [← List.take_append_drop (j + 1) x.cs, List.foldl_append]
          exact text_mono _ _
        have hstep : Hid ((x.cs.take (j + 1)).foldl textStep (digB n ++ ⟨#[39]⟩) = textStep ((x.cs.take j).foldl textStep (digB n ++ ⟨#[39]⟩)) u) := by
          show _ = _
          rw [List.take_add_one, HU.out]
          simp
        have hus : u.size < 2000000 := by
          rw [hstep.out] at hnext
          unfold textStep at hnext
          rw [ByteArray.size_append] at hnext
          omega
        clear hnext
        generalize (x.cs.take j).foldl textStep (digB n ++ ⟨#[39]⟩) = acc at *
        by_cases h1 : (u.toList == [39]) = true
        · have hq : isQ u = true := by simp [isQ, h1]
          go_wp2
          refine ⟨⟨j + 1, by omega, by go_num, ?_⟩, by simp [intOf]; omega⟩
          rw [hstep.out]
          simp [textStep, hq]
        · have h1 : (u.toList == [39]) = false := by simpa using h1
          by_cases h2 : (u.toList == [92]) = true
          · have hq : isQ u = true := by simp [isQ, h2]
            go_wp2
            refine ⟨⟨j + 1, by omega, by go_num, ?_⟩, by simp [intOf]; omega⟩
            rw [hstep.out]
            simp [textStep, hq]
          · have h2 : (u.toList == [92]) = false := by simpa using h2
            have hq : isQ u = false := by simp [isQ, h1, h2]
            go_wp2
            refine ⟨⟨j + 1, by omega, by go_num, ?_⟩, by simp [intOf]; omega⟩
            rw [hstep.out]
            simp [textStep, hq]
      · go_wp2
        go_ret
        have e1 : x.cs.take j = x.cs := List.take_of_length_le (by omega)
        exact ⟨ret_str (by rw [e1]), (Below.refl _ w).alloc (Nat.le_refl _) _⟩

set_option maxRecDepth 20000 in
set_option maxHeartbeats 1000000 in
theorem shown_elem (hD : RDocAt w F bd bn cap rn rv s rs) (n : Nat) (x : Nd) (f : Nat → ByteArray) (hx : s[n]? = some x) (ht : x.t = false) (hn : n < 100) (hks : x.ks.length < lots)
    (hsz : (x.ks.foldl (elemStep f) (⟨#[60]⟩ ++ digB n)).size < lots)
    (ih : ∀ c ∈ x.ks, ∀ w1 : World, RDocAt w1 F bd bn cap rn rv s rs → Calls Tryz.prog 122 #[.pointer (some ⟨bd, 0, none⟩), .int .i64 c] w1 fun e w' => e = .returned (.string (f c)) ∧ Below w1.heap.size w1 w') :
    Calls Tryz.prog 122 #[.pointer (some ⟨bd, 0, none⟩), .int .i64 n] w fun e w' => e = .returned (.string (x.ks.foldl (elemStep f) (⟨#[60]⟩ ++ digB n) ++ ⟨#[62]⟩)) ∧ Below w.heap.size w w' := by
  have hi : n < s.length := (List.getElem?_eq_some_iff.1 hx).1
  have h0 := hD.nodesCell
  have hl := hD.lt.1
  have hl2 := hD.lt.2
  obtain ⟨r, hr, ho, hc0, hc1, hc2, hc3⟩ := hD.look hx
  rw [ht] at hc0
  obtain ⟨a1, d1, hv1⟩ := slice_shape ho.chars
  obtain ⟨a2, d2, hv2⟩ := slice_shape ho.kids
  rw [hv1] at hc1
  rw [hv2] at hc2
  have HR : Hid (w.ownsRow 0 3 1 (.slice a2 x.ks.length d2) x.ks.length (intsV x.ks)) := by rw [← hv2]; exact ho.kids
  have hds := digB_size n
  unfold lots at hks
  have HSZ := hid hsz
  have HX := hid hx
  have HD := hid hD
  have IH := hid ih
  clear hD hr ho hx hv1 hv2 hsz ht ih
  have hfirst : ((⟨#[60]⟩ : ByteArray) ++ digB n).size ≤ 3 := by rw [ByteArray.size_append]; have : (⟨#[60]⟩ : ByteArray).size = 1 := rfl; omega
  rcases row_cases HR.out with ⟨hnil, hlen0⟩ | ⟨g, c, hv⟩
  · have hz : x.ks = [] := List.length_eq_zero_iff.1 hlen0
    rw [hz]
    rw [hnil] at hc2
    clear hks
    go_enter Tryz.func122, Tryz.ntmps122
    go_wp2_with (go_at_call 166; refine (digits_any n hn _).mono ?_; rintro e w' ⟨rfl, rfl⟩)
    go_rounds 1
    go_wp2
    go_ret
    exact ⟨rfl, (Below.refl _ w).alloc (Nat.le_refl _) _⟩
  · rw [hv] at hc2
    have hrow := HR.out
    rw [hv] at hrow
    have hgl : g < w.heap.size := (hrow.lt g rfl).2
    have CELL : Hid (∀ (j : Nat) (u : Nat), x.ks[j]? = some u → w.cell? ⟨g, j, none⟩ = some (.int .i64 (u : Int))) := by
      intro j u hj
      rw [hrow.cellAt j (by have := (List.getElem?_eq_some_iff.1 hj).1; omega)]
      simp [intsV, hj]
    clear hrow hv
    go_enter Tryz.func122, Tryz.ntmps122
    go_wp2_with (go_at_call 166; refine (digits_any n hn _).mono ?_; rintro e w' ⟨rfl, rfl⟩)
    obtain ⟨W, hW⟩ : ∃ W, w.alloc (.cells #[.bool false, .slice a1 x.cs.length d1, .slice (some ⟨g, 0, none⟩) x.ks.length c, .int .i64 x.p] 119) = W := ⟨_, rfl⟩
    have hWs : W.heap.size = w.heap.size + 1 := by rw [← hW]; simp
    have hWb : Below w.heap.size w W := by rw [← hW]; exact (Below.refl _ w).alloc (Nat.le_refl _) _
    have hWq : W.heap[w.heap.size]? = some (.cells #[.bool false, .slice a1 x.cs.length d1, .slice (some ⟨g, 0, none⟩) x.ks.length c, .int .i64 x.p] 119 (0, 0)) := by rw [← hW]; exact heap_alloc_new w _
    rw [hW]
    have HWB := hid hWb
    have HWQ := hid hWq
    clear hWb hWq hW
    go_loopw [6, 7] (fun a b wr => ∃ j : Nat, j ≤ x.ks.length ∧ b = .int .i64 j ∧ a = .string ((x.ks.take j).foldl (elemStep f) (⟨#[60]⟩ ++ digB n)) ∧ Below (w.heap.size + 1) W wr) (fun _ b _ => x.ks.length - (intOf b).toNat)
    case atStart => exact ⟨0, Nat.zero_le _, rfl, rfl, Below.refl _ _⟩
    case round =>
      obtain ⟨j, hj, rfl, rfl, hbr⟩ := hrel
      have hrq := (hbr.block w.heap.size (by omega)).trans HWQ.out
      have hrc0 : wr.cell? ⟨w.heap.size, 2, none⟩ = some (.slice (some ⟨g, 0, none⟩) x.ks.length c) := cell_of_heap hrq 2
      have hbw : Below w.heap.size w wr := HWB.out.trans (hbr.mono (by omega))
      have HBR := hid hbr
      have HBW := hid hbw
      have hacc : ((x.ks.take j).foldl (elemStep f) (⟨#[60]⟩ ++ digB n)).size < 2000000 := by
        have h1 := HSZ.out
        unfold lots at h1
        refine Nat.lt_of_le_of_lt ?_ h1
        conv => rhs; rw [← List.take_append_drop j x.ks, List.foldl_append]
        exact elem_mono _ _ _
      by_cases hlt : j < x.ks.length
      · obtain ⟨u, hu⟩ : ∃ u, x.ks[j]? = some u := ⟨_, List.getElem?_eq_getElem hlt⟩
        have hcu : wr.cell? ⟨g, j, none⟩ = some (.int .i64 (u : Int)) := (hbw.cell (p := ⟨g, j, none⟩) hgl).trans (CELL.out j u hu)
        have HU := hid hu
        have hnext : ((x.ks.take (j + 1)).foldl (elemStep f) (⟨#[60]⟩ ++ digB n)).size < 2000000 := by
          have h1 := HSZ.out
          unfold lots at h1
          refine Nat.lt_of_le_of_lt ?_ h1
          conv => rhs; rw [← List.take_append_drop (j + 1) x.ks, List.foldl_append]
          exact elem_mono _ _ _
        have hstep : Hid ((x.ks.take (j + 1)).foldl (elemStep f) (⟨#[60]⟩ ++ digB n) = elemStep f ((x.ks.take j).foldl (elemStep f) (⟨#[60]⟩ ++ digB n)) u) := by
          show _ = _
          rw [List.take_add_one, HU.out]
          simp
        have hus : (f u).size < 2000000 := by
          rw [hstep.out] at hnext
          unfold elemStep at hnext
          rw [ByteArray.size_append] at hnext
          omega
        have HIH := hid (IH.out u (List.mem_of_getElem? hu) wr (HD.out.below hbw))
        clear hnext hu hbr hbw hrq
        generalize (x.ks.take j).foldl (elemStep f) (⟨#[60]⟩ ++ digB n) = acc at *
        go_wp2_with (go_at_call 122; refine HIH.out.mono ?_; rintro e w1 ⟨rfl, hb1⟩)
        refine ⟨⟨j + 1, by omega, by go_num, ?_, ?_⟩, by simp [intOf]; omega⟩
        · rw [hstep.out]; rfl
        · exact HBR.out.trans (hb1.mono (by have := HBR.out.size; omega))
      · clear hrq
        go_wp2
        go_ret
        have e1 : x.ks.take j = x.ks := List.take_of_length_le (by omega)
        exact ⟨ret_str (by rw [e1]), hbw⟩
end

end Go.Proofs.YtabogkonklplcaaGreatDoor
