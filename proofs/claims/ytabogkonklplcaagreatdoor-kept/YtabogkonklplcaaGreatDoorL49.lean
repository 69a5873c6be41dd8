import Derived.Test.YtabogkonklplcaaGreatDoorL38

namespace Go.Proofs.YtabogkonklplcaaGreatDoor
open Go.RowKit
set_option linter.unusedSimpArgs false
set_option linter.unusedVariables false
structure DeskO (w0 : World) (F : Nat → Prop) (w : World) (bw bx : Nat) (n mine : Int) (st : St) (l : List (Nat × Obj)) : Prop where
  desk : Desk w0 F w bw bx n mine st
  own : ∀ p ∈ l, w.heap[p.1]? = some p.2 ∧ ¬ F p.1
section
variable {w0 w w' : World} {F : Nat → Prop} {bw bx : Nat} {n n' mine : Int} {st st' : St} {l : List (Nat × Obj)}
theorem DeskO.below (h : DeskO w0 F w bw bx n mine st l) (hb : Below w.heap.size w w') : DeskO w0 F w' bw bx n mine st l :=
  ⟨h.desk.below hb, fun p hp => ⟨(hb.block _ (heap_lt (h.own p hp).1)).trans (h.own p hp).1, (h.own p hp).2⟩⟩
theorem DeskO.drew (h : DeskO w0 F w bw bx n mine st l) : DeskO w0 F w.drew bw bx n mine st l := h.below (Below.refl _ _).drew
theorem DeskO.with (h : DeskO w0 F w bw bx n mine st l) (hk : Keeps F w w') (hd : Desk w0 (grow F w) w' bw bx n' mine st') : DeskO w0 (grow F w) w' bw bx n' mine st' l :=
  ⟨hd, fun p hp => ⟨(hk.block _ (heap_lt (h.own p hp).1) (h.own p hp).2).trans (h.own p hp).1, fun e => e.elim (h.own p hp).2 (fun e => Nat.not_le_of_lt (heap_lt (h.own p hp).1) e)⟩⟩
theorem DeskO.next (h : DeskO w0 F w bw bx n mine st l) (hk : Keeps F w w') (hl : PLies w' (grow F w) bx st') : DeskO w0 (grow F w) w' bw bx n mine st' l :=
  h.with hk (h.desk.next hk hl)
theorem DeskO.narrow (h : DeskO w0 F w bw bx n mine st l) : DeskO w0 (fun b => F b ∧ b < w.heap.size) w bw bx n mine st l :=
  ⟨h.desk.narrow, fun p hp => ⟨(h.own p hp).1, fun e => (h.own p hp).2 e.1⟩⟩
theorem DeskO.alloc (h : DeskO w0 F w bw bx n mine st l) (c : Array Value) (t : TypeId) : DeskO w0 (fun b => F b ∧ b < w.heap.size) (w.alloc (.cells c t)) bw bx n mine st ((w.heap.size, .cells c t (0, 0)) :: l) := by
  have hB : Below w.heap.size w (w.alloc (.cells c t)) := (Below.refl _ w).alloc (Nat.le_refl _) _
  have h2 := h.narrow.below hB
  refine ⟨h2.desk, fun p hp => ?_⟩
  rcases List.mem_cons.1 hp with rfl | hp
  · exact ⟨heap_alloc_new w _, fun e => Nat.lt_irrefl _ e.2⟩
  · exact h2.own p hp
end
def CmpIs (s : List Nd) (B : Nat) (n k n2 k2 : Nat) (v : Int) (ev : Value) : Prop :=
  (∃ t, IsTop s n t ∧ IsTop s n2 t ∧ ev = .nilIface ∧ v = cmpB (decide (wh (plF s (B + 1) t) (n, k) < wh (plF s (B + 1) t) (n2, k2))) (decide (wh (plF s (B + 1) t) (n2, k2) < wh (plF s (B + 1) t) (n, k)))) ∨
  ((∃ t t2, IsTop s n t ∧ IsTop s n2 t2 ∧ t ≠ t2) ∧ v = 0 ∧ ∃ a y : Int, ev = .iface 32 (.agg #[.int .i64 a, .int .i64 y]))
theorem cmpB_is (a b : Int) : cmpB (decide (a < b)) (decide (b < a)) = if a < b then -1 else if b < a then 1 else 0 := by
  by_cases h1 : a < b
  · rw [decide_eq_true h1, if_pos h1]; rfl
  · by_cases h2 : b < a
    · rw [decide_eq_false h1, decide_eq_true h2, if_neg h1, if_pos h2]; rfl
    · rw [decide_eq_false h1, decide_eq_false h2, if_neg h1, if_neg h2]; rfl
theorem CmpIs.same {s : List Nd} {B n k n2 k2 t : Nat} {v : Int} {ev : Value} (c : CmpIs s B n k n2 k2 v ev) (ha : IsTop s n t) (hb : IsTop s n2 t) :
    ev = .nilIface ∧ v = if wh (plF s (B + 1) t) (n, k) < wh (plF s (B + 1) t) (n2, k2) then -1 else if wh (plF s (B + 1) t) (n2, k2) < wh (plF s (B + 1) t) (n, k) then 1 else 0 := by
  rcases c with ⟨t', a, b, h1, h2⟩ | ⟨⟨t', t2, a, b, ne⟩, _⟩
  · obtain rfl := a.one ha
    exact ⟨h1, by rw [h2, cmpB_is]⟩
  · exact absurd ((a.one ha).trans (b.one hb).symm) ne
end Go.Proofs.YtabogkonklplcaaGreatDoor

namespace Go.Proofs.YtabogkonklplcaaGreatDoor
open Go.RowKit Go.Lib
set_option linter.unusedSimpArgs false
set_option linter.unusedVariables false
def bl (b : ByteArray) : List UInt8 := b.data.toList
theorem bl_size (b : ByteArray) : (bl b).length = b.size := rfl
theorem bl_append (a b : ByteArray) : bl (a ++ b) = bl a ++ bl b := by
  unfold bl
  simp
theorem bl_extract (b : ByteArray) (i j : Nat) : bl (b.extract i j) = ((bl b).drop i).take (j - i) := by
  unfold bl
  simp [List.extract_eq_take_drop]
theorem bl_cat (l : List ByteArray) : bl (catB l) = l.flatMap bl := by
  induction l with
  | nil => rfl
  | cons c l ih => rw [catB_cons, bl_append, ih]; rfl
theorem byteI_bl {b : ByteArray} {i : Nat} {a : UInt8} (h : (bl b)[i]? = some a) : byteI b i = (a.toNat : Int) := by
  obtain ⟨hi, e⟩ := List.getElem?_eq_some_iff.1 h
  have hi' : i < b.size := hi
  rw [← byteI_eq b i hi', ← e]
  rfl
theorem more_facts (b : Int) (hb : 0 ≤ b) (h : 0 ≤ (moreF b).1) : (b < 128 ∧ (moreF b).1 = 0) ∨ (194 ≤ b ∧ 1 ≤ (moreF b).1 ∧ 128 ≤ (moreF b).2.1 ∧ (moreF b).2.2 ≤ 191 ∧ (b = 194 → (moreF b).1 = 1)) := by
  revert h
  unfold moreF
  (repeat' split) <;> intro h <;> simp_all <;> omega
theorem ch_bytes {c : ByteArray} (hc : IsCh c) : ∃ (a : UInt8) (t : List UInt8), bl c = a :: t ∧ (∀ x ∈ t, 128 ≤ x.toNat ∧ x.toNat ≤ 191) ∧ (a.toNat < 128 ∧ t = [] ∨ 194 ≤ a.toNat ∧ t ≠ []) ∧ (a.toNat = 194 → t.length = 1) := by
  obtain ⟨h0, hw⟩ := hc
  cases hb : bl c with
  | nil =>
    have := bl_size c
    rw [hb] at this
    exact absurd this.symm h0
  | cons a t =>
    have hsz : t.length + 1 = c.size := by rw [← bl_size, hb]; rfl
    have ha : byteI c 0 = (a.toNat : Int) := byteI_bl (by rw [hb]; rfl)
    unfold headW at hw
    simp only [] at hw
    split at hw
    · omega
    · next hn =>
      split at hw
      · next hok =>
        have hn0 : 0 ≤ (moreF (byteI c 0)).1 := by omega
        have hlen : (moreF (byteI c 0)).1 = (t.length : Int) := by omega
        have hf := more_facts (byteI c 0) (by omega) hn0
        refine ⟨a, t, rfl, ?_, ?_, ?_⟩
        · intro x hx
          obtain ⟨k, hk, e⟩ := List.getElem_of_mem hx
          have hxk : byteI c (k + 1) = (x.toNat : Int) := byteI_bl (by rw [hb]; simp [List.getElem?_eq_getElem hk, e])
          have h1 := okTail_mono hok (k + 1) (by omega)
          simp only [okTail, Bool.and_eq_true, decide_eq_true_eq] at h1
          have h2 := h1.2
          rw [hxk] at h2
          rcases hf with hf | hf
          · omega
          · split at h2 <;> omega
        · rcases hf with hf | hf
          · exact .inl ⟨by omega, List.length_eq_zero_iff.1 (by omega)⟩
          · exact .inr ⟨by omega, fun e => by rw [e] at hlen; simp at hlen; omega⟩
        · intro h194
          rcases hf with hf | hf
          · omega
          · have := hf.2.2.2.2 (by omega)
            omega
      · omega
def cntL : List UInt8 → Nat
  | [] => 0
  | a :: t => (if a = 194 ∧ t.head? = some 167 then 1 else 0) + cntL t
def isS (c : ByteArray) : Bool := bl c == [194, 167]
theorem cntL_tail : ∀ (t r : List UInt8), (∀ x ∈ t, 128 ≤ x.toNat ∧ x.toNat ≤ 191) → cntL (t ++ r) = cntL r
  | [], r, _ => rfl
  | a :: t, r, h => by
    have ha := h a (.head _)
    show (if a = 194 ∧ (t ++ r).head? = some 167 then 1 else 0) + cntL (t ++ r) = _
    rw [if_neg (fun e => by rw [e.1] at ha; simp at ha), cntL_tail t r (fun x hx => h x (.tail _ hx))]
    omega
theorem cntL_ch {c : ByteArray} (hc : IsCh c) (r : List UInt8) : cntL (bl c ++ r) = (if isS c then 1 else 0) + cntL r := by
  obtain ⟨a, t, hb, ht, h1, h2⟩ := ch_bytes hc
  unfold isS
  rw [hb]
  show (if a = 194 ∧ (t ++ r).head? = some 167 then 1 else 0) + cntL (t ++ r) = _
  rw [cntL_tail t r ht]
  congr 1
  by_cases ha : a = 194
  · have hl := h2 (by rw [ha]; rfl)
    match t, hl with
    | [x], _ =>
      subst ha
      by_cases hx : x = 167
      · subst hx; simp
      · simp [hx]
  · rw [if_neg (fun e => ha e.1)]
    simp [ha]
theorem cntL_cat : ∀ (l : List ByteArray), (∀ c ∈ l, IsCh c) → cntL (l.flatMap bl) = l.countP isS
  | [], _ => rfl
  | c :: l, h => by
    rw [List.flatMap_cons, cntL_ch (h c (.head _)), cntL_cat l (fun x hx => h x (.tail _ hx)), List.countP_cons]
    split <;> omega
theorem isSec_bl (b : ByteArray) (i : Nat) : isSec b i = (((bl b).drop i).take 2 == [194, 167]) := by
  unfold isSec
  rw [ByteArray.toList_eq]
  show (bl (b.extract i (i + 2)) == [194, 167]) = _
  rw [bl_extract, show i + 2 - i = 2 by omega]
theorem sec_take (a : UInt8) (t : List UInt8) : ((a :: t).take 2 == [194, 167]) = decide (a = 194 ∧ t.head? = some 167) := by
  cases t with
  | nil => simp
  | cons x t => by_cases h1 : a = 194 <;> by_cases h2 : x = 167 <;> simp [h1, h2]
theorem cntTo_drop (b : ByteArray) : ∀ (n i : Nat), i + n + 1 = b.size → cntTo b (i + n) = cntTo b i + cntL ((bl b).drop i)
  | 0, i, h => by
    have hl : ((bl b).drop i).length = 1 := by rw [List.length_drop, bl_size]; omega
    match (bl b).drop i, hl with
    | [x], _ => simp [cntL]
  | n + 1, i, h => by
    have e : i + (n + 1) = (i + 1) + n := by omega
    rw [e, cntTo_drop b n (i + 1) (by omega)]
    have hi : i < (bl b).length := by rw [bl_size]; omega
    rw [List.drop_eq_getElem_cons hi]
    show cntTo b i + (if isSec b i then 1 else 0) + _ = _
    rw [isSec_bl, List.drop_eq_getElem_cons hi, sec_take]
    simp only [cntL, decide_eq_true_eq]
    omega
theorem cntS_bl (b : ByteArray) : cntS b = cntL (bl b) := by
  unfold cntS
  by_cases h : b.size = 0
  · have : bl b = [] := List.length_eq_zero_iff.1 (by rw [bl_size]; exact h)
    rw [h, this]
    rfl
  · have := cntTo_drop b (b.size - 1) 0 (by omega)
    simpa [cntTo] using this
theorem cntS_cat (l : List ByteArray) (h : ∀ c ∈ l, IsCh c) : cntS (catB l) = l.countP isS := by
  rw [cntS_bl, bl_cat, cntL_cat l h]
theorem cntL_in (p r : List UInt8) : 0 < cntL (p ++ (194 :: 167 :: r)) := by
  induction p with
  | nil => show 0 < (if (194 : UInt8) = 194 ∧ (167 :: r).head? = some 167 then 1 else 0) + cntL (167 :: r); simp; omega
  | cons a p ih => show 0 < (if a = 194 ∧ (p ++ (194 :: 167 :: r)).head? = some 167 then 1 else 0) + cntL (p ++ (194 :: 167 :: r)); omega
end Go.Proofs.YtabogkonklplcaaGreatDoor

namespace Go.Proofs.YtabogkonklplcaaGreatDoor
open Go.RowKit Go.Lib
set_option linter.unusedSimpArgs false
set_option linter.unusedVariables false
def esc (c : ByteArray) : List UInt8 := if isQ c then 92 :: bl c else bl c
theorem bl_text (l : List ByteArray) (a : ByteArray) : bl (l.foldl textStep a) = bl a ++ l.flatMap esc := by
  induction l generalizing a with
  | nil => simp
  | cons c l ih =>
    rw [List.foldl_cons, ih, List.flatMap_cons, ← List.append_assoc]
    congr 1
    unfold textStep esc
    split
    · rw [bl_append, bl_append, List.append_assoc]; rfl
    · rw [bl_append]
theorem bl_elem (f : Nat → ByteArray) (l : List Nat) (a : ByteArray) : bl (l.foldl (elemStep f) a) = bl a ++ l.flatMap fun c => 32 :: bl (f c) := by
  induction l generalizing a with
  | nil => simp
  | cons c l ih =>
    rw [List.foldl_cons, ih, List.flatMap_cons, ← List.append_assoc]
    congr 1
    unfold elemStep
    rw [bl_append, bl_append, List.append_assoc]
    rfl
theorem esc_sec {c : ByteArray} (h : isS c = true) : esc c = [194, 167] := by
  have hb : bl c = [194, 167] := by simpa [isS] using h
  unfold esc isQ
  rw [ByteArray.toList_eq]
  show (if (bl c == [39]) || (bl c == [92]) then 92 :: bl c else bl c) = _
  rw [hb]
  rfl
theorem mem_split {α : Type} {l : List α} {a : α} (h : a ∈ l) : ∃ p r, l = p ++ a :: r := List.append_of_mem h
theorem shown_has {s : List Nd} (wf : WF s) {n0 k0 : Nat} {x0 : Nd} {c0 : ByteArray} (hx0 : s[n0]? = some x0) (ht : x0.t = true) (hc : x0.cs[k0]? = some c0) (hs : isS c0 = true) : ∀ (k n : Nat), n0 ∈ allF s k n → ∃ p r, bl (shownF s k n) = p ++ (194 :: 167 :: r)
  | 0, n, h => by simp [allF] at h
  | k + 1, n, h => by
    rw [allF] at h
    unfold shownF
    rcases List.mem_cons.1 h with e | h
    · subst e
      rw [hx0]
      simp only [ht, if_true]
      rw [bl_append, bl_text]
      obtain ⟨p, r, e⟩ := mem_split (List.mem_of_getElem? hc)
      rw [e, List.flatMap_append, List.flatMap_cons, esc_sec hs]
      exact ⟨_, _, by simp only [List.append_assoc, List.cons_append, List.nil_append]; rw [← List.append_assoc]⟩
    · obtain ⟨c, hcm, h⟩ := List.mem_flatMap.1 h
      unfold kidsOf at hcm
      cases hx : s[n]? with
      | none => simp [hx] at hcm
      | some x =>
        rw [hx] at hcm
        simp only at hcm
        obtain ⟨p, r, e⟩ := shown_has wf hx0 ht hc hs k c h
        obtain ⟨pk, rk, ek⟩ := mem_split hcm
        cases htx : x.t with
        | true =>
          have := (wf.elem n x hx).1 htx
          rw [this] at hcm
          cases hcm
        | false =>
          simp only [htx, Bool.false_eq_true, if_false]
          rw [bl_append, bl_elem, ek, List.flatMap_append, List.flatMap_cons, e]
          exact ⟨bl (⟨#[60]⟩ ++ digB n) ++ (pk.flatMap fun c => 32 :: bl (shownF s k c)) ++ (32 :: p), _, by simp only [List.append_assoc, List.cons_append]; rfl⟩
theorem u8_of {a m : UInt8} (h : (a.toNat : Int) = (m.toNat : Int)) : a = m := UInt8.toNat_inj.1 (by omega)
def befW : List UInt8 → Nat → Int
  | [], _ => -1
  | [_], _ => -1
  | a :: a2 :: r, k => if a = 92 then (if a2 = 194 ∧ r.head? = some 167 then (k : Int) else befW r (if a2.toNat < 128 ∨ 192 ≤ a2.toNat then k + 1 else k))
    else if a = 194 ∧ a2 = 167 then (k : Int) else befW (a2 :: r) (if a.toNat < 128 ∨ 192 ≤ a.toNat then k + 1 else k)
theorem drop_two {α : Type} {l : List α} {i : Nat} (h : i + 2 ≤ l.length) : ∃ a b r, l.drop i = a :: b :: r ∧ l[i]? = some a ∧ l[i + 1]? = some b ∧ l.drop (i + 1) = b :: r ∧ l.drop (i + 1 + 1) = r :=
  ⟨l[i], l[i + 1], l.drop (i + 1 + 1), by rw [List.drop_eq_getElem_cons (by omega), List.drop_eq_getElem_cons (by omega)], List.getElem?_eq_getElem _, List.getElem?_eq_getElem _, by rw [List.drop_eq_getElem_cons (by omega)], rfl⟩
theorem befF_bl (b : ByteArray) : ∀ (f i k : Nat), b.size ≤ f + i → befF b f i k = befW ((bl b).drop i) k
  | 0, i, k, h => by
    have : (bl b).drop i = [] := List.drop_eq_nil_of_le (by rw [bl_size]; omega)
    rw [this]
    rfl
  | f + 1, i, k, h => by
    by_cases h2 : i + 2 ≤ b.size
    · obtain ⟨a, a2, r, e, ea, eb, e1, e2⟩ := drop_two (l := bl b) (i := i) (by rw [bl_size]; exact h2)
      have hbi := byteI_bl ea
      have hb1 := byteI_bl eb
      rw [befF, if_pos h2, e, befW]
      by_cases h92 : a = 92
      · have hI : byteI b i = 92 := by rw [hbi, h92]; rfl
        rw [if_pos h92, if_pos hI, isSec_bl, e1, sec_take]
        by_cases hs : a2 = 194 ∧ r.head? = some 167
        · have hl : i + 1 + 2 ≤ b.size := by
            have h3 := congrArg List.length e1
            rw [List.length_drop, bl_size, List.length_cons] at h3
            cases r with
            | nil => simp at hs
            | cons y r => rw [List.length_cons] at h3; omega
          rw [if_pos ⟨hl, decide_eq_true hs⟩, if_pos hs]
        · rw [if_neg (fun e => hs (of_decide_eq_true e.2)), if_neg hs, befF_bl b f (i + 1 + 1) _ (by omega), e2]
          congr 1
          have : (i + 1 < b.size ∧ (byteI b (i + 1) < 128 ∨ 192 ≤ byteI b (i + 1))) ↔ (a2.toNat < 128 ∨ 192 ≤ a2.toNat) := by rw [hb1]; omega
          simp only [this]
      · have hI : ¬ byteI b i = 92 := by
          rw [hbi]
          intro e
          exact h92 (u8_of (m := 92) (by simpa using e))
        rw [if_neg h92, if_neg hI, isSec_bl, e, sec_take]
        have hh : (a = 194 ∧ (a2 :: r).head? = some 167) ↔ (a = 194 ∧ a2 = 167) := by simp
        by_cases hs : a = 194 ∧ a2 = 167
        · rw [if_pos ⟨h2, decide_eq_true (hh.2 hs)⟩, if_pos hs]
        · rw [if_neg (fun e => hs (hh.1 (of_decide_eq_true e.2))), if_neg hs, befF_bl b f (i + 1) _ (by omega), e1]
          congr 1
          have : (i < b.size ∧ (byteI b i < 128 ∨ 192 ≤ byteI b i)) ↔ (a.toNat < 128 ∨ 192 ≤ a.toNat) := by rw [hbi]; omega
          simp only [this]
    · rw [befF, if_neg h2]
      have hl : ((bl b).drop i).length ≤ 1 := by rw [List.length_drop, bl_size]; omega
      match (bl b).drop i, hl with
      | [], _ => rfl
      | [_], _ => rfl
theorem bef_tail : ∀ (t : List UInt8) (x : UInt8) (R : List UInt8) (k : Nat), (∀ y ∈ t, 128 ≤ y.toNat ∧ y.toNat ≤ 191) → befW (t ++ x :: R) k = befW (x :: R) k
  | [], _, _, _, _ => rfl
  | y :: t, x, R, k, h => by
    have hy := h y (.head _)
    have n1 : ¬ y = 92 := fun e => by rw [e] at hy; simp at hy
    have n2 : ¬ y = 194 := fun e => by rw [e] at hy; simp at hy
    have n3 : ¬ (y.toNat < 128 ∨ 192 ≤ y.toNat) := by omega
    have ih := bef_tail t x R k (fun z hz => h z (.tail _ hz))
    cases t with
    | nil =>
      show befW (y :: x :: R) k = _
      rw [befW, if_neg n1, if_neg (fun e => n2 e.1), if_neg n3]
    | cons z t =>
      show befW (y :: z :: (t ++ x :: R)) k = _
      rw [befW, if_neg n1, if_neg (fun e => n2 e.1), if_neg n3]
      exact ih
theorem bef_ch {c : ByteArray} (hc : IsCh c) (hs : isS c = false) (x : UInt8) (R : List UInt8) (k : Nat) : befW (esc c ++ x :: R) k = befW (x :: R) (k + 1) := by
  obtain ⟨a, t, hb, ht, h1, h2⟩ := ch_bytes hc
  by_cases hq : isQ c = true
  · unfold esc
    rw [if_pos hq]
    have hq' : bl c = [39] ∨ bl c = [92] := by
      unfold isQ at hq
      rw [ByteArray.toList_eq] at hq
      simpa [bl] using hq
    rcases hq' with e | e
    · rw [e]
      show befW (92 :: 39 :: x :: R) k = _
      rw [befW, if_pos rfl, if_neg (fun e => by simp at e), if_pos (by decide)]
    · rw [e]
      show befW (92 :: 92 :: x :: R) k = _
      rw [befW, if_pos rfl, if_neg (fun e => by simp at e), if_pos (by decide)]
  · have hq' : ¬ (bl c = [39] ∨ bl c = [92]) := by
      unfold isQ at hq
      rw [ByteArray.toList_eq] at hq
      simpa [bl] using hq
    unfold esc
    rw [if_neg hq, hb]
    rw [hb] at hq'
    unfold isS at hs
    rw [hb] at hs
    rcases h1 with ⟨ha, rfl⟩ | ⟨ha, hne⟩
    · have n1 : ¬ a = 92 := fun e => hq' (.inr (by rw [e]))
      have n2 : ¬ a = 194 := fun e => by rw [e] at ha; simp at ha
      show befW (a :: x :: R) k = _
      rw [befW, if_neg n1, if_neg (fun e => n2 e.1), if_pos (.inl ha)]
    · have n1 : ¬ a = 92 := fun e => by rw [e] at ha; simp at ha
      match t, hne with
      | y :: t, _ =>
        have n2 : ¬ (a = 194 ∧ y = 167) := fun ⟨e1, e2⟩ => by
          have := h2 (by rw [e1]; rfl)
          have ht0 : t = [] := List.length_eq_zero_iff.1 (by simpa using this)
          rw [e1, e2, ht0] at hs
          simp at hs
        show befW (a :: y :: (t ++ x :: R)) k = _
        rw [befW, if_neg n1, if_neg n2, if_pos (.inr (by omega))]
        exact bef_tail (y :: t) x R (k + 1) ht
theorem esc_pos {c : ByteArray} (hc : IsCh c) : ∃ x R, esc c = x :: R := by
  obtain ⟨a, t, hb, _⟩ := ch_bytes hc
  unfold esc
  split
  · exact ⟨_, _, rfl⟩
  · exact ⟨a, t, hb⟩
theorem bef_chars : ∀ (cs : List ByteArray) (j k : Nat) (c0 : ByteArray), (∀ c ∈ cs, IsCh c) → cs[j]? = some c0 → isS c0 = true → (∀ c ∈ cs.take j, isS c = false) → befW (cs.flatMap esc ++ [39]) k = ((k + j : Nat) : Int)
  | [], j, k, c0, _, h, _, _ => by simp at h
  | c :: cs, 0, k, c0, _, h, hs, _ => by
    obtain rfl : c = c0 := by simpa using h
    rw [List.flatMap_cons, esc_sec hs]
    show befW (194 :: 167 :: (cs.flatMap esc ++ [39])) k = _
    rw [befW, if_neg (by decide), if_pos ⟨rfl, rfl⟩]
    simp
  | c :: cs, j + 1, k, c0, hch, h, hs, hno => by
    have h' : cs[j]? = some c0 := by simpa using h
    have ih := bef_chars cs j (k + 1) c0 (fun x hx => hch x (.tail _ hx)) h' hs (fun x hx => hno x (by rw [List.take_succ_cons]; exact .tail _ hx))
    rw [List.flatMap_cons, List.append_assoc]
    have hne : ∃ x R, cs.flatMap esc ++ [39] = x :: R := by
      cases cs with
      | nil => exact ⟨_, _, rfl⟩
      | cons d cs =>
        obtain ⟨x, R, e⟩ := esc_pos (hch d (.tail _ (.head _)))
        rw [List.flatMap_cons, e]
        exact ⟨_, _, rfl⟩
    obtain ⟨x, R, e⟩ := hne
    rw [e] at ih ⊢
    rw [bef_ch (hch c (.head _)) (hno c (by rw [List.take_succ_cons]; exact .head _)) x R k, ih]
    congr 1
    omega
theorem quo_skip (b : ByteArray) (p r : List UInt8) (hb : bl b = p ++ 39 :: r) (hp : ∀ x ∈ p, ¬ x = 39) : ∀ (d i f : Nat), i + d = p.length → d < f → quoAt b f i = p.length
  | 0, i, f, h, hf => by
    have hi : i = p.length := by omega
    have : (bl b)[i]? = some 39 := by rw [hb, hi]; simp
    rw [quo_end (fun e => e.2 (by rw [byteI_bl this]; rfl)), hi]
  | d + 1, i, f, h, hf => by
    have hi : i < p.length := by omega
    have hx : (bl b)[i]? = some p[i] := by rw [hb, List.getElem?_append_left hi, List.getElem?_eq_getElem hi]
    have hlt : i < b.size := by rw [← bl_size, hb]; simp; omega
    have hne : byteI b i ≠ 39 := by
      rw [byteI_bl hx]
      intro e
      exact hp _ (List.getElem_mem hi) (u8_of (m := 39) (by simpa using e))
    cases f with
    | zero => omega
    | succ f => rw [quo_step hlt hne, quo_skip b p r hb hp d (i + 1) f (by omega) (by omega)]
theorem dig_no : ∀ n : Fin 40, (bl (digB n.1)).all (fun x => x != 39) = true := by decide +kernel
theorem befS_text {s : List Nd} (wf : WF s) {n j : Nat} {x : Nd} {c0 : ByteArray} (hx : s[n]? = some x) (ht : x.t = true) (hc : x.cs[j]? = some c0) (hs : isS c0 = true) (hno : ∀ c ∈ x.cs.take j, isS c = false) (k : Nat) : befS (shownF s (k + 1) n) = (j : Int) := by
  have hn := (List.getElem?_eq_some_iff.1 hx).1
  have hn40 : n < 40 := by have := wf.cap; omega
  have hsh : bl (shownF s (k + 1) n) = bl (digB n) ++ 39 :: (x.cs.flatMap esc ++ [39]) := by
    unfold shownF
    rw [hx]
    simp only [ht, if_true]
    rw [bl_append, bl_text, bl_append, List.append_assoc, List.append_assoc]
    rfl
  have hd : ∀ y ∈ bl (digB n), ¬ y = 39 := by
    have := dig_no ⟨n, hn40⟩
    rw [List.all_eq_true] at this
    intro y hy
    simpa using this y hy
  have hl := congrArg List.length hsh
  rw [bl_size, List.length_append, List.length_cons] at hl
  unfold befS
  rw [quo_skip _ _ _ hsh hd (bl (digB n)).length 0 _ (by omega) (by omega), befF_bl _ _ _ _ (by omega), hsh]
  rw [show (bl (digB n)).length + 1 = (bl (digB n)).length + 1 from rfl, List.drop_append, List.drop_eq_nil_of_le (by omega), List.nil_append, show (bl (digB n)).length + 1 - (bl (digB n)).length = 1 by omega]
  show befW (x.cs.flatMap esc ++ [39]) 0 = _
  rw [bef_chars x.cs j 0 c0 (wf.chars n x hx).2 hc hs hno]
  congr 1
  omega
end Go.Proofs.YtabogkonklplcaaGreatDoor

namespace Go.Proofs.YtabogkonklplcaaGreatDoor
open Go.RowKit Go.Lib
set_option linter.unusedSimpArgs false
set_option linter.unusedVariables false
structure SecAt (s : List Nd) (n k : Nat) : Prop where
  ex : ∃ (x : Nd) (c : ByteArray), s[n]? = some x ∧ x.t = true ∧ 0 ≤ x.p ∧ x.cs[k]? = some c ∧ isS c = true
  one : ∀ (m j : Nat) (x : Nd) (c : ByteArray), s[m]? = some x → x.cs[j]? = some c → isS c = true → m = n ∧ j = k
def Cov (s : List Nd) (z : Sp) (n k : Nat) : Prop := SpIs s ⟨z.a, z.b, (n : Int), (k : Int)⟩ ∧ SpIs s ⟨(n : Int), ((k + 1 : Nat) : Int), z.c, z.d⟩
section
variable {s : List Nd}
theorem SpIs.where_ (wf : WF s) {h : Nat → Nat} {B : Nat} (u : Up s h B) {z : Sp} (hz : SpIs s z) : ∃ a b c d t : Nat, z = ⟨a, b, c, d⟩ ∧ a < s.length ∧ c < s.length ∧ b ≤ sizeAt s a ∧ d ≤ sizeAt s c ∧ IsTop s a t ∧ IsTop s c t ∧ wh (plF s (B + 1) t) (a, b) ≤ wh (plF s (B + 1) t) (c, d) := by
  obtain ⟨a, b, c, d, t, i, j, S⟩ := spIs_at wf u hz
  obtain ⟨rfl, ha, hc, ta, tc, hb, hd, hi, hj, hij⟩ := S
  refine ⟨a, b, c, d, t, rfl, ha, hc, hb, hd, ta, tc, ?_⟩
  rw [wh_at (pl_nodup wf (B + 1) t) hi, wh_at (pl_nodup wf (B + 1) t) hj]
  omega
theorem spIs_of_wh (wf : WF s) {h : Nat → Nat} {B : Nat} (u : Up s h B) {a b c d t : Nat} (ha : a < s.length) (hc : c < s.length) (hb : b ≤ sizeAt s a) (hd : d ≤ sizeAt s c) (ta : IsTop s a t) (tc : IsTop s c t)
    (hw : wh (plF s (B + 1) t) (a, b) ≤ wh (plF s (B + 1) t) (c, d)) : SpIs s ⟨a, b, c, d⟩ := by
  obtain ⟨l, wl⟩ := way_there wf ta ha
  obtain ⟨l2, wl2⟩ := way_there wf tc hc
  refine spIs_lives.two wf ⟨a, b, rfl, rfl, ha, hb⟩ ⟨c, d, rfl, rfl, hc, hd⟩ ta wl wl2 ?_
  rw [cmp_ways wf u wl wl2 hb hd (wh_is _ _) (wh_is _ _)]
  split
  · decide
  · rw [if_neg (by omega)]; decide
theorem spIs_trans (wf : WF s) {a b c d e f : Int} (h1 : SpIs s ⟨a, b, c, d⟩) (h2 : SpIs s ⟨c, d, e, f⟩) : SpIs s ⟨a, b, e, f⟩ := by
  obtain ⟨hh, B, u⟩ := wf.up
  obtain ⟨a1, b1, c1, d1, t, e1, ha, hc, hb, hd, ta, tc, hw⟩ := h1.where_ wf u
  obtain ⟨c2, d2, e2, f2, t2, e3, hc2, he2, hd2, hf2, tc2, te2, hw2⟩ := h2.where_ wf u
  simp only [Sp.mk.injEq] at e1 e3
  obtain ⟨rfl, rfl, rfl, rfl⟩ := e1
  obtain ⟨q1, q2, rfl, rfl⟩ := e3
  obtain rfl : c1 = c2 := by omega
  obtain rfl : d1 = d2 := by omega
  obtain rfl := tc.one tc2
  exact spIs_of_wh wf u ha he2 hb hf2 ta te2 (by omega)
theorem spIs_in (wf : WF s) {n k k2 : Nat} (hn : n < s.length) (h : k ≤ k2) (hk : k2 ≤ sizeAt s n) : SpIs s ⟨n, k, n, k2⟩ := by
  obtain ⟨t, ta⟩ := top_there wf n hn
  obtain ⟨l, wl⟩ := way_there wf ta hn
  refine spIs_lives.two wf ⟨n, k, rfl, rfl, hn, by omega⟩ ⟨n, k2, rfl, rfl, hn, hk⟩ ta wl wl ?_
  have key : ∀ l : List Nat, lexC (l ++ [k]) (l ++ [k2]) ≤ 0 := by
    intro l
    induction l with
    | nil =>
      show (if k < k2 then -1 else if k2 < k then 1 else lexC [] []) ≤ 0
      split
      · decide
      · rw [if_neg (by omega)]; decide
    | cons a l ih =>
      show (if a < a then -1 else if a < a then 1 else lexC (l ++ [k]) (l ++ [k2])) ≤ 0
      rw [if_neg (Nat.lt_irrefl _), if_neg (Nat.lt_irrefl _)]
      exact ih
  exact key l
theorem cov_move {s s' : List Nd} {f : Mvf} {z : Sp} {n k n' k' : Nat} (lv : ∀ z, SpIs s z → SpIs s' (mvSp f z)) (wf' : WF s') (hC : Cov s z n k)
    (h1 : f n k = ((n' : Int), (k' : Int)) ∨ SpIs s' ⟨(f n k).1, (f n k).2, n', k'⟩) (h2 : f n ((k + 1 : Nat) : Int) = ((n' : Int), ((k' + 1 : Nat) : Int))) : Cov s' (mvSp f z) n' k' := by
  have l1 := lv _ hC.1
  have l2 := lv _ hC.2
  unfold mvSp at l1 l2
  simp only [h2] at l2
  refine ⟨?_, l2⟩
  rcases h1 with h1 | h1
  · simp only [h1] at l1
    exact l1
  · exact spIs_trans wf' l1 h1
end
theorem bit_no : ∀ m : Fin 7, (bitC m.1).all (fun c => !isS c) = true := by decide +kernel
theorem bitC_no {m : Nat} (hm : m < 7) {c : ByteArray} (hc : c ∈ bitC m) : isS c = false := by
  have := bit_no ⟨m, hm⟩
  rw [List.all_eq_true] at this
  simpa using this c hc
theorem SecAt.same {s s' : List Nd} {n k : Nat} (h : SecAt s n k) (hn : ∀ x, s[n]? = some x → ∃ y, s'[n]? = some y ∧ y.t = x.t ∧ y.cs = x.cs ∧ y.p = x.p)
    (hm : ∀ (m j : Nat) (y : Nd) (c : ByteArray), s'[m]? = some y → y.cs[j]? = some c → isS c = true → ∃ (j2 : Nat) (m2 : Nat) (x : Nd), s[m2]? = some x ∧ x.cs[j2]? = some c ∧ (m2 = n → j2 = k → m = n ∧ j = k)) : SecAt s' n k := by
  obtain ⟨x, c, hx, ht, hp, hc, hs⟩ := h.ex
  obtain ⟨y, hy, e1, e2, e3⟩ := hn x hx
  refine ⟨⟨y, c, hy, by rw [e1]; exact ht, by rw [e3]; exact hp, by rw [e2]; exact hc, hs⟩, ?_⟩
  intro m j y2 c2 hy2 hc2 hs2
  obtain ⟨j2, m2, x2, hx2, hcx, hh⟩ := hm m j y2 c2 hy2 hc2 hs2
  obtain ⟨q1, q2⟩ := h.one m2 j2 x2 c2 hx2 hcx hs2
  exact hh q1 q2
theorem mvNil (z : Sp) : mvSp (compF []) z = z := by rw [compF_nil]; rfl
theorem kept_none {s s' : List Nd} {z : Sp} {n k : Nat} (lv : ∀ z, SpIs s z → SpIs s' (mvSp (compF []) z)) (hC : Cov s z n k) : Cov s' (mvSp (compF []) z) n k := by
  have l1 := lv _ hC.1
  have l2 := lv _ hC.2
  rw [mvNil] at l1 l2 ⊢
  exact ⟨l1, l2⟩
section
variable {s s' : List Nd} {f : Mvf} {n k : Nat} {z : Sp}
theorem kept_new {nd : Nd} {r a y : Int} (hnd : nd = rootNd ∨ ∃ m : Nat, m < 7 ∧ nd = ⟨true, bitC m, [], -1⟩) (R : NewR s nd r a y s' f) (lv : ∀ z, SpIs s z → SpIs s' (mvSp f z)) (hS : SecAt s n k) (hC : Cov s z n k) : ∃ n' k', SecAt s' n' k' ∧ Cov s' (mvSp f z) n' k' := by
  obtain ⟨rfl, R⟩ := R
  refine ⟨n, k, ?_, kept_none lv hC⟩
  rcases R with ⟨_, rfl⟩ | ⟨_, _, _, rfl⟩
  · exact hS
  · have hno : ∀ c ∈ nd.cs, isS c = false := by
      rcases hnd with rfl | ⟨m, hm, rfl⟩
      · intro c hc; cases hc
      · exact fun c hc => bitC_no hm hc
    refine hS.same (fun x hx => ⟨x, ?_, rfl, rfl, rfl⟩) (fun m j y c hy hc hs => ?_)
    · rw [List.getElem?_append_left (List.getElem?_eq_some_iff.1 hx).1]; exact hx
    · by_cases hml : m < s.length
      · rw [List.getElem?_append_left hml] at hy
        exact ⟨j, m, y, hy, hc, fun a b => ⟨a, b⟩⟩
      · have hm2 : m = s.length := by
          have := (List.getElem?_eq_some_iff.1 hy).1
          simp at this
          omega
        subst hm2
        rw [List.getElem?_append_right (Nat.le_refl _)] at hy
        simp at hy
        subst hy
        have := hno c (List.mem_of_getElem? hc)
        rw [hs] at this
        cases this
theorem kept_ins {A B C a y : Int} (R : InsR s A B C a y s' f) (wf' : WF s') (lv : ∀ z, SpIs s z → SpIs s' (mvSp f z)) (hS : SecAt s n k) (hC : Cov s z n k) : ∃ n' k', SecAt s' n' k' ∧ Cov s' (mvSp f z) n' k' := by
  rcases R with ⟨_, rfl, rfl⟩ | ⟨_, i, j, c, x, v, _, _, _, hI, _, hc, hij, rfl, rfl⟩
  · exact ⟨n, k, hS, kept_none lv hC⟩
  · obtain ⟨x0, c0, hx0, ht0, hp0, hc0, hs0⟩ := hS.ex
    have hni : i ≠ n := fun e => by
      subst e
      rw [hI.hx] at hx0
      cases hx0
      rw [hI.ht] at ht0
      cases ht0
    have hnj : j ≠ n := fun e => by
      subst e
      rw [hI.hy] at hx0
      cases hx0
      have := hI.hp
      omega
    refine ⟨n, k, hS.same (fun x1 hx1 => ⟨x1, ?_, rfl, rfl, rfl⟩) (fun m q y1 c1 hy1 hc1 hs1 => ?_), cov_move lv wf' hC (.inl ?_) ?_⟩
    · rw [List.getElem?_set_ne hnj, List.getElem?_set_ne hni]; exact hx1
    · by_cases hmj : j = m
      · subst hmj
        rw [List.getElem?_set_self (by rw [List.length_set]; exact (List.getElem?_eq_some_iff.1 hI.hy).1)] at hy1
        cases hy1
        exact ⟨q, j, v, hI.hy, hc1, fun a b => ⟨a, b⟩⟩
      · rw [List.getElem?_set_ne hmj] at hy1
        by_cases hmi : i = m
        · subst hmi
          rw [List.getElem?_set_self (List.getElem?_eq_some_iff.1 hI.hx).1] at hy1
          cases hy1
          exact ⟨q, i, x, hI.hx, hc1, fun a b => ⟨a, b⟩⟩
        · rw [List.getElem?_set_ne hmi] at hy1
          exact ⟨q, m, y1, hy1, hc1, fun a b => ⟨a, b⟩⟩
    · unfold shiftF
      rw [if_neg (fun e => hni (by omega))]
    · unfold shiftF
      rw [if_neg (fun e => hni (by omega))]
theorem kept_rem {i : Nat} {a y : Int} {h : Nat → Nat} {H : Nat} (wf : WF s) (u : Up s h H) (hg : cntS (shownF s (h i + 1) i) = 0) (R : RemR s (i : Int) a y s' f) (wf' : WF s') (lv : ∀ z, SpIs s z → SpIs s' (mvSp f z)) (hS : SecAt s n k) (hC : Cov s z n k) : ∃ n' k', SecAt s' n' k' ∧ Cov s' (mvSp f z) n' k' := by
  rcases R with ⟨_, rfl, rfl⟩ | ⟨_, i', hii, R⟩
  · exact ⟨n, k, hS, kept_none lv hC⟩
  · obtain rfl : i = i' := by omega
    obtain ⟨x0, c0, hx0, ht0, hp0, hc0, hs0⟩ := hS.ex
    have hnl := (List.getElem?_eq_some_iff.1 hx0).1
    have hnot : n ∉ allF s (h i + 1) i := fun e => by
      obtain ⟨p, r, hb⟩ := shown_has wf hx0 ht0 hc0 hs0 (h i + 1) i e
      have := cntL_in p r
      rw [← hb, ← cntS_bl] at this
      omega
    cases R with
    | @rem _ j m x y h2 H2 hx hj hy hm hno hij wf2 u2 =>
      have hni : i ≠ n := fun e => hnot (by subst e; rw [allF]; exact .head _)
      have hnj : j ≠ n := fun e => by
        subst e
        rw [hy] at hx0
        cases hx0
        have := (wf.elem _ _ hy).1 ht0
        rw [this] at hm
        simp at hm
      have hng : n ∉ allF ((s.set j { y with ks := y.ks.take m ++ y.ks.drop (m + 1) }).set i { x with p := -1 }) (h2 i + 1) i := fun e => by
        obtain ⟨q, hq⟩ := (gone_iff wf u hx hj hy hm hij wf2 u2 n hnl).1 e
        exact hnot (all_of_climb wf u (h i + 1) i (Nat.lt_succ_self _) q n hnl hq)
      have hcon : (((allF ((s.set j { y with ks := y.ks.take m ++ y.ks.drop (m + 1) }).set i { x with p := -1 }) (h2 i + 1) i).map Int.ofNat).contains (n : Int)) = false := by
        rw [Bool.eq_false_iff]
        intro e
        rw [List.contains_iff_mem] at e
        obtain ⟨q, hq, e⟩ := List.mem_map.1 e
        have : q = n := by have e' : (q : Int) = (n : Int) := e; omega
        subst this
        exact hng hq
      refine ⟨n, k, hS.same (fun x1 hx1 => ⟨x1, ?_, rfl, rfl, rfl⟩) (fun m2 q y1 c1 hy1 hc1 hs1 => ?_), cov_move lv wf' hC (.inl ?_) ?_⟩
      · rw [List.getElem?_set_ne hni, List.getElem?_set_ne hnj]; exact hx1
      · by_cases hmi : i = m2
        · subst hmi
          rw [List.getElem?_set_self (by rw [List.length_set]; exact (List.getElem?_eq_some_iff.1 hx).1)] at hy1
          cases hy1
          exact ⟨q, i, x, hx, hc1, fun a b => ⟨a, b⟩⟩
        · rw [List.getElem?_set_ne hmi] at hy1
          by_cases hmj : j = m2
          · subst hmj
            rw [List.getElem?_set_self (List.getElem?_eq_some_iff.1 hy).1] at hy1
            cases hy1
            exact ⟨q, j, y, hy, hc1, fun a b => ⟨a, b⟩⟩
          · rw [List.getElem?_set_ne hmj] at hy1
            exact ⟨q, m2, y1, hy1, hc1, fun a b => ⟨a, b⟩⟩
      · unfold gatherF shiftF
        rw [hcon]
        simp only [Bool.false_eq_true, if_false]
        rw [if_neg (fun e => hnj (by omega))]
      · unfold gatherF shiftF
        rw [hcon]
        simp only [Bool.false_eq_true, if_false]
        rw [if_neg (fun e => hnj (by omega))]
theorem chars_bit {m : Nat} (hm : m < 7) {lf : List ByteArray} (h : charsOf (bitN m) = some lf) : lf = bitC m := by
  have := (bit_takes m hm).1
  rw [h] at this
  exact Option.some.inj this
theorem kept_rep {nn o c m : Nat} {a y : Int} {h : Nat → Nat} {H : Nat} (wf : WF s) (hm : m < 7) (hg : befS (shownF s (h nn + 1) nn) < (o : Int) ∨ (o : Int) + (c : Int) ≤ befS (shownF s (h nn + 1) nn)) (R : RepR s (nn : Int) (o : Int) (c : Int) (bitN m) a y s' f) (wf' : WF s') (lv : ∀ z, SpIs s z → SpIs s' (mvSp f z)) (hS : SecAt s n k) (hC : Cov s z n k) : ∃ n' k', SecAt s' n' k' ∧ Cov s' (mvSp f z) n' k' := by
  rcases R with ⟨_, rfl, rfl⟩ | ⟨_, n1, o1, cm, x, lf, e1, e2, hcm, hx, ht, hc0, hoc, hlf, rfl, rfl⟩
  · exact ⟨n, k, hS, kept_none lv hC⟩
  · obtain rfl : nn = n1 := by omega
    obtain rfl : o = o1 := by omega
    have hlb := chars_bit hm hlf
    have hnl := (List.getElem?_eq_some_iff.1 hx).1
    have hlno : ∀ d ∈ lf, isS d = false := fun d hd => bitC_no hm (hlb ▸ hd)
    -- a sign that stands in the text then stood in it before
    have back : ∀ (j : Nat) (d : ByteArray), (x.cs.take o ++ lf ++ x.cs.drop (o + cm))[j]? = some d → isS d = true → (j < o ∧ x.cs[j]? = some d) ∨ (o + lf.length ≤ j ∧ x.cs[j - lf.length + cm]? = some d) := by
      intro j d hj hd
      have hol : (x.cs.take o).length = o := by rw [List.length_take]; omega
      by_cases h1 : j < o
      · left
        refine ⟨h1, ?_⟩
        rw [List.append_assoc, List.getElem?_append_left (by omega), List.getElem?_take_of_lt h1] at hj
        exact hj
      · by_cases h2 : j < o + lf.length
        · rw [List.append_assoc, List.getElem?_append_right (by omega), List.getElem?_append_left (by omega)] at hj
          have := hlno d (List.mem_of_getElem? hj)
          rw [hd] at this
          cases this
        · right
          refine ⟨by omega, ?_⟩
          rw [List.append_assoc, List.getElem?_append_right (by omega), List.getElem?_append_right (by omega), List.getElem?_drop, hol] at hj
          rw [← hj]
          congr 1
          omega
    by_cases hnn : nn = n
    · subst hnn
      obtain ⟨x0, c0, hx0, ht0, hp0, hcx, hs0⟩ := hS.ex
      rw [hx] at hx0
      cases hx0
      have hkl := (List.getElem?_eq_some_iff.1 hcx).1
      have hbef := befS_text wf hx ht hcx hs0 (fun d hd => by
        obtain ⟨j, hj, e⟩ := List.getElem_of_mem hd
        rw [List.getElem_take] at e
        rw [List.length_take] at hj
        cases hb : isS d with
        | false => rfl
        | true =>
          have := (hS.one nn j x d hx (by rw [List.getElem?_eq_getElem (by omega), e]) hb).2
          omega) (h nn)
      rw [hbef] at hg
      have hcmc : (cm : Int) ≤ c := by omega
      have hol : (x.cs.take o).length = o := by rw [List.length_take]; omega
      have hset : (s.set nn { x with cs := x.cs.take o ++ lf ++ x.cs.drop (o + cm) })[nn]? = some { x with cs := x.cs.take o ++ lf ++ x.cs.drop (o + cm) } := List.getElem?_set_self hnl
      have others : ∀ (k' : Nat), (∀ (j : Nat) (d : ByteArray), (x.cs.take o ++ lf ++ x.cs.drop (o + cm))[j]? = some d → isS d = true → j = k') → ∀ (m2 j : Nat) (y2 : Nd) (d : ByteArray), (s.set nn { x with cs := x.cs.take o ++ lf ++ x.cs.drop (o + cm) })[m2]? = some y2 → y2.cs[j]? = some d → isS d = true → m2 = nn ∧ j = k' := by
        intro k' hk' m2 j y2 d hy2 hd hs
        by_cases hm2 : nn = m2
        · subst hm2
          rw [hset] at hy2
          cases hy2
          exact ⟨rfl, hk' j d hd hs⟩
        · rw [List.getElem?_set_ne hm2] at hy2
          exact absurd (hS.one m2 j y2 d hy2 hd hs).1 (fun e => hm2 e.symm)
      rcases hg with hg | hg
      · -- it stands ahead
        have hko : k < o := by omega
        refine ⟨nn, k, ⟨⟨_, c0, hset, ht, hp0, ?_, hs0⟩, others k ?_⟩, cov_move lv wf' hC (.inl ?_) ?_⟩
        · show (x.cs.take o ++ lf ++ x.cs.drop (o + cm))[k]? = some c0
          rw [List.append_assoc, List.getElem?_append_left (by omega), List.getElem?_take_of_lt hko]
          exact hcx
        · intro j d hj hd
          rcases back j d hj hd with ⟨h1, h2⟩ | ⟨h1, h2⟩
          · exact (hS.one nn j x d hx h2 hd).2
          · have := (hS.one nn _ x d hx h2 hd).2
            omega
        · unfold resizeF shiftF
          rw [if_neg (by omega), if_neg (by omega)]
        · unfold resizeF shiftF
          rw [if_neg (by omega), if_neg (by omega)]
      · -- it stands behind
        have hok : o + cm ≤ k := by omega
        obtain ⟨k', hk'⟩ : ∃ k', k' + cm = k + lf.length := ⟨k + lf.length - cm, by omega⟩
        have hat : (x.cs.take o ++ lf ++ x.cs.drop (o + cm))[k']? = some c0 := by
          rw [List.append_assoc, List.getElem?_append_right (by omega), List.getElem?_append_right (by omega), List.getElem?_drop, hol, ← hcx]
          congr 1
          omega
        have hk'l := (List.getElem?_eq_some_iff.1 hat).1
        have hsz : sizeAt (s.set nn { x with cs := x.cs.take o ++ lf ++ x.cs.drop (o + cm) }) nn = (x.cs.take o ++ lf ++ x.cs.drop (o + cm)).length := (sizeAt_eq hset).trans (sizeN_text ht)
        have hnl' : nn < (s.set nn { x with cs := x.cs.take o ++ lf ++ x.cs.drop (o + cm) }).length := by rw [List.length_set]; exact hnl
        refine ⟨nn, k', ⟨⟨_, c0, hset, ht, hp0, hat, hs0⟩, others k' ?_⟩, cov_move lv wf' hC ?_ ?_⟩
        · intro j d hj hd
          rcases back j d hj hd with ⟨h1, h2⟩ | ⟨h1, h2⟩
          · have := (hS.one nn j x d hx h2 hd).2
            omega
          · have := (hS.one nn _ x d hx h2 hd).2
            omega
        · by_cases hlt : o + cm < k
          · left
            unfold resizeF shiftF
            rw [if_neg (by omega), if_pos (by omega)]
            simp only [Prod.mk.injEq, true_and]
            omega
          · right
            have e : resizeF (nn : Int) (o : Int) (cm : Int) (lf.length : Int) (nn : Int) (k : Int) = ((nn : Int), (o : Int)) := by
              unfold resizeF shiftF
              by_cases h0 : cm = 0
              · rw [if_neg (by omega), if_neg (by omega)]
                simp only [Prod.mk.injEq, true_and]
                omega
              · rw [if_pos (by omega)]
            rw [e]
            exact spIs_in wf' hnl' (by omega) (by rw [hsz]; omega)
        · unfold resizeF shiftF
          rw [if_neg (by omega), if_pos (by omega)]
          simp only [Prod.mk.injEq, true_and]
          omega
    · refine ⟨n, k, hS.same (fun x1 hx1 => ⟨x1, ?_, rfl, rfl, rfl⟩) (fun m2 q y1 c1 hy1 hc1 hs1 => ?_), cov_move lv wf' hC (.inl ?_) ?_⟩
      · rw [List.getElem?_set_ne hnn]; exact hx1
      · by_cases hmi : nn = m2
        · subst hmi
          rw [List.getElem?_set_self hnl] at hy1
          cases hy1
          rcases back q c1 hc1 hs1 with ⟨h1, h2⟩ | ⟨h1, h2⟩
          · exact ⟨q, nn, x, hx, h2, fun a b => absurd a hnn⟩
          · exact ⟨_, nn, x, hx, h2, fun a b => absurd a hnn⟩
        · rw [List.getElem?_set_ne hmi] at hy1
          exact ⟨q, m2, y1, hy1, hc1, fun a b => ⟨a, b⟩⟩
      · unfold resizeF shiftF
        rw [if_neg (fun e => hnn (by omega)), if_neg (fun e => hnn (by omega))]
      · unfold resizeF shiftF
        rw [if_neg (fun e => hnn (by omega)), if_neg (fun e => hnn (by omega))]
end
end Go.Proofs.YtabogkonklplcaaGreatDoor
