import Derived.Test.YtabogkonklplcaaGreatDoorV06
import Derived.Test.YtabogkonklplcaaGreatDoorV07
import Derived.Test.YtabogkonklplcaaGreatDoorV08
import Derived.Laws.AppendOwnNone
import Derived.Test.YtabogkonklplcaaGreatDoorV05

namespace Go.Proofs.YtabogkonklplcaaGreatDoor
open Go.RowKit
set_option linter.unusedSimpArgs false
set_option linter.unusedVariables false
theorem charsAt_end (t : ByteArray) (p : Nat) (h : t.size ≤ p) : charsOf (t.extract p t.size) = some [] := by
  rw [charsOf_step, if_pos (by rw [ByteArray.size_extract]; omega)]
theorem charsAt_bad (t : ByteArray) (p : Nat) (h : p < t.size) (hd : Utf8.decode t p = (65533, 1)) : charsOf (t.extract p t.size) = none := by
  rcases headW_at t p h with ⟨h0, _⟩ | ⟨_, _, h2⟩
  · rw [charsOf_step, if_neg (by rw [ByteArray.size_extract]; omega), if_pos h0]
  · exact absurd hd h2
theorem width_le (t : ByteArray) (p : Nat) (h : p < t.size) (hd : Utf8.decode t p ≠ (65533, 1)) : 0 < (Utf8.decode t p).2 ∧ p + (Utf8.decode t p).2 ≤ t.size := by
  rcases headW_at t p h with ⟨_, h0⟩ | ⟨h1, h2, _⟩
  · exact absurd h0 hd
  · have := headW_le (t.extract p t.size)
    rw [ByteArray.size_extract] at this
    rw [h2]
    omega
theorem charsAt_good (t : ByteArray) (p : Nat) (h : p < t.size) (hd : Utf8.decode t p ≠ (65533, 1)) :
    charsOf (t.extract p t.size) = (charsOf (t.extract (p + (Utf8.decode t p).2) t.size)).map (t.extract p (p + (Utf8.decode t p).2) :: ·) := by
  have hw := width_le t p h hd
  rcases headW_at t p h with ⟨_, h0⟩ | ⟨h1, h2, _⟩
  · exact absurd h0 hd
  · rw [charsOf_step, if_neg (by rw [ByteArray.size_extract]; omega), if_neg h1, ← h2]
    rw [ByteArray.size_extract, ByteArray.extract_extract, ByteArray.extract_extract]
    have e1 : min (p + (min t.size t.size - p)) t.size = t.size := by omega
    have e2 : min (p + (Utf8.decode t p).2) t.size = p + (Utf8.decode t p).2 := by omega
    rw [e1, e2]
    rfl
theorem if_cut {n m k : Nat} {q : Prop} {d : Decidable (m ≤ n ∧ q)} {d' : Decidable (m ≤ (if m ≤ n ∧ q then k else 0) ∧ q)} (hk : m ≤ k) (h : (if m ≤ n ∧ q then k else 0) ≠ 0) :
    (if m ≤ (if m ≤ n ∧ q then k else 0) ∧ q then k else 0) = if m ≤ n ∧ q then k else 0 := by
  by_cases c : m ≤ n ∧ q
  · have e : (if m ≤ n ∧ q then k else 0) = k := if_pos c
    exact (if_pos ⟨by rw [e]; exact hk, c.2⟩).trans e.symm
  · rw [if_neg c] at h; exact absurd rfl h
theorem headN_cut {n b0 b1 b2 b3 : Nat} (h : headN n b0 b1 b2 b3 ≠ 0) : headN (headN n b0 b1 b2 b3) b0 b1 b2 b3 = headN n b0 b1 b2 b3 := by
  unfold headN at h ⊢
  by_cases a : b0 < 128
  · simp only [if_pos a]
  simp only [if_neg a] at h ⊢
  by_cases c1 : 194 ≤ b0 ∧ b0 ≤ 223
  · simp only [if_pos c1] at h ⊢
    exact if_cut (by decide) h
  simp only [if_neg c1] at h ⊢
  by_cases c2 : b0 = 224
  · simp only [if_pos c2] at h ⊢
    exact if_cut (by decide) h
  simp only [if_neg c2] at h ⊢
  by_cases c3 : b0 = 237
  · simp only [if_pos c3] at h ⊢
    exact if_cut (by decide) h
  simp only [if_neg c3] at h ⊢
  by_cases c4 : 225 ≤ b0 ∧ b0 ≤ 239
  · simp only [if_pos c4] at h ⊢
    exact if_cut (by decide) h
  simp only [if_neg c4] at h ⊢
  by_cases c5 : b0 = 240
  · simp only [if_pos c5] at h ⊢
    exact if_cut (by decide) h
  simp only [if_neg c5] at h ⊢
  by_cases c6 : 241 ≤ b0 ∧ b0 ≤ 243
  · simp only [if_pos c6] at h ⊢
    exact if_cut (by decide) h
  simp only [if_neg c6] at h ⊢
  by_cases c7 : b0 = 244
  · simp only [if_pos c7] at h ⊢
    exact if_cut (by decide) h
  simp only [if_neg c7] at h ⊢
theorem isCh_head (t : ByteArray) (h : headW t ≠ 0) : IsCh (t.extract 0 (headW t)) := by
  have hle := headW_le t
  have hsz : (t.extract 0 (headW t)).size = headW t := by rw [ByteArray.size_extract]; omega
  refine ⟨by omega, ?_⟩
  have hb : ∀ i, i < headW t → byteI (t.extract 0 (headW t)) i = byteI t i := fun i hi => by rw [byteI_extract t 0 (headW t) i (by omega) hle, Nat.zero_add]
  have e1 := headW_eq t (by omega) (byteN t 0) (byteN t 1) (byteN t 2) (byteN t 3) (byteI_nat t 0 (by omega)) (fun h => byteI_nat t 1 h) (fun h => byteI_nat t 2 h) (fun h => byteI_nat t 3 h)
  have e2 := headW_eq (t.extract 0 (headW t)) (by omega) (byteN t 0) (byteN t 1) (byteN t 2) (byteN t 3) (by rw [hb 0 (by omega)]; exact byteI_nat t 0 (by omega)) (fun h => by rw [hb 1 (by omega)]; exact byteI_nat t 1 (by omega)) (fun h => by rw [hb 2 (by omega)]; exact byteI_nat t 2 (by omega)) (fun h => by rw [hb 3 (by omega)]; exact byteI_nat t 3 (by omega))
  rw [e2, hsz]
  rw [e1] at h ⊢
  exact headN_cut h
theorem charsOf_isCh (k : Nat) : ∀ (t : ByteArray) (l : List ByteArray), t.size ≤ k → charsOf t = some l → ∀ c ∈ l, IsCh c := by
  induction k with
  | zero =>
    intro t l hk h c hc
    rw [charsOf_step, if_pos (by omega)] at h
    cases h
    cases hc
  | succ k ih =>
    intro t l hk h c hc
    rw [charsOf_step] at h
    by_cases h0 : t.size = 0
    · rw [if_pos h0] at h; cases h; cases hc
    · rw [if_neg h0] at h
      by_cases h1 : headW t = 0
      · rw [if_pos h1] at h; cases h
      · rw [if_neg h1, Option.map_eq_some_iff] at h
        obtain ⟨l', h2, rfl⟩ := h
        rcases List.mem_cons.1 hc with rfl | hc
        · exact isCh_head t h1
        · exact ih _ l' (by rw [ByteArray.size_extract]; omega) h2 c hc
theorem catB_cons (c : ByteArray) (l : List ByteArray) : catB (c :: l) = c ++ catB l := by
  have g : ∀ (l : List ByteArray) (a : ByteArray), l.foldl (· ++ ·) a = a ++ l.foldl (· ++ ·) ⟨#[]⟩ := by
    intro l
    induction l with
    | nil => intro a; show a = a ++ ByteArray.empty; simp
    | cons b l ih =>
      intro a
      rw [List.foldl_cons, List.foldl_cons, ih (a ++ b), ih (⟨#[]⟩ ++ b), ← ByteArray.append_assoc]
      have e : (⟨#[]⟩ : ByteArray) ++ b = b := by show ByteArray.empty ++ b = b; simp
      rw [e]
  show List.foldl (· ++ ·) (⟨#[]⟩ ++ c) l = _
  rw [g]
  have e : (⟨#[]⟩ : ByteArray) ++ c = c := by show ByteArray.empty ++ c = c; simp
  rw [e]
  rfl
theorem charsOf_cat (k : Nat) : ∀ (t : ByteArray) (l : List ByteArray), t.size ≤ k → charsOf t = some l → catB l = t := by
  induction k with
  | zero =>
    intro t l hk h
    rw [charsOf_step, if_pos (by omega)] at h
    cases h
    exact (ByteArray.size_eq_zero_iff.1 (by omega)).symm
  | succ k ih =>
    intro t l hk h
    rw [charsOf_step] at h
    by_cases h0 : t.size = 0
    · rw [if_pos h0] at h; cases h; exact (ByteArray.size_eq_zero_iff.1 h0).symm
    · rw [if_neg h0] at h
      by_cases h1 : headW t = 0
      · rw [if_pos h1] at h; cases h
      · rw [if_neg h1, Option.map_eq_some_iff] at h
        obtain ⟨l', h2, rfl⟩ := h
        rw [catB_cons, ih _ l' (by rw [ByteArray.size_extract]; omega) h2, ← ByteArray.extract_eq_extract_append_extract (headW t) (by omega) (headW_le t)]
        simp
end Go.Proofs.YtabogkonklplcaaGreatDoor

namespace Go.Proofs.YtabogkonklplcaaGreatDoor
open Go.RowKit
set_option linter.unusedSimpArgs false
set_option linter.unusedVariables false
section
variable {w : World} {F : Nat → Prop} {bd bn cap : Nat} {rn : List RN} {rv : Value} {s : List Nd} {rs : List Sp}
end
end Go.Proofs.YtabogkonklplcaaGreatDoor

namespace Go.Proofs.YtabogkonklplcaaGreatDoor
open Go.RowKit
set_option linter.unusedSimpArgs false
set_option linter.unusedVariables false
def SrcOk (w : World) (size : Nat) (xv : Value) (m : Nat) (news : List Value) : Prop :=
  (xv = .slice none 0 0 ∧ m = 0 ∧ news = []) ∨ ∃ ad c, xv = .slice (some ad) m c ∧ news.length = m * size ∧ (∀ j u, news[j]? = some u → w.cell? (ad.add j) = some u) ∧ ∀ u ∈ news, u.oneCell' = true
theorem wp_append_any {P : Program} (w : World) {o : Oper} {a : Act} {K : Act → World → Prop} {Q : Exit → Act → World → Prop} (s x : Operand) (t : TypeId)
    (ho : o.op = .call { callee := .builtin .append, args := #[s, x], argTypes := #[t, t] })
    (base : Nat) (e : TypeId) (i : TypeInfo) (z : Value) (size bytes : Nat) (ht : P.underlying t = some (.slice e)) (hi : P.info? e = some i) (hz : i.zero = some z)
    (hsize : i.size = size) (hby : i.bytes = bytes) (hzs : z.cells.size = size) (hsz : 0 < size)
    (v : Value) (n : Nat) (xs : List Value) (hs : a.eval s = v) (hown : w.ownsRow base e size v n xs)
    (xv : Value) (m : Nat) (news : List Value) (hx : a.eval x = xv) (hsrc : SrcOk w size xv m news)
    (h63 : n + m ≤ maxLen) (hbytes : (n + m) * bytes ≤ 140737488355328) (hbase : base ≤ w.heap.size)
    (h : ∀ v' w', w'.ownsRow base e size v' (n + m) (xs ++ news) → Below base w w' → K (a.put o.dst v') w') : o.wp P a w K Q := by
  rcases hsrc with ⟨rfl, rfl, rfl⟩ | ⟨ad, c, rfl, hl, hn, h1⟩
  · have hrun := run_append_owned_none (P := P) (w := w) base t o.type e i size ht hi v n xs hown
    unfold Oper.wp
    simp [execOp, ho, resolve, invoke, builtin, hs, hx, hrun, Result.andThen]
    exact h v w (by simpa using hown) (Below.refl _ w)
  · exact wp_append_own w s x t ho base e i z size bytes ht hi hz hsize hby hzs hsz v n xs hs hown ad m c news hx hl hn h1 h63 hbytes hbase
      (fun v' w' h2 h3 _ => h v' w' h2 ((Below.refl base w).grown h3 hbase (fun k e => (hown.lt k e).1)))
theorem wpList_append_any {P : Program} (w : World) {ops : Array Oper} {rest : List Oper} {o : Oper} {a : Act} {Q : Exit → Act → World → Prop} (hgd : o.guard = none) (s x : Operand) (t : TypeId)
    (ho : o.op = .call { callee := .builtin .append, args := #[s, x], argTypes := #[t, t] })
    (base : Nat) (e : TypeId) (i : TypeInfo) (z : Value) (size bytes : Nat) (ht : P.underlying t = some (.slice e)) (hi : P.info? e = some i) (hz : i.zero = some z)
    (hsize : i.size = size) (hby : i.bytes = bytes) (hzs : z.cells.size = size) (hsz : 0 < size)
    (v : Value) (n : Nat) (xs : List Value) (hs : a.eval s = v) (hown : w.ownsRow base e size v n xs)
    (xv : Value) (m : Nat) (news : List Value) (hx : a.eval x = xv) (hsrc : SrcOk w size xv m news)
    (h63 : n + m ≤ maxLen) (hbytes : (n + m) * bytes ≤ 140737488355328) (hbase : base ≤ w.heap.size)
    (h : ∀ v' w', w'.ownsRow base e size v' (n + m) (xs ++ news) → Below base w w' → wpList P ops Q rest (a.put o.dst v') w') : wpList P ops Q (o :: rest) a w :=
  wpList_plain hgd fun _ hK => wp_append_any w s x t ho base e i z size bytes ht hi hz hsize hby hzs hsz v n xs hs hown xv m news hx hsrc h63 hbytes hbase fun v' w' h2 h3 => hK _ _ (h v' w' h2 h3)
end Go.Proofs.YtabogkonklplcaaGreatDoor

namespace Go.Proofs.YtabogkonklplcaaGreatDoor
open Go.RowKit
set_option linter.unusedSimpArgs false
set_option linter.unusedVariables false
section
variable {w : World} {F : Nat → Prop} {bd bn cap : Nat} {rn : List RN} {rv : Value} {s : List Nd} {rs : List Sp}
theorem RDocAt.newChars (h : RDocAt w F bd bn cap rn rv s rs) {N i : Nat} {x : Nd} {v' : Value} {cs' : List ByteArray} (hF : ∀ b, F b → b < N) (hx : s[i]? = some x) (hrow : w.ownsRow N 9 1 v' cs'.length (strsV cs')) :
    ∃ rn2, RDocAt (w.setCell ⟨bn, i * 4 + 1, none⟩ v') (fun b => F b ∨ N ≤ b) bd bn cap rn2 rv (s.set i { x with cs := cs' }) rs := by
  obtain ⟨r, hr, ho⟩ := h.raw hx
  have hw := h.wider (G := fun b => F b ∨ N ≤ b) (fun b e => .inl e)
  have ho2 := hw.ok i r x hr hx
  have hb := fun b e => (hrow.lt b e).1
  have h0 : w.ownsRow 0 9 1 v' cs'.length (strsV cs') := by
    refine ⟨hrow.1, ?_⟩
    rcases hrow.2 with e | ⟨g, c, cur, e, _, q⟩
    · exact .inl e
    · exact .inr ⟨g, c, cur, e, Nat.zero_le _, q⟩
  refine ⟨_, hw.setNode (r' := { r with cv := v' }) hr hx 1 (by omega) v' rfl ⟨ho2.t, ho2.p, h0, ho2.kids, fun b e => ?_, ho2.apartK⟩⟩
  have h1 := hb b e
  have h2 := hF _ h.Fd
  have h3 := hF _ h.Fn
  refine ⟨.inr h1, by omega, by omega, fun e2 => ?_⟩
  have h4 := hF _ (h.apart b e2).1
  omega
end
end Go.Proofs.YtabogkonklplcaaGreatDoor

namespace Go.Proofs.YtabogkonklplcaaGreatDoor
open Go.RowKit
set_option linter.unusedSimpArgs false
set_option linter.unusedVariables false
section
variable {w : World} {F : Nat → Prop} {bd bn cap : Nat} {rn : List RN} {rv : Value} {s : List Nd} {rs : List Sp}
end
end Go.Proofs.YtabogkonklplcaaGreatDoor
