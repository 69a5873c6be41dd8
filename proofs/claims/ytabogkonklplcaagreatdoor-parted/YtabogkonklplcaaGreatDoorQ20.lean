import Derived.Test.YtabogkonklplcaaGreatDoorQ13
import Derived.Maps.AppendAt

namespace Go.Proofs.YtabogkonklplcaaGreatDoor
open Go.RowKit
set_option linter.unusedSimpArgs false
set_option linter.unusedVariables false
def RunePut (v : Value) (bs : List Value) (w : World) (e : Ending) (w' : World) : Prop :=
  ∃ v', e = .returned v' ∧ w'.ownsRow 0 5 1 v' bs.length bs ∧ (∃ o, (w.alloc o).grownBy w' v.ownBlock) ∧ (v'.ownBlock = v.ownBlock ∨ v'.ownBlock = some (w.heap.size + 1))
set_option maxHeartbeats 4000000 in
set_option maxRecDepth 100000 in
theorem nonascii_two (a0 : Option Addr) (n0 p0 : Nat) (bs : List Value) (r : Int) (h0 : 128 ≤ r) (h1 : r ≤ 2047) (w : World) (hown : w.ownsRow 0 5 1 (.slice a0 n0 p0) bs.length bs) (hlen : bs.length < lots) :
    Calls Tryz.prog 196 #[.slice a0 n0 p0, .int .i32 r] w (RunePut (.slice a0 n0 p0) (bs ++ [.int .u8 (192 + r / 64), .int .u8 (128 + r % 64)]) w) := by
  obtain ⟨i0, hi, hz0, hz1, hz2⟩ := info_parts Tryz.info5
  unfold lots at hlen
  go_enter Tryz.func196, Tryz.ntmps196
  go_wp2_with (at_builtin; refine wpList_append_own_at _ rfl _ _ 217 rfl 0 5 i0 (.int .u8 0) 1 1 Tryz.underlying217 hi hz0 hz1 hz2 rfl (by decide) (.slice a0 n0 p0) _ _ rfl (hown.alloc _) ⟨w.heap.size, 0, none⟩ 2 2 [.int .u8 (192 + r / 64), .int .u8 (128 + r % 64)] rfl rfl ?c1 (by simp [Value.oneCell']) (by unfold maxLen; omega) (by omega) (Nat.zero_le _) ?_)
  case c1 =>
    intro j u hj
    match j, hj with
    | 0, hj => simp at hj; subst hj; simp [Addr.add]
    | 1, hj => simp at hj; subst hj; simp [Addr.add]
    | (j + 2), hj => simp at hj
  intro v' w2 hown' hgrow _ hat
  go_wp2
  go_ret
  exact ⟨_, rfl, by simpa using hown', ⟨_, hgrow⟩, by simpa using hat⟩
set_option maxHeartbeats 4000000 in
set_option maxRecDepth 100000 in
theorem nonascii_three (a0 : Option Addr) (n0 p0 : Nat) (bs : List Value) (r : Int) (h0 : 2048 ≤ r) (h1 : r < 55296) (w : World) (hown : w.ownsRow 0 5 1 (.slice a0 n0 p0) bs.length bs) (hlen : bs.length < lots) :
    Calls Tryz.prog 196 #[.slice a0 n0 p0, .int .i32 r] w (RunePut (.slice a0 n0 p0) (bs ++ [.int .u8 (224 + r / 4096), .int .u8 (128 + r / 64 % 64), .int .u8 (128 + r % 64)]) w) := by
  obtain ⟨i0, hi, hz0, hz1, hz2⟩ := info_parts Tryz.info5
  unfold lots at hlen
  go_enter Tryz.func196, Tryz.ntmps196
  go_wp2_with (at_builtin; refine wpList_append_own_at _ rfl _ _ 217 rfl 0 5 i0 (.int .u8 0) 1 1 Tryz.underlying217 hi hz0 hz1 hz2 rfl (by decide) (.slice a0 n0 p0) _ _ rfl (hown.alloc _) ⟨w.heap.size, 0, none⟩ 3 3 [.int .u8 (224 + r / 4096), .int .u8 (128 + r / 64 % 64), .int .u8 (128 + r % 64)] rfl rfl ?c1 (by simp [Value.oneCell']) (by unfold maxLen; omega) (by omega) (Nat.zero_le _) ?_)
  case c1 =>
    intro j u hj
    match j, hj with
    | 0, hj => simp at hj; subst hj; simp [Addr.add]
    | 1, hj => simp at hj; subst hj; simp [Addr.add]
    | 2, hj => simp at hj; subst hj; simp [Addr.add]
    | (j + 3), hj => simp at hj
  intro v' w2 hown' hgrow _ hat
  go_wp2
  go_ret
  exact ⟨_, rfl, by simpa using hown', ⟨_, hgrow⟩, by simpa using hat⟩
set_option maxHeartbeats 4000000 in
set_option maxRecDepth 100000 in
theorem nonascii_sur (a0 : Option Addr) (n0 p0 : Nat) (bs : List Value) (r : Int) (h0 : 55296 ≤ r) (h1 : r ≤ 57343) (w : World) (hown : w.ownsRow 0 5 1 (.slice a0 n0 p0) bs.length bs) (hlen : bs.length < lots) :
    Calls Tryz.prog 196 #[.slice a0 n0 p0, .int .i32 r] w (RunePut (.slice a0 n0 p0) (bs ++ [.int .u8 239, .int .u8 191, .int .u8 189]) w) := by
  obtain ⟨i0, hi, hz0, hz1, hz2⟩ := info_parts Tryz.info5
  unfold lots at hlen
  go_enter Tryz.func196, Tryz.ntmps196
  go_wp2_with (at_builtin; refine wpList_append_own_at _ rfl _ _ 217 rfl 0 5 i0 (.int .u8 0) 1 1 Tryz.underlying217 hi hz0 hz1 hz2 rfl (by decide) (.slice a0 n0 p0) _ _ rfl (hown.alloc _) ⟨w.heap.size, 0, none⟩ 3 3 [.int .u8 239, .int .u8 191, .int .u8 189] rfl rfl ?c1 (by simp [Value.oneCell']) (by unfold maxLen; omega) (by omega) (Nat.zero_le _) ?_)
  all_goals first
    | (intro v' w2 hown' hgrow _ hat; go_wp2; go_ret; exact ⟨_, rfl, by simpa using hown', ⟨_, hgrow⟩, by simpa using hat⟩)
    | (intro j u hj
       match j, hj with
       | 0, hj => simp at hj; subst hj; simp [Addr.add]
       | 1, hj => simp at hj; subst hj; simp [Addr.add]
       | 2, hj => simp at hj; subst hj; simp [Addr.add]
       | (j + 3), hj => simp at hj)
set_option maxHeartbeats 4000000 in
set_option maxRecDepth 100000 in
theorem nonascii_hi (a0 : Option Addr) (n0 p0 : Nat) (bs : List Value) (r : Int) (h0 : 57343 < r) (h1 : r ≤ 65535) (w : World) (hown : w.ownsRow 0 5 1 (.slice a0 n0 p0) bs.length bs) (hlen : bs.length < lots) :
    Calls Tryz.prog 196 #[.slice a0 n0 p0, .int .i32 r] w (RunePut (.slice a0 n0 p0) (bs ++ [.int .u8 (224 + r / 4096), .int .u8 (128 + r / 64 % 64), .int .u8 (128 + r % 64)]) w) := by
  obtain ⟨i0, hi, hz0, hz1, hz2⟩ := info_parts Tryz.info5
  unfold lots at hlen
  go_enter Tryz.func196, Tryz.ntmps196
  go_wp2_with (at_builtin; refine wpList_append_own_at _ rfl _ _ 217 rfl 0 5 i0 (.int .u8 0) 1 1 Tryz.underlying217 hi hz0 hz1 hz2 rfl (by decide) (.slice a0 n0 p0) _ _ rfl (hown.alloc _) ⟨w.heap.size, 0, none⟩ 3 3 [.int .u8 (224 + r / 4096), .int .u8 (128 + r / 64 % 64), .int .u8 (128 + r % 64)] rfl rfl ?c1 (by simp [Value.oneCell']) (by unfold maxLen; omega) (by omega) (Nat.zero_le _) ?_)
  case c1 =>
    intro j u hj
    match j, hj with
    | 0, hj => simp at hj; subst hj; simp [Addr.add]
    | 1, hj => simp at hj; subst hj; simp [Addr.add]
    | 2, hj => simp at hj; subst hj; simp [Addr.add]
    | (j + 3), hj => simp at hj
  intro v' w2 hown' hgrow _ hat
  go_wp2
  go_ret
  exact ⟨_, rfl, by simpa using hown', ⟨_, hgrow⟩, by simpa using hat⟩
set_option maxHeartbeats 4000000 in
set_option maxRecDepth 100000 in
theorem nonascii_four (a0 : Option Addr) (n0 p0 : Nat) (bs : List Value) (r : Int) (h0 : 65536 ≤ r) (h1 : r ≤ 1114111) (w : World) (hown : w.ownsRow 0 5 1 (.slice a0 n0 p0) bs.length bs) (hlen : bs.length < lots) :
    Calls Tryz.prog 196 #[.slice a0 n0 p0, .int .i32 r] w (RunePut (.slice a0 n0 p0) (bs ++ [.int .u8 (240 + r / 262144), .int .u8 (128 + r / 4096 % 64), .int .u8 (128 + r / 64 % 64), .int .u8 (128 + r % 64)]) w) := by
  obtain ⟨i0, hi, hz0, hz1, hz2⟩ := info_parts Tryz.info5
  unfold lots at hlen
  go_enter Tryz.func196, Tryz.ntmps196
  go_wp2_with (at_builtin; refine wpList_append_own_at _ rfl _ _ 217 rfl 0 5 i0 (.int .u8 0) 1 1 Tryz.underlying217 hi hz0 hz1 hz2 rfl (by decide) (.slice a0 n0 p0) _ _ rfl (hown.alloc _) ⟨w.heap.size, 0, none⟩ 4 4 [.int .u8 (240 + r / 262144), .int .u8 (128 + r / 4096 % 64), .int .u8 (128 + r / 64 % 64), .int .u8 (128 + r % 64)] rfl rfl ?c1 (by simp [Value.oneCell']) (by unfold maxLen; omega) (by omega) (Nat.zero_le _) ?_)
  case c1 =>
    intro j u hj
    match j, hj with
    | 0, hj => simp at hj; subst hj; simp [Addr.add]
    | 1, hj => simp at hj; subst hj; simp [Addr.add]
    | 2, hj => simp at hj; subst hj; simp [Addr.add]
    | 3, hj => simp at hj; subst hj; simp [Addr.add]
    | (j + 4), hj => simp at hj
  intro v' w2 hown' hgrow _ hat
  go_wp2
  go_ret
  exact ⟨_, rfl, by simpa using hown', ⟨_, hgrow⟩, by simpa using hat⟩
set_option maxHeartbeats 4000000 in
set_option maxRecDepth 100000 in
theorem nonascii_big (a0 : Option Addr) (n0 p0 : Nat) (bs : List Value) (r : Int) (h0 : 1114111 < r) (h1 : r ≤ 2147483647) (w : World) (hown : w.ownsRow 0 5 1 (.slice a0 n0 p0) bs.length bs) (hlen : bs.length < lots) :
    Calls Tryz.prog 196 #[.slice a0 n0 p0, .int .i32 r] w (RunePut (.slice a0 n0 p0) (bs ++ [.int .u8 239, .int .u8 191, .int .u8 189]) w) := by
  obtain ⟨i0, hi, hz0, hz1, hz2⟩ := info_parts Tryz.info5
  unfold lots at hlen
  go_enter Tryz.func196, Tryz.ntmps196
  go_wp2_with (at_builtin; refine wpList_append_own_at _ rfl _ _ 217 rfl 0 5 i0 (.int .u8 0) 1 1 Tryz.underlying217 hi hz0 hz1 hz2 rfl (by decide) (.slice a0 n0 p0) _ _ rfl (hown.alloc _) ⟨w.heap.size, 0, none⟩ 3 3 [.int .u8 239, .int .u8 191, .int .u8 189] rfl rfl ?c1 (by simp [Value.oneCell']) (by unfold maxLen; omega) (by omega) (Nat.zero_le _) ?_)
  case c1 =>
    intro j u hj
    match j, hj with
    | 0, hj => simp at hj; subst hj; simp [Addr.add]
    | 1, hj => simp at hj; subst hj; simp [Addr.add]
    | 2, hj => simp at hj; subst hj; simp [Addr.add]
    | (j + 3), hj => simp at hj
  intro v' w2 hown' hgrow _ hat
  go_wp2
  go_ret
  exact ⟨_, rfl, by simpa using hown', ⟨_, hgrow⟩, by simpa using hat⟩
theorem nonascii_at (a0 : Option Addr) (n0 p0 : Nat) (bs : List Value) (r : Int) (h0 : 128 ≤ r) (h1 : r ≤ 2147483647) (w : World) (hown : w.ownsRow 0 5 1 (.slice a0 n0 p0) bs.length bs) (hlen : bs.length < lots) :
    Calls Tryz.prog 196 #[.slice a0 n0 p0, .int .i32 r] w (RunePut (.slice a0 n0 p0) (bs ++ Lib.runeCells r) w) := by
  by_cases c1 : r ≤ 2047
  · rw [show Lib.runeCells r = [.int .u8 (192 + r / 64), .int .u8 (128 + r % 64)] by simp [Lib.runeCells, Lib.encodeRuneZ_two (by omega) c1]]
    exact nonascii_two a0 n0 p0 bs r (by omega) (by omega) w hown hlen
  by_cases c2 : r < 55296
  · rw [show Lib.runeCells r = [.int .u8 (224 + r / 4096), .int .u8 (128 + r / 64 % 64), .int .u8 (128 + r % 64)] by simp [Lib.runeCells, Lib.encodeRuneZ_three (Or.inl ⟨by omega, c2⟩)]]
    exact nonascii_three a0 n0 p0 bs r (by omega) (by omega) w hown hlen
  by_cases c3 : r ≤ 57343
  · rw [show Lib.runeCells r = [.int .u8 239, .int .u8 191, .int .u8 189] by simp [Lib.runeCells, Lib.encodeRuneZ_bad (Or.inr (Or.inl ⟨by omega, c3⟩))]]
    exact nonascii_sur a0 n0 p0 bs r (by omega) (by omega) w hown hlen
  by_cases c4 : r ≤ 65535
  · rw [show Lib.runeCells r = [.int .u8 (224 + r / 4096), .int .u8 (128 + r / 64 % 64), .int .u8 (128 + r % 64)] by simp [Lib.runeCells, Lib.encodeRuneZ_three (Or.inr ⟨by omega, c4⟩)]]
    exact nonascii_hi a0 n0 p0 bs r (by omega) (by omega) w hown hlen
  by_cases c5 : r ≤ 1114111
  · rw [show Lib.runeCells r = [.int .u8 (240 + r / 262144), .int .u8 (128 + r / 4096 % 64), .int .u8 (128 + r / 64 % 64), .int .u8 (128 + r % 64)] by simp [Lib.runeCells, Lib.encodeRuneZ_four (by omega) c5]]
    exact nonascii_four a0 n0 p0 bs r (by omega) (by omega) w hown hlen
  · rw [show Lib.runeCells r = [.int .u8 239, .int .u8 191, .int .u8 189] by simp [Lib.runeCells, Lib.encodeRuneZ_bad (r := r) (Or.inr (Or.inr (by omega)))]]
    exact nonascii_big a0 n0 p0 bs r (by omega) (by omega) w hown hlen
set_option maxHeartbeats 4000000 in
set_option maxRecDepth 100000 in
theorem appendRune_at (a0 : Option Addr) (n0 p0 : Nat) (bs : List Value) (r : Int) (h0 : 0 ≤ r) (h1 : r ≤ 2147483647) (w : World) (hown : w.ownsRow 0 5 1 (.slice a0 n0 p0) bs.length bs) (hlen : bs.length < lots) :
    Calls Tryz.prog 185 #[.slice a0 n0 p0, .int .i32 r] w (RunePut (.slice a0 n0 p0) (bs ++ Lib.runeCells r) w) := by
  by_cases c : r ≤ 127
  · obtain ⟨i0, hi, hz0, hz1, hz2⟩ := info_parts Tryz.info5
    unfold lots at hlen
    rw [show Lib.runeCells r = [.int .u8 r] by simp [Lib.runeCells, Lib.encodeRuneZ_one h0 c]]
    go_enter Tryz.func185, Tryz.ntmps185
    go_wp2_with (at_builtin; refine wpList_append_own_at _ rfl _ _ 217 rfl 0 5 i0 (.int .u8 0) 1 1 Tryz.underlying217 hi hz0 hz1 hz2 rfl (by decide) (.slice a0 n0 p0) _ _ rfl (hown.alloc _) ⟨w.heap.size, 0, none⟩ 1 1 [.int .u8 r] rfl rfl ?c1 (by simp [Value.oneCell']) (by unfold maxLen; omega) (by omega) (Nat.zero_le _) ?_)
    case c1 =>
      intro j u hj
      match j, hj with
      | 0, hj => simp at hj; subst hj; simp [Addr.add]
      | (j + 1), hj => simp at hj
    intro v' w2 hown' hgrow _ hat
    go_wp2
    go_ret
    exact ⟨_, rfl, by simpa using hown', ⟨_, hgrow⟩, by simpa using hat⟩
  · have C := hid (nonascii_at a0 n0 p0 bs r (by omega) h1 w hown hlen)
    clear hown
    go_enter Tryz.func185, Tryz.ntmps185
    go_wp2_with (go_at_call 196; refine C.out.mono ?_)
    rintro e w1 ⟨v', rfl, h1, h2⟩
    go_wp2
    go_ret
    exact ⟨_, rfl, h1, h2⟩
def BldV (b : Nat) (v : Value) (bs : List Value) (w : World) : Prop :=
  (w.heap[b]? = some (.cells #[.pointer none, v] 219 (0, 0)) ∨ w.heap[b]? = some (.cells #[ptr b, v] 219 (0, 0))) ∧ w.ownsRow 0 5 1 v bs.length bs ∧ v.ownBlock ≠ some b
theorem BldV.keeps {b : Nat} {v : Value} {bs : List Value} {w w' : World} {F : Nat → Prop} (h : BldV b v bs w) (hk : Keeps F w w') (hb : ¬ F b) (hv : ∀ k, v.ownBlock = some k → ¬ F k) : BldV b v bs w' := by
  obtain ⟨h1, h2, h3⟩ := h
  refine ⟨?_, hk.row h2 hv, h3⟩
  rcases h1 with h1 | h1
  · exact .inl (by rw [hk.block b (heap_lt h1) hb]; exact h1)
  · exact .inr (by rw [hk.block b (heap_lt h1) hb]; exact h1)
theorem BldV.lt {b : Nat} {v : Value} {bs : List Value} {w : World} (h : BldV b v bs w) : b < w.heap.size := h.1.elim heap_lt heap_lt
theorem bcheckV {b : Nat} {v : Value} {bs : List Value} {w : World} (h : BldV b v bs w) :
    Calls Tryz.prog 184 #[ptr b] w fun e w' => e = .returned (.tuple #[]) ∧ w'.heap[b]? = some (.cells #[ptr b, v] 219 (0, 0)) ∧ w'.ownsRow 0 5 1 v bs.length bs ∧ Keeps (fun k => k = b) w w' ∧ IterKept w w' ∧ w'.heap.size = w.heap.size := by
  obtain ⟨h1, h2, h3⟩ := h
  rcases h1 with h1 | h1
  · have hf : Lib.BuilderAt 219 5 0 b (.pointer none) bs w := ⟨Nat.zero_le _, v, h1, h2, h3⟩
    refine (bcheck_fresh b w hf.cell0 hf.shape hf.frozen0).mono ?_
    rintro e w' ⟨rfl, rfl⟩
    have hk := (Keeps.refl (fun k => k = b) w).setCell (p := ⟨b, 0, none⟩) (.inl rfl) (ptr b)
    exact ⟨rfl, by rw [heap_setCell_same w _ 0 _ _ _ h1]; rfl, hk.row h2 (fun k e e2 => h3 (e2 ▸ e)), hk, IterKept.setCell _ h1, by simp⟩
  · refine (bcheck_used b w (cell_of_heap h1 0)).mono ?_
    rintro e w' ⟨rfl, rfl⟩
    exact ⟨rfl, h1, h2, Keeps.refl _ _, IterKept.refl _, rfl⟩
def RuneV (b : Nat) (v : Value) (bs : List Value) (w : World) (e : Ending) (w' : World) : Prop :=
  ∃ (n : Int) (v' : Value), e = .returned (.tuple #[.int .i64 n, .nilIface]) ∧ BldV b v' bs w' ∧ Keeps (fun k => k = b ∨ v.ownBlock = some k) w w' ∧ (∀ k, v'.ownBlock = some k → v.ownBlock = some k ∨ w.heap.size ≤ k) ∧ IterKept w w'
set_option maxHeartbeats 2000000 in
set_option maxRecDepth 100000 in
theorem bruneV {b : Nat} {v : Value} {bs : List Value} (r : Int) (hr0 : 0 ≤ r) (hr1 : r ≤ 2147483647) {w : World} (h : BldV b v bs w) (hlen : bs.length < lots) :
    Calls Tryz.prog 160 #[ptr b, .int .i32 r] w (RuneV b v (bs ++ Lib.runeCells r) w) := by
  have C := hid (bcheckV h)
  have hne := h.2.2
  have hbl := h.lt
  clear h
  go_enter Tryz.func160, Tryz.ntmps160
  go_wp2_with (go_at_call 184; refine C.out.mono ?_)
  rintro e w1 ⟨rfl, hbk, hown, hk1, hi1, hs1⟩
  obtain ⟨a0, n0, p0, rfl⟩ := bld_slice hown
  have c1 : w1.cell? ⟨b, 1, none⟩ = some (.slice a0 n0 p0) := cell_of_heap hbk 1
  have A1 := hid (appendRune_at a0 n0 p0 bs r hr0 hr1 w1 hown hlen)
  have H1 := hid (And.intro hbk (And.intro hown (And.intro hk1 hi1)))
  have HS := hid hs1
  clear hbk hown hk1 hi1 hs1
  go_wp2_with (go_at_call 185; refine A1.out.mono ?_)
  rintro e w2 ⟨v', rfl, hown', ⟨o, hgrow⟩, hat⟩
  obtain ⟨hbk, hown, hk1, hi1⟩ := H1.out
  have hs1 := HS.out
  have hbk' : (w1.alloc o).heap[b]? = some (.cells #[ptr b, .slice a0 n0 p0] 219 (0, 0)) := by rw [Below.heap_alloc _ _ _ (heap_lt hbk)]; exact hbk
  have hb2 : w2.heap[b]? = some (.cells #[ptr b, .slice a0 n0 p0] 219 (0, 0)) := by
    rw [hgrow.block b (heap_lt hbk') (fun e => hne e.symm)]
    exact hbk'
  have hk2 : Keeps (fun k => k = b ∨ (Value.slice a0 n0 p0).ownBlock = some k) w w2 :=
    ((hk1.mono (fun k _ e => .inl e)).alloc o).trans (Keeps.grown hgrow (fun k e => .inl (.inl (.inr e))))
  have hi2 : IterKept w w2 := (hi1.trans (IterKept.alloc _ _)).trans (IterKept.grown (hown.alloc o) hgrow)
  have hgain : ∀ k, v'.ownBlock = some k → (Value.slice a0 n0 p0).ownBlock = some k ∨ w.heap.size ≤ k := by
    intro k e
    rcases hat with h | h
    · exact .inl (h ▸ e)
    · rw [h] at e
      cases e
      exact .inr (by omega)
  have hne' : v'.ownBlock ≠ some b := by
    rcases hat with h | h
    · rw [h]; exact hne
    · rw [h]; intro e; cases e; omega
  obtain ⟨ao, n', cap, rfl⟩ := bld_slice (bs := bs ++ Lib.runeCells r) hown'
  have d1 : w2.cell? ⟨b, 1, none⟩ = some (.slice a0 n0 p0) := cell_of_heap hb2 1
  have f1 : w2.frozen? ⟨b, 1, none⟩ = false := frozen_of_heap hb2 1
  have P := hid (And.intro hb2 (And.intro hk2 (And.intro hi2 (And.intro hgain (And.intro hne' hown')))))
  clear hown' hgrow hbk' hown hbk hb2 hk2 hi2 hgain hne' hk1 hi1 hs1 hat
  go_wp2
  go_ret2
  obtain ⟨hb2, hk2, hi2, hgain, hne', hown'⟩ := P.out
  have hk3 := (Keeps.refl (fun k => k = b) w2).setCell (p := ⟨b, 1, none⟩) (.inl rfl) (.slice ao n' cap)
  refine ⟨_, _, rfl, ⟨.inr ?_, hk3.row hown' (fun k e e2 => hne' (e2 ▸ e)), hne'⟩, hk2.setCell (p := ⟨b, 1, none⟩) (.inl (.inl rfl)) _, hgain, hi2.trans (IterKept.setCell _ hb2)⟩
  rw [heap_setCell_same w2 _ 1 _ _ _ hb2]
  rfl
end Go.Proofs.YtabogkonklplcaaGreatDoor
