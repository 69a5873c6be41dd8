import Derived.Test.YtabogkonklplcaaGreatDoorC05

/- marginref's 'more' and 'Chars': a text's characters. -/
namespace Go.Proofs.YtabogkonklplcaaGreatDoor
open Go.RowKit
set_option linter.unusedSimpArgs false
set_option linter.unusedVariables false

def moreF (b : Int) : Int × Int × Int :=
  if b < 128 then (0, 0, 0) else if 194 ≤ b ∧ b ≤ 223 then (1, 128, 191) else if b = 224 then (2, 160, 191) else if b = 237 then (2, 128, 159)
  else if 225 ≤ b ∧ b ≤ 239 then (2, 128, 191) else if b = 240 then (3, 144, 191) else if 241 ≤ b ∧ b ≤ 243 then (3, 128, 191) else if b = 244 then (3, 128, 143) else (-1, 0, 0)

theorem ret3 {a b c a' b' c' : Int} {k l m : IntKind} (h : a = a' ∧ b = b' ∧ c = c') : Ending.returned (.tuple #[.int k a, .int l b, .int m c]) = .returned (.tuple #[.int k a', .int l b', .int m c']) := by
  obtain ⟨rfl, rfl, rfl⟩ := h; rfl

set_option maxHeartbeats 1000000 in
theorem more_any (b : Int) (w : World) :
    Calls Tryz.prog 165 #[.int .u8 b] w fun e w' => e = .returned (.tuple #[.int .i64 (moreF b).1, .int .u8 (moreF b).2.1, .int .u8 (moreF b).2.2]) ∧ w' = w := by
  go_enter Tryz.func165, Tryz.ntmps165
  go_wp2
  all_goals
    go_ret3
    refine ⟨ret3 ?_, rfl⟩
    try simp only [beq_iff_eq, beq_eq_false_iff_ne, ne_eq] at *
    simp only [moreF]
    (repeat' split) <;> first | exact ⟨rfl, rfl, rfl⟩ | (exfalso; omega)

/-- The width of the character at a text's head: 0 if none is there (it is broken). By marginref's own rule. -/
def byteI (t : ByteArray) (i : Nat) : Int := if h : i < t.size then ((t[i]'h).toNat : Int) else 0
def okTail (t : ByteArray) (lo hi : Int) : Nat → Bool
  | 0 => true
  | k + 1 => okTail t lo hi k && decide ((if k = 0 then lo else 128) ≤ byteI t (k + 1) ∧ byteI t (k + 1) ≤ (if k = 0 then hi else 191))
def headW (t : ByteArray) : Nat :=
  let m := moreF (byteI t 0)
  if m.1 < 0 ∨ (t.size : Int) < m.1 + 1 then 0 else if okTail t m.2.1 m.2.2 m.1.toNat then m.1.toNat + 1 else 0

/-- A text's characters, at most so many of them; none: it is not all UTF-8 (or longer). -/
def charsF : Nat → ByteArray → Option (List ByteArray)
  | 0, t => if t.size = 0 then some [] else none
  | k + 1, t => if t.size = 0 then some [] else if headW t = 0 then none else (charsF k (t.extract (headW t) t.size)).map (t.extract 0 (headW t) :: ·)
def charsOf (t : ByteArray) : Option (List ByteArray) := charsF t.size t

theorem headW_le (t : ByteArray) : headW t ≤ t.size := by
  unfold headW
  simp only []
  split
  · omega
  · split <;> omega

theorem charsF_stable (j : Nat) : ∀ (k : Nat) (t : ByteArray), t.size ≤ j → t.size ≤ k → charsF j t = charsF k t := by
  induction j with
  | zero =>
    intro k t hj hk
    have h0 : t.size = 0 := by omega
    cases k <;> simp [charsF, h0]
  | succ j ih =>
    intro k t hj hk
    by_cases h0 : t.size = 0
    · cases k <;> simp [charsF, h0]
    · obtain ⟨k', rfl⟩ : ∃ k', k = k' + 1 := ⟨k - 1, by omega⟩
      simp only [charsF, h0, if_false]
      by_cases hw : headW t = 0
      · simp [hw]
      · simp only [hw, if_false]
        rw [ih k' _ (by rw [ByteArray.size_extract]; omega) (by rw [ByteArray.size_extract]; omega)]

theorem charsF_fuel (k : Nat) (t : ByteArray) (h : t.size ≤ k) : charsF k t = charsF t.size t := charsF_stable k _ t h (Nat.le_refl _)

theorem charsOf_step (t : ByteArray) : charsOf t = if t.size = 0 then some [] else if headW t = 0 then none else (charsOf (t.extract (headW t) t.size)).map (t.extract 0 (headW t) :: ·) := by
  unfold charsOf
  by_cases h0 : t.size = 0
  · rw [h0]; simp [charsF, h0]
  · obtain ⟨m, hm⟩ : ∃ m, t.size = m + 1 := ⟨t.size - 1, by omega⟩
    rw [if_neg h0]
    conv => lhs; rw [hm]
    simp only [charsF, h0, if_false]
    by_cases hw : headW t = 0
    · simp [hw]
    · simp only [hw, if_false]
      rw [charsF_fuel m _ (by rw [ByteArray.size_extract]; omega)]

theorem byteI_eq (t : ByteArray) (k : Nat) (h : k < t.size) : ((t[k]).toNat : Int) = byteI t k := by
  simp [byteI, h]

theorem Tryz.info9 : (Tryz.prog.info? 9).map (fun i => (i.zero, i.size, i.bytes)) = some (some (.string ByteArray.empty), 1, 16) := by kernel_rfl

/-- What Chars gives. -/
def CharsPost (s : ByteArray) (w : World) (e : Ending) (w' : World) : Prop :=
  Below w.heap.size w w' ∧ ((charsOf s = none ∧ e = .returned (.tuple #[.slice none 0 0, .bool false])) ∨
    ∃ l v, charsOf s = some l ∧ l.length ≤ s.size ∧ e = .returned (.tuple #[v, .bool true]) ∧ w'.ownsRow w.heap.size 9 1 v l.length (strsV l))

theorem more_at (b : Int) {n lo hi : Int} (h : moreF b = (n, lo, hi)) (w : World) :
    Calls Tryz.prog 165 #[.int .u8 b] w fun e w' => e = .returned (.tuple #[.int .i64 n, .int .u8 lo, .int .u8 hi]) ∧ w' = w := by
  have := more_any b w
  rw [h] at this
  exact this

theorem moreF_le (b : Int) : -1 ≤ (moreF b).1 ∧ (moreF b).1 ≤ 3 := by
  unfold moreF
  (repeat' split) <;> decide

def sizeV : Value → Nat
  | .string t => t.size
  | _ => 0

theorem headW_of {t : ByteArray} {N : Nat} {lo hi : Int} (hm : moreF (byteI t 0) = ((N : Int), lo, hi)) (hsz : N + 1 ≤ t.size) : headW t = if okTail t lo hi N then N + 1 else 0 := by
  unfold headW
  rw [hm]
  simp only [Int.toNat_natCast]
  rw [if_neg (by omega)]

theorem headW_bad {t : ByteArray} {n lo hi : Int} (hm : moreF (byteI t 0) = (n, lo, hi)) (h : n < 0 ∨ (t.size : Int) < n + 1) : headW t = 0 := by
  unfold headW
  rw [hm]
  simp only []
  rw [if_pos h]

theorem chars_none {s t : ByteArray} {l : List ByteArray} (h : charsOf s = (charsOf t).map (l ++ ·)) (ht : ¬ t.size = 0) (hw : headW t = 0) : charsOf s = none := by
  rw [h, charsOf_step, if_neg ht, if_pos hw]; rfl
theorem chars_some {s t : ByteArray} {l : List ByteArray} (h : charsOf s = (charsOf t).map (l ++ ·)) (ht : t.size = 0) : charsOf s = some l := by
  rw [h, charsOf_step, if_pos ht]; simp
theorem chars_next {s t : ByteArray} {l : List ByteArray} {N : Nat} (h : charsOf s = (charsOf t).map (l ++ ·)) (ht : ¬ t.size = 0) (hw : headW t = N + 1) :
    charsOf s = (charsOf (t.extract (N + 1) t.size)).map ((l ++ [t.extract 0 (N + 1)]) ++ ·) := by
  rw [h, charsOf_step, if_neg ht, hw, if_neg (by omega), Option.map_map]
  congr 1
  funext x
  simp

theorem okTail_mono {t : ByteArray} {lo hi : Int} {N : Nat} (h : okTail t lo hi N = true) : ∀ k, k ≤ N → okTail t lo hi k = true := by
  induction N with
  | zero => intro k hk; obtain rfl : k = 0 := by omega
            exact h
  | succ N ih =>
    intro k hk
    have h2 : okTail t lo hi N = true := by
      simp only [okTail, Bool.and_eq_true] at h
      exact h.1
    by_cases e : k = N + 1
    · subst e; exact h
    · exact ih h2 k (by omega)

theorem okTail_no {t : ByteArray} {lo hi L H : Int} {k N : Nat} (hk : k < N) (hL : L = if k = 0 then lo else 128) (hH : H = if k = 0 then hi else 191) (hb : ¬ (L ≤ byteI t (k + 1) ∧ byteI t (k + 1) ≤ H)) : okTail t lo hi N = false := by
  cases h : okTail t lo hi N with
  | false => rfl
  | true =>
    have := okTail_mono h (k + 1) hk
    simp only [okTail, Bool.and_eq_true, decide_eq_true_eq] at this
    rw [hL, hH] at hb
    exact absurd this.2 hb

theorem okTail_next {t : ByteArray} {lo hi L H : Int} {k : Nat} (h : okTail t lo hi k = true) (hL : L = if k = 0 then lo else 128) (hH : H = if k = 0 then hi else 191) (hb : L ≤ byteI t (k + 1) ∧ byteI t (k + 1) ≤ H) : okTail t lo hi (k + 1) = true := by
  rw [hL, hH] at hb
  simp only [okTail, Bool.and_eq_true, decide_eq_true_eq]
  exact ⟨h, hb⟩

set_option maxRecDepth 20000 in
set_option maxHeartbeats 1000000 in
theorem chars_any (s : ByteArray) (w : World) (hs : s.size < lots) : Calls Tryz.prog 115 #[.string s] w (CharsPost s w) := by
  obtain ⟨i0, hi, hz0, hz1, hz2⟩ := info_parts Tryz.info9
  unfold lots at hs
  go_enter Tryz.func115, Tryz.ntmps115
  go_wp2
  go_loopw [0, 4] (fun a b wr => ∃ (t : ByteArray) (l : List ByteArray), a = .string t ∧ wr.ownsRow w.heap.size 9 1 b l.length (strsV l) ∧ Below w.heap.size w wr ∧ l.length + t.size ≤ s.size ∧ charsOf s = (charsOf t).map (l ++ ·)) (fun a _ _ => sizeV a)
  case atStart => exact ⟨s, [], rfl, World.ownsRow_nil _ _ _ _, Below.refl _ _, by simp, by simp⟩
  case round =>
    obtain ⟨t, l, rfl, hrow, hb, hlen, hch⟩ := hrel
    have HC : Hid _ := hch
    clear hch
    by_cases ht : t.size = 0
    · go_wp2
      go_ret2
      exact ⟨hb, .inr ⟨l, _, chars_some HC.out ht, by omega, rfl, hrow⟩⟩
    · have ht0 : 0 < t.size := by omega
      have hb0 := byteI_eq t 0 ht0
      obtain ⟨n, lo, hiB, hm⟩ : ∃ n lo hiB, moreF (byteI t 0) = (n, lo, hiB) := ⟨_, _, _, rfl⟩
      have hle := moreF_le (byteI t 0)
      rw [hm] at hle
      have hn1 : -1 ≤ n := hle.1
      have hn3 : n ≤ 3 := hle.2
      have HM : Hid _ := hm
      clear hm hle
      by_cases hbad : n < 0 ∨ (t.size : Int) < n + 1
      · have HBAD : Hid _ := hbad
        rcases hbad with h1 | h1
        all_goals
          go_wp2_with (go_at_call 165; refine (more_at _ HM.out _).mono ?_; rintro e w' ⟨rfl, rfl⟩)
          go_ret2
          exact ⟨hb, .inl ⟨chars_none HC.out ht (headW_bad HM.out HBAD.out), rfl⟩⟩
      · obtain ⟨N, rfl⟩ := Int.eq_ofNat_of_zero_le (show 0 ≤ n by omega)
        have hN3 : N ≤ 3 := by omega
        have hNt : N + 1 ≤ t.size := by omega
        have hg1 : ¬ (N : Int) < 0 := by omega
        have hg2 : ¬ (t.size : Int) < (N : Int) + 1 := by omega
        clear hbad
        go_wp2_with (go_at_call 165; refine (more_at _ HM.out _).mono ?_; rintro e w' ⟨rfl, rfl⟩)
        go_loop [6, 7, 8] (fun a b c => ∃ (k : Nat) (L H : Int), k ≤ N ∧ a = .int .u8 L ∧ b = .int .u8 H ∧ c = .int .i64 ((k : Int) + 1) ∧ L = (if k = 0 then lo else 128) ∧ H = (if k = 0 then hiB else 191) ∧ okTail t lo hiB k = true) (fun _ _ c => N + 1 - (intOf c).toNat)
        case atStart => exact ⟨0, lo, hiB, Nat.zero_le _, rfl, rfl, rfl, rfl, rfl, rfl⟩
        case round =>
          obtain ⟨k, L, H, hkN, rfl, rfl, rfl, hL, hH, hok⟩ := hrel
          have HL : Hid _ := hL
          have HH : Hid _ := hH
          have HK : Hid _ := hok
          clear hL hH hok
          by_cases hlt : k < N
          · have hkt : k + 1 < t.size := by omega
            have hbk := byteI_eq t (k + 1) hkt
            have hidx : ((k : Int) + 1).toNat = k + 1 := by omega
            have hc1 : (k : Int) + 1 ≤ (N : Int) := by omega
            by_cases hb1 : byteI t (k + 1) < L
            · go_wp2
              go_ret2
              exact ⟨hb, .inl ⟨chars_none HC.out ht (by rw [headW_of HM.out hNt, if_neg (by rw [okTail_no hlt HL.out HH.out (by omega)]; decide)]), rfl⟩⟩
            · by_cases hb2 : H < byteI t (k + 1)
              · go_wp2
                go_ret2
                exact ⟨hb, .inl ⟨chars_none HC.out ht (by rw [headW_of HM.out hNt, if_neg (by rw [okTail_no hlt HL.out HH.out (by omega)]; decide)]), rfl⟩⟩
              · go_wp2
                go_round
                case rel => exact ⟨k + 1, 128, 191, by omega, rfl, rfl, by go_num, by simp, by simp, okTail_next HK.out HL.out HH.out (by omega)⟩
                case measure => simp [intOf]; omega
          · obtain rfl : k = N := by omega
            have hext : Hid (t.extract 0 (k + 1) = t.extract 0 (k + 1)) := rfl
            have hk1 : ((k : Int) + 1).toNat = k + 1 := by omega
            go_wp2_with (
              at_builtin
              refine wpList_append_own _ rfl (.tmp 45) (.tmp 50) 107 rfl w.heap.size 9 i0 (.string ByteArray.empty) 1 16 Tryz.underlying107 hi hz0 hz1 hz2 rfl (by decide) u4 l.length _ rfl (hrow.alloc _) ⟨w'.heap.size, 0, none⟩ 1 1 [.string (t.extract 0 (k + 1))] rfl rfl (cell_one_new _ _ _) (by simp [Value.oneCell']) (by unfold maxLen; omega) (by omega) (by have := hb.size; simp; omega) ?_
              intro v1 w1 ho1 hg1 _
              have hb1 : Below w.heap.size w w1 := (hb.alloc hb.size _).grown hg1 (by have := hb.size; simp; omega) (fun k e => (hrow.lt k e).1)
              clear hg1)
            have hw1 : headW t = k + 1 := by rw [headW_of HM.out hNt, if_pos HK.out]
            refine ⟨⟨_, l ++ [t.extract 0 (k + 1)], rfl, by simpa [strsV] using ho1, hb1, ?_, chars_next HC.out ht hw1⟩, ?_⟩
            · rw [ByteArray.size_extract]; simp; omega
            · simp only [sizeV, ByteArray.size_extract]; omega

end Go.Proofs.YtabogkonklplcaaGreatDoor

/- marginref's Text. -/
namespace Go.Proofs.YtabogkonklplcaaGreatDoor
open Go.RowKit
set_option linter.unusedSimpArgs false
set_option linter.unusedVariables false

theorem chars_no (s : ByteArray) (w : World) (hs : s.size < lots) (h : charsOf s = none) : Calls Tryz.prog 115 #[.string s] w fun e w' => e = .returned (.tuple #[.slice none 0 0, .bool false]) ∧ Below w.heap.size w w' := by
  refine (chars_any s w hs).mono ?_
  rintro e w' ⟨hb, ⟨_, rfl⟩ | ⟨l, v, hl, _⟩⟩
  · exact ⟨rfl, hb⟩
  · rw [h] at hl; cases hl
theorem chars_yes (s : ByteArray) (w : World) (hs : s.size < lots) (l : List ByteArray) (h : charsOf s = some l) : Calls Tryz.prog 115 #[.string s] w fun e w' => ∃ v, e = .returned (.tuple #[v, .bool true]) ∧ w'.ownsRow w.heap.size 9 1 v l.length (strsV l) ∧ Below w.heap.size w w' := by
  refine (chars_any s w hs).mono ?_
  rintro e w' ⟨hb, ⟨hn, _⟩ | ⟨l', v, hl, _, rfl, hrow⟩⟩
  · rw [h] at hn; cases hn
  · rw [h] at hl; cases hl
    exact ⟨v, rfl, hrow, hb⟩

theorem ownsRow_zero {w : World} {B : Nat} {e : TypeId} {z : Nat} {v : Value} {n : Nat} {xs : List Value} (h : w.ownsRow B e z v n xs) : w.ownsRow 0 e z v n xs := by
  refine ⟨h.1, ?_⟩
  rcases h.2 with h | ⟨g, cap, cur, hv, _, r⟩
  · exact .inl h
  · exact .inr ⟨g, cap, cur, hv, Nat.zero_le _, r⟩

theorem slice_shape {w : World} {B : Nat} {e : TypeId} {z : Nat} {v : Value} {n : Nat} {xs : List Value} (h : w.ownsRow B e z v n xs) : ∃ a cap, v = .slice a n cap := by
  rcases h.2 with ⟨hv, hn⟩ | ⟨g, cap, cur, hv, _⟩
  · subst hn; exact ⟨_, _, hv⟩
  · exact ⟨_, _, hv⟩

section
variable {w : World} {F : Nat → Prop} {bd bn cap : Nat} {rn : List RN} {rv : Value} {s : List Nd} {rs : List Sp}

set_option maxHeartbeats 400000 in
theorem rtext_no (hD : RDocAt w F bd bn cap rn rv s rs) (t : ByteArray) (ht : t.size < lots) (h : charsOf t = none) :
    Calls Tryz.prog 74 #[.pointer (some ⟨bd, 0, none⟩), .string t] w fun e w' => e = .returned (.tuple #[.int .i64 0, .agg #[.int .i64 0, .int .i64 6]]) ∧ Below w.heap.size w w' := by
  clear hD
  have HT : Hid _ := ht
  have HC : Hid _ := h
  clear ht h
  go_enter Tryz.func74, Tryz.ntmps74
  go_wp2_with (first
    | (go_at_call 115
       refine (chars_no t _ HT.out HC.out).mono ?_
       rintro e w1 ⟨rfl, hb⟩
       have hq : w1.heap[w.heap.size]? = some (.cells #[.int .i64 0, .int .i64 0] 32 (0, 0)) := (hb.block w.heap.size (by simp)).trans (heap_alloc_new w _)
       have hz : w.heap.size < w1.heap.size := heap_lt hq
       have hc2 : w1.cell? ⟨w.heap.size, 0, none⟩ = some (.int .i64 0) := cell_of_heap hq 0
       have hc3 : w1.cell? ⟨w.heap.size, 1, none⟩ = some (.int .i64 0) := cell_of_heap hq 1
       have hf2 := frozen_of_heap hq 0
       have hf3 := frozen_of_heap hq 1
       have HB : Hid (Below w.heap.size w w1) := ((Below.refl _ w).alloc (Nat.le_refl _) _).trans (hb.mono (by simp))
       clear hq hb)
    | (go_at_call 48; refine (no_any _ _ _).mono ?_; rintro e w' ⟨rfl, rfl⟩))
  refine bodyPost_ret (v := .tuple #[.int .i64 0, .agg #[.int .i64 0, .int .i64 6]]) (by simp [results, Tryz.results74, go_sem, *]) rfl ?_
  refine ⟨rfl, ?_⟩
  have hh := HB.out
  have hsz := hh.size
  go_grown

set_option maxHeartbeats 400000 in
theorem rtext_long (hD : RDocAt w F bd bn cap rn rv s rs) (t : ByteArray) (ht : t.size < lots) (l : List ByteArray) (h : charsOf t = some l) (h30 : 30 < l.length) :
    Calls Tryz.prog 74 #[.pointer (some ⟨bd, 0, none⟩), .string t] w fun e w' => e = .returned (.tuple #[.int .i64 0, .agg #[.int .i64 0, .int .i64 6]]) ∧ Below w.heap.size w w' := by
  clear hD
  have HT : Hid _ := ht
  have HC : Hid _ := h
  clear ht h
  have h30' : (30 : Int) < l.length := by omega
  go_enter Tryz.func74, Tryz.ntmps74
  go_wp2_with (first
    | (go_at_call 115
       refine (chars_yes t _ HT.out l HC.out).mono ?_
       rintro e w1 ⟨v, rfl, hrow, hb⟩
       obtain ⟨a, c, rfl⟩ := slice_shape hrow
       clear hrow
       have hq : w1.heap[w.heap.size]? = some (.cells #[.int .i64 0, .int .i64 0] 32 (0, 0)) := (hb.block w.heap.size (by simp)).trans (heap_alloc_new w _)
       have hz : w.heap.size < w1.heap.size := heap_lt hq
       have hc2 : w1.cell? ⟨w.heap.size, 0, none⟩ = some (.int .i64 0) := cell_of_heap hq 0
       have hc3 : w1.cell? ⟨w.heap.size, 1, none⟩ = some (.int .i64 0) := cell_of_heap hq 1
       have hf2 := frozen_of_heap hq 0
       have hf3 := frozen_of_heap hq 1
       have HB : Hid (Below w.heap.size w w1) := ((Below.refl _ w).alloc (Nat.le_refl _) _).trans (hb.mono (by simp))
       clear hq hb)
    | (go_at_call 48; refine (no_any _ _ _).mono ?_; rintro e w' ⟨rfl, rfl⟩))
  refine bodyPost_ret (v := .tuple #[.int .i64 0, .agg #[.int .i64 0, .int .i64 6]]) (by simp [results, Tryz.results74, go_sem, *]) rfl ?_
  refine ⟨rfl, ?_⟩
  have hh := HB.out
  have hsz := hh.size
  go_grown

set_option maxHeartbeats 400000 in
theorem rtext_full (hD : RDocAt w F bd bn cap rn rv s rs) (t : ByteArray) (ht : t.size < lots) (l : List ByteArray) (h : charsOf t = some l) (h30 : l.length ≤ 30) (h40 : 40 ≤ s.length) :
    Calls Tryz.prog 74 #[.pointer (some ⟨bd, 0, none⟩), .string t] w fun e w' => e = .returned (.tuple #[.int .i64 0, .agg #[.int .i64 0, .int .i64 7]]) ∧ Below w.heap.size w w' := by
  have HT : Hid _ := ht
  have HC : Hid _ := h
  have HD : Hid _ := hD
  have hl := hD.lt.1
  clear ht h hD
  have h30' : ¬ (30 : Int) < l.length := by omega
  have h40' : (40 : Int) ≤ s.length := by omega
  go_enter Tryz.func74, Tryz.ntmps74
  go_wp2_with (first
    | (go_at_call 115
       refine (chars_yes t _ HT.out l HC.out).mono ?_
       rintro e w1 ⟨v, rfl, hrow, hb⟩
       obtain ⟨a, c, rfl⟩ := slice_shape hrow
       clear hrow
       have hq : w1.heap[w.heap.size]? = some (.cells #[.int .i64 0, .int .i64 0] 32 (0, 0)) := (hb.block w.heap.size (by simp)).trans (heap_alloc_new w _)
       have hz : w.heap.size < w1.heap.size := heap_lt hq
       have hc2 : w1.cell? ⟨w.heap.size, 0, none⟩ = some (.int .i64 0) := cell_of_heap hq 0
       have hc3 : w1.cell? ⟨w.heap.size, 1, none⟩ = some (.int .i64 0) := cell_of_heap hq 1
       have hf2 := frozen_of_heap hq 0
       have hf3 := frozen_of_heap hq 1
       have hh : Below w.heap.size w w1 := ((Below.refl _ w).alloc (Nat.le_refl _) _).trans (hb.mono (by simp))
       have h0 := (HD.out.below hh).nodesCell
       have HB : Hid (Below w.heap.size w w1) := hh
       clear hq hb hh)
    | (go_at_call 48; refine (no_any _ _ _).mono ?_; rintro e w' ⟨rfl, rfl⟩))
  refine bodyPost_ret (v := .tuple #[.int .i64 0, .agg #[.int .i64 0, .int .i64 7]]) (by simp [results, Tryz.results74, go_sem, *]) rfl ?_
  refine ⟨rfl, ?_⟩
  have hh := HB.out
  have hsz := hh.size
  go_grown

set_option maxRecDepth 20000 in
set_option maxHeartbeats 1000000 in
theorem rtext_some (hD : RDocAt w F bd bn cap rn rv s rs) (t : ByteArray) (ht : t.size < lots) (l : List ByteArray) (h : charsOf t = some l) (h30 : l.length ≤ 30) (h40 : s.length < 40) :
    Calls Tryz.prog 74 #[.pointer (some ⟨bd, 0, none⟩), .string t] w fun e w' => e = .returned (.tuple #[.int .i64 s.length, .agg #[.int .i64 0, .int .i64 0]]) ∧ Keeps F w w' ∧ RDoc w' (fun b => F b ∨ w.heap.size ≤ b) bd (s ++ [⟨true, l, [], -1⟩]) rs := by
  obtain ⟨i0, hi, hz0, hz1, hz2⟩ := info_parts Tryz.info119
  have HT : Hid _ := ht
  have HC : Hid _ := h
  have HD : Hid _ := hD
  have hlen := hD.len
  have hlt := hD.lt
  have hl := hD.lt.1
  clear ht h hD
  have h30' : ¬ (30 : Int) < l.length := by omega
  have h40' : ¬ (40 : Int) ≤ s.length := by omega
  have hneq : ¬ bd = w.heap.size := by omega
  go_enter Tryz.func74, Tryz.ntmps74
  go_wp2_with (first
    | (go_at_call 115
       refine (chars_yes t _ HT.out l HC.out).mono ?_
       rintro e w1 ⟨v, rfl, hrow, hb⟩
       obtain ⟨a, c, rfl⟩ := slice_shape hrow
       have hq : w1.heap[w.heap.size]? = some (.cells #[.int .i64 0, .int .i64 0] 32 (0, 0)) := (hb.block w.heap.size (by simp)).trans (heap_alloc_new w _)
       have hz : w.heap.size < w1.heap.size := heap_lt hq
       have hh : Below w.heap.size w w1 := ((Below.refl _ w).alloc (Nat.le_refl _) _).trans (hb.mono (by simp))
       have hl1 : bd < w1.heap.size := Nat.lt_of_lt_of_le hl hh.size
       have h0 := (HD.out.below hh).nodesCell
       have HB : Hid (Below w.heap.size w w1) := hh
       have HQ : Hid (w1.heap[w.heap.size]? = some (.cells #[.int .i64 0, .int .i64 0] 32 (0, 0))) := hq
       go_must (have HR : Hid (w1.ownsRow (w.heap.size + 1) 9 1 (.slice a l.length c) l.length (strsV l)) := by rw [World.size_alloc] at hrow; exact hrow)
       go_must (have HD2 : Hid (RDocAt (w1.alloc (.cells #[.bool true, .slice a l.length c, .slice none 0 0, .int .i64 (-1)] 119)) (fun b => F b ∧ b < w.heap.size) bd bn cap rn rv s rs) :=
         HD.out.narrow.below (hh.alloc hh.size _))
       clear hq hb hh hrow)
    | (at_builtin
       refine wpList_append_lies _ rfl (.tmp 32) (.tmp 35) 120 rfl 0 119 i0 _ 4 64 Tryz.underlying120 hi hz0 hz1 hz2 rfl (by decide) (.slice (some ⟨bn, 0, none⟩) s.length cap) s.length _ rfl (by have := HD2.out.nodes; rw [hlen] at this; exact this) ⟨w1.heap.size, 0, none⟩ 1 1 [.bool true, .slice a l.length c, .slice none 0 0, .int .i64 (-1)] rfl rfl (World.news_of_block (heap_alloc_new w1 _)) (by simp [Value.oneCell']) (by decide) (by unfold maxLen; omega) (by omega) (Nat.zero_le _) (w1.heap.size + 1) (by simp) ?_
       intro g cap' w2 ho (hg : World.grownBy _ w2 (some bn)) (hgn : some bn = some g ∨ _) _
       have hd1 := (hg.block bd (by simp only [World.size_alloc]; omega) (by simpa using HD2.out.ne)).trans HD2.out.doc
       have hc1 : w2.cell? ⟨bd, 0, none⟩ = some (.slice (some ⟨bn, 0, none⟩) rn.length cap) := cell_of_heap hd1 0
       have hf1 := frozen_of_heap hd1 0
       have hq1 := (hg.block w.heap.size (by simp only [World.size_alloc]; omega) (by simp; omega)).trans ((Below.heap_alloc _ _ _ hz).trans HQ.out)
       have hc2 : w2.cell? ⟨w.heap.size, 0, none⟩ = some (.int .i64 0) := cell_of_heap hq1 0
       have hc3 : w2.cell? ⟨w.heap.size, 1, none⟩ = some (.int .i64 0) := cell_of_heap hq1 1
       have hf2 := frozen_of_heap hq1 0
       have hf3 := frozen_of_heap hq1 1
       have HG : Hid _ := hg
       have HO : Hid (w2.ownsRow 0 119 4 (.slice (some ⟨g, 0, none⟩) (s.length + 1) cap') (s.length + 1) (rn.flatMap RN.cells ++ [.bool true, .slice a l.length c, .slice none 0 0, .int .i64 (-1)])) := ho
       have HN : Hid _ := hgn
       clear hd1 hq1 hg ho hgn))
  refine bodyPost_ret (v := .tuple #[.int .i64 s.length, .agg #[.int .i64 0, .int .i64 0]]) (by simp [results, Tryz.results74, go_sem, *]) rfl ?_
  have hk0 : Keeps F w w2 := ((Keeps.of_below (F := F) HB.out).alloc _).trans (Keeps.grown HG.out (fun k e => by cases e; exact .inl (.inl HD.out.Fn)))
  refine ⟨rfl, ?_, ?_⟩
  · exact ((hk0.setCell (p := ⟨bd, 0, none⟩) (.inl HD.out.Fd) _).setCell (p := ⟨w.heap.size, 0, none⟩) (.inr (Nat.le_refl _)) _).setCell (p := ⟨w.heap.size, 1, none⟩) (.inr (Nat.le_refl _)) _
  · refine ⟨g, cap', rn ++ [⟨true, .slice a l.length c, .slice none 0 0, -1⟩], rv, ?_⟩
    have ho : w2.ownsRow 0 119 4 (.slice (some ⟨g, 0, none⟩) (rn.length + 1) cap') (rn.length + 1) (rn.flatMap RN.cells ++ RN.cells ⟨true, .slice a l.length c, .slice none 0 0, -1⟩) := by rw [hlen]; exact HO.out
    have hcr := HR.out
    have hcb : ∀ b, (Value.slice a l.length c).ownBlock = some b → w.heap.size + 1 ≤ b := fun b e => (hcr.lt b e).1
    have hp := HD2.out.pushed (B := w.heap.size + 1) (x := ⟨true, l, [], -1⟩) (by simp only [World.size_alloc]; omega) HG.out ho (by rcases HN.out with e | e; exact .inl (by cases e; rfl); exact .inr (by simpa using e))
      ⟨rfl, rfl, ownsRow_zero (hcr.alloc _), World.ownsRow_nil _ _ _ _, fun b e => ⟨.inr (hcb b e), by have := hcb b e; omega, by have := hcb b e; omega, fun e2 => by have := hcb b e; have := (HD.out.ranges.lt b e2).2; omega⟩, fun b e => (by cases e)⟩
    rw [hlen] at hp
    have hk3 : Keeps (fun b => b = w.heap.size) (w2.setCell ⟨bd, 0, none⟩ (.slice (some ⟨g, 0, none⟩) (s.length + 1) cap')) _ :=
      ((Keeps.refl (fun b => b = w.heap.size) _).setCell (p := ⟨w.heap.size, 0, none⟩) (.inl rfl) (.int .i64 0)).setCell (p := ⟨w.heap.size, 1, none⟩) (.inl rfl) (.int .i64 0)
    refine (hp.keeps hk3 ?_).wider ?_
    · intro b hb e
      rcases hb with hb | hb
      · omega
      · omega
    · intro b hb
      rcases hb with hb | hb
      · exact .inl hb.1
      · exact .inr (by omega)
end

end Go.Proofs.YtabogkonklplcaaGreatDoor
