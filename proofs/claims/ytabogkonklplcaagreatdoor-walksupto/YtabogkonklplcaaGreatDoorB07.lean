import Derived.Test.YtabogkonklplcaaGreatDoorB06

/- marginref's 'more' and 'Chars': a text's characters. -/
namespace Go.Proofs.YtabogkonklplcaaGreatDoor
open Go.RowKit
set_option linter.unusedSimpArgs false
set_option linter.unusedVariables false

def moreF (b : Int) : Int × Int × Int :=
  if b < 128 then (0, 0, 0) else if 194 ≤ b ∧ b ≤ 223 then (1, 128, 191) else if b = 224 then (2, 160, 191) else if b = 237 then (2, 128, 159)
  else if 225 ≤ b ∧ b ≤ 239 then (2, 128, 191) else if b = 240 then (3, 144, 191) else if 241 ≤ b ∧ b ≤ 243 then (3, 128, 191) else if b = 244 then (3, 128, 143) else (-1, 0, 0)

theorem ret3 {a b c a' b' c' : Int} {k l m : IntKind} (h : a = a' ∧ b = b' ∧ c = c') : Ending.returned (.tuple #[.int k a, .int l b, .int m c]) = .returned (.tuple #[.int k a', .int l b', .int m c']) := by
  obtain ⟨rfl, rfl, rfl⟩ := h; rfl

set_option maxHeartbeats 1000000 in
theorem more_any (b : Int) (w : World) :
    Calls Tryz.prog 165 #[.int .u8 b] w fun e w' => e = .returned (.tuple #[.int .i64 (moreF b).1, .int .u8 (moreF b).2.1, .int .u8 (moreF b).2.2]) ∧ w' = w := by
  go_enter Tryz.func165, Tryz.ntmps165
  go_wp2
  all_goals
    go_ret3
    refine ⟨ret3 ?_, rfl⟩
    try simp only [beq_iff_eq, beq_eq_false_iff_ne, ne_eq] at *
    simp only [moreF]
    (repeat' split) <;> first | exact ⟨rfl, rfl, rfl⟩ | (exfalso; omega)

/-- The width of the character at a text's head: 0 if none is there (it is broken). By marginref's own rule. -/
def byteI (t : ByteArray) (i : Nat) : Int := if h : i < t.size then ((t[i]'h).toNat : Int) else 0
def okTail (t : ByteArray) (lo hi : Int) : Nat → Bool
  | 0 => true
  | k + 1 => okTail t lo hi k && decide ((if k = 0 then lo else 128) ≤ byteI t (k + 1) ∧ byteI t (k + 1) ≤ (if k = 0 then hi else 191))
def headW (t : ByteArray) : Nat :=
  let m := moreF (byteI t 0)
  if m.1 < 0 ∨ (t.size : Int) < m.1 + 1 then 0 else if okTail t m.2.1 m.2.2 m.1.toNat then m.1.toNat + 1 else 0

/-- A text's characters, at most so many of them; none: it is not all UTF-8 (or longer). -/
def charsF : Nat → ByteArray → Option (List ByteArray)
  | 0, t => if t.size = 0 then some [] else none
  | k + 1, t => if t.size = 0 then some [] else if headW t = 0 then none else (charsF k (t.extract (headW t) t.size)).map (t.extract 0 (headW t) :: ·)
def charsOf (t : ByteArray) : Option (List ByteArray) := charsF t.size t

theorem headW_le (t : ByteArray) : headW t ≤ t.size := by
  unfold headW
  simp only []
  split
  · omega
  · split <;> omega

theorem charsF_stable (j : Nat) : ∀ (k : Nat) (t : ByteArray), t.size ≤ j → t.size ≤ k → charsF j t = charsF k t := by
  induction j with
  | zero =>
    intro k t hj hk
    have h0 : t.size = 0 := by omega
    cases k <;> simp [charsF, h0]
  | succ j ih =>
    intro k t hj hk
    by_cases h0 : t.size = 0
    · cases k <;> simp [charsF, h0]
    · obtain ⟨k', rfl⟩ : ∃ k', k = k' + 1 := ⟨k - 1, by omega⟩
      simp only [charsF, h0, if_false]
      by_cases hw : headW t = 0
      · simp [hw]
      · simp only [hw, if_false]
        rw [ih k' _ (by rw [ByteArray.size_extract]; omega) (by rw [ByteArray.size_extract]; omega)]

theorem charsF_fuel (k : Nat) (t : ByteArray) (h : t.size ≤ k) : charsF k t = charsF t.size t := charsF_stable k _ t h (Nat.le_refl _)

theorem charsOf_step (t : ByteArray) : charsOf t = if t.size = 0 then some [] else if headW t = 0 then none else (charsOf (t.extract (headW t) t.size)).map (t.extract 0 (headW t) :: ·) := by
  unfold charsOf
  by_cases h0 : t.size = 0
  · rw [h0]; simp [charsF, h0]
  · obtain ⟨m, hm⟩ : ∃ m, t.size = m + 1 := ⟨t.size - 1, by omega⟩
    rw [if_neg h0]
    conv => lhs; rw [hm]
    simp only [charsF, h0, if_false]
    by_cases hw : headW t = 0
    · simp [hw]
    · simp only [hw, if_false]
      rw [charsF_fuel m _ (by rw [ByteArray.size_extract]; omega)]

theorem byteI_eq (t : ByteArray) (k : Nat) (h : k < t.size) : ((t[k]).toNat : Int) = byteI t k := by
  simp [byteI, h]

theorem Tryz.info9 : (Tryz.prog.info? 9).map (fun i => (i.zero, i.size, i.bytes)) = some (some (.string ByteArray.empty), 1, 16) := by kernel_rfl

/-- What Chars gives. -/
def CharsPost (s : ByteArray) (w : World) (e : Ending) (w' : World) : Prop :=
  Below w.heap.size w w' ∧ ((charsOf s = none ∧ e = .returned (.tuple #[.slice none 0 0, .bool false])) ∨
    ∃ l v, charsOf s = some l ∧ l.length ≤ s.size ∧ e = .returned (.tuple #[v, .bool true]) ∧ w'.ownsRow w.heap.size 9 1 v l.length (strsV l))

theorem more_at (b : Int) {n lo hi : Int} (h : moreF b = (n, lo, hi)) (w : World) :
    Calls Tryz.prog 165 #[.int .u8 b] w fun e w' => e = .returned (.tuple #[.int .i64 n, .int .u8 lo, .int .u8 hi]) ∧ w' = w := by
  have := more_any b w
  rw [h] at this
  exact this

theorem moreF_le (b : Int) : -1 ≤ (moreF b).1 ∧ (moreF b).1 ≤ 3 := by
  unfold moreF
  (repeat' split) <;> decide

def sizeV : Value → Nat
  | .string t => t.size
  | _ => 0

theorem headW_of {t : ByteArray} {N : Nat} {lo hi : Int} (hm : moreF (byteI t 0) = ((N : Int), lo, hi)) (hsz : N + 1 ≤ t.size) : headW t = if okTail t lo hi N then N + 1 else 0 := by
  unfold headW
  rw [hm]
  simp only [Int.toNat_natCast]
  rw [if_neg (by omega)]

theorem headW_bad {t : ByteArray} {n lo hi : Int} (hm : moreF (byteI t 0) = (n, lo, hi)) (h : n < 0 ∨ (t.size : Int) < n + 1) : headW t = 0 := by
  unfold headW
  rw [hm]
  simp only []
  rw [if_pos h]

theorem chars_none {s t : ByteArray} {l : List ByteArray} (h : charsOf s = (charsOf t).map (l ++ ·)) (ht : ¬ t.size = 0) (hw : headW t = 0) : charsOf s = none := by
  rw [h, charsOf_step, if_neg ht, if_pos hw]; rfl
theorem chars_some {s t : ByteArray} {l : List ByteArray} (h : charsOf s = (charsOf t).map (l ++ ·)) (ht : t.size = 0) : charsOf s = some l := by
  rw [h, charsOf_step, if_pos ht]; simp
theorem chars_next {s t : ByteArray} {l : List ByteArray} {N : Nat} (h : charsOf s = (charsOf t).map (l ++ ·)) (ht : ¬ t.size = 0) (hw : headW t = N + 1) :
    charsOf s = (charsOf (t.extract (N + 1) t.size)).map ((l ++ [t.extract 0 (N + 1)]) ++ ·) := by
  rw [h, charsOf_step, if_neg ht, hw, if_neg (by omega), Option.map_map]
  congr 1
  funext x
  simp

theorem okTail_mono {t : ByteArray} {lo hi : Int} {N : Nat} (h : okTail t lo hi N = true) : ∀ k, k ≤ N → okTail t lo hi k = true := by
  induction N with
  | zero => intro k hk; obtain rfl : k = 0 := by omega
            exact h
  | succ N ih =>
    intro k hk
    have h2 : okTail t lo hi N = true := by
      simp only [okTail, Bool.and_eq_true] at h
      exact h.1
    by_cases e : k = N + 1
    · subst e; exact h
    · exact ih h2 k (by omega)

theorem okTail_no {t : ByteArray} {lo hi L H : Int} {k N : Nat} (hk : k < N) (hL : L = if k = 0 then lo else 128) (hH : H = if k = 0 then hi else 191) (hb : ¬ (L ≤ byteI t (k + 1) ∧ byteI t (k + 1) ≤ H)) : okTail t lo hi N = false := by
  cases h : okTail t lo hi N with
  | false => rfl
  | true =>
    have := okTail_mono h (k + 1) hk
    simp only [okTail, Bool.and_eq_true, decide_eq_true_eq] at this
    rw [hL, hH] at hb
    exact absurd this.2 hb

theorem okTail_next {t : ByteArray} {lo hi L H : Int} {k : Nat} (h : okTail t lo hi k = true) (hL : L = if k = 0 then lo else 128) (hH : H = if k = 0 then hi else 191) (hb : L ≤ byteI t (k + 1) ∧ byteI t (k + 1) ≤ H) : okTail t lo hi (k + 1) = true := by
  rw [hL, hH] at hb
  simp only [okTail, Bool.and_eq_true, decide_eq_true_eq]
  exact ⟨h, hb⟩

set_option maxRecDepth 20000 in
set_option maxHeartbeats 1000000 in
theorem chars_any (s : ByteArray) (w : World) (hs : s.size < lots) : Calls Tryz.prog 115 #[.string s] w (CharsPost s w) := by
  obtain ⟨i0, hi, hz0, hz1, hz2⟩ := info_parts Tryz.info9
  unfold lots at hs
  go_enter Tryz.func115, Tryz.ntmps115
  go_wp2
  go_loopw [0, 4] (fun a b wr => ∃ (t : ByteArray) (l : List ByteArray), a = .string t ∧ wr.ownsRow w.heap.size 9 1 b l.length (strsV l) ∧ Below w.heap.size w wr ∧ l.length + t.size ≤ s.size ∧ charsOf s = (charsOf t).map (l ++ ·)) (fun a _ _ => sizeV a)
  case atStart => exact ⟨s, [], rfl, World.ownsRow_nil _ _ _ _, Below.refl _ _, by simp, by simp⟩
  case round =>
    obtain ⟨t, l, rfl, hrow, hb, hlen, hch⟩ := hrel
    have HC : Hid _ := hch
    clear hch
    by_cases ht : t.size = 0
    · go_wp2
      go_ret2
      exact ⟨hb, .inr ⟨l, _, chars_some HC.out ht, by omega, rfl, hrow⟩⟩
    · have ht0 : 0 < t.size := by omega
      have hb0 := byteI_eq t 0 ht0
      obtain ⟨n, lo, hiB, hm⟩ : ∃ n lo hiB, moreF (byteI t 0) = (n, lo, hiB) := ⟨_, _, _, rfl⟩
      have hle := moreF_le (byteI t 0)
      rw [hm] at hle
      have hn1 : -1 ≤ n := hle.1
      have hn3 : n ≤ 3 := hle.2
      have HM : Hid _ := hm
      clear hm hle
      by_cases hbad : n < 0 ∨ (t.size : Int) < n + 1
      · have HBAD : Hid _ := hbad
        rcases hbad with h1 | h1
        all_goals
          go_wp2_with (go_at_call 165; refine (more_at _ HM.out _).mono ?_; rintro e w' ⟨rfl, rfl⟩)
          go_ret2
          exact ⟨hb, .inl ⟨chars_none HC.out ht (headW_bad HM.out HBAD.out), rfl⟩⟩
      · obtain ⟨N, rfl⟩ := Int.eq_ofNat_of_zero_le (show 0 ≤ n by omega)
        have hN3 : N ≤ 3 := by omega
        have hNt : N + 1 ≤ t.size := by omega
        have hg1 : ¬ (N : Int) < 0 := by omega
        have hg2 : ¬ (t.size : Int) < (N : Int) + 1 := by omega
        clear hbad
        go_wp2_with (go_at_call 165; refine (more_at _ HM.out _).mono ?_; rintro e w' ⟨rfl, rfl⟩)
        go_loop [6, 7, 8] (fun a b c => ∃ (k : Nat) (L H : Int), k ≤ N ∧ a = .int .u8 L ∧ b = .int .u8 H ∧ c = .int .i64 ((k : Int) + 1) ∧ L = (if k = 0 then lo else 128) ∧ H = (if k = 0 then hiB else 191) ∧ okTail t lo hiB k = true) (fun _ _ c => N + 1 - (intOf c).toNat)
        case atStart => exact ⟨0, lo, hiB, Nat.zero_le _, rfl, rfl, rfl, rfl, rfl, rfl⟩
        case round =>
          obtain ⟨k, L, H, hkN, rfl, rfl, rfl, hL, hH, hok⟩ := hrel
          have HL : Hid _ := hL
          have HH : Hid _ := hH
          have HK : Hid _ := hok
          clear hL hH hok
          by_cases hlt : k < N
          · have hkt : k + 1 < t.size := by omega
            have hbk := byteI_eq t (k + 1) hkt
            have hidx : ((k : Int) + 1).toNat = k + 1 := by omega
            have hc1 : (k : Int) + 1 ≤ (N : Int) := by omega
            by_cases hb1 : byteI t (k + 1) < L
            · go_wp2
              go_ret2
              exact ⟨hb, .inl ⟨chars_none HC.out ht (by rw [headW_of HM.out hNt, if_neg (by rw [okTail_no hlt HL.out HH.out (by omega)]; decide)]), rfl⟩⟩
            · by_cases hb2 : H < byteI t (k + 1)
              · go_wp2
                go_ret2
                exact ⟨hb, .inl ⟨chars_none HC.out ht (by rw [headW_of HM.out hNt, if_neg (by rw [okTail_no hlt HL.out HH.out (by omega)]; decide)]), rfl⟩⟩
              · go_wp2
                go_round
                case rel => exact ⟨k + 1, 128, 191, by omega, rfl, rfl, by go_num, by simp, by simp, okTail_next HK.out HL.out HH.out (by omega)⟩
                case measure => simp [intOf]; omega
          · obtain rfl : k = N := by omega
            have hext : Hid (t.extract 0 (k + 1) = t.extract 0 (k + 1)) := rfl
            have hk1 : ((k : Int) + 1).toNat = k + 1 := by omega
            go_wp2_with (
              at_builtin
              refine wpList_append_own _ rfl (.tmp 45) (.tmp 50) 107 rfl w.heap.size 9 i0 (.string ByteArray.empty) 1 16 Tryz.underlying107 hi hz0 hz1 hz2 rfl (by decide) u4 l.length _ rfl (hrow.alloc _) ⟨w'.heap.size, 0, none⟩ 1 1 [.string (t.extract 0 (k + 1))] rfl rfl (cell_one_new _ _ _) (by simp [Value.oneCell']) (by unfold maxLen; omega) (by omega) (by have := hb.size; simp; omega) ?_
              intro v1 w1 ho1 hg1 _
              have hb1 : Below w.heap.size w w1 := (hb.alloc hb.size _).grown hg1 (by have := hb.size; simp; omega) (fun k e => (hrow.lt k e).1)
              clear hg1)
            have hw1 : headW t = k + 1 := by rw [headW_of HM.out hNt, if_pos HK.out]
            refine ⟨⟨_, l ++ [t.extract 0 (k + 1)], rfl, by simpa [strsV] using ho1, hb1, ?_, chars_next HC.out ht hw1⟩, ?_⟩
            · rw [ByteArray.size_extract]; simp; omega
            · simp only [sizeV, ByteArray.size_extract]; omega

end Go.Proofs.YtabogkonklplcaaGreatDoor
