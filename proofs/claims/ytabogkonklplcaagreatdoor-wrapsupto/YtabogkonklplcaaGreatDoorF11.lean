import Derived.Test.YtabogkonklplcaaGreatDoorF09
import Derived.Test.YtabogkonklplcaaGreatDoorF06
import Derived.Shelf.Strings.Builder1
import Derived.Shelf.Strings.Builder2
import Derived.Shelf.Strings.OnBuilder
import Derived.Shelf.Small.Wraps
import Derived.Shelf.Strings.BuilderF
import Derived.Shelf.Strings.BuilderK
import Derived.Shelf.Strings.BuilderRune
import Derived.Shelf.Utf8.AppendRune
import Derived.Shelf.Utf8.AppendRunePlain
import Derived.Shelf.Strings.Builder2Cap
import Derived.Shelf.Strconv.Itoa0
import Derived.Shelf.Strconv.Itoa1
import Derived.Shelf.LaysM
import Derived.Shelf.Strconv.Itoa2
import Derived.Shelf.Strconv.Itoa3
import Derived.Shelf.Strconv.Clone
import Derived.Shelf.Unicode.DecodeSlow
import Derived.Shelf.Unicode.DecodeAny
import Derived.Shelf.Strings.BuilderCap
import Derived.Shelf.Slices.Turned
import Derived.Shelf.Slices.Reverse
import Derived.Ground.Names2Prog
import Derived.Shelf.Slices.SearchI
import Derived.Shelf.Slices.Delete
import Derived.Shelf.Slices.Cells
import Derived.Shelf.Slices.Empties
import Derived.Test.YtabogkonklplcaaGreatDoorProg
import Derived.WalkSmall
import Derived.LoopTactic
import Derived.Laws.RangeString
import Derived.Laws.RangeAny
import Derived.Shelf.Spec.BytesIndexFunc
import Derived.Deep.DeepFit
import Derived.Test.YtabogkonklplcaaGreatDoorF03
import Derived.RangeFuncNested
import Derived.RangeFuncBound
import Derived.RangeFuncCalls
import Derived.RangeFuncLeaves
import Derived.ControlIn
import Derived.Test.YtabogkonklplcaaGreatDoorF10
import Derived.Shelf.Abstract
import Derived.Shelf.RegionOpen
import Derived.OwnWalkIn
import Derived.TacticsInMore
import Derived.LoopNIn
import Derived.LoopIn
import Derived.Deep.RegionWith
import Derived.Deep.RegionHeld3
import Derived.Deep.QuietTactic
import Derived.KernelRfl

/- The characters of a text, one after another. -/
namespace Go.Proofs.YtabogkonklplcaaGreatDoor
open Go.RowKit
set_option linter.unusedSimpArgs false
set_option linter.unusedVariables false

theorem charsAt_end (t : ByteArray) (p : Nat) (h : t.size ≤ p) : charsOf (t.extract p t.size) = some [] := by
  rw [charsOf_step, if_pos (by rw [ByteArray.size_extract]; omega)]
theorem charsAt_bad (t : ByteArray) (p : Nat) (h : p < t.size) (hd : Utf8.decode t p = (65533, 1)) : charsOf (t.extract p t.size) = none := by
  rcases headW_at t p h with ⟨h0, _⟩ | ⟨_, _, h2⟩
  · rw [charsOf_step, if_neg (by rw [ByteArray.size_extract]; omega), if_pos h0]
  · exact absurd hd h2
theorem width_le (t : ByteArray) (p : Nat) (h : p < t.size) (hd : Utf8.decode t p ≠ (65533, 1)) : 0 < (Utf8.decode t p).2 ∧ p + (Utf8.decode t p).2 ≤ t.size := by
  rcases headW_at t p h with ⟨_, h0⟩ | ⟨h1, h2, _⟩
  · exact absurd h0 hd
  · have := headW_le (t.extract p t.size)
    rw [ByteArray.size_extract] at this
    rw [h2]
    omega
theorem charsAt_good (t : ByteArray) (p : Nat) (h : p < t.size) (hd : Utf8.decode t p ≠ (65533, 1)) :
    charsOf (t.extract p t.size) = (charsOf (t.extract (p + (Utf8.decode t p).2) t.size)).map (t.extract p (p + (Utf8.decode t p).2) :: ·) := by
  have hw := width_le t p h hd
  rcases headW_at t p h with ⟨_, h0⟩ | ⟨h1, h2, _⟩
  · exact absurd h0 hd
  · rw [charsOf_step, if_neg (by rw [ByteArray.size_extract]; omega), if_neg h1, ← h2]
    rw [ByteArray.size_extract, ByteArray.extract_extract, ByteArray.extract_extract]
    have e1 : min (p + (min t.size t.size - p)) t.size = t.size := by omega
    have e2 : min (p + (Utf8.decode t p).2) t.size = p + (Utf8.decode t p).2 := by omega
    rw [e1, e2]
    rfl

theorem if_cut {n m k : Nat} {q : Prop} {d : Decidable (m ≤ n ∧ q)} {d' : Decidable (m ≤ (if m ≤ n ∧ q then k else 0) ∧ q)} (hk : m ≤ k) (h : (if m ≤ n ∧ q then k else 0) ≠ 0) :
    (if m ≤ (if m ≤ n ∧ q then k else 0) ∧ q then k else 0) = if m ≤ n ∧ q then k else 0 := by
  by_cases c : m ≤ n ∧ q
  · have e : (if m ≤ n ∧ q then k else 0) = k := if_pos c
    exact (if_pos ⟨by rw [e]; exact hk, c.2⟩).trans e.symm
  · rw [if_neg c] at h; exact absurd rfl h
theorem headN_cut {n b0 b1 b2 b3 : Nat} (h : headN n b0 b1 b2 b3 ≠ 0) : headN (headN n b0 b1 b2 b3) b0 b1 b2 b3 = headN n b0 b1 b2 b3 := by
  unfold headN at h ⊢
  by_cases a : b0 < 128
  · simp only [if_pos a]
  simp only [if_neg a] at h ⊢
  by_cases c1 : 194 ≤ b0 ∧ b0 ≤ 223
  · simp only [if_pos c1] at h ⊢
    exact if_cut (by decide) h
  simp only [if_neg c1] at h ⊢
  by_cases c2 : b0 = 224
  · simp only [if_pos c2] at h ⊢
    exact if_cut (by decide) h
  simp only [if_neg c2] at h ⊢
  by_cases c3 : b0 = 237
  · simp only [if_pos c3] at h ⊢
    exact if_cut (by decide) h
  simp only [if_neg c3] at h ⊢
  by_cases c4 : 225 ≤ b0 ∧ b0 ≤ 239
  · simp only [if_pos c4] at h ⊢
    exact if_cut (by decide) h
  simp only [if_neg c4] at h ⊢
  by_cases c5 : b0 = 240
  · simp only [if_pos c5] at h ⊢
    exact if_cut (by decide) h
  simp only [if_neg c5] at h ⊢
  by_cases c6 : 241 ≤ b0 ∧ b0 ≤ 243
  · simp only [if_pos c6] at h ⊢
    exact if_cut (by decide) h
  simp only [if_neg c6] at h ⊢
  by_cases c7 : b0 = 244
  · simp only [if_pos c7] at h ⊢
    exact if_cut (by decide) h
  simp only [if_neg c7] at h ⊢

/-- Each of them is one character. -/
theorem isCh_head (t : ByteArray) (h : headW t ≠ 0) : IsCh (t.extract 0 (headW t)) := by
  have hle := headW_le t
  have hsz : (t.extract 0 (headW t)).size = headW t := by rw [ByteArray.size_extract]; omega
  refine ⟨by omega, ?_⟩
  have hb : ∀ i, i < headW t → byteI (t.extract 0 (headW t)) i = byteI t i := fun i hi => by rw [byteI_extract t 0 (headW t) i (by omega) hle, Nat.zero_add]
  have e1 := headW_eq t (by omega) (byteN t 0) (byteN t 1) (byteN t 2) (byteN t 3) (byteI_nat t 0 (by omega)) (fun h => byteI_nat t 1 h) (fun h => byteI_nat t 2 h) (fun h => byteI_nat t 3 h)
  have e2 := headW_eq (t.extract 0 (headW t)) (by omega) (byteN t 0) (byteN t 1) (byteN t 2) (byteN t 3) (by rw [hb 0 (by omega)]; exact byteI_nat t 0 (by omega)) (fun h => by rw [hb 1 (by omega)]; exact byteI_nat t 1 (by omega)) (fun h => by rw [hb 2 (by omega)]; exact byteI_nat t 2 (by omega)) (fun h => by rw [hb 3 (by omega)]; exact byteI_nat t 3 (by omega))
  rw [e2, hsz]
  rw [e1] at h ⊢
  exact headN_cut h

theorem charsOf_isCh (k : Nat) : ∀ (t : ByteArray) (l : List ByteArray), t.size ≤ k → charsOf t = some l → ∀ c ∈ l, IsCh c := by
  induction k with
  | zero =>
    intro t l hk h c hc
    rw [charsOf_step, if_pos (by omega)] at h
    cases h
    cases hc
  | succ k ih =>
    intro t l hk h c hc
    rw [charsOf_step] at h
    by_cases h0 : t.size = 0
    · rw [if_pos h0] at h; cases h; cases hc
    · rw [if_neg h0] at h
      by_cases h1 : headW t = 0
      · rw [if_pos h1] at h; cases h
      · rw [if_neg h1, Option.map_eq_some_iff] at h
        obtain ⟨l', h2, rfl⟩ := h
        rcases List.mem_cons.1 hc with rfl | hc
        · exact isCh_head t h1
        · exact ih _ l' (by rw [ByteArray.size_extract]; omega) h2 c hc

theorem catB_cons (c : ByteArray) (l : List ByteArray) : catB (c :: l) = c ++ catB l := by
  have g : ∀ (l : List ByteArray) (a : ByteArray), l.foldl (· ++ ·) a = a ++ l.foldl (· ++ ·) ⟨#[]⟩ := by
    intro l
    induction l with
    | nil => intro a; show a = a ++ ByteArray.empty; simp
    | cons b l ih =>
      intro a
      rw [List.foldl_cons, List.foldl_cons, ih (a ++ b), ih (⟨#[]⟩ ++ b), ← ByteArray.append_assoc]
      have e : (⟨#[]⟩ : ByteArray) ++ b = b := by show ByteArray.empty ++ b = b; simp
      rw [e]
  show List.foldl (· ++ ·) (⟨#[]⟩ ++ c) l = _
  rw [g]
  have e : (⟨#[]⟩ : ByteArray) ++ c = c := by show ByteArray.empty ++ c = c; simp
  rw [e]
  rfl

theorem charsOf_cat (k : Nat) : ∀ (t : ByteArray) (l : List ByteArray), t.size ≤ k → charsOf t = some l → catB l = t := by
  induction k with
  | zero =>
    intro t l hk h
    rw [charsOf_step, if_pos (by omega)] at h
    cases h
    exact (ByteArray.size_eq_zero_iff.1 (by omega)).symm
  | succ k ih =>
    intro t l hk h
    rw [charsOf_step] at h
    by_cases h0 : t.size = 0
    · rw [if_pos h0] at h; cases h; exact (ByteArray.size_eq_zero_iff.1 h0).symm
    · rw [if_neg h0] at h
      by_cases h1 : headW t = 0
      · rw [if_pos h1] at h; cases h
      · rw [if_neg h1, Option.map_eq_some_iff] at h
        obtain ⟨l', h2, rfl⟩ := h
        rw [catB_cons, ih _ l' (by rw [ByteArray.size_extract]; omega) h2, ← ByteArray.extract_eq_extract_append_extract (headW t) (by omega) (headW_le t)]
        simp

end Go.Proofs.YtabogkonklplcaaGreatDoor

namespace Go.Proofs
open Go.Shelf
def Tryz.lays169_ren : Go.Shelf.Ren := ⟨fun | 169 => 148 | n => n, fun | 70 => 216 | 9 => 9 | 0 => 0 | 72 => 219 | 37 => 217 | 127 => 252 | 3 => 3 | 5 => 5 | n => n, fun | n => n⟩
theorem Tryz.lays169 : Go.Proofs.Lays.n169 Tryz.prog Tryz.lays169_ren := {
  mixed := by kernel_rfl
  f169 := Tryz.func148.trans (congrArg some (by kernel_rfl))
  t0 := Tryz.underlying0
  a0 := Tryz.isAgg0
  z0 := Tryz.sizeOf0
  v0 := Tryz.zeroValue0
  t3 := Tryz.underlying3
  a3 := Tryz.isAgg3
  z3 := Tryz.sizeOf3
  v3 := Tryz.zeroValue3
  t9 := Tryz.underlying9
  a9 := Tryz.isAgg9
  z9 := Tryz.sizeOf9
  v9 := Tryz.zeroValue9
  t37 := Tryz.underlying217
  a37 := Tryz.isAgg217
  z37 := Tryz.sizeOf217
  v37 := Tryz.zeroValue217
  t70 := Tryz.underlying216
  a70 := Tryz.isAgg216
  z70 := Tryz.sizeOf216
  v70 := Tryz.zeroValue216
  t72 := Tryz.underlying219
  a72 := Tryz.isAgg219
  z72 := Tryz.sizeOf219
  v72 := Tryz.zeroValue219
  t127 := Tryz.underlying252
  a127 := Tryz.isAgg252
  z127 := Tryz.sizeOf252
  v127 := Tryz.zeroValue252 }
theorem Tryz.Builder_Extra_169 : Builder.Extra Tryz.prog Tryz.lays169_ren := {
  sizeBuilder := by kernel_rfl
  liesBuilder := by kernel_rfl
  t5 := Tryz.underlying5
  a5 := Tryz.isAgg5
  z5 := Tryz.sizeOf5
  v5 := Tryz.zeroValue5
  infoByte := by kernel_rfl
  cellsByte := by kernel_rfl
  sizeByte := by kernel_rfl
  neB5 := by decide }
open Go.RowKit in
theorem Tryz.Builder_String_any (B b : Nat) (l : List UInt8) (w : World) (h : Lib.IsBuilder 219 5 B b (Lib.byteCells l) w) (hBw : B ≤ w.heap.size) :
    Calls Tryz.prog 148 #[.pointer (some ⟨b, 0, none⟩)] w fun e w' => e = .returned (.string ⟨l.toArray⟩) ∧ Below B w w' := Any.Builder_String_any Tryz.lays169 Tryz.Builder_Extra_169 B b l w h hBw
def Tryz.lays156_ren : Go.Shelf.Ren := ⟨fun | 156 => 161 | 165 => 186 | 166 => 174 | 169 => 148 | 240 => 184 | 241 => 197 | 276 => 195 | 277 => 202 | n => n, fun | 31 => 107 | 9 => 9 | 3 => 3 | 4 => 4 | 0 => 0 | 20 => 20 | 72 => 219 | 76 => 62 | 70 => 216 | 37 => 217 | 75 => 29 | 127 => 252 | 164 => 203 | 5 => 5 | 80 => 221 | n => n, fun | n => n⟩
theorem Tryz.lays156 : Go.Proofs.Lays.n156 Tryz.prog Tryz.lays156_ren := {
  mixed := by kernel_rfl
  f156 := Tryz.func161.trans (congrArg some (by kernel_rfl))
  f165 := Tryz.func186.trans (congrArg some (by kernel_rfl))
  f166 := Tryz.func174.trans (congrArg some (by kernel_rfl))
  f169 := Tryz.func148.trans (congrArg some (by kernel_rfl))
  f240 := Tryz.func184.trans (congrArg some (by kernel_rfl))
  f241 := Tryz.func197.trans (congrArg some (by kernel_rfl))
  f276 := Tryz.func195.trans (congrArg some (by kernel_rfl))
  f277 := Tryz.func202.trans (congrArg some (by kernel_rfl))
  t0 := Tryz.underlying0
  a0 := Tryz.isAgg0
  z0 := Tryz.sizeOf0
  v0 := Tryz.zeroValue0
  t3 := Tryz.underlying3
  a3 := Tryz.isAgg3
  z3 := Tryz.sizeOf3
  v3 := Tryz.zeroValue3
  t4 := Tryz.underlying4
  a4 := Tryz.isAgg4
  z4 := Tryz.sizeOf4
  v4 := Tryz.zeroValue4
  t9 := Tryz.underlying9
  a9 := Tryz.isAgg9
  z9 := Tryz.sizeOf9
  v9 := Tryz.zeroValue9
  t20 := Tryz.underlying20
  a20 := Tryz.isAgg20
  z20 := Tryz.sizeOf20
  v20 := Tryz.zeroValue20
  t31 := Tryz.underlying107
  a31 := Tryz.isAgg107
  z31 := Tryz.sizeOf107
  v31 := Tryz.zeroValue107
  t37 := Tryz.underlying217
  a37 := Tryz.isAgg217
  z37 := Tryz.sizeOf217
  v37 := Tryz.zeroValue217
  t70 := Tryz.underlying216
  a70 := Tryz.isAgg216
  z70 := Tryz.sizeOf216
  v70 := Tryz.zeroValue216
  t72 := Tryz.underlying219
  a72 := Tryz.isAgg219
  z72 := Tryz.sizeOf219
  v72 := Tryz.zeroValue219
  t75 := Tryz.underlying29
  a75 := Tryz.isAgg29
  z75 := Tryz.sizeOf29
  v75 := Tryz.zeroValue29
  t76 := Tryz.underlying62
  a76 := Tryz.isAgg62
  z76 := Tryz.sizeOf62
  v76 := Tryz.zeroValue62
  t127 := Tryz.underlying252
  a127 := Tryz.isAgg252
  z127 := Tryz.sizeOf252
  v127 := Tryz.zeroValue252
  t164 := Tryz.underlying203
  a164 := Tryz.isAgg203
  z164 := Tryz.sizeOf203
  v164 := Tryz.zeroValue203 }
theorem Tryz.Builder_Extra_156 : Builder.Extra Tryz.prog Tryz.lays156_ren := {
  sizeBuilder := by kernel_rfl
  liesBuilder := by kernel_rfl
  t5 := Tryz.underlying5
  a5 := Tryz.isAgg5
  z5 := Tryz.sizeOf5
  v5 := Tryz.zeroValue5
  infoByte := by kernel_rfl
  cellsByte := by kernel_rfl
  sizeByte := by kernel_rfl
  neB5 := by decide }
open Go.RowKit in
theorem Tryz.strings_Join (bk o c : Nat) (xs : List ByteArray) (sep : ByteArray) (w : World) (hcells : ∀ (j : Nat) x, xs[j]? = some x → w.cell? ⟨bk, o + j, none⟩ = some (.string x)) (hbk : bk < w.heap.size) (hN : xs.length ≤ 140737488355328) (hcap : xs.length ≤ c) (hlen : (Lib.join (xs.map (·.data.toList)) sep.data.toList).length ≤ 140737488355328) :
    Calls Tryz.prog 161 #[.slice (some ⟨bk, o, none⟩) xs.length c, .string sep] w fun e w' => e = .returned (.string ⟨(Lib.join (xs.map (·.data.toList)) sep.data.toList).toArray⟩) ∧ Below w.heap.size w w' := Any.strings_Join Tryz.lays156 Tryz.Builder_Extra_156 bk o c xs sep w hcells hbk hN hcap hlen
def Tryz.lays122_ren : Go.Shelf.Ren := ⟨fun | 122 => 180 | 215 => 193 | n => n, fun | 3 => 3 | 4 => 4 | n => n, fun | n => n⟩
theorem Tryz.lays122 : Go.Proofs.Lays.n122 Tryz.prog Tryz.lays122_ren := {
  mixed := by kernel_rfl
  f122 := Tryz.func180.trans (congrArg some (by kernel_rfl))
  f215 := Tryz.func193.trans (congrArg some (by kernel_rfl))
  t3 := Tryz.underlying3
  a3 := Tryz.isAgg3
  z3 := Tryz.sizeOf3
  v3 := Tryz.zeroValue3
  t4 := Tryz.underlying4
  a4 := Tryz.isAgg4
  z4 := Tryz.sizeOf4
  v4 := Tryz.zeroValue4 }
open Go.RowKit in
theorem Tryz.cmp_Compare_int (x y : Int) (w : World) :
    Calls Tryz.prog 180 #[.int .i64 x, .int .i64 y] w fun e w' => e = .returned (.int .i64 (Lib.compareInt x y)) ∧ w' = w := Any.cmp_Compare_int Tryz.lays122 x y w
def Tryz.lays242_ren : Go.Shelf.Ren := ⟨fun | 242 => 185 | 278 => 196 | n => n, fun | 37 => 217 | 21 => 21 | 51 => 264 | 4 => 4 | 5 => 5 | 46 => 266 | n => n, fun | n => n⟩
theorem Tryz.lays242 : Go.Proofs.Lays.n242 Tryz.prog Tryz.lays242_ren := {
  mixed := by kernel_rfl
  f242 := Tryz.func185.trans (congrArg some (by kernel_rfl))
  f278 := Tryz.func196.trans (congrArg some (by kernel_rfl))
  t4 := Tryz.underlying4
  a4 := Tryz.isAgg4
  z4 := Tryz.sizeOf4
  v4 := Tryz.zeroValue4
  t5 := Tryz.underlying5
  a5 := Tryz.isAgg5
  z5 := Tryz.sizeOf5
  v5 := Tryz.zeroValue5
  t21 := Tryz.underlying21
  a21 := Tryz.isAgg21
  z21 := Tryz.sizeOf21
  v21 := Tryz.zeroValue21
  t37 := Tryz.underlying217
  a37 := Tryz.isAgg217
  z37 := Tryz.sizeOf217
  v37 := Tryz.zeroValue217
  t46 := Tryz.underlying266
  a46 := Tryz.isAgg266
  z46 := Tryz.sizeOf266
  v46 := Tryz.zeroValue266
  t51 := Tryz.underlying264
  a51 := Tryz.isAgg264
  z51 := Tryz.sizeOf264
  v51 := Tryz.zeroValue264 }
open Go.RowKit in
theorem Tryz.utf8_AppendRune_plain (B : Nat) (v : Value) (n : Nat) (xs : List Value) (r : Int) (hr0 : -2147483648 ≤ r) (hr1 : r ≤ 2147483647) (w : World) (hown : w.ownsRow B 5 1 v n xs) (hlen : n + 4 ≤ 140737488355328) (hBw : B ≤ w.heap.size) :
    Calls Tryz.prog 185 #[v, .int .i32 r] w fun e w' => ∃ v', e = .returned v' ∧ w'.ownsRow B 5 1 v' (n + (Lib.runeCells r).length) (xs ++ Lib.runeCells r) ∧ ∃ o, (w.alloc o).grownBy w' v.ownBlock := Any.utf8_AppendRune_plain Tryz.lays242 (by kernel_rfl) B v n xs r hr0 hr1 w hown hlen hBw
def Tryz.lays171_ren : Go.Shelf.Ren := ⟨fun | 171 => 175 | 243 => 192 | 246 => 201 | 283 => 203 | 284 => 204 | 285 => 205 | 286 => 206 | 129 => 208 | 317 => 207 | 318 => 209 | 319 => 210 | 320 => 211 | 337 => 212 | 338 => 213 | n => n, fun | 3 => 3 | 9 => 9 | 2 => 2 | 4 => 4 | 171 => 272 | 0 => 0 | 53 => 273 | 37 => 217 | 5 => 5 | 173 => 276 | 212 => 279 | 51 => 264 | 20 => 20 | 213 => 280 | 46 => 266 | 232 => 283 | 233 => 284 | n => n, fun | 17 => 4 | 18 => 5 | 19 => 6 | n => n⟩
theorem Tryz.lays171 : Go.Proofs.Lays.n171 Tryz.prog Tryz.lays171_ren := {
  mixed := by kernel_rfl
  f129 := Tryz.func208.trans (congrArg some (by kernel_rfl))
  f171 := Tryz.func175.trans (congrArg some (by kernel_rfl))
  f243 := Tryz.func192.trans (congrArg some (by kernel_rfl))
  f246 := Tryz.func201.trans (congrArg some (by kernel_rfl))
  f283 := Tryz.func203.trans (congrArg some (by kernel_rfl))
  f284 := Tryz.func204.trans (congrArg some (by kernel_rfl))
  f285 := Tryz.func205.trans (congrArg some (by kernel_rfl))
  f286 := Tryz.func206.trans (congrArg some (by kernel_rfl))
  f317 := Tryz.func207.trans (congrArg some (by kernel_rfl))
  f318 := Tryz.func209.trans (congrArg some (by kernel_rfl))
  f319 := Tryz.func210.trans (congrArg some (by kernel_rfl))
  f320 := Tryz.func211.trans (congrArg some (by kernel_rfl))
  f337 := Tryz.func212.trans (congrArg some (by kernel_rfl))
  f338 := Tryz.func213.trans (congrArg some (by kernel_rfl))
  t0 := Tryz.underlying0
  a0 := Tryz.isAgg0
  z0 := Tryz.sizeOf0
  v0 := Tryz.zeroValue0
  t2 := Tryz.underlying2
  a2 := Tryz.isAgg2
  z2 := Tryz.sizeOf2
  v2 := Tryz.zeroValue2
  t3 := Tryz.underlying3
  a3 := Tryz.isAgg3
  z3 := Tryz.sizeOf3
  v3 := Tryz.zeroValue3
  t4 := Tryz.underlying4
  a4 := Tryz.isAgg4
  z4 := Tryz.sizeOf4
  v4 := Tryz.zeroValue4
  t5 := Tryz.underlying5
  a5 := Tryz.isAgg5
  z5 := Tryz.sizeOf5
  v5 := Tryz.zeroValue5
  t9 := Tryz.underlying9
  a9 := Tryz.isAgg9
  z9 := Tryz.sizeOf9
  v9 := Tryz.zeroValue9
  t20 := Tryz.underlying20
  a20 := Tryz.isAgg20
  z20 := Tryz.sizeOf20
  v20 := Tryz.zeroValue20
  t37 := Tryz.underlying217
  a37 := Tryz.isAgg217
  z37 := Tryz.sizeOf217
  v37 := Tryz.zeroValue217
  t46 := Tryz.underlying266
  a46 := Tryz.isAgg266
  z46 := Tryz.sizeOf266
  v46 := Tryz.zeroValue266
  t51 := Tryz.underlying264
  a51 := Tryz.isAgg264
  z51 := Tryz.sizeOf264
  v51 := Tryz.zeroValue264
  t53 := Tryz.underlying273
  a53 := Tryz.isAgg273
  z53 := Tryz.sizeOf273
  v53 := Tryz.zeroValue273
  t171 := Tryz.underlying272
  a171 := Tryz.isAgg272
  z171 := Tryz.sizeOf272
  v171 := Tryz.zeroValue272
  t173 := Tryz.underlying276
  a173 := Tryz.isAgg276
  z173 := Tryz.sizeOf276
  v173 := Tryz.zeroValue276
  t212 := Tryz.underlying279
  a212 := Tryz.isAgg279
  z212 := Tryz.sizeOf279
  v212 := Tryz.zeroValue279
  t213 := Tryz.underlying280
  a213 := Tryz.isAgg280
  z213 := Tryz.sizeOf280
  t232 := Tryz.underlying283
  a232 := Tryz.isAgg283
  z232 := Tryz.sizeOf283
  v232 := Tryz.zeroValue283
  t233 := Tryz.underlying284
  a233 := Tryz.isAgg284
  z233 := Tryz.sizeOf284
  v233 := Tryz.zeroValue284
  g17 := by kernel_rfl
  g18 := by kernel_rfl
  g19 := by kernel_rfl }
open Go.RowKit Go.Sort Go.Lib in
theorem Tryz.strconv_Itoa_small (i : Nat) (hi : i < 100) (w : World) :
    Calls Tryz.prog 175 #[.int .i64 i] w fun e w' => e = .returned (.string ⟨(Lib.decDigits i).toArray⟩) ∧ w' = w := Any.strconv_Itoa_small Tryz.lays171 i hi w
def Tryz.laysM316_ren : Go.Shelf.Ren := ⟨fun | 316 => 172 | n => n, fun | 9 => 9 | 3 => 3 | 4 => 4 | 37 => 217 | 0 => 0 | 127 => 252 | 5 => 5 | n => n, fun | n => n⟩
theorem Tryz.laysM316 : Go.Proofs.LaysM.n316 Tryz.prog Tryz.laysM316_ren := {
  mixed := by kernel_rfl
  f316 := Tryz.func172.trans (congrArg some (by kernel_rfl))
  t0 := Tryz.underlying0
  a0 := Tryz.isAgg0
  z0 := Tryz.sizeOf0
  v0 := Tryz.zeroValue0
  t3 := Tryz.underlying3
  a3 := Tryz.isAgg3
  z3 := Tryz.sizeOf3
  v3 := Tryz.zeroValue3
  t4 := Tryz.underlying4
  a4 := Tryz.isAgg4
  z4 := Tryz.sizeOf4
  v4 := Tryz.zeroValue4
  t9 := Tryz.underlying9
  a9 := Tryz.isAgg9
  z9 := Tryz.sizeOf9
  v9 := Tryz.zeroValue9
  t37 := Tryz.underlying217
  a37 := Tryz.isAgg217
  z37 := Tryz.sizeOf217
  v37 := Tryz.zeroValue217
  t127 := Tryz.underlying252
  a127 := Tryz.isAgg252
  z127 := Tryz.sizeOf252
  v127 := Tryz.zeroValue252
  t5 := Tryz.underlying5
  a5 := Tryz.isAgg5
  z5 := Tryz.sizeOf5
  v5 := Tryz.zeroValue5
  i0 := by kernel_rfl
  i3 := by kernel_rfl
  i4 := by kernel_rfl
  i5 := by kernel_rfl
  i9 := by kernel_rfl
  i37 := by kernel_rfl
  i127 := by kernel_rfl }
open Go.RowKit in
theorem Tryz.stringslite_Clone (s : ByteArray) (w : World) (hlim : s.size ≤ 281474976710656) :
    Calls Tryz.prog 172 #[.string s] w fun e w' => e = .returned (.string s) ∧ Below w.heap.size w w' := Any.stringslite_Clone Tryz.laysM316 s w hlim
def Tryz.lays260_ren : Go.Shelf.Ren := ⟨fun | 260 => 200 | n => n, fun | 9 => 9 | 21 => 21 | 3 => 3 | 4 => 4 | 5 => 5 | 119 => 268 | 0 => 0 | 46 => 266 | 139 => 271 | 138 => 270 | n => n, fun | 3 => 1 | 4 => 2 | n => n⟩
theorem Tryz.lays260 : Go.Proofs.Lays.n260 Tryz.prog Tryz.lays260_ren := {
  mixed := by kernel_rfl
  f260 := Tryz.func200.trans (congrArg some (by kernel_rfl))
  t0 := Tryz.underlying0
  a0 := Tryz.isAgg0
  z0 := Tryz.sizeOf0
  v0 := Tryz.zeroValue0
  t3 := Tryz.underlying3
  a3 := Tryz.isAgg3
  z3 := Tryz.sizeOf3
  v3 := Tryz.zeroValue3
  t4 := Tryz.underlying4
  a4 := Tryz.isAgg4
  z4 := Tryz.sizeOf4
  v4 := Tryz.zeroValue4
  t5 := Tryz.underlying5
  a5 := Tryz.isAgg5
  z5 := Tryz.sizeOf5
  v5 := Tryz.zeroValue5
  t9 := Tryz.underlying9
  a9 := Tryz.isAgg9
  z9 := Tryz.sizeOf9
  v9 := Tryz.zeroValue9
  t21 := Tryz.underlying21
  a21 := Tryz.isAgg21
  z21 := Tryz.sizeOf21
  v21 := Tryz.zeroValue21
  t46 := Tryz.underlying266
  a46 := Tryz.isAgg266
  z46 := Tryz.sizeOf266
  v46 := Tryz.zeroValue266
  t119 := Tryz.underlying268
  a119 := Tryz.isAgg268
  z119 := Tryz.sizeOf268
  t138 := Tryz.underlying270
  a138 := Tryz.isAgg270
  z138 := Tryz.sizeOf270
  v138 := Tryz.zeroValue270
  t139 := Tryz.underlying271
  a139 := Tryz.isAgg271
  z139 := Tryz.sizeOf271
  v139 := Tryz.zeroValue271
  g3 := by kernel_rfl
  g4 := by kernel_rfl }
def Tryz.lays197_ren : Go.Shelf.Ren := ⟨fun | 197 => 191 | 260 => 200 | n => n, fun | 9 => 9 | 21 => 21 | 3 => 3 | 4 => 4 | 5 => 5 | 105 => 261 | 119 => 268 | 0 => 0 | 46 => 266 | 139 => 271 | 138 => 270 | n => n, fun | 3 => 1 | 4 => 2 | n => n⟩
theorem Tryz.lays197 : Go.Proofs.Lays.n197 Tryz.prog Tryz.lays197_ren := {
  mixed := by kernel_rfl
  f197 := Tryz.func191.trans (congrArg some (by kernel_rfl))
  f260 := Tryz.func200.trans (congrArg some (by kernel_rfl))
  t0 := Tryz.underlying0
  a0 := Tryz.isAgg0
  z0 := Tryz.sizeOf0
  v0 := Tryz.zeroValue0
  t3 := Tryz.underlying3
  a3 := Tryz.isAgg3
  z3 := Tryz.sizeOf3
  v3 := Tryz.zeroValue3
  t4 := Tryz.underlying4
  a4 := Tryz.isAgg4
  z4 := Tryz.sizeOf4
  v4 := Tryz.zeroValue4
  t5 := Tryz.underlying5
  a5 := Tryz.isAgg5
  z5 := Tryz.sizeOf5
  v5 := Tryz.zeroValue5
  t9 := Tryz.underlying9
  a9 := Tryz.isAgg9
  z9 := Tryz.sizeOf9
  v9 := Tryz.zeroValue9
  t21 := Tryz.underlying21
  a21 := Tryz.isAgg21
  z21 := Tryz.sizeOf21
  v21 := Tryz.zeroValue21
  t46 := Tryz.underlying266
  a46 := Tryz.isAgg266
  z46 := Tryz.sizeOf266
  v46 := Tryz.zeroValue266
  t105 := Tryz.underlying261
  a105 := Tryz.isAgg261
  z105 := Tryz.sizeOf261
  v105 := Tryz.zeroValue261
  t119 := Tryz.underlying268
  a119 := Tryz.isAgg268
  z119 := Tryz.sizeOf268
  t138 := Tryz.underlying270
  a138 := Tryz.isAgg270
  z138 := Tryz.sizeOf270
  v138 := Tryz.zeroValue270
  t139 := Tryz.underlying271
  a139 := Tryz.isAgg271
  z139 := Tryz.sizeOf271
  v139 := Tryz.zeroValue271
  g3 := by kernel_rfl
  g4 := by kernel_rfl }
open Go.RowKit Go.Lib in
theorem Tryz.utf8_DecodeRuneInString (s : ByteArray) (w : World) (hT : Lib.Utf8Tabs 1 2 w) :
    Calls Tryz.prog 191 #[.string s] w fun e w' => e = .returned (.tuple #[.int .i32 (Lib.decodeGo s).1, .int .i64 (Lib.decodeGo s).2]) ∧ Below w.heap.size w w' := Any.utf8_DecodeRuneInString Tryz.lays197 s w hT
def Tryz.lays108_ren : Go.Shelf.Ren := ⟨fun | 108 => 155 | n => n, fun | 28 => 24 | 3 => 3 | 0 => 0 | 4 => 4 | n => n, fun | n => n⟩
theorem Tryz.lays108 : Go.Proofs.Lays.n108 Tryz.prog Tryz.lays108_ren := {
  mixed := by kernel_rfl
  f108 := Tryz.func155.trans (congrArg some (by kernel_rfl))
  t0 := Tryz.underlying0
  a0 := Tryz.isAgg0
  z0 := Tryz.sizeOf0
  v0 := Tryz.zeroValue0
  t3 := Tryz.underlying3
  a3 := Tryz.isAgg3
  z3 := Tryz.sizeOf3
  v3 := Tryz.zeroValue3
  t4 := Tryz.underlying4
  a4 := Tryz.isAgg4
  z4 := Tryz.sizeOf4
  v4 := Tryz.zeroValue4
  t28 := Tryz.underlying24
  a28 := Tryz.isAgg24
  z28 := Tryz.sizeOf24
  v28 := Tryz.zeroValue24 }
open Go.Lib in
theorem Tryz.slices_Index_int (b off n c : Nat) (zs : List Int) (x : Int) (w : World) (hz : n ≤ zs.length) (hbig : n ≤ 9223372036854775807) (hc : ∀ j, j < zs.length → w.cell? ⟨b, off + j, none⟩ = some (.int .i64 (zs.getD j 0))) :
    Calls Tryz.prog 155 #[.slice (some ⟨b, off, none⟩) n c, .int .i64 x] w fun e w' => e = .returned (.int .i64 (Lib.idxOf (zs.take n) x)) ∧ w' = w := Any.slices_Index_int Tryz.lays108 b off n c zs x w hz hbig hc
def Tryz.lays107_ren : Go.Shelf.Ren := ⟨fun | 107 => 179 | 108 => 155 | n => n, fun | 28 => 24 | 3 => 3 | 4 => 4 | 0 => 0 | n => n, fun | n => n⟩
theorem Tryz.lays107 : Go.Proofs.Lays.n107 Tryz.prog Tryz.lays107_ren := {
  mixed := by kernel_rfl
  f107 := Tryz.func179.trans (congrArg some (by kernel_rfl))
  f108 := Tryz.func155.trans (congrArg some (by kernel_rfl))
  t0 := Tryz.underlying0
  a0 := Tryz.isAgg0
  z0 := Tryz.sizeOf0
  v0 := Tryz.zeroValue0
  t3 := Tryz.underlying3
  a3 := Tryz.isAgg3
  z3 := Tryz.sizeOf3
  v3 := Tryz.zeroValue3
  t4 := Tryz.underlying4
  a4 := Tryz.isAgg4
  z4 := Tryz.sizeOf4
  v4 := Tryz.zeroValue4
  t28 := Tryz.underlying24
  a28 := Tryz.isAgg24
  z28 := Tryz.sizeOf24
  v28 := Tryz.zeroValue24 }
open Go.Lib in
theorem Tryz.slices_Contains_int (b off n c : Nat) (zs : List Int) (x : Int) (w : World) (hz : n ≤ zs.length) (hbig : n ≤ 9223372036854775807) (hc : ∀ j, j < zs.length → w.cell? ⟨b, off + j, none⟩ = some (.int .i64 (zs.getD j 0))) :
    Calls Tryz.prog 179 #[.slice (some ⟨b, off, none⟩) n c, .int .i64 x] w fun e w' => e = .returned (.bool ((zs.take n).contains x)) ∧ w' = w := Any.slices_Contains_int Tryz.lays107 b off n c zs x w hz hbig hc
def Tryz.lays112_ren : Go.Shelf.Ren := ⟨fun | 112 => 181 | n => n, fun | 28 => 24 | 3 => 3 | 4 => 4 | 0 => 0 | n => n, fun | n => n⟩
theorem Tryz.lays112 : Go.Proofs.Lays.n112 Tryz.prog Tryz.lays112_ren := {
  mixed := by kernel_rfl
  f112 := Tryz.func181.trans (congrArg some (by kernel_rfl))
  t0 := Tryz.underlying0
  a0 := Tryz.isAgg0
  z0 := Tryz.sizeOf0
  v0 := Tryz.zeroValue0
  t3 := Tryz.underlying3
  a3 := Tryz.isAgg3
  z3 := Tryz.sizeOf3
  v3 := Tryz.zeroValue3
  t4 := Tryz.underlying4
  a4 := Tryz.isAgg4
  z4 := Tryz.sizeOf4
  v4 := Tryz.zeroValue4
  t28 := Tryz.underlying24
  a28 := Tryz.isAgg24
  z28 := Tryz.sizeOf24
  v28 := Tryz.zeroValue24 }
def Tryz.laysNm223_ren : Go.Shelf.Ren := ⟨fun | 23 => 150 | n => n, fun | 22 => 24 | 3 => 3 | 4 => 4 | 0 => 0 | n => n, fun | n => n⟩
theorem Tryz.laysNm223 : Go.Proofs.Lays2.n23 Tryz.prog Tryz.laysNm223_ren := {
  mixed := by kernel_rfl
  f23 := Tryz.func150.trans (congrArg some (by kernel_rfl))
  t0 := Tryz.underlying0
  a0 := Tryz.isAgg0
  z0 := Tryz.sizeOf0
  v0 := Tryz.zeroValue0
  t3 := Tryz.underlying3
  a3 := Tryz.isAgg3
  z3 := Tryz.sizeOf3
  v3 := Tryz.zeroValue3
  t4 := Tryz.underlying4
  a4 := Tryz.isAgg4
  z4 := Tryz.sizeOf4
  v4 := Tryz.zeroValue4
  t22 := Tryz.underlying24
  a22 := Tryz.isAgg24
  z22 := Tryz.sizeOf24
  v22 := Tryz.zeroValue24
  i3 := by kernel_rfl }
open Go.RowKit Go.Lib Go.Sort in
theorem Tryz.slices_Reverse_int_cells (b off n c : Nat) (zs : List Int) (w : World) (hz : n ≤ zs.length) (hbig : n ≤ 9223372036854775807) (hc : ∀ j, j < zs.length → w.cell? ⟨b, off + j, none⟩ = some (.int .i64 (zs.getD j 0))) (hf : ∀ j, j < n → w.frozen? ⟨b, off + j, none⟩ = false) :
    Calls Tryz.prog 181 #[.slice (some ⟨b, off, none⟩) n c] w fun e w' => e = .returned (.tuple #[]) ∧ ∃ q, w' = (w.drewN q).setCells b off ((zs.take n).reverse.map (Value.int .i64)) := Any.slices_Reverse_int_cells Tryz.lays112 b off n c zs w hz hbig hc hf
open Go.RowKit Go.Lib Go.Sort in
theorem Tryz.slices_Delete_int_cells (b off n c i j : Nat) (zs : List Int) (w : World) (hz : n ≤ zs.length) (hcap : n ≤ c) (hm : c ≤ 9223372036854775807) (hij : i ≤ j) (hj : j ≤ n) (hc : ∀ j, j < zs.length → w.cell? ⟨b, off + j, none⟩ = some (.int .i64 (zs.getD j 0))) (hf : ∀ j, j < n → w.frozen? ⟨b, off + j, none⟩ = false) :
    Calls Tryz.prog 150 #[.slice (some ⟨b, off, none⟩) n c, .int .i64 i, .int .i64 j] w fun e w' => e = .returned (.slice (some ⟨b, off, none⟩) (n - (j - i)) c) ∧ ∃ q, w' = (w.drewN q).setCells b off (((zs.take n).take i ++ (zs.take n).drop j ++ List.replicate (j - i) 0).map (Value.int .i64)) := Any.slices_Delete_int_cells Tryz.laysNm223 b off n c i j zs w hz hcap hm hij hj hc hf
end Go.Proofs

/- chars.isBroken, chars.Check. -/
namespace Go.Proofs.YtabogkonklplcaaGreatDoor
open Go.RowKit Go.Lib
set_option linter.unusedSimpArgs false
set_option linter.unusedVariables false

abbrev Tabs (w : World) : Prop := Lib.Utf8Tabs 1 2 w

theorem Tabs.below {w w' : World} (h : Tabs w) (hb : Below w.heap.size w w') : Tabs w' := by
  have key : ∀ (p : Addr) (v : Value), w.cell? p = some v → w'.cell? p = some v := fun p v hv => by rw [hb.cell (World.block_lt_of_cell? w _ hv)]; exact hv
  exact ⟨fun c hc => key _ _ (h.1 c hc), fun i hi => ⟨key _ _ (h.2 i hi).1, key _ _ (h.2 i hi).2⟩⟩

set_option maxHeartbeats 400000 in
theorem broken_any (c : Int) (u : ByteArray) (w : World) (hT : Tabs w) :
    Calls Tryz.prog 171 #[.int .i32 c, .string u] w fun e w' => e = .returned (.bool (decide (c = 65533) && decide ((Lib.decodeGo u).2 = 1))) ∧ Below w.heap.size w w' := by
  have C := hid (Tryz.utf8_DecodeRuneInString u w hT)
  obtain ⟨R, hR⟩ : ∃ R, (Lib.decodeGo u).1 = R := ⟨_, rfl⟩
  obtain ⟨K, hK⟩ : ∃ K, (Lib.decodeGo u).2 = K := ⟨_, rfl⟩
  rw [hR, hK] at C
  rw [hK]
  clear hT hR hK
  by_cases hc : c = 65533
  · subst hc
    go_enter Tryz.func171, Tryz.ntmps171
    go_wp2_with (go_at_call 191; refine C.out.mono ?_; rintro e w3 ⟨rfl, hb⟩)
    go_ret
    refine ⟨?_, hb⟩
    congr 2
    by_cases h1 : K = 1
    · subst h1; rfl
    · have : ¬ (K : Int) = 1 := by omega
      simp [h1, this]
  · have hc1 : (c != 65533) = true := by simpa using hc
    go_enter Tryz.func171, Tryz.ntmps171
    go_wp2
    go_ret
    exact ⟨by simp [hc], Below.refl _ _⟩

end Go.Proofs.YtabogkonklplcaaGreatDoor

/- chars.Check. -/
namespace Go.Proofs.YtabogkonklplcaaGreatDoor
open Go.RowKit Go.Lib
set_option linter.unusedSimpArgs false
set_option linter.unusedVariables false

abbrev flawV (n : Int) : Value := .iface 249 (.agg #[.int .i64 n])
/-- A text that a document takes: its characters. -/
def TakesM (m : Nat) (s : ByteArray) (l : List ByteArray) : Prop := charsOf s = some l ∧ l.length ≤ m
abbrev Takes (s : ByteArray) (l : List ByteArray) : Prop := TakesM 30 s l

def CheckPost (m : Nat) (s : ByteArray) (w : World) (e : Ending) (w' : World) : Prop :=
  Below w.heap.size w w' ∧ ((∃ l, TakesM m s l ∧ e = .returned .nilIface) ∨ ((∀ l, ¬ TakesM m s l) ∧ ∃ n, e = .returned (flawV n)))

theorem takes_end {m : Nat} {s : ByteArray} {l : List ByteArray} {p : Nat} (hc : charsOf s = (charsOf (s.extract p s.size)).map (l ++ ·)) (hp : ¬ p < s.size) (hl : l.length ≤ m) : TakesM m s l := by
  rw [charsAt_end s p (by omega)] at hc
  exact ⟨by rw [hc]; simp, hl⟩
theorem takes_full {m : Nat} {s : ByteArray} {l : List ByteArray} {p : Nat} (hc : charsOf s = (charsOf (s.extract p s.size)).map (l ++ ·)) (hp : p < s.size) (hl : l.length = m) : ∀ l', ¬ TakesM m s l' := by
  rintro l' ⟨h1, h2⟩
  by_cases hd : Utf8.decode s p = (65533, 1)
  · rw [charsAt_bad s p hp hd] at hc
    rw [hc] at h1; cases h1
  · rw [charsAt_good s p hp hd] at hc
    rw [hc] at h1
    simp only [Option.map_map, Option.map_eq_some_iff] at h1
    obtain ⟨m', _, h3⟩ := h1
    subst h3
    simp at h2
    omega
theorem takes_bad {m : Nat} {s : ByteArray} {l : List ByteArray} {p : Nat} (hc : charsOf s = (charsOf (s.extract p s.size)).map (l ++ ·)) (hp : p < s.size) (hd : Utf8.decode s p = (65533, 1)) : ∀ l', ¬ TakesM m s l' := by
  rintro l' ⟨h1, h2⟩
  rw [charsAt_bad s p hp hd] at hc
  rw [hc] at h1; cases h1
theorem takes_next {s : ByteArray} {l : List ByteArray} {p : Nat} (hc : charsOf s = (charsOf (s.extract p s.size)).map (l ++ ·)) (hp : p < s.size) (hd : Utf8.decode s p ≠ (65533, 1)) :
    charsOf s = (charsOf (s.extract (p + (Utf8.decode s p).2) s.size)).map ((l ++ [s.extract p (p + (Utf8.decode s p).2)]) ++ ·) := by
  rw [hc, charsAt_good s p hp hd, Option.map_map]
  congr 1
  funext x
  simp

def CheckInv (m : Nat) (s : ByteArray) (w : World) (c : Value) (wr : World) : Prop :=
  ∃ (p : Nat) (l : List ByteArray), c = .int .i64 l.length ∧ wr.heap[w.heap.size]? = some (.stringIter s p) ∧ Below w.heap.size w wr ∧ p ≤ s.size ∧ l.length ≤ m ∧ charsOf s = (charsOf (s.extract p s.size)).map (l ++ ·)

theorem brk_eq (s : ByteArray) (p : Nat) (h : p < s.size) : (decide (((Utf8.decode s p).1 : Int) = 65533) && decide ((Lib.decodeGo (s.extract p s.size)).2 = 1)) = decide (Utf8.decode s p = (65533, 1)) := by
  rw [decodeGo_tail s p h]
  generalize Utf8.decode s p = d
  obtain ⟨a, b⟩ := d
  simp only [Prod.mk.injEq]
  by_cases h1 : a = 65533 <;> by_cases h2 : b = 1 <;> simp [h1, h2] <;> omega

set_option maxRecDepth 20000 in
set_option maxHeartbeats 2000000 in
theorem check_any (m : Nat) (hm : m ≤ 30) (s : ByteArray) (w : World) (hs : s.size < lots) (hT : Tabs w) :
    Calls Tryz.prog 144 #[.string s, .int .i64 m] w (CheckPost m s w) := by
  have HT := hid hT
  clear hT
  go_enter Tryz.func144, Tryz.ntmps144
  go_wp2
  go_loopw [5] (fun c wr => CheckInv m s w c wr) (fun _ wr => s.size - wr.iterPos w.heap.size)
  case atStart =>
    exact ⟨0, [], rfl, heap_alloc_new w _, (Below.refl _ w).alloc (Nat.le_refl _) _, Nat.zero_le _, Nat.zero_le _, by simp⟩
  case round =>
    obtain ⟨p, l, rfl, hi, hb, hp, hl, hc⟩ := hrel
    have HC := hid hc
    clear hc
    by_cases hlt : p < s.size
    · have hnx := fun ty => Lib.run_next_any_at (P := Tryz.prog) _ w.heap.size s p ty hi hlt
      have B := hid (brk_eq s p hlt)
      have W := hid (width_le s p hlt)
      have F := hid (takes_full (m := m) HC.out hlt)
      have D := hid (takes_bad (m := m) HC.out hlt)
      have N := hid (takes_next HC.out hlt)
      obtain ⟨R, K, hRK⟩ : ∃ R K, Utf8.decode s p = (R, K) := ⟨_, _, rfl⟩
      rw [hRK] at hnx B W D N
      simp only at hnx B W
      clear hRK HC
      have hi2 := iterAt_heap _ _ s p (p + K) hi
      have hb2 := below_iterAt hb (Nat.le_refl _) s (p + K)
      have hpI : (p : Int) ≤ s.size := by omega
      by_cases h30 : l.length = m
      · have h30I : (m : Int) ≤ l.length := by omega
        have h30N : m ≤ l.length := by omega
        go_wp2
        go_ret
        exact ⟨hb2, .inr ⟨F.out h30, _, rfl⟩⟩
      · have h30I : ¬ (m : Int) ≤ l.length := by omega
        have h30N : ¬ m ≤ l.length := by omega
        have hT2 := HT.out.below hb2
        have C := hid (broken_any (R : Int) (s.extract p s.size) _ hT2)
        rw [B.out] at C
        clear hT2 B F
        by_cases hd : (R, K) = (65533, 1)
        · rw [decide_eq_true hd] at C
          have D2 := hid (D.out hd)
          clear N W D hd
          go_wp2_with (go_at_call 171; refine C.out.mono ?_; rintro e w3 ⟨rfl, hb3⟩)
          go_ret
          exact ⟨hb2.trans (hb3.mono hb2.size), .inr ⟨D2.out, _, rfl⟩⟩
        · rw [decide_eq_false hd] at C
          have N2 := hid (N.out hd)
          have W2 := hid (W.out hd)
          clear N W D hd
          go_wp2_with (go_at_call 171; refine C.out.mono ?_; rintro e w3 ⟨rfl, hb3⟩)
          have hw := W2.out
          have hi3 := (hb3.block w.heap.size (heap_lt hi2)).trans hi2
          go_roundw
          case rel =>
            refine ⟨p + K, l ++ [s.extract p (p + K)], ?_, hi3, hb2.trans (hb3.mono hb2.size), hw.2, by simp; omega, N2.out⟩
            first | simp | go_num
          case measure =>
            rw [iterPos_of hi3, iterPos_of hi]
            omega
    · have hnx := fun ty => Lib.run_next_end_at (P := Tryz.prog) _ w.heap.size s p ty hi hlt
      go_wp2
      go_ret
      exact ⟨hb, .inl ⟨l, takes_end HC.out hlt hl, rfl⟩⟩

end Go.Proofs.YtabogkonklplcaaGreatDoor

/- Ranging over a function: the loop's side and the function's side each have blocks of their own; what either does is told by what it owns. For functions that range over themselves. Our own. -/
namespace Go.Proofs.YtabogkonklplcaaGreatDoor
open Go.RowKit
set_option linter.unusedSimpArgs false
set_option linter.unusedVariables false

/-- One side's step: of what there was, its own blocks alone change; what it gains is new. -/
structure Stp (O O' : Nat → Prop) (w w' : World) : Prop where
  keeps : Keeps O w w'
  gains : ∀ k, O' k → O k ∨ w.heap.size ≤ k
  there : ∀ k, O' k → k < w'.heap.size

theorem Stp.refl {O : Nat → Prop} {w : World} (h : ∀ k, O k → k < w.heap.size) : Stp O O w w := ⟨Keeps.refl _ _, fun k h => .inl h, h⟩
theorem Stp.trans {O1 O2 O3 : Nat → Prop} {a b c : World} (h : Stp O1 O2 a b) (k : Stp O2 O3 b c) : Stp O1 O3 a c where
  keeps := h.keeps.trans (k.keeps.mono (fun i _ e => h.gains i e))
  gains := fun i e => (k.gains i e).elim (h.gains i) (fun e => .inr (Nat.le_trans h.keeps.size e))
  there := k.there

/-- What is said of the blocks in O, and of those below B. -/
def Mine (B : Nat) (I : List Nat → (Nat → Prop) → World → Prop) : Prop := ∀ pre O w w', I pre O w → Keeps (fun k => ¬ O k ∧ B ≤ k) w w' → I pre O w'

theorem Mine.later {B B' : Nat} {I : List Nat → (Nat → Prop) → World → Prop} (h : Mine B I) (hB : B ≤ B') : Mine B' I :=
  fun pre O w w' hi hk => h pre O w w' hi (hk.mono (fun k _ e => ⟨e.1, Nat.le_trans hB e.2⟩))

def encN (x : Nat) : Array Value := #[.int .i64 (x : Int)]

/-- What a call of yield does. -/
def YieldOk (P : Program) (l : Nat) (xs : List Nat) (J Jx : List Nat → (Nat → Prop) → World → Prop) : Prop :=
  ∀ (n : Nat) pre x O w, J pre O w → pre ++ [x] <+: xs → (∀ k, O k → k < w.heap.size) → YieldAt Fence.wide n P l (encN x) w fun e w' => ∃ O', Stp O O' w w' ∧
    ((e = .returned (.bool true) ∧ J (pre ++ [x]) O' w') ∨ (e = .returned (.bool false) ∧ Jx (pre ++ [x]) O' w'))

/-- What a function gives that is ranged over. -/
def SeqOk (P : Program) (gf : Nat) (lb : Array Value) (xs : List Nat) (w : World) (O : Nat → Prop) : Prop :=
  ∀ (l : Nat) (J Jx : List Nat → (Nat → Prop) → World → Prop) (O1 : Nat → Prop) (w1 : World), Below w.heap.size w w1 → (∀ k, O1 k → O k ∨ w.heap.size ≤ k) → (∀ k, O1 k → k < w1.heap.size) → Mine w1.heap.size J → Mine w1.heap.size Jx → YieldOk P l xs J Jx → J [] O1 w1 →
    Calls P gf (#[.func (.yield l) #[] #[]] ++ lb) w1 fun e w' => (∃ v, e = .returned v) ∧ ∃ O', Stp O1 O' w1 w' ∧ (J xs O' w' ∨ ∃ pre, pre <+: xs ∧ Jx pre O' w')

/-- How a round's body may be left. -/
def minePost (I Ix : List Nat → (Nat → Prop) → World → Prop) (O : Nat → Prop) (xs : List Nat) (W : World) : Exit → Act → World → Prop
  | .normal, _, W' => ∃ O', Stp O O' W W' ∧ I xs O' W'
  | .ret, _, W' => ∃ O', Stp O O' W W' ∧ Ix xs O' W'
  | .exit _, _, _ => False
  | .goto _, _, _ => False
  | .panic _, _, _ => False
  | .outgrown, _, _ => False

/-- The same, a round's jump said by its code. -/
def anyPost (I : List Nat → (Nat → Prop) → World → Prop) (Ix : Code → List Nat → (Nat → Prop) → World → Prop) (O : Nat → Prop) (xs : List Nat) (W : World) : Exit → Act → World → Prop
  | .normal, _, W' => ∃ O', Stp O O' W W' ∧ I xs O' W'
  | .ret, _, W' => ∃ O', Stp O O' W W' ∧ Ix .ret xs O' W'
  | .exit id, _, W' => ∃ O', Stp O O' W W' ∧ Ix (.exit id) xs O' W'
  | .goto _, _, _ => False
  | .panic _, _, _ => False
  | .outgrown, _, _ => False

theorem keeps_putObj {F : Nat → Prop} {a w : World} (h : Keeps F a w) {l : Nat} (hl : F l ∨ a.heap.size ≤ l) (o : Obj) : Keeps F a (w.putObj l o) :=
  h.trans ⟨rfl, rfl, rfl, by simp, fun k hk hF => World.putObj_heap_other (fun e => hF (e ▸ hl))⟩

set_option maxHeartbeats 1000000 in
theorem range_any {P : Program} {n : Nat} {g : Operand} {ps : Array Tmp} {assign body : Code} {Q : Exit → Act → World → Prop} {a : Act} {w : World} {gf : Nat} {lb : Array Value}
    (hg : a.eval g = .func (.func gf) #[] lb) (eg : ∀ args w, (callFunc gf args).run P w = .ok (.enter gf args) w) (hps : ps.size = 1)
    {xs : List Nat} {O : Nat → Prop} (hO : ∀ k, O k → k < w.heap.size) (hseq : SeqOk P gf lb xs w O)
    (I : List Nat → (Nat → Prop) → World → Prop) (Ix : Code → List Nat → (Nat → Prop) → World → Prop) (mI : Mine w.heap.size I) (mIx : ∀ c, Mine w.heap.size (Ix c)) (h0 : I [] O w) (a₁ : Nat → Act)
    (hassign : ∀ (m l x : Nat) (W : World) (K : Act → World → Prop), K (a₁ x) W → assign.wpIn (Fence.wide.inRound l) m P (Exit.then K (fun _ _ _ => False)) { tmps := (ps.zip (encN x)).foldl (fun t (p, v) => t.setIfInBounds p v) a.tmps, defers := [] } W)
    (hbody : ∀ (m l : Nat) pre x O W, pre ++ [x] <+: xs → (∀ k, O k → k < W.heap.size) → I pre O W → body.wpIn (Fence.wide.inRound l) m P (anyPost I Ix O (pre ++ [x]) W) (a₁ x) W)
    (hdone : ∀ O' W, Stp O O' w W → ¬ O' w.heap.size → I xs O' W → W.heap[w.heap.size]? = some (.deferred (some [])) → Q .normal { a with defers := { target := .collected w.heap.size, args := #[] } :: a.defers } W)
    (hstop : ∀ (c : Code) O' pre W, pre <+: xs → Stp O O' w W → ¬ O' w.heap.size → Ix c pre O' W → W.heap[w.heap.size]? = some (.deferred (some [])) → c.wpIn Fence.wide n P Q { a with defers := { target := .collected w.heap.size, args := #[] } :: a.defers } W) :
    (Code.rangeFunc g ps assign body).wpIn Fence.wide n P Q a w := by
  refine wpIn_rangeFunc ?_
  intro fn hfn
  obtain ⟨rec, hrec⟩ : ∃ rec : LoopState → Option Code → Loop, rec = fun st pe => { state := st, pending := pe, fn, tmps := a.tmps, params := ps, assign, body, defers := w.heap.size } := ⟨_, rfl⟩
  obtain ⟨l, hl⟩ : ∃ l, l = w.heap.size + 1 := ⟨_, rfl⟩
  obtain ⟨W1, hW1⟩ : ∃ W1, (w.alloc (.deferred (some []))).alloc (.loop (rec .ready none)) = W1 := ⟨_, rfl⟩
  have hs1 : W1.heap.size = w.heap.size + 2 := by rw [← hW1]; simp
  have hL1 : W1.heap[l]? = some (.loop (rec .ready none)) := by
    rw [← hW1, hl]; have := World.alloc_heap_new (w.alloc (.deferred (some []))) (.loop (rec .ready none)); rwa [World.size_alloc] at this
  have hK1 : W1.heap[w.heap.size]? = some (.deferred (some [])) := by
    rw [← hW1]; exact (Below.heap_alloc _ _ _ (by simp)).trans (World.alloc_heap_new w _)
  have hb1 : Below w.heap.size w W1 := by rw [← hW1]; exact ((Below.refl _ w).alloc (Nat.le_refl _) _).alloc (by simp) _
  have hOl : ¬ O l := fun e => by have := hO l e; omega
  refine ⟨l, [{ target := .collected w.heap.size, args := #[] }], W1, { target := .fn (.func gf) lb, args := #[.func (.yield l) #[] #[]] }, W1, gf, #[.func (.yield l) #[] #[]] ++ lb, W1, ?_, ?_, fun _ _ => trivial, ?_, ?_, ?_⟩
  · rw [← hW1, hrec, hl]; exact run_enterLoop_outer _ _ _ _ _
  · simp only [resolve, hg]
    simp [go_sem]
  · simp [invoke, go_sem, eg]
  · intro h; simp [Fence.wide] at h
  have hI1 : I [] O W1 := mI [] O w W1 h0 (Keeps.of_below hb1)
  obtain ⟨J, hJ⟩ : ∃ J : List Nat → (Nat → Prop) → World → Prop, J = fun pre O' W => ∃ O2 : Nat → Prop, (O' = fun k => O2 k ∨ k = l) ∧ ¬ O2 l ∧ I pre O2 W ∧ W.heap[l]? = some (.loop (rec .ready none)) := ⟨_, rfl⟩
  obtain ⟨Jx, hJx⟩ : ∃ J : List Nat → (Nat → Prop) → World → Prop, J = fun pre O' W => ∃ (c : Code) (O2 : Nat → Prop), (O' = fun k => O2 k ∨ k = l) ∧ ¬ O2 l ∧ Ix c pre O2 W ∧ W.heap[l]? = some (.loop (rec .done (some c))) := ⟨_, rfl⟩
  have mJ : Mine W1.heap.size J := by
    rintro pre O' X Y hj hk
    rw [hJ] at hj ⊢
    obtain ⟨O2, rfl, h1, h2, h3⟩ := hj
    exact ⟨O2, rfl, h1, mI pre O2 X Y h2 (hk.mono (fun k _ e => ⟨fun h => e.1 (.inl h), by omega⟩)), (hk.block l (heap_lt h3) (fun e => e.1 (.inr rfl))).trans h3⟩
  have mJx : Mine W1.heap.size Jx := by
    rintro pre O' X Y hj hk
    rw [hJx] at hj ⊢
    obtain ⟨c, O2, rfl, h1, h2, h3⟩ := hj
    exact ⟨c, O2, rfl, h1, mIx c pre O2 X Y h2 (hk.mono (fun k _ e => ⟨fun h => e.1 (.inl h), by omega⟩)), (hk.block l (heap_lt h3) (fun e => e.1 (.inr rfl))).trans h3⟩
  have hY : YieldOk P l xs J Jx := by
    intro m pre x O' W hj hpre hO'
    rw [hJ] at hj
    obtain ⟨O2, rfl, h1, h2, h3⟩ := hj
    have hlt := heap_lt h3
    have hy := run_yield (P := P) (args := encN x) h3 (by rw [hrec]; exact hps.symm)
    rw [hrec] at hy
    refine ⟨fn, _, assign, body, hy, roundIn_of_wpIn trivial (hassign m l x W _ ?_)⟩
    clear hy
    refine ⟨_, run_beginRound h3 (by rw [hrec]), ?_⟩
    obtain ⟨Wb, hWb⟩ : ∃ Wb, W.putObj l (.loop { rec .ready none with state := .busy }) = Wb := ⟨_, rfl⟩
    rw [hWb]
    have hszb : Wb.heap.size = W.heap.size := by rw [← hWb]; simp
    have hlb : Wb.heap[l]? = some (.loop { rec .ready none with state := .busy }) := by rw [← hWb]; exact World.putObj_heap_same hlt
    have hIb : I pre O2 Wb := mI pre O2 W Wb h2 (by rw [← hWb]; exact keeps_putObj (Keeps.refl _ _) (.inl ⟨h1, by omega⟩) _)
    have hkb : Keeps (fun k => O2 k ∨ k = l) W Wb := by rw [← hWb]; exact keeps_putObj (Keeps.refl _ _) (.inl (.inr rfl)) _
    have fin : ∀ (jump : Option Code) (O3 : Nat → Prop) (W3 : World), Stp O2 O3 Wb W3 →
        (Instr.endRound l jump).run P W3 = .ok (.bool jump.isNone) (W3.putObj l (.loop (rec (if jump.isNone then .ready else .done) jump))) ∧ ¬ O3 l ∧ l < W3.heap.size ∧
        (W3.putObj l (.loop (rec (if jump.isNone then .ready else .done) jump))).heap[l]? = some (.loop (rec (if jump.isNone then .ready else .done) jump)) ∧
        Stp (fun k => O2 k ∨ k = l) (fun k => O3 k ∨ k = l) W (W3.putObj l (.loop (rec (if jump.isNone then .ready else .done) jump))) := by
      intro jump O3 W3 hs
      have hl3 := (hs.keeps.block l (by omega) h1).trans hlb
      have hn3 : ¬ O3 l := fun e => (hs.gains l e).elim h1 (fun e => by omega)
      have he := run_endRound (P := P) jump hl3
      rw [hrec] at he ⊢
      refine ⟨he, hn3, heap_lt hl3, World.putObj_heap_same (heap_lt hl3), ?_, ?_, ?_⟩
      · exact keeps_putObj (hkb.trans (hs.keeps.mono (fun k _ e => .inl (.inl e)))) (.inl (.inr rfl)) _
      · rintro k (e | e)
        · rcases hs.gains k e with e | e
          · exact .inl (.inl e)
          · exact .inr (by omega)
        · exact .inl (.inr e)
      · rintro k (e | e)
        · have := hs.there k e
          simpa using this
        · have := heap_lt hl3
          simp; omega
    refine wpIn_mono (hbody m l pre x O2 Wb hpre (fun k hk => by rw [hszb]; exact hO' k (.inl hk)) hIb) ?_
    rintro e a3 W3 hp
    cases e with
    | normal =>
      obtain ⟨O3, hs, hi⟩ := hp
      obtain ⟨hr, hn3, hlt3, hl4, hs4⟩ := fin none O3 W3 hs
      refine ⟨_, _, hr, _, hs4, .inl ⟨rfl, ?_⟩⟩
      rw [hJ]
      exact ⟨O3, rfl, hn3, mI _ O3 W3 _ hi (keeps_putObj (Keeps.refl _ _) (.inl ⟨hn3, by omega⟩) _), hl4⟩
    | ret =>
      obtain ⟨O3, hs, hi⟩ := hp
      obtain ⟨hr, hn3, hlt3, hl4, hs4⟩ := fin (some .ret) O3 W3 hs
      refine ⟨_, _, hr, _, hs4, .inr ⟨rfl, ?_⟩⟩
      rw [hJx]
      exact ⟨.ret, O3, rfl, hn3, mIx _ _ O3 W3 _ hi (keeps_putObj (Keeps.refl _ _) (.inl ⟨hn3, by omega⟩) _), hl4⟩
    | exit id =>
      obtain ⟨O3, hs, hi⟩ := hp
      obtain ⟨hr, hn3, hlt3, hl4, hs4⟩ := fin (some (.exit id)) O3 W3 hs
      refine ⟨_, _, hr, _, hs4, .inr ⟨rfl, ?_⟩⟩
      rw [hJx]
      exact ⟨.exit id, O3, rfl, hn3, mIx _ _ O3 W3 _ hi (keeps_putObj (Keeps.refl _ _) (.inl ⟨hn3, by omega⟩) _), hl4⟩
    | goto t => exact hp.elim
    | panic ch => exact hp.elim
    | outgrown => exact hp.elim
  refine (callsIn_wide.2 (hseq l J Jx (fun k => O k ∨ k = l) W1 hb1 ?_ ?_ mJ mJx hY ?_)).mono ?_
  · rintro k (e | e)
    · exact .inl e
    · exact .inr (by omega)
  · rintro k (e | e)
    · have := hO k e; omega
    · omega
  · rw [hJ]; exact ⟨O, rfl, hOl, hI1, hL1⟩
  · rintro e W2 ⟨⟨v, rfl⟩, O', hs, hh⟩
    have hD : W2.heap[w.heap.size]? = some (.deferred (some [])) := (hs.keeps.block _ (by omega) (fun e => e.elim (fun e => by have := hO _ e; omega) (fun e => by omega))).trans hK1
    have hk2 : Keeps O w W2 := (Keeps.of_below hb1).trans (hs.keeps.mono (fun k _ e => e.elim .inl (fun e => .inr (by omega))))
    have step : ∀ (O2 : Nat → Prop) (o : Obj), (O' = fun k => O2 k ∨ k = l) → Stp O O2 w (W2.putObj l o) := by
      rintro O2 o rfl
      refine ⟨keeps_putObj hk2 (.inr (by omega)) _, fun k e => ?_, fun k e => ?_⟩
      · rcases hs.gains k (.inl e) with (e | e) | e
        · exact .inl e
        · exact .inr (by omega)
        · exact .inr (by omega)
      · have := hs.there k (.inl e)
        simpa using this
    have nd : ∀ (O2 : Nat → Prop), (O' = fun k => O2 k ∨ k = l) → ¬ O2 w.heap.size := by
      rintro O2 rfl e
      rcases hs.gains _ (.inl e) with (e | e) | e
      · have := hO _ e; omega
      · omega
      · omega
    rcases hh with hj | ⟨pre, hpre, hj⟩
    · rw [hJ] at hj
      obtain ⟨O2, he, h1, h2, h3⟩ := hj
      refine ⟨none, _, by have := run_endLoop (P := P) h3 (by rw [hrec]; simp); rw [hrec] at this; exact this, hdone O2 _ (step O2 _ he) (nd O2 he) (mI _ O2 W2 _ h2 (keeps_putObj (Keeps.refl _ _) (.inl ⟨h1, by omega⟩) _)) ((World.putObj_heap_other (by omega)).trans hD)⟩
    · rw [hJx] at hj
      obtain ⟨c, O2, he, h1, h2, h3⟩ := hj
      refine ⟨some c, _, by have := run_endLoop (P := P) h3 (by rw [hrec]; simp); rw [hrec] at this; exact this, hstop c O2 pre _ hpre (step O2 _ he) (nd O2 he) (mIx _ _ O2 W2 _ h2 (keeps_putObj (Keeps.refl _ _) (.inl ⟨h1, by omega⟩) _)) ((World.putObj_heap_other (by omega)).trans hD)⟩

/-- The same where a round is left by a return alone. -/
theorem range_mine {P : Program} {n : Nat} {g : Operand} {ps : Array Tmp} {assign body : Code} {Q : Exit → Act → World → Prop} {a : Act} {w : World} {gf : Nat} {lb : Array Value}
    (hg : a.eval g = .func (.func gf) #[] lb) (eg : ∀ args w, (callFunc gf args).run P w = .ok (.enter gf args) w) (hps : ps.size = 1)
    {xs : List Nat} {O : Nat → Prop} (hO : ∀ k, O k → k < w.heap.size) (hseq : SeqOk P gf lb xs w O)
    (I Ix : List Nat → (Nat → Prop) → World → Prop) (mI : Mine w.heap.size I) (mIx : Mine w.heap.size Ix) (h0 : I [] O w) (a₁ : Nat → Act)
    (hassign : ∀ (m l x : Nat) (W : World) (K : Act → World → Prop), K (a₁ x) W → assign.wpIn (Fence.wide.inRound l) m P (Exit.then K (fun _ _ _ => False)) { tmps := (ps.zip (encN x)).foldl (fun t (p, v) => t.setIfInBounds p v) a.tmps, defers := [] } W)
    (hbody : ∀ (m l : Nat) pre x O W, pre ++ [x] <+: xs → (∀ k, O k → k < W.heap.size) → I pre O W → body.wpIn (Fence.wide.inRound l) m P (minePost I Ix O (pre ++ [x]) W) (a₁ x) W)
    (hdone : ∀ O' W, Stp O O' w W → ¬ O' w.heap.size → I xs O' W → W.heap[w.heap.size]? = some (.deferred (some [])) → Q .normal { a with defers := { target := .collected w.heap.size, args := #[] } :: a.defers } W)
    (hstop : ∀ O' pre W, pre <+: xs → Stp O O' w W → ¬ O' w.heap.size → Ix pre O' W → W.heap[w.heap.size]? = some (.deferred (some [])) → Code.ret.wpIn Fence.wide n P Q { a with defers := { target := .collected w.heap.size, args := #[] } :: a.defers } W) :
    (Code.rangeFunc g ps assign body).wpIn Fence.wide n P Q a w := by
  refine range_any hg eg hps hO hseq I (fun c pre O W => c = .ret ∧ Ix pre O W) mI (fun c pre O w w' h hk => ⟨h.1, mIx pre O w w' h.2 hk⟩) h0 a₁ hassign ?_ hdone ?_
  · intro m l pre x O W hpre hO hi
    refine wpIn_mono (hbody m l pre x O W hpre hO hi) ?_
    intro e a' W' hp
    cases e with
    | normal => exact hp
    | ret => obtain ⟨O', hs, hx⟩ := hp; exact ⟨O', hs, rfl, hx⟩
    | exit id => exact hp.elim
    | goto t => exact hp.elim
    | panic ch => exact hp.elim
    | outgrown => exact hp.elim
  · rintro c O' pre W hpre hs hn ⟨rfl, hx⟩ hD
    exact hstop O' pre W hpre hs hn hx hD

/-- The same over one loop variable that lies in slot q. -/
theorem range_std {P : Program} {n : Nat} {g : Operand} {p : Tmp} {assign body : Code} {Q : Exit → Act → World → Prop} {T : Array Value} {D : List Deferred} {w : World} {gf : Nat} {lb : Array Value} (q : Tmp)
    (hg : (Act.mk T D).eval g = .func (.func gf) #[] lb) (eg : ∀ args w, (callFunc gf args).run P w = .ok (.enter gf args) w)
    {xs : List Nat} {O : Nat → Prop} (hO : ∀ k, O k → k < w.heap.size) (hseq : SeqOk P gf lb xs w O)
    (I : List Nat → (Nat → Prop) → World → Prop) (Ix : Code → List Nat → (Nat → Prop) → World → Prop) (mI : Mine w.heap.size I) (mIx : ∀ c, Mine w.heap.size (Ix c)) (h0 : I [] O w)
    (hassign : ∀ (m l x : Nat) (W : World) (K : Act → World → Prop), K (Act.mk ((T.setIfInBounds p (.int .i64 (x : Int))).setIfInBounds q (.int .i64 (x : Int))) []) W → assign.wpIn (Fence.wide.inRound l) m P (Exit.then K (fun _ _ _ => False)) (Act.mk (T.setIfInBounds p (.int .i64 (x : Int))) []) W)
    (hbody : ∀ (m l : Nat) (pre : List Nat) (x : Nat) O W, pre ++ [x] <+: xs → (∀ k, O k → k < W.heap.size) → I pre O W → body.wpIn (Fence.wide.inRound l) m P (anyPost I Ix O (pre ++ [x]) W) (Act.mk ((T.setIfInBounds p (.int .i64 (x : Int))).setIfInBounds q (.int .i64 (x : Int))) []) W)
    (hdone : ∀ O' W, Stp O O' w W → ¬ O' w.heap.size → I xs O' W → W.heap[w.heap.size]? = some (.deferred (some [])) → Q .normal (Act.mk T ({ target := .collected w.heap.size, args := #[] } :: D)) W)
    (hstop : ∀ (c : Code) O' pre W, pre <+: xs → Stp O O' w W → ¬ O' w.heap.size → Ix c pre O' W → W.heap[w.heap.size]? = some (.deferred (some [])) → c.wpIn Fence.wide n P Q (Act.mk T ({ target := .collected w.heap.size, args := #[] } :: D)) W) :
    (Code.rangeFunc g #[p] assign body).wpIn Fence.wide n P Q (Act.mk T D) w :=
  range_any hg eg rfl hO hseq I Ix mI mIx h0 (fun x => Act.mk ((T.setIfInBounds p (.int .i64 (x : Int))).setIfInBounds q (.int .i64 (x : Int))) []) (fun m l x W K hK => by simpa [encN] using hassign m l x W K hK) hbody hdone hstop

theorem stp_mine {O0 O : Nat → Prop} {B : Nat} {w0 W W' : World} (hB : w0.heap.size ≤ B) (h : Stp O0 O w0 W) (hk : Keeps (fun k => ¬ O k ∧ B ≤ k) W W') : Stp O0 O w0 W' :=
  ⟨h.keeps.trans (hk.mono (fun k _ e => .inr (by have := e.2; omega))), h.gains, fun k e => Nat.lt_of_lt_of_le (h.there k e) hk.size⟩
theorem Stp.alloc {O : Nat → Prop} {w : World} (h : ∀ k, O k → k < w.heap.size) (o : Obj) : Stp O O w (w.alloc o) := ⟨(Keeps.refl _ _).alloc _, fun k e => .inl e, fun k e => by have := h k e; simp; omega⟩
theorem Stp.drew {O O' : Nat → Prop} {w w' : World} (h : Stp O O' w w') : Stp O O' w w'.drew := ⟨h.keeps.drew, h.gains, h.there⟩

/-! ### Leaving a function that has ranged over functions -/
def mark (D : Nat) : Deferred := { target := .collected D, args := #[] }

theorem leaves_marks {n : Nat} {P : Program} {fn : Func} {tmps : Array Value} {R : Ending → World → Prop} : ∀ (ds : List Nat) (w : World), ds.Nodup → (∀ D ∈ ds, w.heap[D]? = some (.deferred (some []))) →
    (∀ w', Keeps (fun k => k ∈ ds) w w' → ∃ v, (results fn tmps).run P w' = .ok v w' ∧ R (.returned v) w') → LeavesInM Fence.wide n P fn tmps R (ds.map mark) .returning w
  | [], w, _, _, h => h w (Keeps.refl _ _)
  | D :: ds, w, hn, hd, h => by
    refine ⟨by simp, .inl ⟨D, _, rfl, run_takeDeferred (hd D (by simp)), ?_⟩⟩
    have hn' := List.nodup_cons.1 hn
    refine leaves_marks ds _ hn'.2 (fun D' h' => ?_) (fun w' hk => h w' ?_)
    · refine (World.putObj_heap_other ?_).trans (hd D' (by simp [h']))
      rintro rfl
      exact hn'.1 h'
    · exact (keeps_putObj (Keeps.refl _ _) (.inl (by simp)) _).trans (hk.mono (fun k _ e => .inl (by simp [e])))

theorem left_ok {O1 O' : Nat → Prop} {w1 wr w' : World} {ds : List Nat} (st : Stp O1 O' w1 wr) (hds : ∀ D ∈ ds, w1.heap.size ≤ D ∧ ¬ O' D) (hk : Keeps (fun k => k ∈ ds) wr w') :
    Stp O1 O' w1 w' ∧ Keeps (fun k => ¬ O' k ∧ w1.heap.size ≤ k) wr w' :=
  ⟨⟨st.keeps.trans (hk.mono (fun k _ e => .inr (hds k e).1)), st.gains, fun k e => Nat.lt_of_lt_of_le (st.there k e) hk.size⟩, hk.mono (fun k _ e => ⟨(hds k e).2, (hds k e).1⟩)⟩

end Go.Proofs.YtabogkonklplcaaGreatDoor

/- Plain mathematics: a node is within another one just where it is among all that one has. -/
namespace Go.Proofs.YtabogkonklplcaaGreatDoor
open Go.RowKit
set_option linter.unusedSimpArgs false
set_option linter.unusedVariables false

theorem all_kid {s : List Nd} (wf : WF s) {h : Nat → Nat} {B : Nat} (u : Up s h B) : ∀ (k e p d : Nat), h e < k → p ∈ allF s k e → d ∈ kidsOf s p → d ∈ allF s k e := by
  intro k
  induction k with
  | zero => intro e p d he; omega
  | succ k ih =>
    intro e p d he hp hd
    simp only [allF, List.mem_cons, List.mem_flatMap] at hp ⊢
    rcases hp with rfl | ⟨c, hc, hp⟩
    · obtain ⟨x, hx, hdx⟩ := kidsOf_mem hd
      have hh := (wf.kid_lt u hx hdx).2
      refine .inr ⟨d, hd, ?_⟩
      obtain ⟨k', rfl⟩ : ∃ k', k = k' + 1 := ⟨k - 1, by omega⟩
      simp [allF]
    · obtain ⟨x, hx, hcx⟩ := kidsOf_mem hc
      have hh := (wf.kid_lt u hx hcx).2
      exact .inr ⟨c, hc, ih c p d (by omega) hp hd⟩

theorem all_of_climb {s : List Nd} (wf : WF s) {h : Nat → Nat} {B : Nat} (u : Up s h B) (k e : Nat) (he : h e < k) : ∀ (m d : Nat), d < s.length → climb s m d = (e : Int) → d ∈ allF s k e := by
  intro m
  induction m with
  | zero =>
    intro d hd hc
    have : d = e := by simp [climb] at hc; omega
    subst this
    obtain ⟨k', rfl⟩ : ∃ k', k = k' + 1 := ⟨k - 1, by omega⟩
    simp [allF]
  | succ m ih =>
    intro d hd hc
    have hx : s[d]? = some s[d] := List.getElem?_eq_getElem hd
    generalize s[d] = x at hx
    have e1 : climb s 1 d = x.p := by rw [climb_step (j := 0) (e := d) rfl]; simp [parOf, hx]
    rcases wf.par d x hx with hp | ⟨i, y, hp, hy, hdy⟩
    · exfalso
      have hneg : ∀ k, climb s (k + 1) d < 0 := by
        intro k
        induction k with
        | zero => rw [show (0 + 1) = 1 from rfl, e1]; omega
        | succ k ih2 => simp [climb] at ih2 ⊢; omega
      have := hneg m
      omega
    · rw [hp] at e1
      have e2 := climb_add e1 m
      rw [Nat.add_comm 1 m, hc] at e2
      exact all_kid wf u k e i d he (ih i (List.getElem?_eq_some_iff.1 hy).1 e2.symm) (by rw [kidsOf_eq hy]; exact hdy)

theorem within_cases {s : List Nd} (wf : WF s) {h : Nat → Nat} {B : Nat} (u : Up s h B) (o : Nat) : ∀ (N i : Nat), B + 1 - h i ≤ N → i < s.length → (∃ m, climb s m i = (o : Int)) ∨ Lim (fun c => withinF s c (i : Int) (o : Int)) false := by
  intro N
  induction N with
  | zero => intro i hi; have := u.le i; omega
  | succ N ih =>
    intro i hi hl
    by_cases hio : i = o
    · exact .inl ⟨0, by simp [climb, hio]⟩
    · have hx : s[i]? = some s[i] := List.getElem?_eq_getElem hl
      generalize s[i] = x at hx
      have e1 : climb s 1 i = x.p := by rw [climb_step (j := 0) (e := i) rfl]; simp [parOf, hx]
      rcases wf.par i x hx with hp | ⟨q, y, hp, hy, hdy⟩
      · exact .inr (within_up s i x o hx (by omega) (by rw [hp]; exact within_end s _ _ (by omega)))
      · have hh := (u.par i x hx (by omega)).2
        rw [hp] at hh e1
        simp at hh
        have hb := u.le q
        have hc := u.le i
        rcases ih q (by omega) (List.getElem?_eq_some_iff.1 hy).1 with ⟨m, hm⟩ | hf
        · exact .inl ⟨1 + m, by rw [climb_add e1 m]; exact hm⟩
        · exact .inr (within_up s i x o hx (by omega) (by rw [hp]; exact hf))

theorem holds_yes {s : List Nd} (wf : WF s) {k n d : Nat} (hd : d < s.length) (hm : d ∈ allF s k n) : Lim (fun c => withinF s c (d : Int) (n : Int)) true := by
  obtain ⟨h, B, u⟩ := wf.up
  obtain ⟨j, hj⟩ := all_climb wf k n d hm
  exact within_true_of_climb u j d n hd hj

theorem holds_no {s : List Nd} (wf : WF s) {h : Nat → Nat} {B : Nat} (u : Up s h B) {k n d : Nat} (hd : d < s.length) (hk : h n < k) (hm : d ∉ allF s k n) : Lim (fun c => withinF s c (d : Int) (n : Int)) false := by
  rcases within_cases wf u n _ d (Nat.le_refl _) hd with ⟨m, hc⟩ | hf
  · exact absurd (all_of_climb wf u k n hk m d hd hc) hm
  · exact hf

end Go.Proofs.YtabogkonklplcaaGreatDoor

/- tree.all, and the function that it gives. -/
namespace Go.Proofs.YtabogkonklplcaaGreatDoor
open Go.RowKit Go.Shelf
set_option linter.unusedSimpArgs false
set_option linter.unusedVariables false
attribute [local go_sem] Oper.semAt_some

set_option maxHeartbeats 400000 in
theorem all_any (bf : Nat) (c : Int) (w : World) : Calls Tryz.prog 90 #[ptr bf, .int .i64 c] w fun e w' =>
    e = .returned (.func (.func 138) #[] #[ptr (w.heap.size + 1), ptr w.heap.size]) ∧ w' = (w.alloc (.cells #[ptr bf] 91)).alloc (.cells #[.int .i64 c] 3) := by
  go_enter Tryz.func90, Tryz.ntmps90
  go_wp2
  go_ret
  exact ⟨by simp, rfl⟩

/-- What the function reads. -/
structure Seen (s : List Nd) (F : Nat → Prop) (bf bn cap : Nat) (pn : List PN) (n b1 b2 b3 l : Nat) (w : World) : Prop where
  forest : PForAt w F bf bn cap pn s
  number : w.cell? ⟨b1, 0, none⟩ = some (.int .i64 n)
  whose : w.cell? ⟨b2, 0, none⟩ = some (ptr bf)
  yield : w.cell? ⟨b3, 0, none⟩ = some (.func (.yield l) #[] #[])

theorem Seen.keeps {s : List Nd} {F O : Nat → Prop} {bf bn cap : Nat} {pn : List PN} {n b1 b2 b3 l : Nat} {w w' : World} (h : Seen s F bf bn cap pn n b1 b2 b3 l w) (hk : Keeps O w w') (hF : ∀ b, F b → ¬ O b) (o1 : ¬ O b1) (o2 : ¬ O b2) (o3 : ¬ O b3) : Seen s F bf bn cap pn n b1 b2 b3 l w' :=
  ⟨h.forest.keeps hk hF, hk.cell h.number o1, hk.cell h.whose o2, hk.cell h.yield o3⟩

set_option maxRecDepth 20000 in
set_option maxHeartbeats 4000000 in
theorem all1_ok {s : List Nd} (wf : WF s) {h : Nat → Nat} {B : Nat} (u : Up s h B) {F : Nat → Prop} {bf bn cap : Nat} {pn : List PN} : ∀ (k n : Nat), n < s.length → h n < k → ∀ (w : World) (O : Nat → Prop) (b1 b2 : Nat), PForAt w F bf bn cap pn s → (∀ b, F b → b < w.heap.size ∧ ¬ O b) →
    w.cell? ⟨b1, 0, none⟩ = some (.int .i64 n) → w.cell? ⟨b2, 0, none⟩ = some (ptr bf) → ¬ O b1 → ¬ O b2 → SeqOk Tryz.prog 138 #[ptr b1, ptr b2] (allF s k n) w O := by
  intro k
  induction k with
  | zero => intro n _ hh; omega
  | succ k ih =>
    intro n hn hh w O b1 b2 hD hF c1 c2 o1 o2 l J Jx O1 w1 hb hO1 hlt mJ mJx hY hJ0
    have hb1 := hb
    have l1 := World.block_lt_of_cell? w _ c1
    have l2 := World.block_lt_of_cell? w _ c2
    have hF1 : ∀ b, F b → ¬ O1 b := fun b hb1 e => (hO1 b e).elim (hF b hb1).2 (fun e => by have := (hF b hb1).1; omega)
    have p1 : ¬ O1 b1 := fun e => (hO1 _ e).elim o1 (fun e => by simp at l1; omega)
    have p2 : ¬ O1 b2 := fun e => (hO1 _ e).elim o2 (fun e => by simp at l2; omega)
    have p3 : ¬ O1 w1.heap.size := fun e => by have := hlt _ e; omega
    have hk0 : Keeps O1 w1 (w1.alloc (.cells #[.func (.yield l) #[] #[]] 83)) := (Keeps.refl _ _).alloc _
    have S0 : Seen s F bf bn cap pn n b1 b2 w1.heap.size l (w1.alloc (.cells #[.func (.yield l) #[] #[]] 83)) :=
      ⟨(hD.below hb).keeps hk0 hF1, hk0.cell ((hb.cell (p := ⟨b1, 0, none⟩) l1).trans c1) p1, hk0.cell ((hb.cell (p := ⟨b2, 0, none⟩) l2).trans c2) p2, cell_of_heap (heap_alloc_new w1 _) 0⟩
    have hJ1 : J [] O1 (w1.alloc (.cells #[.func (.yield l) #[] #[]] 83)) := mJ _ _ _ _ hJ0 ((Keeps.refl _ _).alloc _)
    obtain ⟨fn, tmps, assign, body, hy, hR⟩ := hY 0 [] n O1 _ hJ1 ⟨(kidsOf s n).flatMap (allF s k), rfl⟩ (fun b e => by have := hlt b e; simp; omega)
    have e1 := S0.number
    have e2 := S0.yield
    have SS := hid S0
    have HR := hid hR
    refine callsIn_wide.1 (callsIn_of_wp_marks (F := Fence.wide) (n := 1) Tryz.func138 rfl trivial ?_ rfl)
    clear hR S0 hJ1 hJ0 c1 c2 hb hD
    simp only [Tryz.ntmps138, List.size_toArray, List.length_cons, List.length_nil, Nat.reduceAdd, Nat.reduceSub, Array.replicate_succ, Array.replicate_zero, List.push_toArray, List.append_toArray, List.nil_append, List.cons_append]
    dsimp only [encN] at hy
    gi_wp2
    refine HR.out.mono ?_
    rintro e w2 ⟨O2, st2, (⟨rfl, hJ2⟩ | ⟨rfl, hX2⟩)⟩
    · have S2 := SS.out.keeps st2.keeps hF1 p1 p2 p3
      have f1 := S2.number
      have f2 := S2.whose
      have h0 := S2.forest.nodesCell
      have hx : s[n]? = some s[n] := List.getElem?_eq_getElem hn
      obtain ⟨x, hxx⟩ : ∃ x, x = s[n] := ⟨_, rfl⟩
      rw [← hxx] at hx
      clear hxx
      obtain ⟨r, hr, ho, d0, d1, d2, d3⟩ := S2.forest.look hx
      obtain ⟨sa, sc, hkv⟩ : ∃ a c, r.kv = .slice a x.ks.length c := by
        rcases row_cases ho.kids with ⟨h1, h2⟩ | ⟨g, c, h1⟩
        · exact ⟨none, 0, by rw [h1, h2]⟩
        · exact ⟨_, _, h1⟩
      rw [hkv] at d2
      have S3 := hid S2
      have RO := hid ho
      have RH := hid hr
      have JJ := hid hJ2
      have ST := hid st2
      clear S2 d0 d1 d3 hr ho hJ2 st2 hy HR SS e1 e2
      gi_wp2
      gi_region
      gi_wp2
      have hkid : ∀ c ∈ x.ks, c < s.length ∧ h c < h n := fun c hc => wf.kid_lt u hx hc
      have hkl : x.ks.length ≤ 40 := Nat.le_trans (nodup_length s.length _ (wf.nodup n x hx) (fun c hc => (hkid c hc).1)) wf.cap
      refine wpIn_loop (fun a wr => ∃ (i : Nat) (ds : List Nat) (O' : Nat → Prop) (u5 u21 u22 u23 u24 u25 u26 u32 : Value), i ≤ x.ks.length ∧ a = Act.mk
        #[Value.func (Fn.yield l) #[] #[], ptr b1, ptr b2, Value.pointer (some { block := w1.heap.size, off := 0 }),
          undef, u5, undef, Value.func (Fn.yield l) #[] #[], Value.int IntKind.i64 n, Value.bool true,
          Value.bool false, ptr bf, Value.pointer (some { block := bf, off := 0 }),
          Value.pointer (some { block := bf, off := 0 }), Value.slice (some { block := bn, off := 0 }) s.length cap,
          Value.int IntKind.i64 n, Value.pointer (some { block := bn, off := n * 4 }),
          Value.pointer (some { block := bn, off := n * 4 + 2 }), Value.slice sa x.ks.length sc,
          Value.int IntKind.i64 x.ks.length, Value.int IntKind.i64 i, u21, u22, u23, u24, u25, u26, undef,
          undef, undef, undef, undef, u32] (ds.map mark) ∧
        Stp O1 O' (w1.alloc (.cells #[.func (.yield l) #[] #[]] 83)) wr ∧ J (n :: (x.ks.take i).flatMap (allF s k)) O' wr ∧ Seen s F bf bn cap pn n b1 b2 w1.heap.size l wr ∧ ds.Nodup ∧ (∀ D ∈ ds, (w1.heap.size < D ∧ ¬ O' D) ∧ wr.heap[D]? = some (.deferred (some []))))
        (fun a _ => x.ks.length - (intOf (a.tmps.getD 20 undef)).toNat) ?start ?round
      case start =>
        have st1 := ST.out.drew
        have kd : Keeps (fun _ => False) w2 w2.drew := (Keeps.refl _ _).drew
        refine ⟨0, [], O2, _, _, _, _, _, _, _, _, Nat.zero_le _, rfl, st1, ?_, S3.out.keeps kd (fun _ _ e => e) (fun e => e) (fun e => e) (fun e => e), by simp, by simp⟩
        exact mJ _ _ _ _ JJ.out (kd.mono (fun _ _ e => e.elim))
      case round =>
        rintro a wr ⟨i, ds, O', u5, u21, u22, u23, u24, u25, u26, u32, hi, rfl, st, hJ, hS, hnd, hds⟩
        have hsz1 := hb1.size
        have hszr := st.keeps.size
        simp only [World.size_alloc] at hszr
        have gn : ∀ b, O' b → O1 b ∨ w1.heap.size + 1 ≤ b := fun b e => by have := st.gains b e; simpa using this
        have q1 : ¬ O' b1 := fun e => (gn _ e).elim p1 (fun e => by omega)
        have q2 : ¬ O' b2 := fun e => (gn _ e).elim p2 (fun e => by omega)
        have q3 : ¬ O' w1.heap.size := fun e => (gn _ e).elim p3 (fun e => by omega)
        have qF : ∀ b, F b → ¬ O' b := fun b hb e => (gn _ e).elim (hF1 b hb) (fun e => by have := (hF b hb).1; omega)
        by_cases hil : i < x.ks.length
        · obtain ⟨c, hc⟩ : ∃ c, x.ks[i]? = some c := ⟨_, List.getElem?_eq_getElem hil⟩
          have hcm : c ∈ x.ks := List.mem_of_getElem? hc
          obtain ⟨hcl, hch⟩ := hkid c hcm
          obtain ⟨r2, hr2, ho2, _, _, g2, _⟩ := hS.forest.look hx
          have hrr : r2 = r := by rw [RH.out] at hr2; cases hr2; rfl
          subst hrr
          have hrow := ho2.kids
          rw [hkv] at hrow
          rcases row_cases hrow with ⟨_, hl0⟩ | ⟨g, cc, hv⟩
          · omega
          cases hv
          have cel : wr.cell? ⟨g, i, none⟩ = some (.int .i64 (c : Int)) := by
            rw [hrow.cellAt i (by omega)]
            simp [intsV, hc]
          have hw := hS.whose
          have hilI : (i : Int) < x.ks.length := by omega
          have C : Hid (∀ n, CallsIn Fence.wide n _ _ _ _ _) := hid (fun n => callsIn_wide.2 (all_any bf c wr))
          have HS := hid hS
          have HJ := hid hJ
          have HST := hid st
          have HDS := hid hds
          have HND := hid hnd
          have HC := hid hc
          clear hS hJ hds hnd hc g2 hrow ho2 hr2 st
          gi_wp2_with (refine ⟨trivial, ?_⟩; gi_at_call 90; refine (C.out _).mono ?_; rintro e w3 ⟨rfl, rfl⟩)
          obtain ⟨wb, hwb⟩ : ∃ wb, (wr.alloc (.cells #[ptr bf] 91)).alloc (.cells #[.int .i64 (c : Int)] 3) = wb := ⟨_, rfl⟩
          have hszb : wb.heap.size = wr.heap.size + 2 := by rw [← hwb]; simp
          have hkb : Keeps (fun _ => False) wr wb := by rw [← hwb]; exact ((Keeps.refl _ _).alloc _).alloc _
          have SB : Seen s F bf bn cap pn n b1 b2 w1.heap.size l wb := HS.out.keeps hkb (fun _ _ e => e) (fun e => e) (fun e => e) (fun e => e)
          have cb1 : wb.cell? ⟨wr.heap.size + 1, 0, none⟩ = some (.int .i64 (c : Int)) := by
            have := cell_of_heap (heap_alloc_new (wr.alloc (.cells #[ptr bf] 91)) (.cells #[.int .i64 (c : Int)] 3)) 0
            rw [hwb, World.size_alloc] at this
            exact this
          have cb2 : wb.cell? ⟨wr.heap.size, 0, none⟩ = some (ptr bf) := by
            have := (Keeps.refl (fun _ => False) (wr.alloc (.cells #[ptr bf] 91))).alloc (.cells #[.int .i64 (c : Int)] 3)
            rw [hwb] at this
            exact this.cell (cell_of_heap (heap_alloc_new wr _) 0) (fun e => e)
          have hOr : ∀ b, O' b → b < wr.heap.size := HST.out.there
          rw [hwb]
          have hxs : (n :: (x.ks.take i).flatMap (allF s k)) ++ allF s k c <+: allF s (k + 1) n := by
            refine ⟨(x.ks.drop (i + 1)).flatMap (allF s k), ?_⟩
            simp only [allF, kidsOf_eq hx, List.cons_append]
            congr 1
            have e1 : x.ks.take i ++ c :: x.ks.drop (i + 1) = x.ks := by
              obtain ⟨hil', hce⟩ := List.getElem?_eq_some_iff.1 HC.out
              rw [← hce, ← List.drop_eq_getElem_cons, List.take_append_drop]
            conv => rhs; rw [← e1]
            simp
          refine range_mine (gf := 138) (lb := #[ptr (wr.heap.size + 1), ptr wr.heap.size]) rfl (enters_of Tryz.func138 (by kernel_rfl) rfl) rfl (O := O') (fun b e => by have := hOr b e; omega)
            (ih c hcl (by omega) wb O' _ _ SB.forest (fun b hb => ⟨by have := (hF b hb).1; omega, qF b hb⟩) cb1 cb2 (fun e => by have := hOr _ e; omega) (fun e => by have := hOr _ e; omega))
            (fun pre O3 W => J ((n :: (x.ks.take i).flatMap (allF s k)) ++ pre) O3 W ∧ Stp O' O3 wb W) (fun pre O3 W => Jx ((n :: (x.ks.take i).flatMap (allF s k)) ++ pre) O3 W ∧ Stp O' O3 wb W) ?mI ?mIx ?h0 
            (fun y => Act.mk #[Value.func (Fn.yield l) #[] #[], ptr b1, ptr b2, Value.pointer (some { block := w1.heap.size, off := 0 }), undef, Value.int IntKind.i64 c, Value.int IntKind.i64 y,
                Value.func (Fn.yield l) #[] #[], Value.int IntKind.i64 n, Value.bool true, Value.bool false, ptr bf,
                Value.pointer (some { block := bf, off := 0 }), Value.pointer (some { block := bf, off := 0 }),
                Value.slice (some { block := bn, off := 0 }) s.length cap, Value.int IntKind.i64 n,
                Value.pointer (some { block := bn, off := n * 4 }),
                Value.pointer (some { block := bn, off := n * 4 + 2 }),
                Value.slice (some { block := g, off := 0 }) x.ks.length sc, Value.int IntKind.i64 x.ks.length,
                Value.int IntKind.i64 i, Value.bool true, Value.pointer (some { block := g, off := i }),
                Value.int IntKind.i64 c, ptr bf, Value.int IntKind.i64 c, Value.func (.func 138) #[] #[ptr (wr.heap.size + 1), ptr wr.heap.size], Value.int IntKind.i64 y, undef, undef, undef, undef, u32] []) ?assign ?body ?done ?stop
          case mI =>
            rintro pre O3 X Y ⟨h1, h2⟩ hk
            exact ⟨mJ _ _ _ _ h1 (hk.mono (fun k _ e => ⟨e.1, by have := e.2; omega⟩)), stp_mine (Nat.le_refl _) h2 hk⟩
          case mIx =>
            rintro pre O3 X Y ⟨h1, h2⟩ hk
            exact ⟨mJx _ _ _ _ h1 (hk.mono (fun k _ e => ⟨e.1, by have := e.2; omega⟩)), stp_mine (Nat.le_refl _) h2 hk⟩
          case h0 => exact ⟨by rw [List.append_nil]; exact mJ _ _ _ _ HJ.out (hkb.mono (fun _ _ e => e.elim)), Stp.refl (fun b e => by have := hOr b e; omega)⟩
          case assign =>
            intro m l' y W K hK
            dsimp only [encN]
            gi_wp2
            exact hK
          case body =>
            rintro m l' pre y O3 W hpre hO3 ⟨hJ3, st3⟩
            have f3 := (SB.keeps st3.keeps qF q1 q2 q3).yield
            obtain ⟨fn2, tmps2, assign2, body2, hy2, hR2⟩ := hY (m - 1) _ y O3 W hJ3 (by rw [List.append_assoc]; exact ((List.prefix_append_right_inj _).2 hpre).trans hxs) hO3
            have HR2 : Hid (RoundIn (Fence.wide.inRound l') _ _ _ _ _ _ _ _ _) := hid hR2
            have ST3 := hid st3
            dsimp only [encN] at hy2
            have hdd : ∀ k : Nat, ((Fence.wide.inRound l').depth.isSome = true → 1 ≤ k) := fun k h => by simp [Fence.wide] at h
            clear hR2 hJ3 st3 hxs SB cb1 cb2 HJ HS HDS HND HST C S3 JJ ST RO RH
            gi_wp2_with ((try refine ⟨hdd _, ?_⟩); refine HR2.out.mono ?_; clear HR2; rintro e W4 ⟨O4, st4, (⟨rfl, hJ4⟩ | ⟨rfl, hX4⟩)⟩)
            · exact ⟨O4, st4, by rw [← List.append_assoc]; exact hJ4, ST3.out.trans st4⟩
            · exact ⟨O4, st4, by rw [← List.append_assoc]; exact hX4, ST3.out.trans st4⟩
          case done =>
            rintro O5 W st5 hn5 ⟨hJ5, _⟩ hD5
            have hk5 := st5.keeps
            have S5 := SB.keeps hk5 qF q1 q2 q3
            have stb : Stp O' O' wr wb := by rw [← hwb]; exact (Stp.alloc hOr _).trans (Stp.alloc (fun b e => by have := hOr b e; simp; omega) _)
            have HFIN := hid (And.intro hJ5 (And.intro st5 (And.intro hn5 (And.intro hD5 S5))))
            clear hJ5 st5 hn5 hD5 S5 hk5 SB cb1 cb2
            gi_wp2
            obtain ⟨hJ5, st5, hn5, hD5, S5⟩ := HFIN.out
            refine ⟨⟨i + 1, wb.heap.size :: ds, O5, _, _, _, _, _, _, _, _, hil, rfl, HST.out.trans (stb.trans st5), ?_, S5, ?_, ?_⟩, ?_⟩
            · rw [List.take_add_one, HC.out]
              simpa using hJ5
            · refine List.nodup_cons.2 ⟨fun hm => ?_, HND.out⟩
              have := heap_lt (HDS.out _ hm).2
              omega
            · intro D hm
              rcases List.mem_cons.1 hm with rfl | hm
              · exact ⟨⟨by omega, hn5⟩, hD5⟩
              · obtain ⟨⟨d1, d2⟩, d3⟩ := HDS.out D hm
                have hdl := heap_lt d3
                refine ⟨⟨d1, fun e => (st5.gains D e).elim d2 (fun e => by omega)⟩, ?_⟩
                rw [st5.keeps.block D (by omega) d2, hkb.block D hdl (fun e => e)]
                exact d3
            · show x.ks.length - ((i : Int) + 1).toNat < x.ks.length - ((i : Int)).toNat
              omega
          case stop =>
            rintro O5 pre W hpre st5 hn5 ⟨hX5, _⟩ hD5
            have stb : Stp O' O' wr wb := by rw [← hwb]; exact (Stp.alloc hOr _).trans (Stp.alloc (fun b e => by have := hOr b e; simp; omega) _)
            gi_wp2
            have hds : ∀ D ∈ wb.heap.size :: ds, (w1.heap.size ≤ D ∧ ¬ O5 D) ∧ W.heap[D]? = some (.deferred (some [])) := by
              intro D hm
              rcases List.mem_cons.1 hm with rfl | hm
              · exact ⟨⟨by omega, hn5⟩, hD5⟩
              · obtain ⟨⟨d1, d2⟩, d3⟩ := HDS.out D hm
                have hdl := heap_lt d3
                refine ⟨⟨by omega, fun e => (st5.gains D e).elim d2 (fun e => by omega)⟩, ?_⟩
                rw [st5.keeps.block D (by omega) d2, hkb.block D hdl (fun e => e)]
                exact d3
            have stA := (Stp.alloc hlt (.cells #[.func (.yield l) #[] #[]] 83)).trans (HST.out.trans (stb.trans st5))
            refine leaves_marks (wb.heap.size :: ds) _ (List.nodup_cons.2 ⟨fun hm => ?_, HND.out⟩) (fun D hm => (hds D hm).2) (fun w' hk => ⟨_, results_none rfl _ _ _, ⟨_, rfl⟩, O5, (left_ok stA (fun D hm => (hds D hm).1) hk).1, .inr ⟨_, ?_, mJx _ _ _ _ hX5 (left_ok stA (fun D hm => (hds D hm).1) hk).2⟩⟩)
            · have := heap_lt (HDS.out _ hm).2
              omega
            · exact ((List.prefix_append_right_inj _).2 hpre).trans hxs
        · obtain rfl : i = x.ks.length := by omega
          have hilI : ¬ (x.ks.length : Int) < x.ks.length := by omega
          have HJ := hid hJ
          have HST := hid st
          have HDS := hid hds
          have HND := hid hnd
          clear hJ st hds hnd hS
          gi_wp2
          have stA := (Stp.alloc hlt (.cells #[.func (.yield l) #[] #[]] 83)).trans HST.out
          have hds2 : ∀ D ∈ ds, w1.heap.size ≤ D ∧ ¬ O' D := fun D hm => ⟨by have := (HDS.out D hm).1.1; omega, (HDS.out D hm).1.2⟩
          refine leaves_marks ds _ HND.out (fun D hm => (HDS.out D hm).2) (fun w' hk => ⟨_, results_none rfl _ _ _, ⟨_, rfl⟩, O', (left_ok stA hds2 hk).1, .inl ?_⟩)
          have := mJ _ _ _ _ HJ.out (left_ok stA hds2 hk).2
          rw [List.take_of_length_le (Nat.le_refl _)] at this
          rw [allF, kidsOf_eq hx]
          exact this
    · gi_wp2
      refine leaves_marks [] _ (by simp) (by simp) (fun w' hk => ⟨_, results_none rfl _ _ _, ⟨_, rfl⟩, O2, ?_, .inr ⟨[n], ⟨(kidsOf s n).flatMap (allF s k), rfl⟩, ?_⟩⟩)
      · exact (left_ok ((Stp.alloc hlt _).trans st2) (ds := []) (by simp) hk).1
      · exact mJx _ _ _ _ hX2 (left_ok ((Stp.alloc hlt _).trans st2) (ds := []) (by simp) hk).2

end Go.Proofs.YtabogkonklplcaaGreatDoor

/- Where places go when something changes; that they are places then, too. Plain mathematics. -/
namespace Go.Proofs.YtabogkonklplcaaGreatDoor
set_option linter.unusedSimpArgs false
set_option linter.unusedVariables false

/-- Where places go: their nodes and offsets. -/
abbrev Mvf : Type := Int → Int → Int × Int
def shiftF (n o d : Int) : Mvf := fun a b => if a = n ∧ o < b then (a, b + d) else (a, b)
def gatherF (l : List Nat) (p q : Int) (g : Mvf) : Mvf := fun a b => if (l.map Int.ofNat).contains a then (p, q) else g a b
def resizeF (n o t g : Int) : Mvf := fun a b => if a = n ∧ o < b ∧ b ≤ o + t then (n, o) else shiftF n (o + t) (g - t) a b
def carryF (n o fr : Int) (g : Mvf) : Mvf := fun a b => if a = n ∧ o < b then (fr, b - o) else g a b

def mvSp (f : Mvf) (x : Sp) : Sp := ⟨(f x.a x.b).1, (f x.a x.b).2, (f x.c x.d).1, (f x.c x.d).2⟩

/-- There is such a place. -/
def PlOk (s : List Nd) (a b : Int) : Prop := ∃ n k : Nat, a = (n : Int) ∧ b = (k : Int) ∧ n < s.length ∧ k ≤ sizeAt s n
/-- Both places of a range are there. -/
def SpOk (s : List Nd) (x : Sp) : Prop := PlOk s x.a x.b ∧ PlOk s x.c x.d

theorem sizeAt_set {s : List Nd} {i : Nat} (hi : i < s.length) (x : Nd) (n : Nat) : sizeAt (s.set i x) n = if n = i then sizeN x else sizeAt s n := by
  unfold sizeAt
  by_cases h : n = i
  · subst h
    simp [hi]
  · rw [List.getElem?_set_ne (fun e => h e.symm), if_neg h]
theorem sizeAt_push {s : List Nd} (x : Nd) {n : Nat} (hn : n < s.length) : sizeAt (s ++ [x]) n = sizeAt s n := by
  unfold sizeAt
  rw [List.getElem?_append_left hn]
theorem sizeAt_new (s : List Nd) (x : Nd) : sizeAt (s ++ [x]) s.length = sizeN x := by
  unfold sizeAt
  rw [List.getElem?_append_right (Nat.le_refl _)]
  simp

theorem PlOk.push {s : List Nd} {a b : Int} (h : PlOk s a b) (x : Nd) : PlOk (s ++ [x]) a b := by
  obtain ⟨n, k, rfl, rfl, hn, hk⟩ := h
  exact ⟨n, k, rfl, rfl, by simp; omega, by rw [sizeAt_push x hn]; exact hk⟩

theorem PlOk.insert {s : List Nd} {i j k : Nat} {x y : Nd} (hx : s[i]? = some x) (hy : s[j]? = some y) (hij : i ≠ j) (ht : x.t = false) (hk : k ≤ x.ks.length) {a b : Int} (h : PlOk s a b) :
    PlOk ((s.set i { x with ks := x.ks.take k ++ j :: x.ks.drop k }).set j { y with p := i }) (shiftF i k 1 a b).1 (shiftF i k 1 a b).2 := by
  obtain ⟨n, m, rfl, rfl, hn, hm⟩ := h
  have hi : i < s.length := (List.getElem?_eq_some_iff.1 hx).1
  have hj : j < s.length := (List.getElem?_eq_some_iff.1 hy).1
  have hsz : sizeAt ((s.set i { x with ks := x.ks.take k ++ j :: x.ks.drop k }).set j { y with p := i }) n = if n = i then sizeAt s n + 1 else sizeAt s n := by
    rw [sizeAt_set (by simpa using hj), sizeAt_set hi]
    by_cases h1 : n = j
    · subst h1
      rw [if_pos rfl, if_neg (fun e => hij e.symm), sizeAt_eq hy]
      rfl
    · rw [if_neg h1]
      by_cases h2 : n = i
      · subst h2
        rw [if_pos rfl, if_pos rfl, sizeAt_eq hx, sizeN_elem ht, sizeN_elem (x := { x with ks := x.ks.take k ++ j :: x.ks.drop k }) ht]
        simp; omega
      · rw [if_neg h2, if_neg h2]
  unfold shiftF
  by_cases hc : (n : Int) = (i : Int) ∧ (k : Int) < (m : Int)
  · rw [if_pos hc]
    refine ⟨n, m + 1, rfl, by simp, by simpa using hn, ?_⟩
    rw [hsz, if_pos (by omega)]; omega
  · rw [if_neg hc]
    refine ⟨n, m, rfl, rfl, by simpa using hn, ?_⟩
    rw [hsz]; split <;> omega

theorem PlOk.remove {s : List Nd} {i j m : Nat} {x y : Nd} (hx : s[i]? = some x) (hy : s[j]? = some y) (hij : i ≠ j) (ht : y.t = false) (hm : m < y.ks.length) (l : List Nat) (hjl : j ∉ l) {a b : Int} (h : PlOk s a b) :
    PlOk ((s.set j { y with ks := y.ks.take m ++ y.ks.drop (m + 1) }).set i { x with p := -1 }) (gatherF l j m (shiftF j m (-1)) a b).1 (gatherF l j m (shiftF j m (-1)) a b).2 := by
  obtain ⟨n, o, rfl, rfl, hn, ho⟩ := h
  have hi : i < s.length := (List.getElem?_eq_some_iff.1 hx).1
  have hj : j < s.length := (List.getElem?_eq_some_iff.1 hy).1
  have hsz : ∀ n, sizeAt ((s.set j { y with ks := y.ks.take m ++ y.ks.drop (m + 1) }).set i { x with p := -1 }) n = if n = j then sizeAt s n - 1 else sizeAt s n := by
    intro n
    rw [sizeAt_set (by simpa using hi), sizeAt_set hj]
    by_cases h1 : n = i
    · subst h1
      rw [if_pos rfl, if_neg hij, sizeAt_eq hx]
      rfl
    · rw [if_neg h1]
      by_cases h2 : n = j
      · subst h2
        rw [if_pos rfl, if_pos rfl, sizeAt_eq hy, sizeN_elem ht, sizeN_elem (x := { y with ks := y.ks.take m ++ y.ks.drop (m + 1) }) ht]
        simp; omega
      · rw [if_neg h2, if_neg h2]
  have hsj : sizeAt s j = y.ks.length := by rw [sizeAt_eq hy, sizeN_elem ht]
  unfold gatherF
  split
  · exact ⟨j, m, rfl, rfl, by simpa using hj, by rw [hsz, if_pos rfl, hsj]; omega⟩
  · unfold shiftF
    by_cases hc : (n : Int) = (j : Int) ∧ (m : Int) < (o : Int)
    · rw [if_pos hc]
      obtain rfl : n = j := by omega
      exact ⟨n, o - 1, rfl, by show (o : Int) + -1 = _; omega, by simpa using hn, by rw [hsz, if_pos rfl]; omega⟩
    · rw [if_neg hc]
      refine ⟨n, o, rfl, rfl, by simpa using hn, ?_⟩
      rw [hsz]
      split
      · rename_i e
        subst e
        omega
      · exact ho

theorem PlOk.replace {s : List Nd} {i o c : Nat} {x : Nd} {cs : List ByteArray} {g : Nat} (hx : s[i]? = some x) (ht : x.t = true) (hc : o + c ≤ x.cs.length) (hcs : cs.length = x.cs.length - c + g) {a b : Int} (h : PlOk s a b) :
    PlOk (s.set i { x with cs := cs }) (resizeF i o c g a b).1 (resizeF i o c g a b).2 := by
  obtain ⟨n, m, rfl, rfl, hn, hm⟩ := h
  have hi : i < s.length := (List.getElem?_eq_some_iff.1 hx).1
  have hsi : sizeAt s i = x.cs.length := by rw [sizeAt_eq hx, sizeN_text ht]
  have hsz : ∀ n, sizeAt (s.set i { x with cs := cs }) n = if n = i then cs.length else sizeAt s n := by
    intro n
    rw [sizeAt_set hi, sizeN_text (x := { x with cs := cs }) ht]
  unfold resizeF
  split
  · exact ⟨i, o, rfl, rfl, by simpa using hi, by rw [hsz, if_pos rfl]; omega⟩
  · rename_i h1
    unfold shiftF
    split
    · rename_i h2
      obtain rfl : n = i := by omega
      exact ⟨n, m - c + g, rfl, by show (m : Int) + _ = _; omega, by simpa using hn, by rw [hsz, if_pos rfl]; omega⟩
    · rename_i h2
      refine ⟨n, m, rfl, rfl, by simpa using hn, ?_⟩
      rw [hsz]
      split
      · rename_i e
        subst e
        have : m ≤ o := by
          rcases Nat.lt_or_ge o m with h | h
          · exfalso
            have h3 : ¬ ((m : Int) ≤ (o : Int) + (c : Int)) := fun h4 => h1 ⟨rfl, by omega, h4⟩
            exact h2 ⟨rfl, by omega⟩
          · exact h
        omega
      · exact hm

theorem SpOk.mv {s s' : List Nd} {f : Mvf} (hf : ∀ a b : Int, PlOk s a b → PlOk s' (f a b).1 (f a b).2) {x : Sp} (h : SpOk s x) : SpOk s' (mvSp f x) := ⟨hf _ _ h.1, hf _ _ h.2⟩

/-- No place is far out. -/
theorem PlOk.small {s : List Nd} (wf : WF s) {a b : Int} (h : PlOk s a b) : 0 ≤ b ∧ b ≤ 40 := by
  obtain ⟨n, k, rfl, rfl, hn, hk⟩ := h
  have hx := List.getElem?_eq_getElem hn
  rw [sizeAt_eq hx] at hk
  have := sizeN_le wf hx
  omega

end Go.Proofs.YtabogkonklplcaaGreatDoor

/- marginref's ahead. -/
namespace Go.Proofs.YtabogkonklplcaaGreatDoor
open Go.RowKit
set_option linter.unusedSimpArgs false
set_option linter.unusedVariables false

def AheadPost (s : List Nd) (K : Nat) (a b : Nat × Nat) (w : World) (e : Ending) (w' : World) : Prop :=
  (∃ (t : Nat) (qa qb : Int), IsTop s a.1 t ∧ IsWhere (plF s K t) a qa ∧ IsWhere (plF s K t) b qb ∧ e = .returned (.bool (decide (qa < qb)))) ∧ Below w.heap.size w w'

theorem IsTop.lt {s : List Nd} {n t : Nat} (h : IsTop s n t) : t < s.length := by
  obtain ⟨_, x, hx, _⟩ := h
  exact (List.getElem?_eq_some_iff.1 hx).1

section
variable {F : Nat → Prop} {bd bn cap : Nat} {rn : List RN} {rv : Value} {s : List Nd} {rs : List Sp}

/-- The two blocks that two places lay. -/
abbrev two (w : World) (a b : Nat × Nat) : World := (w.alloc (.cells #[.int .i64 a.1, .int .i64 a.2] 37)).alloc (.cells #[.int .i64 b.1, .int .i64 b.2] 37)
theorem two_below (w : World) (a b : Nat × Nat) : Below w.heap.size w (two w a b) := ((Below.refl _ w).alloc (Nat.le_refl _) _).alloc (by simp) _
theorem two_at (w : World) (a b : Nat × Nat) : (two w a b).heap[w.heap.size]? = some (.cells #[.int .i64 a.1, .int .i64 a.2] 37 (0, 0)) ∧ (two w a b).heap[w.heap.size + 1]? = some (.cells #[.int .i64 b.1, .int .i64 b.2] 37 (0, 0)) := by
  constructor
  · have h1 := heap_alloc_new w (.cells #[.int .i64 a.1, .int .i64 a.2] 37)
    have h2 := ((Below.refl _ (w.alloc (.cells #[.int .i64 a.1, .int .i64 a.2] 37))).alloc (Nat.le_refl _) (.cells #[.int .i64 b.1, .int .i64 b.2] 37)).block w.heap.size (by simp)
    exact h2.trans h1
  · have := heap_alloc_new (w.alloc (.cells #[.int .i64 a.1, .int .i64 a.2] 37)) (.cells #[.int .i64 b.1, .int .i64 b.2] 37)
    simpa using this

theorem four_below {w1 w2 : World} {b : Nat} {a0 a1 b0 b1 : Value} (hb : b + 1 < w1.heap.size) (hB : Below w1.heap.size w1 w2) (c00 : w1.cell? ⟨b, 0, none⟩ = some a0) (c01 : w1.cell? ⟨b, 1, none⟩ = some a1) (c10 : w1.cell? ⟨b + 1, 0, none⟩ = some b0) (c11 : w1.cell? ⟨b + 1, 1, none⟩ = some b1) :
    w2.cell? ⟨b, 0, none⟩ = some a0 ∧ w2.cell? ⟨b, 1, none⟩ = some a1 ∧ w2.cell? ⟨b + 1, 0, none⟩ = some b0 ∧ w2.cell? ⟨b + 1, 1, none⟩ = some b1 :=
  ⟨(hB.cell (p := ⟨b, 0, none⟩) (Nat.lt_of_succ_lt hb)).trans c00, (hB.cell (p := ⟨b, 1, none⟩) (Nat.lt_of_succ_lt hb)).trans c01, (hB.cell (p := ⟨b + 1, 0, none⟩) hb).trans c10, (hB.cell (p := ⟨b + 1, 1, none⟩) hb).trans c11⟩

theorem where_at (l : List (Nat × Nat)) (v : Value) (n k : Nat) (w1 w2 : World) (hr : w1.ownsRow 0 37 2 v l.length (plV l)) (hbig : l.length < lots) (hb : Below w1.heap.size w1 w2) :
    Calls Tryz.prog 133 #[v, .agg #[.int .i64 n, .int .i64 k]] w2 fun e w3 => ∃ q : Int, e = .returned (.int .i64 q) ∧ IsWhere l (n, k) q ∧ Below w1.heap.size w1 w3 := by
  refine (where_any l v n k w2 (ownsRow_below hr hb) hbig).mono ?_
  rintro e w3 ⟨⟨q, he, hq⟩, hb3⟩
  exact ⟨q, he, hq, hb.trans (hb3.mono hb.size)⟩

set_option maxRecDepth 20000 in
set_option maxHeartbeats 300000 in
theorem ahead_any (wf : WF s) {h : Nat → Nat} {B : Nat} (u : Up s h B) (n k n2 k2 : Nat) (hn : n < s.length) (w : World) (hD : RDocAt w F bd bn cap rn rv s rs) :
    Calls Tryz.prog 129 #[.pointer (some ⟨bd, 0, none⟩), .agg #[.int .i64 n, .int .i64 k], .agg #[.int .i64 n2, .int .i64 k2]] w (AheadPost s (B + 1) (n, k) (n2, k2) w) := by
  have hD0 := hD.below (two_below w (n, k) (n2, k2))
  have CT := hid (top_any wf hD0 n hn)
  have CP := hid (fun t ht => places_any wf u (B + 1) t ht (by have := u.le t; omega) _ hD0)
  have HLEN := hid (fun t ht => Nat.le_trans (plF_le wf (B + 1) t ht) (Nat.mul_le_mul_left 41 (all_length wf (B + 1) t ht)))
  have HTB := hid (two_below w (n, k) (n2, k2))
  have HTA := hid (two_at w (n, k) (n2, k2))
  clear hD hD0 wf u
  go_enter Tryz.func129, Tryz.ntmps129
  go_wp2_with (first
    | (go_at_call 128; refine CT.out.mono ?_; rintro e w0 ⟨⟨t, rfl, ht⟩, rfl⟩)
    | (go_at_call 132; refine (CP.out t ht.lt).mono ?_; rintro e w1 ⟨la, lc, rfl, hr1, hb1⟩
       have hq0 := (hb1.block w.heap.size (by simp; omega)).trans HTA.out.1
       have hq1 := (hb1.block (w.heap.size + 1) (by simp)).trans HTA.out.2))
  have hsz : w.heap.size + 2 ≤ w1.heap.size := by have := hb1.size; simpa using this
  have hlen := HLEN.out t ht.lt
  have hB1 : Below w.heap.size w w1 := HTB.out.trans (hb1.mono HTB.out.size)
  obtain ⟨L, hL⟩ : ∃ L, plF s (B + 1) t = L := ⟨_, rfl⟩
  rw [hL] at hr1 hlen
  rw [hL]
  have HL := hid hL
  have hr0 : w1.ownsRow 0 37 2 (.slice la L.length lc) L.length (plV L) := ownsRow_base hr1 (Nat.zero_le _)
  have c00 : w1.cell? ⟨w.heap.size, 0, none⟩ = some (.int .i64 n) := cell_of_heap hq0 0
  have c01 : w1.cell? ⟨w.heap.size, 1, none⟩ = some (.int .i64 k) := cell_of_heap hq0 1
  have c10 : w1.cell? ⟨w.heap.size + 1, 0, none⟩ = some (.int .i64 n2) := cell_of_heap hq1 0
  have c11 : w1.cell? ⟨w.heap.size + 1, 1, none⟩ = some (.int .i64 k2) := cell_of_heap hq1 1
  have hbl : L.length < lots := by unfold lots; omega
  have CA := hid (fun w2 (hb : Below w1.heap.size w1 w2) => where_at L (.slice la L.length lc) n k w1 w2 hr0 hbl hb)
  have CB := hid (fun w2 (hb : Below w1.heap.size w1 w2) => where_at L (.slice la L.length lc) n2 k2 w1 w2 hr0 hbl hb)
  have H4 := hid (fun w2 (hb : Below w1.heap.size w1 w2) => four_below (b := w.heap.size) (by omega) hb c00 c01 c10 c11)
  have HT := hid ht
  have HB1 := hid hB1
  have HB2 := hid ((Below.refl w1.heap.size w1).drew)
  clear hL hr1 hr0 hb1 hB1 ht hq0 hq1 CT CP HLEN HTB HTA hlen hbl
  go_region_held3 (fun w' => w'.cell? ⟨w.heap.size, 0, none⟩ = some (.int .i64 n) ∧ w'.cell? ⟨w.heap.size, 1, none⟩ = some (.int .i64 k) ∧ w'.cell? ⟨w.heap.size + 1, 0, none⟩ = some (.int .i64 n2) ∧ w'.cell? ⟨w.heap.size + 1, 1, none⟩ = some (.int .i64 k2)) (first | exact H4.out _ HB4.out | exact H4.out _ HB3.out | go_keep) (first
    | (go_at_call 133; refine (CB.out _ HB3.out).mono ?_; rintro e w4 ⟨qb, rfl, hqb, hb4⟩
       have HQB := hid hqb
       have HB4 := hid hb4
       clear hqb hb4)
    | (go_at_call 133; refine (CA.out _ HB2.out).mono ?_; rintro e w3 ⟨qa, rfl, hqa, hb3⟩
       have HQA := hid hqa
       have HB3 := hid hb3
       clear hqa hb3))
  all_goals
    go_wp2
    go_ret
    refine ⟨⟨t, qa, qb, HT.out, ?_, ?_, rfl⟩, ?_⟩
    · rw [HL.out]; exact HQA.out
    · rw [HL.out]; exact HQB.out
    · exact HB1.out.trans (HB4.out.mono HB1.out.size)
end
end Go.Proofs.YtabogkonklplcaaGreatDoor

/- marginref's Compare. -/
namespace Go.Proofs.YtabogkonklplcaaGreatDoor
open Go.RowKit
set_option linter.unusedSimpArgs false
set_option linter.unusedVariables false

/-- What stands against a place. -/
def placeFault (s : List Nd) (n k : Int) : Int × Int := if isB s n = false then (n, 1) else if k < 0 ∨ (sizeAt s n.toNat : Int) < k then (n, 3) else (0, 0)

section
variable {w : World} {F : Nat → Prop} {bd bn cap : Nat} {rn : List RN} {rv : Value} {s : List Nd} {rs : List Sp}

theorem placeFits_any (hD : RDocAt w F bd bn cap rn rv s rs) (n k : Int) :
    Calls Tryz.prog 127 #[.pointer (some ⟨bd, 0, none⟩), .agg #[.int .i64 n, .int .i64 k]] w fun e w' => e = .returned (rfltV (placeFault s n k).1 (placeFault s n k).2) ∧ Below w.heap.size w w' := by
  by_cases hb : isB s n = false
  · have e : placeFault s n k = (n, 1) := by simp [placeFault, hb]
    rw [e]
    exact placeFits_node hD n k hb
  · have hb' : isB s n = true := by simpa using hb
    have h0 : 0 ≤ n ∧ n < (s.length : Int) := by simpa [isB] using hb'
    obtain ⟨m, rfl⟩ := Int.eq_ofNat_of_zero_le h0.1
    have hm : m < s.length := by omega
    have hx : s[m]? = some s[m] := List.getElem?_eq_getElem hm
    by_cases hk : k < 0 ∨ (sizeN s[m] : Int) < k
    · have e : placeFault s m k = ((m : Int), 3) := by simp [placeFault, hb', sizeAt_eq hx, hk]
      rw [e]
      exact placeFits_index hD m k _ hx hk
    · have e : placeFault s m k = (0, 0) := by simp [placeFault, hb', sizeAt_eq hx, hk]
      rw [e]
      obtain ⟨q, rfl⟩ := Int.eq_ofNat_of_zero_le (show 0 ≤ k by omega)
      exact placeFits_ok hD m q _ hx (by omega)

/-- The three blocks that Compare lays at its entry. -/
abbrev three (w : World) (a0 a1 b0 b1 : Int) : World := ((w.alloc (.cells #[.int .i64 a0, .int .i64 a1] 37)).alloc (.cells #[.int .i64 b0, .int .i64 b1] 37)).alloc (.cells #[.int .i64 0, .int .i64 0] 32)
theorem three_below (w : World) (a0 a1 b0 b1 : Int) : Below w.heap.size w (three w a0 a1 b0 b1) := (((Below.refl _ w).alloc (Nat.le_refl _) _).alloc (by simp) _).alloc (by simp; omega) _

set_option maxRecDepth 20000 in
set_option maxHeartbeats 1000000 in
theorem compare_a (hD : RDocAt w F bd bn cap rn rv s rs) (a0 a1 b0 b1 f0 f1 : Int) (hf : placeFault s a0 a1 = (f0, f1)) (h1 : f1 ≠ 0) :
    Calls Tryz.prog 80 #[.pointer (some ⟨bd, 0, none⟩), .agg #[.int .i64 a0, .int .i64 a1], .agg #[.int .i64 b0, .int .i64 b1]] w fun e w' => e = .returned (.tuple #[.int .i64 0, rfltV f0 f1]) ∧ Below w.heap.size w w' := by
  have CF := hid (placeFits_any (hD.below (three_below w a0 a1 b0 b1)) a0 a1)
  rw [hf] at CF
  have h1b : (f1 == 0) = false := by simpa using h1
  have HTB := hid (three_below w a0 a1 b0 b1)
  clear hD
  go_enter Tryz.func80, Tryz.ntmps80
  go_wp2_with (first
    | (go_at_call 127; refine CF.out.mono ?_; rintro e w1 ⟨rfl, hb1⟩
       have hq2 : w1.heap[w.heap.size + 2]? = some (.cells #[.int .i64 0, .int .i64 0] 32 (0, 0)) := by
         rw [hb1.block _ (by simp)]
         have := heap_alloc_new ((w.alloc (.cells #[.int .i64 a0, .int .i64 a1] 37)).alloc (.cells #[.int .i64 b0, .int .i64 b1] 37)) (.cells #[.int .i64 0, .int .i64 0] 32)
         simpa using this
       have hs1 : w.heap.size + 3 ≤ w1.heap.size := by have := hb1.size; simpa using this
       have HB1 := hid (HTB.out.trans (hb1.mono HTB.out.size))
       have HQ2 := hid hq2
       clear hb1 hq2)
    | (go_at_call 124; refine (fine_any f0 f1 _).mono ?_; rintro e w2 ⟨rfl, hb2⟩
       have hf2 : w2.heap[w1.heap.size]? = some (.cells #[.int .i64 f0, .int .i64 f1] 32 (0, 0)) := (hb2.block _ (by simp)).trans (heap_alloc_new w1 _)
       have hz2 : w2.heap[w.heap.size + 1 + 1]? = some (.cells #[.int .i64 0, .int .i64 0] 32 (0, 0)) :=
         (hb2.block _ (by simp; omega)).trans ((((Below.refl _ w1).alloc (Nat.le_refl _) _).block _ (by omega)).trans HQ2.out)
       have cf0 : w2.cell? ⟨w1.heap.size, 0, none⟩ = some (.int .i64 f0) := cell_of_heap hf2 0
       have cf1 : w2.cell? ⟨w1.heap.size, 1, none⟩ = some (.int .i64 f1) := cell_of_heap hf2 1
       have cz0 : w2.cell? ⟨w.heap.size + 1 + 1, 0, none⟩ = some (.int .i64 0) := cell_of_heap hz2 0
       have cz1 : w2.cell? ⟨w.heap.size + 1 + 1, 1, none⟩ = some (.int .i64 0) := cell_of_heap hz2 1
       have fz0 := frozen_of_heap hz2 0
       have fz1 := frozen_of_heap hz2 1
       have HB2 := hid ((HB1.out.alloc HB1.out.size _).trans (hb2.mono (Nat.le_trans HB1.out.size (by simp))))
       have hs2 : w.heap.size + 3 ≤ w2.heap.size := by have := hb2.size; simp at this; omega
       clear hb2 hf2 hz2
       rw [h1b]))
  go_region
  all_goals
    go_wp2
    refine bodyPost_ret (v := .tuple #[.int .i64 0, rfltV f0 f1]) (by simp [results, Tryz.results80, go_sem, *]) rfl ?_
    exact ⟨rfl, ((HB2.out.setCell (p := ⟨w.heap.size + 1 + 1, 0, none⟩) (by show w.heap.size ≤ w.heap.size + 1 + 1; omega) _).setCell (p := ⟨w.heap.size + 1 + 1, 1, none⟩) (by show w.heap.size ≤ w.heap.size + 1 + 1; omega) _).drew⟩
end
end Go.Proofs.YtabogkonklplcaaGreatDoor

/- marginref's Compare: the other ways. -/
namespace Go.Proofs.YtabogkonklplcaaGreatDoor
open Go.RowKit
set_option linter.unusedSimpArgs false
set_option linter.unusedVariables false

/-- The four blocks of Compare: two places, the fault that it hands back, the fault that it looks at. -/
structure Cmp (w : World) (W fb : Nat) (a0 a1 b0 b1 f0 f1 : Int) : Prop where
  a : w.heap[W]? = some (.cells #[.int .i64 a0, .int .i64 a1] 37 (0, 0))
  b : w.heap[W + 1]? = some (.cells #[.int .i64 b0, .int .i64 b1] 37 (0, 0))
  z : w.heap[W + 1 + 1]? = some (.cells #[.int .i64 0, .int .i64 0] 32 (0, 0))
  f : w.heap[fb]? = some (.cells #[.int .i64 f0, .int .i64 f1] 32 (0, 0))
  gt : W + 2 < fb

section
variable {w w' : World} {W fb : Nat} {a0 a1 b0 b1 f0 f1 : Int}
theorem Cmp.below (h : Cmp w W fb a0 a1 b0 b1 f0 f1) (hb : Below w.heap.size w w') : Cmp w' W fb a0 a1 b0 b1 f0 f1 :=
  ⟨(hb.block _ (heap_lt h.a)).trans h.a, (hb.block _ (heap_lt h.b)).trans h.b, (hb.block _ (heap_lt h.z)).trans h.z, (hb.block _ (heap_lt h.f)).trans h.f, h.gt⟩
theorem Cmp.put (h : Cmp w W fb a0 a1 b0 b1 f0 f1) (g0 g1 : Int) : Cmp ((w.setCell ⟨fb, 0, none⟩ (.int .i64 g0)).setCell ⟨fb, 1, none⟩ (.int .i64 g1)) W fb a0 a1 b0 b1 g0 g1 := by
  have hg := h.gt
  have hk : ∀ i, i ≠ fb → ((w.setCell ⟨fb, 0, none⟩ (.int .i64 g0)).setCell ⟨fb, 1, none⟩ (.int .i64 g1)).heap[i]? = w.heap[i]? := fun i hi => by
    rw [Below.heap_setCell _ _ _ _ (by simpa using hi), Below.heap_setCell _ _ _ _ (by simpa using hi)]
  refine ⟨(hk _ (by omega)).trans h.a, (hk _ (by omega)).trans h.b, (hk _ (by omega)).trans h.z, ?_, hg⟩
  rw [heap_setCell_same _ fb 1 _ _ _ (heap_setCell_same w fb 0 _ _ _ h.f)]
  simp
theorem Cmp.cells (h : Cmp w W fb a0 a1 b0 b1 f0 f1) :
    (w.cell? ⟨W, 0, none⟩ = some (.int .i64 a0) ∧ w.cell? ⟨W, 1, none⟩ = some (.int .i64 a1)) ∧ (w.cell? ⟨W + 1, 0, none⟩ = some (.int .i64 b0) ∧ w.cell? ⟨W + 1, 1, none⟩ = some (.int .i64 b1)) ∧
    (w.cell? ⟨W + 1 + 1, 0, none⟩ = some (.int .i64 0) ∧ w.cell? ⟨W + 1 + 1, 1, none⟩ = some (.int .i64 0)) ∧ (w.cell? ⟨fb, 0, none⟩ = some (.int .i64 f0) ∧ w.cell? ⟨fb, 1, none⟩ = some (.int .i64 f1)) :=
  ⟨⟨cell_of_heap h.a 0, cell_of_heap h.a 1⟩, ⟨cell_of_heap h.b 0, cell_of_heap h.b 1⟩, ⟨cell_of_heap h.z 0, cell_of_heap h.z 1⟩, ⟨cell_of_heap h.f 0, cell_of_heap h.f 1⟩⟩
theorem Cmp.frozen (h : Cmp w W fb a0 a1 b0 b1 f0 f1) :
    (w.frozen? ⟨W + 1 + 1, 0, none⟩ = false ∧ w.frozen? ⟨W + 1 + 1, 1, none⟩ = false) ∧ (w.frozen? ⟨fb, 0, none⟩ = false ∧ w.frozen? ⟨fb, 1, none⟩ = false) :=
  ⟨⟨frozen_of_heap h.z 0, frozen_of_heap h.z 1⟩, ⟨frozen_of_heap h.f 0, frozen_of_heap h.f 1⟩⟩
/-- Behind the first look: the fault is laid. -/
theorem Cmp.first {w1 w2 : World} (hb1 : Below (three w a0 a1 b0 b1).heap.size (three w a0 a1 b0 b1) w1) (hb2 : Below (w1.alloc (.cells #[.int .i64 f0, .int .i64 f1] 32)).heap.size (w1.alloc (.cells #[.int .i64 f0, .int .i64 f1] 32)) w2) :
    Cmp w2 w.heap.size w1.heap.size a0 a1 b0 b1 f0 f1 ∧ Below w.heap.size w w2 := by
  have hs1 : w.heap.size + 3 ≤ w1.heap.size := by have := hb1.size; simpa using this
  have hB1 : Below w.heap.size w w1 := (three_below w a0 a1 b0 b1).trans (hb1.mono (three_below w a0 a1 b0 b1).size)
  have hal := ((Below.refl _ w1).alloc (Nat.le_refl _) (.cells #[.int .i64 f0, .int .i64 f1] 32)).trans (hb2.mono (by simp))
  have k0 : (three w a0 a1 b0 b1).heap[w.heap.size]? = some (.cells #[.int .i64 a0, .int .i64 a1] 37 (0, 0)) := by
    rw [((Below.refl _ (w.alloc (.cells #[.int .i64 a0, .int .i64 a1] 37))).alloc (Nat.le_refl _) (.cells #[.int .i64 b0, .int .i64 b1] 37)).alloc (by simp) (.cells #[.int .i64 0, .int .i64 0] 32) |>.block w.heap.size (by simp)]
    exact heap_alloc_new w _
  have k1 : (three w a0 a1 b0 b1).heap[w.heap.size + 1]? = some (.cells #[.int .i64 b0, .int .i64 b1] 37 (0, 0)) := by
    rw [((Below.refl _ ((w.alloc (.cells #[.int .i64 a0, .int .i64 a1] 37)).alloc (.cells #[.int .i64 b0, .int .i64 b1] 37))).alloc (Nat.le_refl _) (.cells #[.int .i64 0, .int .i64 0] 32)).block (w.heap.size + 1) (by simp)]
    have := heap_alloc_new (w.alloc (.cells #[.int .i64 a0, .int .i64 a1] 37)) (.cells #[.int .i64 b0, .int .i64 b1] 37)
    simpa using this
  have k2 : (three w a0 a1 b0 b1).heap[w.heap.size + 1 + 1]? = some (.cells #[.int .i64 0, .int .i64 0] 32 (0, 0)) := by
    have := heap_alloc_new ((w.alloc (.cells #[.int .i64 a0, .int .i64 a1] 37)).alloc (.cells #[.int .i64 b0, .int .i64 b1] 37)) (.cells #[.int .i64 0, .int .i64 0] 32)
    simpa using this
  have up : ∀ i, i < w.heap.size + 3 → w2.heap[i]? = (three w a0 a1 b0 b1).heap[i]? := fun i hi => (hal.block i (by omega)).trans (hb1.block i (by simp; omega))
  refine ⟨⟨(up _ (by omega)).trans k0, (up _ (by omega)).trans k1, (up _ (by omega)).trans k2, (hb2.block _ (by simp)).trans (heap_alloc_new w1 _), by omega⟩, hB1.trans (hal.mono hB1.size)⟩
end

end Go.Proofs.YtabogkonklplcaaGreatDoor

/- marginref's Compare: the second place's fault. -/
namespace Go.Proofs.YtabogkonklplcaaGreatDoor
open Go.RowKit
set_option linter.unusedSimpArgs false
set_option linter.unusedVariables false

section
variable {w : World} {F : Nat → Prop} {bd bn cap : Nat} {rn : List RN} {rv : Value} {s : List Nd} {rs : List Sp}

set_option maxRecDepth 20000 in
set_option maxHeartbeats 1000000 in
theorem compare_b (hD : RDocAt w F bd bn cap rn rv s rs) (a0 a1 b0 b1 g0 g1 : Int) (hf : placeFault s a0 a1 = (0, 0)) (hg : placeFault s b0 b1 = (g0, g1)) (h1 : g1 ≠ 0) :
    Calls Tryz.prog 80 #[.pointer (some ⟨bd, 0, none⟩), .agg #[.int .i64 a0, .int .i64 a1], .agg #[.int .i64 b0, .int .i64 b1]] w fun e w' => e = .returned (.tuple #[.int .i64 0, rfltV g0 g1]) ∧ Below w.heap.size w w' := by
  have CF := hid (placeFits_any (hD.below (three_below w a0 a1 b0 b1)) a0 a1)
  rw [hf] at CF
  have CG := hid (fun w' (hb : Below w.heap.size w w') => placeFits_any (hD.below hb) b0 b1)
  rw [hg] at CG
  have h1b : (g1 == 0) = false := by simpa using h1
  clear hD
  go_enter Tryz.func80, Tryz.ntmps80
  go_wp2_with (first
    | (go_at_call 127; refine (CG.out w2 HB2.out).mono ?_; rintro e w3 ⟨rfl, hb3⟩
       have hc3 := HC2.out.below hb3
       obtain ⟨-, -, -, ⟨cf0, cf1⟩⟩ := hc3.cells
       obtain ⟨-, ⟨ff0, ff1⟩⟩ := hc3.frozen
       have HC3 := hid hc3
       have HB3 := hid (HB2.out.trans (hb3.mono HB2.out.size))
       clear hc3 hb3)
    | (go_at_call 127; refine CF.out.mono ?_; rintro e w1 ⟨rfl, hb1⟩
       have HB1 := hid hb1
       clear hb1)
    | (go_at_call 124; have hc4 := HC3.out.put g0 g1; refine (fine_any g0 g1 _).mono ?_; rintro e w4 ⟨rfl, hb4⟩
       have hc5 := hc4.below hb4
       obtain ⟨-, -, ⟨cz0, cz1⟩, ⟨cg0, cg1⟩⟩ := hc5.cells
       obtain ⟨⟨fz0, fz1⟩, -⟩ := hc5.frozen
       have HC5 := hid hc5
       have HB5 := hid (((HB3.out.setCell (p := ⟨w1.heap.size, 0, none⟩) (by have := HC3.out.gt; show w.heap.size ≤ w1.heap.size; omega) (.int .i64 g0)).setCell (p := ⟨w1.heap.size, 1, none⟩) (by have := HC3.out.gt; show w.heap.size ≤ w1.heap.size; omega) (.int .i64 g1)).trans (hb4.mono (by have := HB3.out.size; simpa using this)))
       clear hc4 hc5 hb4
       rw [h1b])
    | (go_at_call 124; refine (fine_any 0 0 _).mono ?_; rintro e w2 ⟨rfl, hb2⟩
       obtain ⟨hc2, hB2⟩ := Cmp.first HB1.out hb2
       obtain ⟨⟨ca0, ca1⟩, ⟨cb0, cb1⟩, -, -⟩ := hc2.cells
       have HC2 := hid hc2
       have HB2 := hid hB2
       clear hb2 hc2 hB2))
  go_region
  all_goals
    go_wp2
    refine bodyPost_ret (v := .tuple #[.int .i64 0, rfltV g0 g1]) (by simp [results, Tryz.results80, go_sem, *]) rfl ?_
    exact ⟨rfl, ((HB5.out.setCell (p := ⟨w.heap.size + 1 + 1, 0, none⟩) (by show w.heap.size ≤ w.heap.size + 1 + 1; omega) _).setCell (p := ⟨w.heap.size + 1 + 1, 1, none⟩) (by show w.heap.size ≤ w.heap.size + 1 + 1; omega) _).drew⟩
end

end Go.Proofs.YtabogkonklplcaaGreatDoor

/- Plain mathematics: the places of a tree in their order, and the ways to them (twice the index and one for each step down, twice the offset at the end). -/
namespace Go.Proofs.YtabogkonklplcaaGreatDoor
set_option linter.unusedSimpArgs false
set_option linter.unusedVariables false

/-- Places with the ways to them. -/
abbrev PP : Type := (Nat × Nat) × List Nat
def ppB (n : Nat) (ks : List Nat) (f : Nat → List PP) (i : Nat) : List PP :=
  ((n, i), [2 * i]) :: (match ks[i]? with | some c => (f c).map (fun e => (e.1, (2 * i + 1) :: e.2)) | none => [])
def ppF (s : List Nd) : Nat → Nat → List PP
  | 0, _ => []
  | k + 1, n => (List.range (sizeAt s n + 1)).flatMap (ppB n (kidsOf s n) (ppF s k))

theorem pp_fst (s : List Nd) : ∀ (k n : Nat), (ppF s k n).map Prod.fst = plF s k n := by
  intro k
  induction k with
  | zero => intro n; rfl
  | succ k ih =>
    intro n
    simp only [ppF, plF, upTo, List.map_flatMap]
    congr 1
    funext i
    unfold ppB
    cases (kidsOf s n)[i]? with
    | none => rfl
    | some c =>
      simp only [List.map_cons, List.map_map]
      rw [← ih c]
      rfl

theorem ppB_head {n i : Nat} {ks : List Nat} {f : Nat → List PP} {e : PP} (h : e ∈ ppB n ks f i) : ∃ a l, e.2 = a :: l ∧ (a = 2 * i ∨ a = 2 * i + 1) := by
  unfold ppB at h
  rcases List.mem_cons.1 h with rfl | h
  · exact ⟨_, _, rfl, .inl rfl⟩
  · split at h
    · obtain ⟨e', _, rfl⟩ := List.mem_map.1 h
      exact ⟨_, _, rfl, .inr rfl⟩
    · simp at h

abbrev lexN : List Nat → List Nat → Prop := List.Lex (· < ·)

theorem pp_sorted (s : List Nd) : ∀ (k n : Nat), (ppF s k n).Pairwise (fun a b => lexN a.2 b.2) := by
  intro k
  induction k with
  | zero => intro n; simp [ppF]
  | succ k ih =>
    intro n
    rw [ppF, List.pairwise_flatMap]
    refine ⟨fun i _ => ?_, ?_⟩
    · unfold ppB
      rw [List.pairwise_cons]
      constructor
      · intro e he
        split at he
        · obtain ⟨e', _, rfl⟩ := List.mem_map.1 he
          exact .rel (by omega)
        · simp at he
      · split
        · rw [List.pairwise_map]
          exact (ih _).imp (fun h => .cons h)
        · exact List.Pairwise.nil
    · refine List.pairwise_lt_range.imp ?_
      intro i j hij x hx y hy
      obtain ⟨a, l, ea, ha⟩ := ppB_head hx
      obtain ⟨b, m, eb, hb⟩ := ppB_head hy
      rw [ea, eb]
      exact .rel (by omega)

/-- The way to a place of the node itself. -/
theorem pp_here {s : List Nd} {k n i : Nat} (h : i ≤ sizeAt s n) : ((n, i), [2 * i]) ∈ ppF s (k + 1) n := by
  rw [ppF, List.mem_flatMap]
  exact ⟨i, List.mem_range.2 (by omega), by unfold ppB; exact List.mem_cons_self⟩
/-- One step down. -/
theorem pp_down {s : List Nd} {k n j c : Nat} {e : PP} (hj : (kidsOf s n)[j]? = some c) (hl : j ≤ sizeAt s n) (h : e ∈ ppF s k c) : (e.1, (2 * j + 1) :: e.2) ∈ ppF s (k + 1) n := by
  rw [ppF, List.mem_flatMap]
  refine ⟨j, List.mem_range.2 (by omega), ?_⟩
  unfold ppB
  rw [hj]
  exact List.mem_cons_of_mem _ (List.mem_map.2 ⟨e, h, rfl⟩)

theorem pl_node {s : List Nd} : ∀ (k n : Nat) (p : Nat × Nat), p ∈ plF s k n → p.1 ∈ allF s k n := by
  intro k
  induction k with
  | zero => intro n p h; simp [plF] at h
  | succ k ih =>
    intro n p h
    simp only [plF, upTo, List.mem_flatMap] at h
    obtain ⟨i, _, h⟩ := h
    rw [allF, List.mem_cons]
    rcases List.mem_cons.1 h with rfl | h
    · exact .inl rfl
    · split at h
      · rename_i c hc
        exact .inr (List.mem_flatMap.2 ⟨c, List.mem_of_getElem? hc, ih c p h⟩)
      · simp at h

theorem pl_nodup {s : List Nd} (wf : WF s) : ∀ (k n : Nat), (plF s k n).Nodup := by
  obtain ⟨h, B, u⟩ := wf.up
  intro k
  induction k with
  | zero => intro n; simp [plF]
  | succ k ih =>
    intro n
    have hks : (kidsOf s n).Nodup := by
      unfold kidsOf
      split
      · exact wf.nodup n _ ‹_›
      · exact List.nodup_nil
    unfold List.Nodup
    rw [plF, upTo, List.pairwise_flatMap]
    refine ⟨fun i _ => ?_, ?_⟩
    · rw [List.pairwise_cons]
      constructor
      · intro p hp e
        subst e
        split at hp
        · rename_i c hc
          exact all_head_not wf u (List.mem_of_getElem? hc) (pl_node k c _ hp)
        · simp at hp
      · split
        · exact ih _
        · exact List.Pairwise.nil
    · refine List.pairwise_lt_range.imp ?_
      intro i j hij x hx y hy e
      subst e
      rcases List.mem_cons.1 hx with rfl | hx <;> rcases List.mem_cons.1 hy with hy | hy
      · simp at hy; omega
      · split at hy
        · rename_i c hc
          exact all_head_not wf u (List.mem_of_getElem? hc) (pl_node k c _ hy)
        · simp at hy
      · subst hy
        split at hx
        · rename_i c hc
          exact all_head_not wf u (List.mem_of_getElem? hc) (pl_node k c _ hx)
        · simp at hx
      · split at hx
        · rename_i c hc
          split at hy
          · rename_i d hd
            have e := all_apart wf u (List.mem_of_getElem? hc) (List.mem_of_getElem? hd) (pl_node k c _ hx) (pl_node k d _ hy)
            subst e
            obtain ⟨h1, h2⟩ := List.getElem?_eq_some_iff.1 hc
            obtain ⟨h3, h4⟩ := List.getElem?_eq_some_iff.1 hd
            exact List.pairwise_iff_getElem.1 hks i j h1 h3 hij (h2.trans h4.symm)
          · simp at hy
        · simp at hx

theorem pp_index {s : List Nd} (wf : WF s) {k t : Nat} {a : Nat × Nat} {l : List Nat} {q : Int} (h : (a, l) ∈ ppF s k t) (hw : IsWhere (plF s k t) a q) : ∃ i : Nat, q = i ∧ (ppF s k t)[i]? = some (a, l) := by
  obtain ⟨i, hi⟩ := List.mem_iff_getElem?.1 h
  have hp : (plF s k t)[i]? = some a := by rw [← pp_fst, List.getElem?_map, hi]; rfl
  rcases hw with ⟨m, rfl, hm, _⟩ | ⟨_, hn⟩
  · refine ⟨i, ?_, hi⟩
    obtain ⟨h1, h2⟩ := List.getElem?_eq_some_iff.1 hp
    obtain ⟨h3, h4⟩ := List.getElem?_eq_some_iff.1 hm
    have hnd := List.pairwise_iff_getElem.1 (pl_nodup wf k t)
    rcases Nat.lt_trichotomy i m with e | e | e
    · exact absurd (h2.trans h4.symm) (hnd i m h1 h3 e)
    · rw [e]
    · exact absurd (h4.trans h2.symm) (hnd m i h3 h1 e)
  · exact absurd (List.mem_of_getElem? hp) hn

/-- The order of two places is the order of the ways to them. -/
theorem pp_order {s : List Nd} (wf : WF s) {k t : Nat} {a b : Nat × Nat} {l m : List Nat} {qa qb : Int} (ha : (a, l) ∈ ppF s k t) (hb : (b, m) ∈ ppF s k t) (wa : IsWhere (plF s k t) a qa) (wb : IsWhere (plF s k t) b qb) :
    (qa < qb → lexN l m) ∧ (qb < qa → lexN m l) ∧ (qa = qb → l = m ∧ a = b) := by
  obtain ⟨i, rfl, hi⟩ := pp_index wf ha wa
  obtain ⟨j, rfl, hj⟩ := pp_index wf hb wb
  obtain ⟨h1, h2⟩ := List.getElem?_eq_some_iff.1 hi
  obtain ⟨h3, h4⟩ := List.getElem?_eq_some_iff.1 hj
  have hs := List.pairwise_iff_getElem.1 (pp_sorted s k t)
  refine ⟨fun e => ?_, fun e => ?_, fun e => ?_⟩
  · have := hs i j h1 h3 (by omega)
    rw [h2, h4] at this
    exact this
  · have := hs j i h3 h1 (by omega)
    rw [h2, h4] at this
    exact this
  · obtain rfl : i = j := by omega
    rw [hi] at hj
    cases hj
    exact ⟨rfl, rfl⟩

end Go.Proofs.YtabogkonklplcaaGreatDoor

/- Plain mathematics: the way down to a node by indexes, and the order of places by such ways with the offset behind them (a shorter way first). -/
namespace Go.Proofs.YtabogkonklplcaaGreatDoor
set_option linter.unusedSimpArgs false
set_option linter.unusedVariables false

/-- Which comes first: -1, 1, or 0. -/
def lexC : List Nat → List Nat → Int
  | [], [] => 0
  | [], _ :: _ => -1
  | _ :: _, [] => 1
  | a :: l, b :: m => if a < b then -1 else if b < a then 1 else lexC l m

/-- The way down by indexes. -/
inductive Way (s : List Nd) (t : Nat) : Nat → List Nat → Prop
  | top : Way s t t []
  | down {q c i : Nat} {l : List Nat} {y : Nd} : Way s t q l → s[q]? = some y → y.ks[i]? = some c → Way s t c (l ++ [i])

def pw (l : List Nat) (k : Nat) : List Nat := l.map (fun i => 2 * i + 1) ++ [2 * k]

theorem lexN_nil {l : List Nat} (h : lexN l []) : False := by cases h
theorem lexN_cons {a b : Nat} {l m : List Nat} (h : lexN (a :: l) (b :: m)) : a < b ∨ a = b ∧ lexN l m := by
  cases h with
  | rel h => exact .inl h
  | cons h => exact .inr ⟨rfl, h⟩

theorem pw_nil (k : Nat) : pw [] k = [2 * k] := rfl
theorem pw_cons (a : Nat) (l : List Nat) (k : Nat) : pw (a :: l) k = (2 * a + 1) :: pw l k := rfl

theorem lexC_lt : ∀ (l1 l2 : List Nat) (k1 k2 : Nat), lexN (pw l1 k1) (pw l2 k2) → lexC (l1 ++ [k1]) (l2 ++ [k2]) = -1 := by
  intro l1
  induction l1 with
  | nil =>
    intro l2 k1 k2 h
    cases l2 with
    | nil =>
      simp only [pw_nil, pw_cons] at h
      rcases lexN_cons h with h | ⟨_, h⟩
      · simp only [List.nil_append, lexC]; rw [if_pos (by omega)]
      · exact absurd h (fun h => lexN_nil h)
    | cons b m =>
      simp only [pw_nil, pw_cons] at h
      rcases lexN_cons h with h | ⟨h, _⟩
      · simp only [List.nil_append, List.cons_append, lexC]
        by_cases hb : k1 < b
        · rw [if_pos hb]
        · rw [if_neg hb, if_neg (by omega)]
          cases m <;> rfl
      · omega
  | cons a l ih =>
    intro l2 k1 k2 h
    cases l2 with
    | nil =>
      simp only [pw_nil, pw_cons] at h
      rcases lexN_cons h with h | ⟨h, _⟩
      · simp only [List.nil_append, List.cons_append, lexC]; rw [if_pos (by omega)]
      · omega
    | cons b m =>
      simp only [pw_nil, pw_cons] at h
      rcases lexN_cons h with h | ⟨h, h'⟩
      · simp only [List.cons_append, lexC]; rw [if_pos (by omega)]
      · simp only [List.cons_append, lexC]; rw [if_neg (by omega), if_neg (by omega)]; exact ih m k1 k2 h'

theorem lexC_neg : ∀ (l m : List Nat), lexC l m = - lexC m l := by
  intro l
  induction l with
  | nil => intro m; cases m <;> rfl
  | cons a l ih =>
    intro m
    cases m with
    | nil => rfl
    | cons b m =>
      simp only [lexC]
      by_cases h1 : a < b
      · rw [if_pos h1, if_neg (by omega), if_pos h1]
      · by_cases h2 : b < a
        · rw [if_neg h1, if_pos h2, if_pos h2]; rfl
        · rw [if_neg h1, if_neg h2, if_neg h2, if_neg h1]; exact ih m

theorem lexC_self (l : List Nat) : lexC l l = 0 := by
  induction l with
  | nil => rfl
  | cons a l ih => simp [lexC, ih]

theorem pw_inj {l1 l2 : List Nat} {k1 k2 : Nat} (h : pw l1 k1 = pw l2 k2) : l1 ++ [k1] = l2 ++ [k2] := by
  unfold pw at h
  have h1 := List.append_inj_left' h rfl
  have h2 := List.append_inj_right' h rfl
  have h3 : l1 = l2 := by
    refine (List.map_inj_right ?_).1 h1
    intro a b e
    omega
  have h4 : k1 = k2 := by simp at h2; omega
  rw [h3, h4]

theorem way_len {s : List Nd} {h : Nat → Nat} {B : Nat} (wf : WF s) (u : Up s h B) {t n : Nat} {l : List Nat} (w : Way s t n l) : h n + l.length ≤ h t := by
  induction w with
  | top => simp
  | down w hq hi ih =>
    have := (wf.kid_lt u hq (List.mem_of_getElem? hi)).2
    rw [List.length_append]
    simp
    omega

theorem way_pp {s : List Nd} (wf : WF s) {t n : Nat} {l : List Nat} (w : Way s t n l) : ∀ (K : Nat) (e : PP), e ∈ ppF s K n → (e.1, l.map (fun i => 2 * i + 1) ++ e.2) ∈ ppF s (K + l.length) t := by
  induction w with
  | top => intro K e h; simpa using h
  | @down q c i l y w hq hi ih =>
    intro K e h
    have hk : kidsOf s q = y.ks := kidsOf_eq hq
    have hl : i < y.ks.length := (List.getElem?_eq_some_iff.1 hi).1
    have hsz : i ≤ sizeAt s q := by
      rw [sizeAt_eq hq]
      cases ht : y.t with
      | true => have := (wf.elem q y hq).1 ht; rw [this] at hl; simp at hl
      | false => rw [sizeN_elem ht]; omega
    have h1 := ih (K + 1) _ (pp_down (k := K) (n := q) (j := i) (c := c) (by rw [hk]; exact hi) hsz h)
    have e1 : K + 1 + l.length = K + (l ++ [i]).length := by simp; omega
    rw [e1] at h1
    simpa using h1

/-- What Compare tells is the order of the ways. -/
theorem cmp_ways {s : List Nd} (wf : WF s) {h : Nat → Nat} {B : Nat} (u : Up s h B) {t n k n2 k2 : Nat} {l l2 : List Nat} (wa : Way s t n l) (wb : Way s t n2 l2) (hk : k ≤ sizeAt s n) (hk2 : k2 ≤ sizeAt s n2) {qa qb : Int} (ha : IsWhere (plF s (B + 1) t) (n, k) qa) (hb : IsWhere (plF s (B + 1) t) (n2, k2) qb) :
    lexC (l ++ [k]) (l2 ++ [k2]) = if qa < qb then -1 else if qb < qa then 1 else 0 := by
  have key : ∀ {n k : Nat} {l : List Nat}, Way s t n l → k ≤ sizeAt s n → ((n, k), pw l k) ∈ ppF s (B + 1) t := by
    intro n k l wy hk
    have h1 := way_len wf u wy
    have h2 := u.le t
    have h3 := way_pp wf wy (B - l.length + 1) _ (pp_here (k := B - l.length) hk)
    have e : B - l.length + 1 + l.length = B + 1 := by omega
    rw [e] at h3
    exact h3
  obtain ⟨o1, o2, o3⟩ := pp_order wf (key wa hk) (key wb hk2) ha hb
  by_cases h1 : qa < qb
  · rw [if_pos h1]; exact lexC_lt _ _ _ _ (o1 h1)
  · by_cases h2 : qb < qa
    · rw [if_neg h1, if_pos h2, lexC_neg, lexC_lt _ _ _ _ (o2 h2)]; rfl
    · rw [if_neg h1, if_neg h2, pw_inj (o3 (by omega)).1, lexC_self]

end Go.Proofs.YtabogkonklplcaaGreatDoor

/- A region that draws its order, whose operations but the last one only read, the last one waiting for all others: walked once, in the order of the text; the last one may do what it will. -/
namespace Go.Proofs.YtabogkonklplcaaGreatDoor
open Go
set_option linter.unusedSimpArgs false
set_option linter.unusedVariables false

theorem un_false {listed : Array Bool} {j : Nat} (h : listed.getD j true = false) : listed.getD j false = false := by
  rcases Nat.lt_or_ge j listed.size with h' | h'
  · simp [h'] at h ⊢; exact h
  · simp [Array.getElem?_eq_none h'] at h

section
variable {P : Program} {md : Region.Mode} {ops : Array Oper} {C : World → Prop}

/-- Whatever order is picked, until number z alone is left. -/
def wpAnyL (P : Program) (md : Region.Mode) (ops : Array Oper) (C : World → Prop) (Q : Act → Prop) (z : Nat) : Nat → Array Bool → Act → Prop
  | 0, listed, a => (∀ k, k < ops.size → k ≠ z → listed.getD k false = true) ∧ listed.getD z true = false ∧ Q a
  | fuel + 1, listed, a => Region.ready md ops listed ≠ [] ∧ z ∉ Region.ready md ops listed ∧ ∀ i ∈ Region.ready md ops listed, qOp P ops C i (wpAnyL P md ops C Q z fuel (listed.setIfInBounds i true)) a

/-- Whom one has waited for has come up. -/
def Shutt (md : Region.Mode) (ops : Array Oper) (listed : Array Bool) : Prop := ∀ (k : Nat) (ok : Oper), ops[k]? = some ok → listed.getD k false = true → ∀ e ∈ ok.after, Region.binds md e = true → listed.getD e.on false = true
theorem Shutt.set {listed : Array Bool} {j : Nat} (h : Shutt md ops listed) (hj : j ∈ Region.ready md ops listed) : Shutt md ops (listed.setIfInBounds j true) := by
  intro k ok hk hl e he hb
  obtain ⟨_, oj, hoj, hall⟩ := mem_ready.1 hj
  by_cases hkj : j = k
  · subst hkj
    rw [hoj] at hk
    cases hk
    exact getD_set_true (hall e he hb)
  · rw [getD_set_ne false hkj] at hl
    exact getD_set_true (h k ok hk hl e he hb)

theorem wpAnyL_first {Q : Act → Prop} {i z : Nat} {oi : Oper} {v : Value} (hi : ops[i]? = some oi) (hiz : i ≠ z) (hsel : ∀ (j : Nat) (o : Oper) cs b, ops[j]? = some o → o.op ≠ .select cs b)
    (hdep : ∃ (j : Nat) (oj : Oper), ops[j]? = some oj ∧ ∃ e ∈ oj.after, Region.binds md e = true ∧ e.on = i) :
    ∀ (fuel : Nat) (listed : Array Bool) (a : Act),
      (∀ j oj, ops[j]? = some oj → j ≠ i → listed.getD j true = false → (∀ e ∈ oj.after, Region.binds md e = true → e.on ≠ i) → oi.apart ops oj = true) →
      i ∈ Region.ready md ops listed → Shutt md ops listed → YieldsIn P ops C oi v a →
      wpAnyL P md ops C Q z fuel (listed.setIfInBounds i true) (a.put oi.dst v) → wpAnyL P md ops C Q z (fuel + 1) listed a := by
  intro fuel
  induction fuel with
  | zero =>
    intro listed a _ hr hcl hy H
    obtain ⟨hun, _, _, hri⟩ := mem_ready.1 hr
    have hun' := un_false hun
    have hnz : z ∉ Region.ready md ops listed := by
      intro hz
      obtain ⟨j, oj, hoj, e, he, hb, heq⟩ := hdep
      by_cases hjz : j = z
      · subst hjz
        obtain ⟨_, oz, hoz, hall⟩ := mem_ready.1 hz
        rw [hoj] at hoz
        cases hoz
        have := hall e he hb
        rw [heq, hun'] at this
        cases this
      · have hjl := H.1 j (Array.getElem?_eq_some_iff.1 hoj).1 hjz
        by_cases hji : j = i
        · subst hji
          obtain ⟨_, o2, ho2, hall⟩ := mem_ready.1 hr
          rw [hoj] at ho2
          cases ho2
          have := hall e he hb
          rw [heq, hun'] at this
          cases this
        · rw [getD_set_ne false (Ne.symm hji)] at hjl
          have := hcl j oj hoj hjl e he hb
          rw [heq, hun'] at this
          cases this
    refine ⟨fun h => (by rw [h] at hr; cases hr), hnz, fun j hj => ?_⟩
    by_cases hji : j = i
    · subst hji; exact hy.qOp hi H
    · exfalso
      obtain ⟨hjun, oj, hoj, _⟩ := mem_ready.1 hj
      have hjl := H.1 j (Array.getElem?_eq_some_iff.1 hoj).1 (fun e => hnz (e ▸ hj))
      rw [getD_set_ne false (Ne.symm hji), un_false hjun] at hjl
      cases hjl
  | succ fuel ih =>
    intro listed a hfree hr hcl hy H
    refine ⟨fun h => (by rw [h] at hr; cases hr), fun hz => H.2.1 (ready_mono hz (Ne.symm hiz)), fun j hj => ?_⟩
    by_cases hji : j = i
    · subst hji; exact hy.qOp hi H
    · have h1 := H.2.2 j (ready_mono hj hji)
      obtain ⟨hjun, oj, hoj, hall⟩ := mem_ready.1 hj
      have hnot : ∀ e ∈ oj.after, Region.binds md e = true → e.on ≠ i := fun e he hb heq => by
        have h1 := hall e he hb
        rw [heq, un_false (mem_ready.1 hr).1] at h1
        cases h1
      have h2 := qOp_put hoj (hfree j oj hoj hji hjun hnot) (fun cs b => hsel i oi cs b hi) (fun cs b => hsel j oj cs b hoj) hy h1
      have hfree' : ∀ k ok, ops[k]? = some ok → k ≠ i → (listed.setIfInBounds j true).getD k true = false →
          (∀ e ∈ ok.after, Region.binds md e = true → e.on ≠ i) → oi.apart ops ok = true := fun k ok hk hki hunk hno => by
        refine hfree k ok hk hki ?_ hno
        by_cases hjk : j = k
        · subst hjk; exact hjun
        · rw [getD_set_ne true hjk] at hunk; exact hunk
      refine qOp_mono (fun a' h3 => ih (listed.setIfInBounds j true) a' hfree' (ready_mono hr (Ne.symm hji)) (hcl.set hj) h3.1 ?_) h2
      rw [Array.setIfInBounds_comm _ _ hji]
      exact h3.2

theorem wpAny_of_last {Q : Act → Prop} {Q' : Exit → Act → World → Prop} {z : Nat} {oz : Oper} (hoz : ops[z]? = some oz) (hza : ∀ e ∈ oz.after, Region.binds md e = true → e.on < ops.size ∧ e.on ≠ z)
    (hQ : ∀ a w, C w → Q a → wpOp P ops Q' z (fun a' w' => Q' .normal a' w') a w) : ∀ (fuel : Nat) (listed : Array Bool) (a : Act) (w : World), C w →
    wpAnyL P md ops C Q z fuel listed a → wpAny P md ops Q' (fuel + 1) listed a w
  | 0, listed, a, w, hw, h => by
    obtain ⟨hall, hzu, hq⟩ := h
    have hzr : z ∈ Region.ready md ops listed := mem_ready.2 ⟨hzu, oz, hoz, fun e he hb => hall e.on (hza e he hb).1 (hza e he hb).2⟩
    refine ⟨fun h0 => (by rw [h0] at hzr; cases hzr), fun i hi => ?_⟩
    obtain ⟨hiu, oi, hoi, _⟩ := mem_ready.1 hi
    have hiz : i = z := by
      rcases Nat.decEq i z with h | h
      · have := hall i (Array.getElem?_eq_some_iff.1 hoi).1 h
        rw [un_false hiu] at this
        cases this
      · exact h
    subst hiz
    refine wpOp_mono (fun a' w' h => ⟨List.eq_nil_iff_forall_not_mem.2 (fun j hj => ?_), h⟩) (hQ a w hw hq)
    obtain ⟨hju, oj, hoj, _⟩ := mem_ready.1 hj
    by_cases hji : i = j
    · subst hji
      rcases Nat.lt_or_ge i listed.size with h' | h'
      · simp [h'] at hju
      · simp [Array.getElem?_eq_none h'] at hzu
    · rw [getD_set_ne true hji] at hju
      have := hall j (Array.getElem?_eq_some_iff.1 hoj).1 (Ne.symm hji)
      rw [un_false hju] at this
      cases this
  | fuel + 1, listed, a, w, hw, h => ⟨fun h0 => absurd h0 h.1, fun i hi => wpOp_of_qOp hw (fun a' w' hw' => wpAny_of_last hoz hza hQ fuel _ a' w' hw') (h.2.2 i hi)⟩

def lexL (md : Region.Mode) (ops : Array Oper) : Nat → Nat → Array Bool → Bool
  | 0, _, _ => true
  | n + 1, k, listed => (Region.ready md ops listed).contains k && Region.free md ops listed k && lexL md ops n (k + 1) (listed.setIfInBounds k true)
def depB (md : Region.Mode) (ops : Array Oper) (n : Nat) : Bool := (List.range n).all fun i => ops.any fun o => o.after.any fun e => Region.binds md e && e.on == i

theorem depB_at {n : Nat} (h : depB md ops n = true) {i : Nat} (hi : i < n) : ∃ (j : Nat) (oj : Oper), ops[j]? = some oj ∧ ∃ e ∈ oj.after, Region.binds md e = true ∧ e.on = i := by
  have h1 := List.all_eq_true.1 h i (List.mem_range.2 hi)
  obtain ⟨o, ho, h2⟩ := Array.any_eq_true'.1 h1
  obtain ⟨e, he, hb⟩ := Array.any_eq_true'.1 h2
  simp only [Bool.and_eq_true, beq_iff_eq] at hb
  obtain ⟨j, hj⟩ := Array.getElem?_of_mem ho
  exact ⟨j, o, hj, e, he, hb.1, hb.2⟩

theorem wpAnyL_lex {Q : Act → Prop} {z : Nat} (hs : Region.noSelect ops = true) (hd : depB md ops z = true) (hz : z + 1 = ops.size) : ∀ (l : List Oper) (k : Nat) (listed : Array Bool) (a : Act), (∀ j, j < l.length → l[j]? = ops[k + j]?) → k + l.length = z →
    (∀ m, m < k → listed.getD m false = true) → listed.getD z true = false → Shutt md ops listed →
    lexL md ops l.length k listed = true → wpQuiet P ops C Q l a → wpAnyL P md ops C Q z l.length listed a
  | [], k, listed, a, _, hk, hb, hzu, _, _, h => ⟨fun m hm hne => hb m (by simp at hk; omega), hzu, h⟩
  | o :: l, k, listed, a, hl, hk, hb, hzu, hcl, hB, h => by
    have h0 : ops[k]? = some o := by simpa using (hl 0 (by simp)).symm
    simp only [List.length_cons, lexL, Bool.and_eq_true] at hB
    obtain ⟨⟨hr, hf⟩, hB'⟩ := hB
    have hr' : k ∈ Region.ready md ops listed := by simpa using hr
    have hkz : k ≠ z := by simp at hk; omega
    have hst : qOp P ops C k (wpQuiet P ops C Q l) a := by unfold qOp; simp only [h0]; exact h
    obtain ⟨v, hy, hK⟩ := yieldsIn_of_qOp h0 hst
    refine wpAnyL_first h0 hkz (Region.noSelect_spec hs) (depB_at hd (by simp at hk; omega)) l.length listed a (Region.free_spec h0 hf) hr' hcl hy
      (wpAnyL_lex hs hd hz l (k + 1) _ _ (fun j hj => by have := hl (j + 1) (by simp; omega); simpa [Nat.add_assoc, Nat.add_comm 1 j] using this) (by simp at hk; omega) (fun m hm => ?_) (by rw [getD_set_ne true hkz]; exact hzu) (hcl.set hr') hB' hK)
    by_cases hmk : k = m
    · subst hmk
      have := (mem_ready.1 hr').1
      rcases Nat.lt_or_ge k listed.size with h' | h'
      · simp [h']
      · simp [Array.getElem?_eq_none h'] at this
    · exact getD_set_true (hb m (by omega))

def lastB (l : List Oper) (oz : Oper) : Bool := Region.noSelect l.toArray && depB .any l.toArray (l.length - 1) && lexL .any l.toArray (l.length - 1) 0 (Array.replicate l.length false) && oz.after.all fun e => !Region.binds .any e || (e.on < l.length && e.on != l.length - 1)

theorem wp_region_last {id : Nat} {Q : Exit → Act → World → Prop} {a : Act} {w : World} {l : List Oper} {oz : Oper} (hl : l.getLast? = some oz) (hm : P.follows .mixedOrders = true) (hB : lastB l oz = true)
    (h : wpQuiet P l.toArray (fun w' => ∃ n, w' = w.drewN n) (fun a' => ∀ w', (∃ n, w' = w.drewN n) → wpList P l.toArray Q [oz] a' w') l.dropLast a) : (Code.region id l.toArray true).wp P Q a w := by
  simp only [lastB, Bool.and_eq_true] at hB
  obtain ⟨⟨⟨hs, hd⟩, hx⟩, haz⟩ := hB
  have hne : l ≠ [] := fun e => by rw [e] at hl; cases hl
  have hlen : 0 < l.length := List.length_pos_iff.2 hne
  have hoz : l.toArray[l.length - 1]? = some oz := by rw [List.getElem?_toArray, ← List.getLast?_eq_getElem?]; exact hl
  refine wp_region_any hm ?_
  have hsz : l.toArray.size = (l.length - 1) + 1 := by simp; omega
  rw [hsz]
  refine wpAny_of_last (C := fun w' => ∃ n, w' = w.drewN n) (Q := fun a' => ∀ w', (∃ n, w' = w.drewN n) → wpList P l.toArray Q [oz] a' w') hoz ?_ ?_ _ _ _ _ ⟨1, rfl⟩ ?_
  · intro e he hb
    have := Array.all_eq_true_iff_forall_mem.1 haz e he
    simp [hb] at this
    exact ⟨by simpa using this.1, this.2⟩
  · intro a w1 hw hq
    unfold wpOp
    rw [hoz]
    exact hq w1 hw
  · have hk := wpAnyL_lex (P := P) (C := fun w' => ∃ n, w' = w.drewN n) (md := .any) (ops := l.toArray) (z := l.length - 1) (Q := fun a' => ∀ w', (∃ n, w' = w.drewN n) → wpList P l.toArray Q [oz] a' w') hs hd (by simp; omega) l.dropLast 0 (Array.replicate l.length false) a (fun j hj => ?_) (by simp) (fun m hm => by omega) (by simp [Array.getElem?_replicate, show l.length - 1 < l.length by omega]) (fun k ok hk hl2 => by
      exfalso
      rcases Nat.lt_or_ge k l.length with h' | h'
      · simp [h'] at hl2
      · simp [h'] at hl2) (by simpa using hx) h
    have e1 : Array.replicate (l.length - 1 + 1) false = Array.replicate l.length false := by rw [Nat.sub_add_cancel hlen]
    rw [e1]
    simpa using hk
    · rw [List.length_dropLast] at hj
      rw [List.getElem?_toArray, Nat.zero_add, List.getElem?_dropLast, if_pos hj]
end


end Go.Proofs.YtabogkonklplcaaGreatDoor
