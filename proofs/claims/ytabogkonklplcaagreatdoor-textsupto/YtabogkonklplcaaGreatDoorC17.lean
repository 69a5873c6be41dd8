import Derived.Test.YtabogkonklplcaaGreatDoorC15
import Derived.Test.YtabogkonklplcaaGreatDoorC16
import Derived.WalkSmall
import Derived.LoopTactic
import Derived.Laws.RangeString
import Derived.Laws.RangeAny
import Derived.Shelf.Spec.BytesIndexFunc
import Derived.Deep.DeepFit
import Derived.Test.YtabogkonklplcaaGreatDoorC04
import Derived.LaidEql
import Derived.Stop.Asserts
import Derived.RowKitTokens

/- chars.isBroken, chars.Check. -/
namespace Go.Proofs.YtabogkonklplcaaGreatDoor
open Go.RowKit Go.Lib
set_option linter.unusedSimpArgs false
set_option linter.unusedVariables false

abbrev Tabs (w : World) : Prop := Lib.Utf8Tabs 1 2 w

theorem Tabs.below {w w' : World} (h : Tabs w) (hb : Below w.heap.size w w') : Tabs w' := by
  have key : ∀ (p : Addr) (v : Value), w.cell? p = some v → w'.cell? p = some v := fun p v hv => by rw [hb.cell (World.block_lt_of_cell? w _ hv)]; exact hv
  exact ⟨fun c hc => key _ _ (h.1 c hc), fun i hi => ⟨key _ _ (h.2 i hi).1, key _ _ (h.2 i hi).2⟩⟩

set_option maxHeartbeats 400000 in
theorem broken_any (c : Int) (u : ByteArray) (w : World) (hT : Tabs w) :
    Calls Tryz.prog 171 #[.int .i32 c, .string u] w fun e w' => e = .returned (.bool (decide (c = 65533) && decide ((Lib.decodeGo u).2 = 1))) ∧ Below w.heap.size w w' := by
  have C := hid (Tryz.utf8_DecodeRuneInString u w hT)
  obtain ⟨R, hR⟩ : ∃ R, (Lib.decodeGo u).1 = R := ⟨_, rfl⟩
  obtain ⟨K, hK⟩ : ∃ K, (Lib.decodeGo u).2 = K := ⟨_, rfl⟩
  rw [hR, hK] at C
  rw [hK]
  clear hT hR hK
  by_cases hc : c = 65533
  · subst hc
    go_enter Tryz.func171, Tryz.ntmps171
    go_wp2_with (go_at_call 191; refine C.out.mono ?_; rintro e w3 ⟨rfl, hb⟩)
    go_ret
    refine ⟨?_, hb⟩
    congr 2
    by_cases h1 : K = 1
    · subst h1; rfl
    · have : ¬ (K : Int) = 1 := by omega
      simp [h1, this]
  · have hc1 : (c != 65533) = true := by simpa using hc
    go_enter Tryz.func171, Tryz.ntmps171
    go_wp2
    go_ret
    exact ⟨by simp [hc], Below.refl _ _⟩

end Go.Proofs.YtabogkonklplcaaGreatDoor

/- chars.Check. -/
namespace Go.Proofs.YtabogkonklplcaaGreatDoor
open Go.RowKit Go.Lib
set_option linter.unusedSimpArgs false
set_option linter.unusedVariables false

abbrev flawV (n : Int) : Value := .iface 249 (.agg #[.int .i64 n])
/-- A text that a document takes: its characters. -/
def TakesM (m : Nat) (s : ByteArray) (l : List ByteArray) : Prop := charsOf s = some l ∧ l.length ≤ m
abbrev Takes (s : ByteArray) (l : List ByteArray) : Prop := TakesM 30 s l

def CheckPost (m : Nat) (s : ByteArray) (w : World) (e : Ending) (w' : World) : Prop :=
  Below w.heap.size w w' ∧ ((∃ l, TakesM m s l ∧ e = .returned .nilIface) ∨ ((∀ l, ¬ TakesM m s l) ∧ ∃ n, e = .returned (flawV n)))

theorem takes_end {m : Nat} {s : ByteArray} {l : List ByteArray} {p : Nat} (hc : charsOf s = (charsOf (s.extract p s.size)).map (l ++ ·)) (hp : ¬ p < s.size) (hl : l.length ≤ m) : TakesM m s l := by
  rw [charsAt_end s p (by omega)] at hc
  exact ⟨by rw [hc]; simp, hl⟩
theorem takes_full {m : Nat} {s : ByteArray} {l : List ByteArray} {p : Nat} (hc : charsOf s = (charsOf (s.extract p s.size)).map (l ++ ·)) (hp : p < s.size) (hl : l.length = m) : ∀ l', ¬ TakesM m s l' := by
  rintro l' ⟨h1, h2⟩
  by_cases hd : Utf8.decode s p = (65533, 1)
  · rw [charsAt_bad s p hp hd] at hc
    rw [hc] at h1; cases h1
  · rw [charsAt_good s p hp hd] at hc
    rw [hc] at h1
    simp only [Option.map_map, Option.map_eq_some_iff] at h1
    obtain ⟨m', _, h3⟩ := h1
    subst h3
    simp at h2
    omega
theorem takes_bad {m : Nat} {s : ByteArray} {l : List ByteArray} {p : Nat} (hc : charsOf s = (charsOf (s.extract p s.size)).map (l ++ ·)) (hp : p < s.size) (hd : Utf8.decode s p = (65533, 1)) : ∀ l', ¬ TakesM m s l' := by
  rintro l' ⟨h1, h2⟩
  rw [charsAt_bad s p hp hd] at hc
  rw [hc] at h1; cases h1
theorem takes_next {s : ByteArray} {l : List ByteArray} {p : Nat} (hc : charsOf s = (charsOf (s.extract p s.size)).map (l ++ ·)) (hp : p < s.size) (hd : Utf8.decode s p ≠ (65533, 1)) :
    charsOf s = (charsOf (s.extract (p + (Utf8.decode s p).2) s.size)).map ((l ++ [s.extract p (p + (Utf8.decode s p).2)]) ++ ·) := by
  rw [hc, charsAt_good s p hp hd, Option.map_map]
  congr 1
  funext x
  simp

def CheckInv (m : Nat) (s : ByteArray) (w : World) (c : Value) (wr : World) : Prop :=
  ∃ (p : Nat) (l : List ByteArray), c = .int .i64 l.length ∧ wr.heap[w.heap.size]? = some (.stringIter s p) ∧ Below w.heap.size w wr ∧ p ≤ s.size ∧ l.length ≤ m ∧ charsOf s = (charsOf (s.extract p s.size)).map (l ++ ·)

theorem brk_eq (s : ByteArray) (p : Nat) (h : p < s.size) : (decide (((Utf8.decode s p).1 : Int) = 65533) && decide ((Lib.decodeGo (s.extract p s.size)).2 = 1)) = decide (Utf8.decode s p = (65533, 1)) := by
  rw [decodeGo_tail s p h]
  generalize Utf8.decode s p = d
  obtain ⟨a, b⟩ := d
  simp only [Prod.mk.injEq]
  by_cases h1 : a = 65533 <;> by_cases h2 : b = 1 <;> simp [h1, h2] <;> omega

set_option maxRecDepth 20000 in
set_option maxHeartbeats 2000000 in
theorem check_any (m : Nat) (hm : m ≤ 30) (s : ByteArray) (w : World) (hs : s.size < lots) (hT : Tabs w) :
    Calls Tryz.prog 144 #[.string s, .int .i64 m] w (CheckPost m s w) := by
  have HT := hid hT
  clear hT
  go_enter Tryz.func144, Tryz.ntmps144
  go_wp2
  go_loopw [5] (fun c wr => CheckInv m s w c wr) (fun _ wr => s.size - wr.iterPos w.heap.size)
  case atStart =>
    exact ⟨0, [], rfl, heap_alloc_new w _, (Below.refl _ w).alloc (Nat.le_refl _) _, Nat.zero_le _, Nat.zero_le _, by simp⟩
  case round =>
    obtain ⟨p, l, rfl, hi, hb, hp, hl, hc⟩ := hrel
    have HC := hid hc
    clear hc
    by_cases hlt : p < s.size
    · have hnx := fun ty => Lib.run_next_any_at (P := Tryz.prog) _ w.heap.size s p ty hi hlt
      have B := hid (brk_eq s p hlt)
      have W := hid (width_le s p hlt)
      have F := hid (takes_full (m := m) HC.out hlt)
      have D := hid (takes_bad (m := m) HC.out hlt)
      have N := hid (takes_next HC.out hlt)
      obtain ⟨R, K, hRK⟩ : ∃ R K, Utf8.decode s p = (R, K) := ⟨_, _, rfl⟩
      rw [hRK] at hnx B W D N
      simp only at hnx B W
      clear hRK HC
      have hi2 := iterAt_heap _ _ s p (p + K) hi
      have hb2 := below_iterAt hb (Nat.le_refl _) s (p + K)
      have hpI : (p : Int) ≤ s.size := by omega
      by_cases h30 : l.length = m
      · have h30I : (m : Int) ≤ l.length := by omega
        have h30N : m ≤ l.length := by omega
        go_wp2
        go_ret
        exact ⟨hb2, .inr ⟨F.out h30, _, rfl⟩⟩
      · have h30I : ¬ (m : Int) ≤ l.length := by omega
        have h30N : ¬ m ≤ l.length := by omega
        have hT2 := HT.out.below hb2
        have C := hid (broken_any (R : Int) (s.extract p s.size) _ hT2)
        rw [B.out] at C
        clear hT2 B F
        by_cases hd : (R, K) = (65533, 1)
        · rw [decide_eq_true hd] at C
          have D2 := hid (D.out hd)
          clear N W D hd
          go_wp2_with (go_at_call 171; refine C.out.mono ?_; rintro e w3 ⟨rfl, hb3⟩)
          go_ret
          exact ⟨hb2.trans (hb3.mono hb2.size), .inr ⟨D2.out, _, rfl⟩⟩
        · rw [decide_eq_false hd] at C
          have N2 := hid (N.out hd)
          have W2 := hid (W.out hd)
          clear N W D hd
          go_wp2_with (go_at_call 171; refine C.out.mono ?_; rintro e w3 ⟨rfl, hb3⟩)
          have hw := W2.out
          have hi3 := (hb3.block w.heap.size (heap_lt hi2)).trans hi2
          go_roundw
          case rel =>
            refine ⟨p + K, l ++ [s.extract p (p + K)], ?_, hi3, hb2.trans (hb3.mono hb2.size), hw.2, by simp; omega, N2.out⟩
            first | simp | go_num
          case measure =>
            rw [iterPos_of hi3, iterPos_of hi]
            omega
    · have hnx := fun ty => Lib.run_next_end_at (P := Tryz.prog) _ w.heap.size s p ty hi hlt
      go_wp2
      go_ret
      exact ⟨hb, .inl ⟨l, takes_end HC.out hlt hl, rfl⟩⟩

end Go.Proofs.YtabogkonklplcaaGreatDoor

/- Closed facts for margin.fault: what a caller sees of an inner error: errors.As at concrete targets, in the manner of the guide's worked example ToyasAs. -/
namespace Go.Proofs.YtabogkonklplcaaGreatDoor
open Go.RowKit Go.Extern.Stop Go.Stop Go.Extern
set_option linter.unusedSimpArgs false
set_option linter.unusedVariables false

/-- A type's handle. -/
abbrev hdl (t : Nat) : Value := .pointer (some ⟨7, t, none⟩)

set_option maxRecDepth 20000 in
set_option maxHeartbeats 1000000 in
theorem fault_nil (w : World) :
    Calls Tryz.prog 46 #[.nilIface] w fun e w' => e = .returned .nilIface ∧ Below w.heap.size w w' := by
  go_enter Tryz.func46, Tryz.ntmps46
  go_wp2
  go_ret
  refine ⟨rfl, ?_⟩
  go_grown

/-! ### Closed facts on the model's entries for internal/reflectlite, at this program's types -/
theorem fa_valueOfR (t : Addr) (w : World) : (ReflectliteValue.unpack (.iface 146 (.pointer (some t)))).run Tryz.prog w
    = .ok (.agg #[.pointer (some ⟨7, 146, none⟩), .pointer (some ⟨w.heap.size, 0, none⟩), .int .u64 150]) (w.alloc (.cells #[.pointer (some t)] 146)) := by kernel_rfl
theorem fa_valueOfP (t : Addr) (w : World) : (ReflectliteValue.unpack (.iface 147 (.pointer (some t)))).run Tryz.prog w
    = .ok (.agg #[.pointer (some ⟨7, 147, none⟩), .pointer (some ⟨w.heap.size, 0, none⟩), .int .u64 150]) (w.alloc (.cells #[.pointer (some t)] 147)) := by kernel_rfl
theorem fa_typeR (a : Addr) (w : World) : (ReflectliteValue.methodAny (ReflectliteValue.valueError "reflectlite.Value.Type" 0) (fun t _ _ _ => ReflectliteType.toType t) #[.agg #[.pointer (some ⟨7, 146, none⟩), .pointer (some a), .int .u64 150]]).run Tryz.prog w
    = .ok (.iface 149 (.agg #[.pointer (some ⟨7, 146, none⟩)])) w := by kernel_rfl
theorem fa_typeP (a : Addr) (w : World) : (ReflectliteValue.methodAny (ReflectliteValue.valueError "reflectlite.Value.Type" 0) (fun t _ _ _ => ReflectliteType.toType t) #[.agg #[.pointer (some ⟨7, 147, none⟩), .pointer (some a), .int .u64 150]]).run Tryz.prog w
    = .ok (.iface 149 (.agg #[.pointer (some ⟨7, 147, none⟩)])) w := by kernel_rfl

theorem fa_kindPR (w : World) : ((ReflectliteType.abiMethod fun t => (fun a : Nat => Value.int IntKind.u8 (a : Int)) <$> Rtype.kind t) #[.pointer (some ⟨7, 146, none⟩)]).run Tryz.prog w = .ok (.int .u8 22) w := by kernel_rfl
theorem fa_kindPP (w : World) : ((ReflectliteType.abiMethod fun t => (fun a : Nat => Value.int IntKind.u8 (a : Int)) <$> Rtype.kind t) #[.pointer (some ⟨7, 147, none⟩)]).run Tryz.prog w = .ok (.int .u8 22) w := by kernel_rfl
theorem fa_kindR (w : World) : ((ReflectliteType.abiMethod fun t => (fun a : Nat => Value.int IntKind.u8 (a : Int)) <$> Rtype.kind t) #[.pointer (some ⟨7, 145, none⟩)]).run Tryz.prog w = .ok (.int .u8 25) w := by kernel_rfl
theorem fa_kindP (w : World) : ((ReflectliteType.abiMethod fun t => (fun a : Nat => Value.int IntKind.u8 (a : Int)) <$> Rtype.kind t) #[.pointer (some ⟨7, 30, none⟩)]).run Tryz.prog w = .ok (.int .u8 2) w := by kernel_rfl
theorem rlm (z : Sem Value) (f : TypeId → Addr → Nat → Nat → Sem Value) (v : Value) :
    ReflectliteValue.method z f #[v] = (do match ← ReflectliteValue.parts v with | none => z | some (t, a, fl) => f t a fl (fl % 32)) := rfl
theorem fa_partsR (a : Addr) (w : World) : (ReflectliteValue.parts (.agg #[.pointer (some ⟨7, 146, none⟩), .pointer (some a), .int .u64 150])).run Tryz.prog w = .ok (some (146, a, 150)) w := by kernel_rfl
theorem fa_isNilR (a p : Addr) (W : World) (ha : W.cell? a = some (.pointer (some p))) :
    (ReflectliteValue.method (ReflectliteValue.valueError "reflectlite.Value.IsNil" 0) ReflectliteValue.isNil #[.agg #[.pointer (some ⟨7, 146, none⟩), .pointer (some a), .int .u64 150]]).run Tryz.prog W = .ok (.bool false) W := by
  rw [rlm]
  simp only [Sem.run_bind, fa_partsR, Result.andThen]
  simp [ReflectliteValue.isNil, loadVar, isAgg, underlying, Tryz.underlying146, ha, Result.andThen]
theorem fa_elemR (w : World) : (ReflectliteType.method ReflectliteType.elem #[.agg #[.pointer (some ⟨7, 146, none⟩)]]).run Tryz.prog w = .ok (.iface 149 (.agg #[.pointer (some ⟨7, 145, none⟩)])) w := by kernel_rfl
theorem fa_implR (w : World) : (ReflectliteType.relation "Implements" ReflectliteType.implements_ #[.agg #[.pointer (some ⟨7, 145, none⟩)], .iface 149 (.agg #[.pointer (some ⟨7, 29, none⟩)])]).run Tryz.prog w = .ok (.bool true) w := by kernel_rfl
theorem fa_elemOfR (w : World) : (Rtype.elem? 146).run Tryz.prog w = .ok (some 145) w := by kernel_rfl
theorem fa_mkR (p : Addr) (w : World) : (ReflectliteValue.mk 145 p ReflectliteValue.flagAddr).run Tryz.prog w = .ok (.agg #[.pointer (some ⟨7, 145, none⟩), .pointer (some p), .int .u64 409]) w := by kernel_rfl
theorem fa_elemVR (a p : Addr) (W : World) (ha : W.cell? a = some (.pointer (some p))) :
    (ReflectliteValue.method (ReflectliteValue.valueError "reflectlite.Value.Elem" 0) ReflectliteValue.elem #[.agg #[.pointer (some ⟨7, 146, none⟩), .pointer (some a), .int .u64 150]]).run Tryz.prog W
      = .ok (.agg #[.pointer (some ⟨7, 145, none⟩), .pointer (some p), .int .u64 409]) W := by
  rw [rlm]
  simp only [Sem.run_bind, fa_partsR, Result.andThen]
  simp [ReflectliteValue.elem, loadVar, isAgg, underlying, Tryz.underlying146, ha, Result.andThen, fa_elemOfR, fa_mkR]
theorem fa_partsP (a : Addr) (w : World) : (ReflectliteValue.parts (.agg #[.pointer (some ⟨7, 147, none⟩), .pointer (some a), .int .u64 150])).run Tryz.prog w = .ok (some (147, a, 150)) w := by kernel_rfl
theorem fa_isNilP (a p : Addr) (W : World) (ha : W.cell? a = some (.pointer (some p))) :
    (ReflectliteValue.method (ReflectliteValue.valueError "reflectlite.Value.IsNil" 0) ReflectliteValue.isNil #[.agg #[.pointer (some ⟨7, 147, none⟩), .pointer (some a), .int .u64 150]]).run Tryz.prog W = .ok (.bool false) W := by
  rw [rlm]
  simp only [Sem.run_bind, fa_partsP, Result.andThen]
  simp [ReflectliteValue.isNil, loadVar, isAgg, underlying, Tryz.underlying147, ha, Result.andThen]
theorem fa_elemP (w : World) : (ReflectliteType.method ReflectliteType.elem #[.agg #[.pointer (some ⟨7, 147, none⟩)]]).run Tryz.prog w = .ok (.iface 149 (.agg #[.pointer (some ⟨7, 30, none⟩)])) w := by kernel_rfl
theorem fa_implP (w : World) : (ReflectliteType.relation "Implements" ReflectliteType.implements_ #[.agg #[.pointer (some ⟨7, 30, none⟩)], .iface 149 (.agg #[.pointer (some ⟨7, 29, none⟩)])]).run Tryz.prog w = .ok (.bool true) w := by kernel_rfl
theorem fa_elemOfP (w : World) : (Rtype.elem? 147).run Tryz.prog w = .ok (some 30) w := by kernel_rfl
theorem fa_mkP (p : Addr) (w : World) : (ReflectliteValue.mk 30 p ReflectliteValue.flagAddr).run Tryz.prog w = .ok (.agg #[.pointer (some ⟨7, 30, none⟩), .pointer (some p), .int .u64 386]) w := by kernel_rfl
theorem fa_elemVP (a p : Addr) (W : World) (ha : W.cell? a = some (.pointer (some p))) :
    (ReflectliteValue.method (ReflectliteValue.valueError "reflectlite.Value.Elem" 0) ReflectliteValue.elem #[.agg #[.pointer (some ⟨7, 147, none⟩), .pointer (some a), .int .u64 150]]).run Tryz.prog W
      = .ok (.agg #[.pointer (some ⟨7, 30, none⟩), .pointer (some p), .int .u64 386]) W := by
  rw [rlm]
  simp only [Sem.run_bind, fa_partsP, Result.andThen]
  simp [ReflectliteValue.elem, loadVar, isAgg, underlying, Tryz.underlying147, ha, Result.andThen, fa_elemOfP, fa_mkP]
theorem fa_typeOfR (v : Value) (w : World) : (ReflectliteType.typeOf #[.iface 145 v]).run Tryz.prog w = .ok (.iface 149 (.agg #[.pointer (some ⟨7, 145, none⟩)])) w := by kernel_rfl
theorem fa_typeOfP (v : Value) (w : World) : (ReflectliteType.typeOf #[.iface 30 v]).run Tryz.prog w = .ok (.iface 149 (.agg #[.pointer (some ⟨7, 30, none⟩)])) w := by kernel_rfl
theorem fa_typeOfF (v : Value) (w : World) : (ReflectliteType.typeOf #[.iface 249 v]).run Tryz.prog w = .ok (.iface 149 (.agg #[.pointer (some ⟨7, 249, none⟩)])) w := by kernel_rfl
theorem fa_asgRR (w : World) : (ReflectliteType.relation "AssignableTo" ReflectliteType.assignableTo #[.agg #[.pointer (some ⟨7, 145, none⟩)], .iface 149 (.agg #[.pointer (some ⟨7, 145, none⟩)])]).run Tryz.prog w = .ok (.bool true) w := by kernel_rfl
theorem fa_asgRP (w : World) : (ReflectliteType.relation "AssignableTo" ReflectliteType.assignableTo #[.agg #[.pointer (some ⟨7, 145, none⟩)], .iface 149 (.agg #[.pointer (some ⟨7, 30, none⟩)])]).run Tryz.prog w = .ok (.bool false) w := by kernel_rfl
theorem fa_asgPP (w : World) : (ReflectliteType.relation "AssignableTo" ReflectliteType.assignableTo #[.agg #[.pointer (some ⟨7, 30, none⟩)], .iface 149 (.agg #[.pointer (some ⟨7, 30, none⟩)])]).run Tryz.prog w = .ok (.bool true) w := by kernel_rfl
theorem fa_asgFP (w : World) : (ReflectliteType.relation "AssignableTo" ReflectliteType.assignableTo #[.agg #[.pointer (some ⟨7, 249, none⟩)], .iface 149 (.agg #[.pointer (some ⟨7, 30, none⟩)])]).run Tryz.prog w = .ok (.bool false) w := by kernel_rfl
theorem fa_valR (n : Int) (y : Value) (w : World) : (ReflectliteValue.unpack (.iface 145 (.agg #[.int .i64 n, y]))).run Tryz.prog w
    = .ok (.agg #[.pointer (some ⟨7, 145, none⟩), .pointer (some ⟨w.heap.size, 0, none⟩), .int .u64 153]) (w.alloc (.cells #[.int .i64 n, y] 145)) := by kernel_rfl
theorem fa_valP (y : Int) (w : World) : (ReflectliteValue.unpack (.iface 30 (.int .i64 y))).run Tryz.prog w
    = .ok (.agg #[.pointer (some ⟨7, 30, none⟩), .pointer (some ⟨w.heap.size, 0, none⟩), .int .u64 130]) (w.alloc (.cells #[.int .i64 y] 30)) := by kernel_rfl
theorem rls (v x : Value) : ReflectliteValue.set #[v, x] = (do
    let (some (dst, a, fl), some (src, b, _)) := (← ReflectliteValue.parts v, ← ReflectliteValue.parts x)
      | unsupported (.noEntry "extern/(internal/reflectlite.Value).Set.zeroValue")
    if fl / ReflectliteValue.flagAddr % 2 == 0 then unsupported (.noEntry "extern/(internal/reflectlite.Value).Set.unaddressable")
    let val ← loadVar src b
    if ← Rtype.directlyAssignable dst src then storeVar dst a val
    else if ← Rtype.implements dst src then
      if (← Rtype.kind src) == 20 then
        match val with
        | .nilIface => unsupported (.noEntry "extern/reflectlite: a nil value of one interface type handed on as a value of another")
        | _ => storeVar dst a val
      else storeVar dst a (.iface src val)
    else panicString ("reflectlite.Set: value of type " ++ (← Rtype.spelt src) ++ " is not assignable to type " ++ (← Rtype.spelt dst))
    pure (.tuple #[])) := rfl
theorem fa_partsRa (a : Addr) (w : World) : (ReflectliteValue.parts (.agg #[.pointer (some ⟨7, 145, none⟩), .pointer (some a), .int .u64 409])).run Tryz.prog w = .ok (some (145, a, 409)) w := by kernel_rfl
theorem fa_partsRb (a : Addr) (w : World) : (ReflectliteValue.parts (.agg #[.pointer (some ⟨7, 145, none⟩), .pointer (some a), .int .u64 153])).run Tryz.prog w = .ok (some (145, a, 153)) w := by kernel_rfl
theorem fa_partsPa (a : Addr) (w : World) : (ReflectliteValue.parts (.agg #[.pointer (some ⟨7, 30, none⟩), .pointer (some a), .int .u64 386])).run Tryz.prog w = .ok (some (30, a, 386)) w := by kernel_rfl
theorem fa_partsPb (a : Addr) (w : World) : (ReflectliteValue.parts (.agg #[.pointer (some ⟨7, 30, none⟩), .pointer (some a), .int .u64 130])).run Tryz.prog w = .ok (some (30, a, 130)) w := by kernel_rfl
theorem fa_dirR (w : World) : (Rtype.directlyAssignable 145 145).run Tryz.prog w = .ok true w := by kernel_rfl
theorem fa_dirP (w : World) : (Rtype.directlyAssignable 30 30).run Tryz.prog w = .ok true w := by kernel_rfl
/-- (Value).Set of a Problem. -/
theorem fa_setP (ta b : Addr) (y : Int) (old : Value) (W : World) (hb : W.cell? b = some (.int .i64 y)) (ht : W.cell? ta = some old) (hf : W.frozen? ta = false) :
    (ReflectliteValue.set #[.agg #[.pointer (some ⟨7, 30, none⟩), .pointer (some ta), .int .u64 386], .agg #[.pointer (some ⟨7, 30, none⟩), .pointer (some b), .int .u64 130]]).run Tryz.prog W
      = .ok (.tuple #[]) (W.setCell ta (.int .i64 y)) := by
  rw [rls]
  simp only [Sem.run_bind, fa_partsPa, fa_partsPb, Result.andThen]
  simp [ReflectliteValue.flagAddr, loadVar, isAgg, underlying, Tryz.underlying30, hb, Result.andThen, fa_dirP, storeVar, Value.cells, storeCells, Addr.add]
  rw [run_store Tryz.prog W ta _ _ (by rfl)]
  simp [ht, hf]
end Go.Proofs.YtabogkonklplcaaGreatDoor
