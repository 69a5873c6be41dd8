import Derived.Test.YtabogkonklplcaaGreatDoorV09
import Derived.Test.YtabogkonklplcaaGreatDoorV08
import Derived.WalkSmall
import Derived.LoopTactic
import Derived.Laws.RangeString
import Derived.Laws.RangeAny
import Derived.Shelf.Spec.BytesIndexFunc
import Derived.Deep.DeepFit
import Derived.Test.YtabogkonklplcaaGreatDoorV07
import Derived.Test.YtabogkonklplcaaGreatDoorV04
import Derived.Test.YtabogkonklplcaaGreatDoorV05
import Derived.Deep.RegionLaw
import Derived.Deep.Cut
import Derived.Deep.CutRange

namespace Go.Proofs.YtabogkonklplcaaGreatDoor
open Go.RowKit Go.Lib
set_option linter.unusedSimpArgs false
set_option linter.unusedVariables false
abbrev Tabs (w : World) : Prop := Lib.Utf8Tabs 1 2 w
theorem Tabs.below {w w' : World} (h : Tabs w) (hb : Below w.heap.size w w') : Tabs w' := by
  have key : ∀ (p : Addr) (v : Value), w.cell? p = some v → w'.cell? p = some v := fun p v hv => by rw [hb.cell (World.block_lt_of_cell? w _ hv)]; exact hv
  exact ⟨fun c hc => key _ _ (h.1 c hc), fun i hi => ⟨key _ _ (h.2 i hi).1, key _ _ (h.2 i hi).2⟩⟩
set_option maxHeartbeats 400000 in
theorem broken_any (c : Int) (u : ByteArray) (w : World) (hT : Tabs w) :
    Calls Tryz.prog 171 #[.int .i32 c, .string u] w fun e w' => e = .returned (.bool (decide (c = 65533) && decide ((Lib.decodeGo u).2 = 1))) ∧ Below w.heap.size w w' := by
  have C := hid (Tryz.utf8_DecodeRuneInString u w hT)
  obtain ⟨R, hR⟩ : ∃ R, (Lib.decodeGo u).1 = R := ⟨_, rfl⟩
  obtain ⟨K, hK⟩ : ∃ K, (Lib.decodeGo u).2 = K := ⟨_, rfl⟩
  rw [hR, hK] at C
  rw [hK]
  clear hT hR hK
  by_cases hc : c = 65533
  · subst hc
    go_enter Tryz.func171, Tryz.ntmps171
    go_wp2_with (go_at_call 191; refine C.out.mono ?_; rintro e w3 ⟨rfl, hb⟩)
    go_ret
    refine ⟨?_, hb⟩
    congr 2
    by_cases h1 : K = 1
    · subst h1; rfl
    · have : ¬ (K : Int) = 1 := by omega
      simp [h1, this]
  · have hc1 : (c != 65533) = true := by simpa using hc
    go_enter Tryz.func171, Tryz.ntmps171
    go_wp2
    go_ret
    exact ⟨by simp [hc], Below.refl _ _⟩
end Go.Proofs.YtabogkonklplcaaGreatDoor

namespace Go.Proofs.YtabogkonklplcaaGreatDoor
open Go.RowKit Go.Lib
set_option linter.unusedSimpArgs false
set_option linter.unusedVariables false
abbrev flawV (n : Int) : Value := .iface 249 (.agg #[.int .i64 n])
def TakesM (m : Nat) (s : ByteArray) (l : List ByteArray) : Prop := charsOf s = some l ∧ l.length ≤ m
abbrev Takes (s : ByteArray) (l : List ByteArray) : Prop := TakesM 30 s l
def CheckPost (m : Nat) (s : ByteArray) (w : World) (e : Ending) (w' : World) : Prop :=
  Below w.heap.size w w' ∧ ((∃ l, TakesM m s l ∧ e = .returned .nilIface) ∨ ((∀ l, ¬ TakesM m s l) ∧ ∃ n, e = .returned (flawV n)))
theorem takes_end {m : Nat} {s : ByteArray} {l : List ByteArray} {p : Nat} (hc : charsOf s = (charsOf (s.extract p s.size)).map (l ++ ·)) (hp : ¬ p < s.size) (hl : l.length ≤ m) : TakesM m s l := by
  rw [charsAt_end s p (by omega)] at hc
  exact ⟨by rw [hc]; simp, hl⟩
theorem takes_full {m : Nat} {s : ByteArray} {l : List ByteArray} {p : Nat} (hc : charsOf s = (charsOf (s.extract p s.size)).map (l ++ ·)) (hp : p < s.size) (hl : l.length = m) : ∀ l', ¬ TakesM m s l' := by
  rintro l' ⟨h1, h2⟩
  by_cases hd : Utf8.decode s p = (65533, 1)
  · rw [charsAt_bad s p hp hd] at hc
    rw [hc] at h1; cases h1
  · rw [charsAt_good s p hp hd] at hc
    rw [hc] at h1
    simp only [Option.map_map, Option.map_eq_some_iff] at h1
    obtain ⟨m', _, h3⟩ := h1
    subst h3
    simp at h2
    omega
theorem takes_bad {m : Nat} {s : ByteArray} {l : List ByteArray} {p : Nat} (hc : charsOf s = (charsOf (s.extract p s.size)).map (l ++ ·)) (hp : p < s.size) (hd : Utf8.decode s p = (65533, 1)) : ∀ l', ¬ TakesM m s l' := by
  rintro l' ⟨h1, h2⟩
  rw [charsAt_bad s p hp hd] at hc
  rw [hc] at h1; cases h1
theorem takes_next {s : ByteArray} {l : List ByteArray} {p : Nat} (hc : charsOf s = (charsOf (s.extract p s.size)).map (l ++ ·)) (hp : p < s.size) (hd : Utf8.decode s p ≠ (65533, 1)) :
    charsOf s = (charsOf (s.extract (p + (Utf8.decode s p).2) s.size)).map ((l ++ [s.extract p (p + (Utf8.decode s p).2)]) ++ ·) := by
  rw [hc, charsAt_good s p hp hd, Option.map_map]
  congr 1
  funext x
  simp
def CheckInv (m : Nat) (s : ByteArray) (w : World) (c : Value) (wr : World) : Prop :=
  ∃ (p : Nat) (l : List ByteArray), c = .int .i64 l.length ∧ wr.heap[w.heap.size]? = some (.stringIter s p) ∧ Below w.heap.size w wr ∧ p ≤ s.size ∧ l.length ≤ m ∧ charsOf s = (charsOf (s.extract p s.size)).map (l ++ ·)
theorem brk_eq (s : ByteArray) (p : Nat) (h : p < s.size) : (decide (((Utf8.decode s p).1 : Int) = 65533) && decide ((Lib.decodeGo (s.extract p s.size)).2 = 1)) = decide (Utf8.decode s p = (65533, 1)) := by
  rw [decodeGo_tail s p h]
  generalize Utf8.decode s p = d
  obtain ⟨a, b⟩ := d
  simp only [Prod.mk.injEq]
  by_cases h1 : a = 65533 <;> by_cases h2 : b = 1 <;> simp [h1, h2] <;> omega
set_option maxRecDepth 20000 in
set_option maxHeartbeats 2000000 in
theorem check_any (m : Nat) (hm : m ≤ 30) (s : ByteArray) (w : World) (hs : s.size < lots) (hT : Tabs w) :
    Calls Tryz.prog 144 #[.string s, .int .i64 m] w (CheckPost m s w) := by
  have HT := hid hT
  clear hT
  go_enter Tryz.func144, Tryz.ntmps144
  go_wp2
  go_loopw [5] (fun c wr => CheckInv m s w c wr) (fun _ wr => s.size - wr.iterPos w.heap.size)
  case atStart =>
    exact ⟨0, [], rfl, heap_alloc_new w _, (Below.refl _ w).alloc (Nat.le_refl _) _, Nat.zero_le _, Nat.zero_le _, by simp⟩
  case round =>
    obtain ⟨p, l, rfl, hi, hb, hp, hl, hc⟩ := hrel
    have HC := hid hc
    clear hc
    by_cases hlt : p < s.size
    · have hnx := fun ty => Lib.run_next_any_at (P := Tryz.prog) _ w.heap.size s p ty hi hlt
      have B := hid (brk_eq s p hlt)
      have W := hid (width_le s p hlt)
      have F := hid (takes_full (m := m) HC.out hlt)
      have D := hid (takes_bad (m := m) HC.out hlt)
      have N := hid (takes_next HC.out hlt)
      obtain ⟨R, K, hRK⟩ : ∃ R K, Utf8.decode s p = (R, K) := ⟨_, _, rfl⟩
      rw [hRK] at hnx B W D N
      simp only at hnx B W
      clear hRK HC
      have hi2 := iterAt_heap _ _ s p (p + K) hi
      have hb2 := below_iterAt hb (Nat.le_refl _) s (p + K)
      have hpI : (p : Int) ≤ s.size := by omega
      by_cases h30 : l.length = m
      · have h30I : (m : Int) ≤ l.length := by omega
        have h30N : m ≤ l.length := by omega
        go_wp2
        go_ret
        exact ⟨hb2, .inr ⟨F.out h30, _, rfl⟩⟩
      · have h30I : ¬ (m : Int) ≤ l.length := by omega
        have h30N : ¬ m ≤ l.length := by omega
        have hT2 := HT.out.below hb2
        have C := hid (broken_any (R : Int) (s.extract p s.size) _ hT2)
        rw [B.out] at C
        clear hT2 B F
        by_cases hd : (R, K) = (65533, 1)
        · rw [decide_eq_true hd] at C
          have D2 := hid (D.out hd)
          clear N W D hd
          go_wp2_with (go_at_call 171; refine C.out.mono ?_; rintro e w3 ⟨rfl, hb3⟩)
          go_ret
          exact ⟨hb2.trans (hb3.mono hb2.size), .inr ⟨D2.out, _, rfl⟩⟩
        · rw [decide_eq_false hd] at C
          have N2 := hid (N.out hd)
          have W2 := hid (W.out hd)
          clear N W D hd
          go_wp2_with (go_at_call 171; refine C.out.mono ?_; rintro e w3 ⟨rfl, hb3⟩)
          have hw := W2.out
          have hi3 := (hb3.block w.heap.size (heap_lt hi2)).trans hi2
          go_roundw
          case rel =>
            refine ⟨p + K, l ++ [s.extract p (p + K)], ?_, hi3, hb2.trans (hb3.mono hb2.size), hw.2, by simp; omega, N2.out⟩
            first | simp | go_num
          case measure =>
            rw [iterPos_of hi3, iterPos_of hi]
            omega
    · have hnx := fun ty => Lib.run_next_end_at (P := Tryz.prog) _ w.heap.size s p ty hi hlt
      go_wp2
      go_ret
      exact ⟨hb, .inl ⟨l, takes_end HC.out hlt hl, rfl⟩⟩
end Go.Proofs.YtabogkonklplcaaGreatDoor

namespace Go.Proofs.YtabogkonklplcaaGreatDoor
open Go.RowKit
set_option linter.unusedSimpArgs false
set_option linter.unusedVariables false
theorem Tryz.info164 : (Tryz.prog.info? 164).map (fun i => (i.zero, i.size, i.bytes)) = some (some (.agg #[.int .i64 0, .bool false, .slice none 0 0, .string ⟨#[]⟩]), 4, 56) := by kernel_rfl
abbrev refusalV (n y : Int) : Value := .iface 145 (.agg #[.int .i64 n, .iface 30 (.int .i64 y)])
set_option maxHeartbeats 400000 in
theorem tnew_any (w : World) :
    Calls Tryz.prog 71 #[] w fun e w' => ∃ bf, e = .returned (.pointer (some ⟨bf, 0, none⟩)) ∧ Below w.heap.size w w' ∧ PFor w' (fun b => w.heap.size ≤ b) bf [rootNd] := by
  go_enter Tryz.func71, Tryz.ntmps71
  go_wp2
  go_ret
  refine ⟨w.heap.size + 1, rfl, ((Below.refl _ w).alloc (Nat.le_refl _) _).alloc (by simp) _, w.heap.size, 1, [⟨-1, false, .slice none 0 0, ⟨#[]⟩⟩], ?_⟩
  have e1 := heap_alloc_new (w.alloc (.cells #[.int .i64 (-1), .bool false, .slice none 0 0, .string ⟨#[]⟩] 164)) (.cells #[.slice (some ⟨w.heap.size, 0, none⟩) 1 1] 167)
  refine ⟨by simpa using e1, ?_, by simp, by simp, by simp, rfl, ?_, ?_⟩
  · have := (World.ownsRow_lit (base := 0) (e := 164) (size := 4) w #[.int .i64 (-1), .bool false, .slice none 0 0, .string ⟨#[]⟩] 1 (Nat.zero_le _) (by decide) rfl).alloc (.cells #[.slice (some ⟨w.heap.size, 0, none⟩) 1 1] 167)
    simpa [PN.cells] using this
  · intro i r x h1 h2
    cases i with
    | zero =>
      simp at h1 h2
      subst h1 h2
      exact ⟨rfl, rfl, rfl, World.ownsRow_nil _ _ _ _, fun b e => (by cases e)⟩
    | succ i => simp at h1
  · intro i j r r' hij h1 h2 b e
    cases i with
    | zero => simp at h1; subst h1; cases e
    | succ i => simp at h1
section
variable {w : World} {F : Nat → Prop} {bf bn cap : Nat} {pn : List PN} {s : List Nd}
set_option maxHeartbeats 400000 in
theorem find_no (hD : PForAt w F bf bn cap pn s) (k : Int) (h : isB s k = false) :
    Calls Tryz.prog 87 #[.pointer (some ⟨bf, 0, none⟩), .int .i64 k] w fun e w' => e = .returned (refusalV k 1) ∧ w' = w := by
  have h0 := hD.nodesCell
  have hk : ¬ (0 ≤ k ∧ k < s.length) := by simpa [isB] using h
  clear hD h
  by_cases h1 : k < 0
  · go_enter Tryz.func87, Tryz.ntmps87
    go_wp2
    go_ret
    exact ⟨rfl, rfl⟩
  · have h2 : (s.length : Int) ≤ k := by omega
    have h1d : decide (k < 0) = false := decide_eq_false h1
    go_enter Tryz.func87, Tryz.ntmps87
    go_wp2
    go_ret
    exact ⟨rfl, rfl⟩
set_option maxHeartbeats 400000 in
theorem find_yes (hD : PForAt w F bf bn cap pn s) (k : Int) (h : isB s k = true) :
    Calls Tryz.prog 87 #[.pointer (some ⟨bf, 0, none⟩), .int .i64 k] w fun e w' => e = .returned .nilIface ∧ w' = w := by
  have h0 := hD.nodesCell
  obtain ⟨h1, h2⟩ := isB_true h
  have h1d : decide (k < 0) = false := decide_eq_false (by omega)
  have h2d : decide ((s.length : Int) ≤ k) = false := decide_eq_false (by omega)
  clear hD h
  go_enter Tryz.func87, Tryz.ntmps87
  go_wp2
  go_ret
  exact ⟨rfl, rfl⟩
set_option maxHeartbeats 400000 in
theorem add_full (hD : PForAt w F bf bn cap pn s) (h40 : 40 ≤ s.length) (p : Int) (t : Bool) (ch : ByteArray) (q : Int) :
    Calls Tryz.prog 143 #[.pointer (some ⟨bf, 0, none⟩), .agg #[.int .i64 p, .bool t, .slice none 0 0, .string ch], .int .i64 q] w fun e w' => e = .returned (.tuple #[.int .i64 0, refusalV q 7]) ∧ Below w.heap.size w w' := by
  have h0 := hD.nodesCell
  have hl := hD.lt.1
  have h1 : (40 : Int) ≤ s.length := by omega
  clear hD
  go_enter Tryz.func143, Tryz.ntmps143
  go_wp2
  go_ret2
  refine ⟨rfl, ?_⟩
  go_grown
set_option maxRecDepth 20000 in
set_option maxHeartbeats 2000000 in
theorem add_some (hD : PForAt w F bf bn cap pn s) (h40 : s.length < 40) (x : Nd) (hp : x.ks = []) (q : Int) :
    Calls Tryz.prog 143 #[.pointer (some ⟨bf, 0, none⟩), .agg #[.int .i64 x.p, .bool x.t, .slice none 0 0, .string (catB x.cs)], .int .i64 q] w fun e w' => e = .returned (.tuple #[.int .i64 s.length, .nilIface]) ∧ Keeps F w w' ∧ PFor w' (fun b => F b ∨ w.heap.size ≤ b) bf (s ++ [x]) := by
  obtain ⟨i0, hi, hz0, hz1, hz2⟩ := info_parts Tryz.info164
  have h0 := hD.nodesCell
  have hlt := hD.lt
  have hl : bf < w.heap.size := hlt.1
  have h1 : ¬ (40 : Int) ≤ s.length := by omega
  have hlen := hD.len
  have HD := hid hD.narrow
  clear hD
  have HD2 := hid (HD.out.below (w' := ((w.alloc (.cells #[.int .i64 x.p, .bool x.t, .slice none 0 0, .string (catB x.cs)] 164)).alloc (.cells #[.int .i64 x.p, .bool x.t, .slice none 0 0, .string (catB x.cs)] 164)).drew) ((((Below.refl _ w).alloc (Nat.le_refl _) _).alloc (by simp) _).drew))
  have HROW : Hid (((w.alloc (.cells #[.int .i64 x.p, .bool x.t, .slice none 0 0, .string (catB x.cs)] 164)).alloc (.cells #[.int .i64 x.p, .bool x.t, .slice none 0 0, .string (catB x.cs)] 164)).drew.ownsRow 0 164 4 (.slice (some ⟨bn, 0, none⟩) s.length cap) s.length (pn.flatMap PN.cells)) := by rw [← hlen]; exact HD2.out.nodes
  have src : ∀ (j : Nat) (u : Value), [Value.int .i64 x.p, .bool x.t, .slice none 0 0, .string (catB x.cs)][j]? = some u → ((w.alloc (.cells #[.int .i64 x.p, .bool x.t, .slice none 0 0, .string (catB x.cs)] 164)).alloc (.cells #[.int .i64 x.p, .bool x.t, .slice none 0 0, .string (catB x.cs)] 164)).drew.cell? ((⟨w.heap.size + 1, 0, none⟩ : Addr).add j) = some u := by
    have := World.news_of_block (heap_alloc_new (w.alloc (.cells #[.int .i64 x.p, .bool x.t, .slice none 0 0, .string (catB x.cs)] 164)) (.cells #[.int .i64 x.p, .bool x.t, .slice none 0 0, .string (catB x.cs)] 164))
    simpa using this
  have SRC := hid src
  clear src
  go_enter Tryz.func143, Tryz.ntmps143
  go_wp2
  go_cut [] from 8 to 33 (fun wc => ∃ g cap' pn2, PForAt wc (fun b => (F b ∧ b < w.heap.size) ∨ w.heap.size + 1 ≤ b) bf g cap' pn2 (s ++ [x]) ∧ Keeps F w wc)
  case first =>
    go_region_law ((refine step_append_lies _ rfl (.tmp 22) (.tmp 24) 165 rfl 0 164 i0 _ 4 56 Tryz.underlying165 hi hz0 hz1 hz2 rfl (by decide) (.slice (some ⟨bn, 0, none⟩) s.length cap) s.length _ (by simp [Act.eval, Act.put]) HROW.out ⟨w.heap.size + 1, 0, none⟩ 1 1 [.int .i64 x.p, .bool x.t, .slice none 0 0, .string (catB x.cs)] (by simp [Act.eval, Act.put]) rfl SRC.out (by simp [Value.oneCell']) (by decide) (by unfold maxLen; omega) (by omega) (Nat.zero_le _) (w.heap.size + 1 + 1) (by simp) ?_
                    intro g cap' w1 ho (hg : World.grownBy _ w1 (some bn)) (hgn : some bn = some g ∨ _) _
                    have hd1 := (hg.block bf (by simp only [World.size_drew, World.size_alloc]; omega) (by simpa using HD2.out.ne)).trans HD2.out.forest
                    have hc1 : w1.cell? ⟨bf, 0, none⟩ = some (.slice (some ⟨bn, 0, none⟩) pn.length cap) := cell_of_heap hd1 0
                    have hf1 := frozen_of_heap hd1 0
                    have HG := hid hg
                    have HO := hid ho
                    have HN := hid hgn
                    clear hd1 hg ho hgn))
    all_goals
      go_wp2_with fail
      go_meet
      case rel =>
        have ho : w1.ownsRow 0 164 4 (.slice (some ⟨g, 0, none⟩) (pn.length + 1) cap') (pn.length + 1) (pn.flatMap PN.cells ++ PN.cells ⟨x.p, x.t, .slice none 0 0, catB x.cs⟩) := by rw [hlen]; exact HO.out
        have hp2 := HD2.out.pushed (B := w.heap.size + 1) (x := x) (by simp only [World.size_drew, World.size_alloc]; omega) HG.out ho (by rcases HN.out with e | e; exact .inl (by cases e; rfl); exact .inr (by simpa using e)) ⟨rfl, rfl, rfl, rfl, hp⟩
        rw [hlen] at hp2
        have hk0 : Keeps F w w1 := ((((Keeps.refl F w).alloc _).alloc _).drew).trans (Keeps.grown HG.out (fun k e => by cases e; exact .inl (.inl HD.out.Fn.1)))
        exact ⟨g, cap', _, hp2, hk0.setCell (p := ⟨bf, 0, none⟩) (.inl HD.out.Ff.1) _⟩
  case rest =>
    obtain ⟨g, cap', pn2, hD2, hk2⟩ := hcut
    have h02 := hD2.nodesCell
    rw [List.length_append] at h02
    have HD3 := hid hD2
    have HK2 := hid hk2
    clear hD2 hk2
    go_wp2
    go_ret2
    refine ⟨by simp, HK2.out, g, cap', pn2, HD3.out.wider ?_⟩
    intro b hb
    rcases hb with hb | hb
    · exact .inl hb.1
    · exact .inr (by omega)
end
end Go.Proofs.YtabogkonklplcaaGreatDoor

namespace Go.Proofs.YtabogkonklplcaaGreatDoor
open Go.RowKit
set_option linter.unusedSimpArgs false
set_option linter.unusedVariables false
def Hold (b : Nat) : Prop := b = 0 ∨ b = 1 ∨ b = 2
def GG (w : World) : Prop := Glob w ∧ Tabs w
theorem GG.lt {w : World} (h : GG w) {b : Nat} (hb : Hold b) : b < w.heap.size := by
  rcases hb with rfl | rfl | rfl
  · exact World.block_lt_of_cell? w _ h.1
  · exact World.block_lt_of_cell? w _ (h.2.1 0 (by decide))
  · exact World.block_lt_of_cell? w _ (h.2.2 0 (by decide)).1
theorem GG.keeps {F : Nat → Prop} {w w' : World} (h : GG w) (hk : Keeps F w w') (hF : ∀ b, Hold b → ¬ F b) : GG w' :=
  ⟨hk.cell h.1 (hF _ (.inl rfl)), fun c hc => hk.cell (h.2.1 c hc) (hF _ (.inr (.inl rfl))), fun i hi => ⟨hk.cell (h.2.2 i hi).1 (hF _ (.inr (.inr rfl))), hk.cell (h.2.2 i hi).2 (hF _ (.inr (.inr rfl)))⟩⟩
theorem GG.below {w w' : World} (h : GG w) (hb : Below w.heap.size w w') : GG w' := h.keeps (Keeps.of_below (F := fun _ => False) hb) (fun _ _ e => e)
def inner (F : Nat → Prop) (bx bl : Nat) (sv : Value) : Nat → Prop := fun b => F b ∧ b ≠ bx ∧ b ≠ bl ∧ sv.ownBlock ≠ some b ∧ ¬ Hold b
theorem PFor.keeps {w w' : World} {F G : Nat → Prop} {bf : Nat} {s : List Nd} (h : PFor w F bf s) (hk : Keeps G w w') (hG : ∀ b, F b → ¬ G b) : PFor w' F bf s := by
  obtain ⟨bn, cap, pn, h⟩ := h
  exact ⟨bn, cap, pn, h.keeps hk hG⟩
theorem PFor.wider {w : World} {F G : Nat → Prop} {bf : Nat} {s : List Nd} (h : PFor w F bf s) (hG : ∀ b, F b → G b) : PFor w G bf s := by
  obtain ⟨bn, cap, pn, h⟩ := h
  exact ⟨bn, cap, pn, h.wider hG⟩
theorem PFor.narrow {w : World} {F : Nat → Prop} {bf : Nat} {s : List Nd} (h : PFor w F bf s) : PFor w (fun b => F b ∧ b < w.heap.size) bf s := by
  obtain ⟨bn, cap, pn, h⟩ := h
  exact ⟨bn, cap, pn, h.narrow⟩
theorem PFor.below {w w' : World} {F : Nat → Prop} {bf : Nat} {s : List Nd} (h : PFor w F bf s) (hb : Below w.heap.size w w') : PFor w' F bf s :=
  h.keeps (Keeps.of_below (F := fun _ => False) hb) (fun _ _ e => e)
structure PDocAt (w : World) (F : Nat → Prop) (bx bf bl : Nat) (sv : Value) (st : St) : Prop where
  Fx : F bx
  Hx : ¬ Hold bx
  doc : w.heap[bx]? = some (.cells #[ptr bf, ptr bl] 94 (0, 0))
  Fl : F bl
  Hl : ¬ Hold bl
  ne : bl ≠ bx
  list : w.heap[bl]? = some (.cells #[ptr bf, sv] 176 (0, 0))
  spans : w.ownsRow 0 79 4 sv st.r.length (st.r.flatMap Sp.cells)
  apart : ∀ b, sv.ownBlock = some b → F b ∧ ¬ Hold b ∧ b ≠ bx ∧ b ≠ bl
  nodes : PFor w (inner F bx bl sv) bf st.n
def PLies (w : World) (F : Nat → Prop) (bx : Nat) (st : St) : Prop := ∃ bf bl sv, PDocAt w F bx bf bl sv st
def PDoc : PDT where
  lies := PLies
  ok := fun st => WF st.n ∧ st.r = []
theorem PLies.keeps {w w' : World} {F G : Nat → Prop} {b : Nat} {s : St} (h : PLies w F b s) (hk : Keeps G w w') (hG : ∀ b, F b → ¬ G b) : PLies w' F b s := by
  obtain ⟨bf, bl, sv, h⟩ := h
  exact ⟨bf, bl, sv, h.Fx, h.Hx, by rw [hk.block b (heap_lt h.doc) (hG b h.Fx)]; exact h.doc, h.Fl, h.Hl, h.ne, by rw [hk.block bl (heap_lt h.list) (hG bl h.Fl)]; exact h.list,
    hk.row h.spans (fun b e => hG b (h.apart b e).1), h.apart, h.nodes.keeps hk (fun b hb => hG b hb.1)⟩
theorem PLies.wider {w : World} {F G : Nat → Prop} {b : Nat} {s : St} (h : PLies w F b s) (hG : ∀ b, F b → G b) : PLies w G b s := by
  obtain ⟨bf, bl, sv, h⟩ := h
  exact ⟨bf, bl, sv, hG _ h.Fx, h.Hx, h.doc, hG _ h.Fl, h.Hl, h.ne, h.list, h.spans, fun b e => ⟨hG _ (h.apart b e).1, (h.apart b e).2⟩, h.nodes.wider (fun b hb => ⟨hG _ hb.1, hb.2⟩)⟩
theorem PLies.narrow {w : World} {F : Nat → Prop} {b : Nat} {s : St} (h : PLies w F b s) : PLies w (fun k => F k ∧ k < w.heap.size) b s := by
  obtain ⟨bf, bl, sv, h⟩ := h
  exact ⟨bf, bl, sv, ⟨h.Fx, heap_lt h.doc⟩, h.Hx, h.doc, ⟨h.Fl, heap_lt h.list⟩, h.Hl, h.ne, h.list, h.spans, fun b e => ⟨⟨(h.apart b e).1, (h.spans.lt b e).2⟩, (h.apart b e).2⟩, h.nodes.narrow.wider (fun b hb => ⟨⟨hb.1.1, hb.2⟩, hb.1.2⟩)⟩
theorem rnew_list (bf : Nat) (w : World) : Calls Tryz.prog 72 #[ptr bf] w fun e w' => e = .returned (ptr w.heap.size) ∧ w' = w.alloc (.cells #[ptr bf, .slice none 0 0] 176) := by
  go_enter Tryz.func72, Tryz.ntmps72
  go_wp2
  go_ret
  exact ⟨rfl, rfl⟩
set_option maxHeartbeats 400000 in
theorem mnew_ok : NewOk PDoc GG := by
  intro w hg
  have C := hid (tnew_any w)
  have C2 := hid rnew_list
  go_enter Tryz.func40, Tryz.ntmps40
  go_wp2_with first
    | (go_at_call 71; refine C.out.mono ?_; rintro e w1 ⟨bf, rfl, hb, hf⟩)
    | (go_at_call 72; refine (C2.out _ _).mono ?_; rintro e w2 ⟨rfl, rfl⟩)
  go_ret
  have hsz := hb.size
  have hb1 : Below w1.heap.size w1 (w1.alloc (.cells #[ptr bf, .slice none 0 0] 176)) := (Below.refl _ w1).alloc (Nat.le_refl _) _
  have hb2 : Below w1.heap.size w1 ((w1.alloc (.cells #[ptr bf, .slice none 0 0] 176)).alloc (.cells #[ptr bf, ptr w1.heap.size] 94)) := hb1.alloc (by simp) _
  have hn : ∀ b, w.heap.size ≤ b → ¬ Hold b := fun b hle h => by have := hg.lt h; omega
  have hd := heap_alloc_new (w1.alloc (.cells #[ptr bf, .slice none 0 0] 176)) (.cells #[ptr bf, ptr w1.heap.size] 94)
  refine ⟨w1.heap.size + 1, by simp, hb.trans (hb2.mono hsz), bf, w1.heap.size, .slice none 0 0, ⟨by omega, hn _ (by omega), by simpa using hd, hsz, hn _ hsz, by omega, ?_, World.ownsRow_nil _ _ _ _, (fun b e => by cases e), ?_⟩⟩
  · rw [Below.heap_alloc _ _ _ (by simp), heap_alloc_new]
  · exact (hf.narrow.below hb2).wider (fun b hx => ⟨hx.1, by have := hx.2; omega, by have := hx.2; omega, (fun e => by cases e), hn b hx.1⟩)
def PLPost (F : Nat → Prop) (w : World) (bx : Nat) (s' : St) (v : Value) (e : Ending) (w' : World) : Prop := e = .returned v ∧ Keeps F w w' ∧ PLies w' (grow F w) bx s'
def TPost (F : Nat → Prop) (w : World) (bf : Nat) (s' : List Nd) (v : Value) (e : Ending) (w' : World) : Prop := e = .returned v ∧ Keeps F w w' ∧ PFor w' (grow F w) bf s'
def ErrOf (v : Value) (a y : Int) : Prop := ∀ w, Glob w → Calls Tryz.prog 46 #[v] w fun e w' => e = .returned (errV a y) ∧ Below w.heap.size w w'
theorem errOf_nil (a : Int) : ErrOf .nilIface a 0 := fun w hg => (fault_nil w).mono fun e w' ⟨h1, h2⟩ => ⟨by rw [h1]; simp [errV], h2⟩
theorem errOf_P (n y : Int) (hy : y ≠ 0) : ErrOf (refusalV n y) n y := fun w hg => (fault_P n y w hg).mono fun e w' ⟨h1, h2⟩ => ⟨by rw [h1]; simp [errV, hy], h2⟩
theorem errOf_F (n at_ : Int) : ErrOf (.iface 145 (.agg #[.int .i64 n, flawV at_])) n 6 := fun w hg => (fault_F n at_ w hg).mono fun e w' ⟨h1, h2⟩ => ⟨by rw [h1]; simp [errV], h2⟩
theorem pdoc_after {w w1 w2 : World} {F : Nat → Prop} {bx bf bl : Nat} {sv : Value} {s s' : List Nd} {rs : List Sp} (hg : GG w) (hD : PDocAt w F bx bf bl sv ⟨s, rs⟩) (hk : Keeps (inner F bx bl sv) w w1) (hf : PFor w1 (grow (inner F bx bl sv) w) bf s') (hb : Below w1.heap.size w1 w2) :
    Keeps F w w2 ∧ PDocAt w2 (grow F w) bx bf bl sv ⟨s', rs⟩ := by
  have hk2 : Keeps (inner F bx bl sv) w w2 := hk.trans (Keeps.of_below hb)
  have hlx := heap_lt hD.doc
  have hll := heap_lt hD.list
  refine ⟨hk2.mono (fun k _ h => h.1), ⟨.inl hD.Fx, hD.Hx, ?_, .inl hD.Fl, hD.Hl, hD.ne, ?_, hk2.row hD.spans (fun b e h => h.2.2.2.1 e), fun b e => ⟨.inl (hD.apart b e).1, (hD.apart b e).2⟩, (hf.below hb).wider (fun b h => ?_)⟩⟩
  · rw [hk2.block bx hlx (fun h => h.2.1 rfl)]; exact hD.doc
  · rw [hk2.block bl hll (fun h => h.2.2.1 rfl)]; exact hD.list
  · rcases h with h | h
    · exact ⟨.inl h.1, h.2⟩
    · exact ⟨.inr h, by omega, by omega, fun e => by have := (hD.spans.lt b e).2; omega, fun hh => by have := hg.lt hh; omega⟩
theorem gg_after {w w1 : World} {F : Nat → Prop} {bx bl : Nat} {sv : Value} (hg : GG w) (hk : Keeps (inner F bx bl sv) w w1) : Glob w1 := (hg.keeps hk (fun b hb h => h.2.2.2.2 hb)).1
set_option maxHeartbeats 400000 in
theorem melement_of {w : World} {F : Nat → Prop} {bx : Nat} {s s' : List Nd} {rs : List Sp} (hg : GG w) (hP : PLies w F bx ⟨s, rs⟩) {n v : Value} {a y : Int} (hE : ErrOf v a y)
    (hT : ∀ (F' : Nat → Prop) (bf : Nat), PFor w F' bf s → Calls Tryz.prog 92 #[ptr bf] w (TPost F' w bf s' (.tuple #[n, v]))) :
    Calls Tryz.prog 52 #[ptr bx] w (PLPost F w bx ⟨s', rs⟩ (.tuple #[n, errV a y])) := by
  obtain ⟨bf, bl, sv, hD⟩ := hP
  have C := hid (hT _ _ hD.nodes)
  have c0 : w.cell? ⟨bx, 0, none⟩ = some (ptr bf) := cell_of_heap hD.doc 0
  have AF := hid (fun w1 w2 => pdoc_after (w1 := w1) (w2 := w2) (s' := s') hg hD)
  have AG := hid (fun w1 => gg_after (w1 := w1) (F := F) (bx := bx) (bl := bl) (sv := sv) hg)
  have E := hid hE
  clear hD hT hg hE
  go_enter Tryz.func52, Tryz.ntmps52
  go_wp2_with first
    | (go_at_call 92; refine C.out.mono ?_; rintro e w1 ⟨rfl, hk, hf⟩; have E1 := hid (E.out w1 (AG.out w1 hk)); have A1 := hid (fun w2 => AF.out w1 w2 hk hf); clear hk hf)
    | (go_at_call 46; refine E1.out.mono ?_; rintro e w2 ⟨rfl, hb⟩)
  go_ret2
  exact ⟨rfl, (A1.out _ hb).1, _, _, _, (A1.out _ hb).2⟩
set_option maxHeartbeats 400000 in
theorem mtext_of {w : World} {F : Nat → Prop} {bx : Nat} {s s' : List Nd} {rs : List Sp} (hg : GG w) (hP : PLies w F bx ⟨s, rs⟩) {n v : Value} {a y : Int} (t : ByteArray) (hE : ErrOf v a y)
    (hT : ∀ (F' : Nat → Prop) (bf : Nat), PFor w F' bf s → Calls Tryz.prog 93 #[ptr bf, .string t] w (TPost F' w bf s' (.tuple #[n, v]))) :
    Calls Tryz.prog 53 #[ptr bx, .string t] w (PLPost F w bx ⟨s', rs⟩ (.tuple #[n, errV a y])) := by
  obtain ⟨bf, bl, sv, hD⟩ := hP
  have C := hid (hT _ _ hD.nodes)
  have c0 : w.cell? ⟨bx, 0, none⟩ = some (ptr bf) := cell_of_heap hD.doc 0
  have AF := hid (fun w1 w2 => pdoc_after (w1 := w1) (w2 := w2) (s' := s') hg hD)
  have AG := hid (fun w1 => gg_after (w1 := w1) (F := F) (bx := bx) (bl := bl) (sv := sv) hg)
  have E := hid hE
  clear hD hT hg hE
  go_enter Tryz.func53, Tryz.ntmps53
  go_wp2_with first
    | (go_at_call 93; refine C.out.mono ?_; rintro e w1 ⟨rfl, hk, hf⟩; have E1 := hid (E.out w1 (AG.out w1 hk)); have A1 := hid (fun w2 => AF.out w1 w2 hk hf); clear hk hf)
    | (go_at_call 46; refine E1.out.mono ?_; rintro e w2 ⟨rfl, hb⟩)
  go_ret2
  exact ⟨rfl, (A1.out _ hb).1, _, _, _, (A1.out _ hb).2⟩
def TMove (Mv : World → Value → Prop) (F : Nat → Prop) (w : World) (bf : Nat) (s' : List Nd) (e : Ending) (w' : World) : Prop := ∃ mv, e = .returned (.tuple #[mv, .nilIface]) ∧ Keeps F w w' ∧ PFor w' (grow F w) bf s' ∧ Mv w' mv
theorem PDocAt.below {w w' : World} {F : Nat → Prop} {bx bf bl : Nat} {sv : Value} {st : St} (h : PDocAt w F bx bf bl sv st) (hb : Below w.heap.size w w') : PDocAt w' F bx bf bl sv st :=
  ⟨h.Fx, h.Hx, by rw [hb.block bx (heap_lt h.doc)]; exact h.doc, h.Fl, h.Hl, h.ne, by rw [hb.block bl (heap_lt h.list)]; exact h.list, (Keeps.of_below (F := fun _ => False) hb).row h.spans (fun _ _ e => e), h.apart, h.nodes.below hb⟩
set_option maxHeartbeats 400000 in
theorem lfollow_nil {w : World} {bl bf : Nat} {sv : Value} (h : w.heap[bl]? = some (.cells #[ptr bf, sv] 176 (0, 0))) (hr : w.ownsRow 0 79 4 sv 0 []) (mv : Value) :
    Calls Tryz.prog 110 #[ptr bl, mv] w fun e w' => e = .returned (.tuple #[]) ∧ Below w.heap.size w w' := by
  obtain ⟨a, c, rfl⟩ := slice_shape hr
  have c1 : w.cell? ⟨bl, 1, none⟩ = some (.slice a 0 c) := cell_of_heap h 1
  have hl := heap_lt h
  clear h hr
  go_enter Tryz.func110, Tryz.ntmps110
  go_wp2
  go_rounds 1
  go_end0
  exact ⟨rfl, by go_grown⟩
set_option maxHeartbeats 400000 in
theorem mfollow_no {w : World} (hg : Glob w) (bx : Nat) (mv : Value) {t : TypeId} {u : Value} {a y : Int} (hE : ErrOf (.iface t u) a y) :
    Calls Tryz.prog 64 #[ptr bx, mv, .iface t u] w fun e w' => e = .returned (errV a y) ∧ Below w.heap.size w w' := by
  have C := hid (hE w hg)
  clear hE hg
  go_enter Tryz.func64, Tryz.ntmps64
  go_wp2_with (go_at_call 46; refine C.out.mono ?_; rintro e w1 ⟨rfl, hb⟩)
  go_ret
  exact ⟨rfl, hb⟩
set_option maxHeartbeats 400000 in
theorem minsert_no {w : World} {F : Nat → Prop} {bx : Nat} {s s' : List Nd} {rs : List Sp} (hg : GG w) (hP : PLies w F bx ⟨s, rs⟩) {t : TypeId} {u : Value} {a y : Int} (A B C : Int) (hE : ErrOf (.iface t u) a y)
    (hT : ∀ (F' : Nat → Prop) (bf : Nat), PFor w F' bf s → Calls Tryz.prog 94 #[ptr bf, .int .i64 A, .int .i64 B, .int .i64 C] w (TPost F' w bf s' (.tuple #[.nilFunc, .iface t u]))) :
    Calls Tryz.prog 54 #[ptr bx, .int .i64 A, .int .i64 B, .int .i64 C] w (PLPost F w bx ⟨s', rs⟩ (errV a y)) := by
  obtain ⟨bf, bl, sv, hD⟩ := hP
  have C := hid (hT _ _ hD.nodes)
  have c0 : w.cell? ⟨bx, 0, none⟩ = some (ptr bf) := cell_of_heap hD.doc 0
  have AF := hid (fun w1 w2 => pdoc_after (w1 := w1) (w2 := w2) (s' := s') hg hD)
  have AG := hid (fun w1 => gg_after (w1 := w1) (F := F) (bx := bx) (bl := bl) (sv := sv) hg)
  have E := hid (fun w1 (h1 : Glob w1) => mfollow_no h1 bx .nilFunc hE)
  clear hD hT hg hE
  go_enter Tryz.func54, Tryz.ntmps54
  go_wp2_with first
    | (go_at_call 94; refine C.out.mono ?_; rintro e w1 ⟨rfl, hk, hf⟩; have E1 := hid (E.out w1 (AG.out w1 hk)); have A1 := hid (fun w2 => AF.out w1 w2 hk hf); clear hk hf)
    | (go_at_call 64; refine E1.out.mono ?_; rintro e w2 ⟨rfl, hb⟩)
  go_ret
  exact ⟨rfl, (A1.out _ hb).1, _, _, _, (A1.out _ hb).2⟩
set_option maxHeartbeats 400000 in
theorem mremove_no {w : World} {F : Nat → Prop} {bx : Nat} {s s' : List Nd} {rs : List Sp} (hg : GG w) (hP : PLies w F bx ⟨s, rs⟩) {t : TypeId} {u : Value} {a y : Int} (A : Int) (hE : ErrOf (.iface t u) a y)
    (hT : ∀ (F' : Nat → Prop) (bf : Nat), PFor w F' bf s → Calls Tryz.prog 97 #[ptr bf, .int .i64 A] w (TPost F' w bf s' (.tuple #[.nilFunc, .iface t u]))) :
    Calls Tryz.prog 60 #[ptr bx, .int .i64 A] w (PLPost F w bx ⟨s', rs⟩ (errV a y)) := by
  obtain ⟨bf, bl, sv, hD⟩ := hP
  have C := hid (hT _ _ hD.nodes)
  have c0 : w.cell? ⟨bx, 0, none⟩ = some (ptr bf) := cell_of_heap hD.doc 0
  have AF := hid (fun w1 w2 => pdoc_after (w1 := w1) (w2 := w2) (s' := s') hg hD)
  have AG := hid (fun w1 => gg_after (w1 := w1) (F := F) (bx := bx) (bl := bl) (sv := sv) hg)
  have E := hid (fun w1 (h1 : Glob w1) => mfollow_no h1 bx .nilFunc hE)
  clear hD hT hg hE
  go_enter Tryz.func60, Tryz.ntmps60
  go_wp2_with first
    | (go_at_call 97; refine C.out.mono ?_; rintro e w1 ⟨rfl, hk, hf⟩; have E1 := hid (E.out w1 (AG.out w1 hk)); have A1 := hid (fun w2 => AF.out w1 w2 hk hf); clear hk hf)
    | (go_at_call 64; refine E1.out.mono ?_; rintro e w2 ⟨rfl, hb⟩)
  go_ret
  exact ⟨rfl, (A1.out _ hb).1, _, _, _, (A1.out _ hb).2⟩
set_option maxHeartbeats 400000 in
theorem mshow_of {w : World} {F : Nat → Prop} {bx : Nat} {s s' : List Nd} {rs : List Sp} (hg : GG w) (hP : PLies w F bx ⟨s, rs⟩) {n v : Value} {a y : Int} (A : Int) (hE : ErrOf v a y)
    (hT : ∀ (F' : Nat → Prop) (bf : Nat), PFor w F' bf s → Calls Tryz.prog 95 #[ptr bf, .int .i64 A] w (TPost F' w bf s' (.tuple #[n, v]))) :
    Calls Tryz.prog 55 #[ptr bx, .int .i64 A] w (PLPost F w bx ⟨s', rs⟩ (.tuple #[n, errV a y])) := by
  obtain ⟨bf, bl, sv, hD⟩ := hP
  have C := hid (hT _ _ hD.nodes)
  have c0 : w.cell? ⟨bx, 0, none⟩ = some (ptr bf) := cell_of_heap hD.doc 0
  have AF := hid (fun w1 w2 => pdoc_after (w1 := w1) (w2 := w2) (s' := s') hg hD)
  have AG := hid (fun w1 => gg_after (w1 := w1) (F := F) (bx := bx) (bl := bl) (sv := sv) hg)
  have E := hid hE
  clear hD hT hg hE
  go_enter Tryz.func55, Tryz.ntmps55
  go_wp2_with first
    | (go_at_call 95; refine C.out.mono ?_; rintro e w1 ⟨rfl, hk, hf⟩; have E1 := hid (E.out w1 (AG.out w1 hk)); have A1 := hid (fun w2 => AF.out w1 w2 hk hf); clear hk hf)
    | (go_at_call 46; refine E1.out.mono ?_; rintro e w2 ⟨rfl, hb⟩)
  go_ret2
  exact ⟨rfl, (A1.out _ hb).1, _, _, _, (A1.out _ hb).2⟩
end Go.Proofs.YtabogkonklplcaaGreatDoor
