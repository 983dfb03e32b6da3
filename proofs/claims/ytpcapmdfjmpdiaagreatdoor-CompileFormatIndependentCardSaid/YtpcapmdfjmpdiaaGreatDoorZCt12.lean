/-
  Contracts: the reference's find and words.
  Contracts: kindsByForm, formOf.
  Nodes in a memory that grows; a node's eight cells as rules of the walk.
  Contracts: the reference's block, Count and Nest.
-/
import Derived.Test.YtpcapmdfjmpdiaaGreatDoorZIq16
import Derived.Test.YtpcapmdfjmpdiaaGreatDoorZHp15
import Derived.Test.YtpcapmdfjmpdiaaGreatDoorZNpure
namespace Go.Proofs.YtpcapmdfjmpdiaaGreatDoor
open Go.RowKit Go.BigFrame
set_option linter.unusedVariables false
set_option linter.unusedSimpArgs false
attribute [local go_sem ↓] sliced_cut run_min2 run_max2
attribute [local go_sem] cutA_zero

theorem toL_at {s : ByteArray} {i : Nat} (h : i < s.size) : (toL s)[i]? = some s[i] := getElem_toList h
theorem toL_drop {s : ByteArray} {i : Nat} (hi : i < s.size) : (toL s).drop i = s[i] :: (toL s).drop (i + 1) := List.drop_eq_getElem_cons (l := toL s) hi
theorem byte_eq {b c : UInt8} : ((b.toNat : Int) == (c.toNat : Int)) = decide (b = c) := by
  rw [Bool.eq_iff_iff, decide_eq_true_iff, beq_iff_eq]
  exact ⟨fun h => UInt8.toNat_inj.1 (by omega), fun h => by rw [h]⟩
/-- What find answers from a place on. -/
def fnumFrom (c : UInt8) (l : List UInt8) (a : Nat) : Int := match find2 c (l.drop a) with | none => -1 | some i => ((a + i : Nat) : Int)
theorem find_end {c : UInt8} {l : List UInt8} {a k : Nat} (hk : l.length ≤ k + 1) (h : ∀ j, a ≤ j → j < k → ¬ BB c l j) : fnumFrom c l a = -1 := by
  unfold fnumFrom
  have : find2 c (l.drop a) = none := by
    rw [find2_none]
    intro j hb
    unfold BB at hb
    rw [List.getElem?_drop, List.getElem?_drop] at hb
    have h1 := (List.getElem?_eq_some_iff.1 hb.2).1
    exact h (a + j) (by omega) (by omega) ⟨hb.1, by rw [Nat.add_assoc]; exact hb.2⟩
  rw [this]
theorem find_hit {c : UInt8} {l : List UInt8} {a k : Nat} (ha : a ≤ k) (hb : BB c l k) (h : ∀ j, a ≤ j → j < k → ¬ BB c l j) : fnumFrom c l a = (k : Int) := by
  unfold fnumFrom
  have : find2 c (l.drop a) = some (k - a) := by
    rw [find2_some]
    unfold BB at hb ⊢
    refine ⟨?_, fun j hj hbj => ?_⟩
    · rw [List.getElem?_drop, List.getElem?_drop, show a + (k - a) = k by omega, show a + (k - a + 1) = k + 1 by omega]
      exact hb
    · rw [List.getElem?_drop, List.getElem?_drop] at hbj
      exact h (a + j) (by omega) (by omega) ⟨hbj.1, by rw [Nat.add_assoc]; exact hbj.2⟩
  rw [this]
  dsimp only
  congr 1
  omega
set_option maxHeartbeats 1000000 in
theorem find_c (s : ByteArray) (c : UInt8) (a : Nat) (w : World) (hs : s.size ≤ 2000000) (ha : a ≤ s.size) :
    Calls Tryz.prog 57 #[.string s, .int .u8 c.toNat, .int .i64 a] w fun e w' => e = .returned (.int .i64 (fnumFrom c (toL s) a)) ∧ w' = w := by
  have HL : Hid ((toL s).length = s.size) := Lib.hid (toL_len s)
  go_enter Tryz.func57, Tryz.ntmps57
  go_wp2_with fail
  go_loop [7] (fun i => ∃ k : Nat, a ≤ k ∧ k ≤ s.size ∧ i = .int .i64 k ∧ Hid (∀ j, a ≤ j → j < k → ¬ BB c (toL s) j)) (fun i => s.size - (intOf i).toNat)
  case atStart => exact ⟨a, Nat.le_refl _, ha, rfl, Lib.hid (fun j h1 h2 => absurd h1 (by omega))⟩
  case round =>
    obtain ⟨k, hak, hks, rfl, HN⟩ := hrel
    by_cases hlt : k + 1 < s.size
    · have hk : k < s.size := by omega
      have h1 := toL_at hk
      have h2 := toL_at hlt
      have b1 : ((s[k].toNat : Int) == (c.toNat : Int)) = decide (s[k] = c) := byte_eq
      have b2 : ((s[k + 1].toNat : Int) == (c.toNat : Int)) = decide (s[k + 1] = c) := byte_eq
      by_cases e1 : s[k] = c
      · by_cases e2 : s[k + 1] = c
        · have HB := Lib.hid (find_hit (c := c) (l := toL s) hak ⟨by rw [h1, e1], by rw [h2, e2]⟩ HN.out)
          rw [decide_eq_true e1] at b1
          rw [decide_eq_true e2] at b2
          clear h1 h2 e1 e2
          go_wp2_with fail
          go_ret
          rw [HB.out]; exact ⟨rfl, rfl⟩
        · have HN2 : Hid (∀ j, a ≤ j → j < k + 1 → ¬ BB c (toL s) j) := Lib.hid (fun j h3 h4 hb => by
            by_cases e : j = k
            · subst e; rw [hb.2] at h2; injection h2 with h2; exact e2 h2.symm
            · exact HN.out j h3 (by omega) hb)
          rw [decide_eq_true e1] at b1
          rw [decide_eq_false e2] at b2
          clear h1 h2 e1 e2
          go_wp2_with fail
          go_round
          case rel => exact ⟨k + 1, by omega, by omega, by go_num, HN2⟩
          case measure => simp [intOf]; omega
      · have HN2 : Hid (∀ j, a ≤ j → j < k + 1 → ¬ BB c (toL s) j) := Lib.hid (fun j h3 h4 hb => by
            by_cases e : j = k
            · subst e; rw [hb.1] at h1; injection h1 with h1; exact e1 h1.symm
            · exact HN.out j h3 (by omega) hb)
        rw [decide_eq_false e1] at b1
        clear h1 h2 e1 b2
        go_wp2_with fail
        go_round
        case rel => exact ⟨k + 1, by omega, by omega, by go_num, HN2⟩
        case measure => simp [intOf]; omega
    · have HB := Lib.hid (find_end (c := c) (l := toL s) (a := a) (k := k) (by rw [toL_len]; omega) HN.out)
      go_wp2_with fail
      go_ret
      rw [HB.out]; exact ⟨rfl, rfl⟩
/-! ### words -/
/-- Where the loop stands: L are the words so far, the next one began at a. -/
structure WoAt (s : ByteArray) (L : List ByteArray) (a i : Nat) : Prop where
  le : a ≤ i
  top : i ≤ s.size
  eq : words (toL s) = L.map toL ++ wl (((toL s).take i).drop a) ((toL s).drop i)
theorem WoAt.start (s : ByteArray) : WoAt s [] 0 0 := ⟨Nat.le_refl _, Nat.zero_le _, by simp [words]⟩
theorem take_step {s : ByteArray} {a i : Nat} (h : a ≤ i) (hi : i < s.size) : ((toL s).take (i + 1)).drop a = ((toL s).take i).drop a ++ [s[i]] := by
  rw [List.take_add_one, toL_at hi, List.drop_append_of_le_length (by rw [List.length_take, toL_len]; omega)]
  rfl
theorem WoAt.next {s : ByteArray} {L : List ByteArray} {a i : Nat} (h : WoAt s L a i) (hi : i < s.size) (hc : s[i] ≠ 32) : WoAt s L a (i + 1) := by
  refine ⟨by have := h.le; omega, hi, ?_⟩
  have hd := toL_drop hi
  rw [h.eq, hd, wl, if_neg hc, take_step h.le hi]
theorem WoAt.piece {s : ByteArray} (a i : Nat) : toL (s.extract a i) = ((toL s).take i).drop a := toL_extract s a i
theorem drop_nil_iff {s : ByteArray} {a i : Nat} (h1 : a ≤ i) (h2 : i ≤ s.size) : ((toL s).take i).drop a = [] ↔ a = i := by
  rw [List.drop_eq_nil_iff, List.length_take, toL_len]
  omega
theorem WoAt.space {s : ByteArray} {L : List ByteArray} {a i : Nat} (h : WoAt s L a i) (hi : i < s.size) (hc : s[i] = 32) : WoAt s (if a < i then L ++ [s.extract a i] else L) (i + 1) (i + 1) := by
  refine ⟨Nat.le_refl _, hi, ?_⟩
  have hd := toL_drop hi
  have h0 : ((toL s).take (i + 1)).drop (i + 1) = [] := (drop_nil_iff (Nat.le_refl _) hi).2 rfl
  rw [h.eq, hd, wl, if_pos hc, h0]
  have := h.le
  by_cases e : a = i
  · rw [if_pos ((drop_nil_iff h.le h.top).2 e), if_neg (by omega)]
  · rw [if_neg (fun hh => e ((drop_nil_iff h.le h.top).1 hh)), if_pos (by omega)]
    simp [WoAt.piece]
theorem WoAt.stop {s : ByteArray} {L : List ByteArray} {a : Nat} (h : WoAt s L a s.size) : words (toL s) = (if a < s.size then L ++ [s.extract a s.size] else L).map toL := by
  rw [h.eq, List.drop_of_length_le (Nat.le_of_eq (toL_len s)), wl]
  have := h.le
  by_cases e : a = s.size
  · rw [if_pos ((drop_nil_iff h.le h.top).2 e), if_neg (by omega)]; simp
  · rw [if_neg (fun hh => e ((drop_nil_iff h.le h.top).1 hh)), if_pos (by omega)]
    simp [WoAt.piece]
theorem wo_len {s : ByteArray} {L : List ByteArray} {a i : Nat} (h : WoAt s L a i) : L.length ≤ s.size := by
  have h1 := congrArg List.length h.eq
  rw [List.length_append, List.length_map] at h1
  have h2 : ∀ (l cur : List UInt8), (wl cur l).length ≤ cur.length + l.length := by
    intro l
    induction l with
    | nil => intro cur; unfold wl; split; simp; rename_i h; have := List.length_pos_iff.2 h; simp; omega
    | cons c l ih =>
      intro cur
      unfold wl
      split
      · split
        · have := ih []; simp at this ⊢; omega
        · rename_i h; have := List.length_pos_iff.2 h; have := ih []; simp at this ⊢; omega
      · have := ih (cur ++ [c]); simp at this ⊢; omega
  have h3 := h2 (toL s) []
  rw [toL_len] at h3
  unfold words at h1
  simp at h3
  omega
/-- The loop's state. -/
def WoRel (s : ByteArray) (w : World) (v3 v4 v5 : Value) (wr : World) : Prop :=
  ∃ (A : Option Addr) (c : Nat) (L : List ByteArray) (a i : Nat), v3 = .slice A L.length c ∧ v4 = .int .i64 a ∧ v5 = .int .i64 i ∧ RowAt wr 9 A L.length c (vss L) ∧ (∀ k, k ∈ rowT A → w.heap.size ≤ k) ∧ Only [] w wr ∧
    L.length ≤ s.size ∧ a ≤ s.size + 1 ∧ i ≤ s.size + 1 ∧ (WoAt s L a i ∨ (i = s.size + 1 ∧ words (toL s) = L.map toL))
theorem WoRel.start (s : ByteArray) (w : World) : WoRel s w (.slice none 0 0) (.int .i64 0) (.int .i64 0) w :=
  ⟨none, 0, [], 0, 0, rfl, rfl, rfl, RowAt.nil _ _, by simp [rowT], Only.refl _ _, Nat.zero_le _, Nat.zero_le _, Nat.zero_le _, .inl (WoAt.start s)⟩
theorem WoRel.append {s : ByteArray} {w wr w1 : World} {A A' : Option Addr} {c' : Nat} {L : List ByteArray} {i : Nat} {nm : ByteArray} (hk : ∀ k, k ∈ rowT A → w.heap.size ≤ k) (hO : Only [] w wr)
    (hl : L.length + 1 ≤ s.size) (hi : i ≤ s.size) (hR : RowAt w1 9 A' (L.length + 1) c' (vss (L ++ [nm]))) (hO1 : Only (rowT A) (wr.alloc (.cells #[.string nm] 9)) w1)
    (hk1 : ∀ k, k ∈ rowT A' → k ∈ rowT A ∨ (wr.alloc (.cells #[.string nm] 9)).heap.size ≤ k) (hs : WoAt s (L ++ [nm]) (i + 1) (i + 1) ∨ (i + 1 = s.size + 1 ∧ words (toL s) = (L ++ [nm]).map toL)) :
    WoRel s w (.slice A' (L.length + 1) c') (.int .i64 ((i : Int) + 1)) (.int .i64 ((i : Int) + 1)) w1 := by
  refine ⟨A', c', L ++ [nm], i + 1, i + 1, by simp, rfl, rfl, by simpa using hR, fun k hkk => ?_, ?_, by simp; omega, by omega, by omega, hs⟩
  · rcases hk1 k hkk with h | h
    · exact hk k h
    · have := hO.size; simp at h; omega
  · exact (hO.alloc _).join hO1 fun k hkk => .inr (hk k hkk)
/-- What splitting into words gives. -/
def WordsPost (s : ByteArray) (w : World) (e : Ending) (w' : World) : Prop :=
  Bel w w' ∧ ∃ A c, e = .returned (.slice A (wordsB s).length c) ∧ Strs w' A (wordsB s) ∧ (wordsB s).length ≤ s.size ∧ (wordsB s).length ≤ c ∧ c ≤ maxLen
set_option maxRecDepth 100000 in
set_option maxHeartbeats 1600000 in
theorem words_c (s : ByteArray) (w : World) (hs : s.size ≤ 2000000) :
    Calls Tryz.prog 59 #[.string s] w (WordsPost s w) := by
  have HSTART := Lib.hid (WoRel.start s w)
  go_enter Tryz.func59, Tryz.ntmps59
  go_wp2_with fail
  go_loopw [3, 4, 5] (fun v3 v4 v5 wr => WoRel s w v3 v4 v5 wr) (fun _ _ v5 _ => s.size + 2 - (intOf v5).toNat)
  case atStart => exact HSTART.out
  case round =>
    clear HSTART
    obtain ⟨A, c, L, a, i, rfl, rfl, rfl, hR, hk, hO, hl, ha, hi, hst⟩ := hrel
    have HR := Lib.hid hR
    have HO := Lib.hid hO
    have HK := Lib.hid hk
    clear hR hO hk
    rcases hst with hst | ⟨hie, hp⟩
    · have ha2 : a ≤ i := hst.le
      have hi2 : i ≤ s.size := hst.top
      have HS := Lib.hid hst
      clear hst
      by_cases hlt : i < s.size
      · by_cases hc : s[i] = 32
        · have hne : ¬ i = s.size := by omega
          have hc1 : ((s[i].toNat : Int) == 32) = true := by rw [hc]; rfl
          have HD := Lib.hid (HS.out.space hlt hc)
          clear hc
          by_cases hai : a < i
          · have hai' : (a : Int) < (i : Int) := by omega
            have HD2 : Hid (WoAt s (L ++ [s.extract a i]) (i + 1) (i + 1)) := Lib.hid (by have := HD.out; rw [if_pos hai] at this; exact this)
            have hl2 := wo_len HD2.out
            rw [List.length_append, List.length_singleton] at hl2
            have HAL := Lib.hid (HR.out.alloc (.cells #[.string (s.extract a i)] 9))
            have HBK := Lib.hid (Blk.new wr 9 [.string (s.extract a i)])
            go_wp2_with (first | (at_builtin; refine wp_appendS rfl _ _ rfl A L.length c L rfl HAL.out wr.heap.size (s.extract a i) rfl HBK.out (by omega) ?_; intro A' c' w1 hR1 hO1 hK1))
            go_roundw
            case rel => exact WoRel.append HK.out HO.out hl2 hi2 hR1.out hO1.out hK1.out (.inl HD2.out)
            case measure => simp [intOf]; omega
          · have hai' : ¬ (a : Int) < (i : Int) := by omega
            have HD2 : Hid (WoAt s L (i + 1) (i + 1)) := Lib.hid (by have := HD.out; rw [if_neg hai] at this; exact this)
            go_wp2_with fail
            go_roundw
            case rel => exact ⟨A, c, L, i + 1, i + 1, rfl, rfl, rfl, HR.out, HK.out, HO.out, hl, by omega, by omega, .inl HD2.out⟩
            case measure => simp [intOf]; omega
        · have hne : ¬ i = s.size := by omega
          have hc1 : ((s[i].toNat : Int) == 32) = false := by
            simp only [beq_eq_false_iff_ne]
            intro e
            exact hc (UInt8.toNat_inj.1 (by rw [show (32 : UInt8).toNat = 32 from rfl]; omega))
          have HD := Lib.hid (HS.out.next hlt hc)
          clear hc
          go_wp2_with fail
          go_roundw
          case rel => exact ⟨A, c, L, a, i + 1, rfl, rfl, rfl, HR.out, HK.out, HO.out, hl, ha, by omega, .inl HD.out⟩
          case measure => simp [intOf]; omega
      · obtain rfl : i = s.size := by omega
        clear hlt hi2 hi
        have hi2 : s.size ≤ s.size := Nat.le_refl _
        have HD := Lib.hid HS.out.stop
        by_cases hai : a < s.size
        · have hai' : (a : Int) < (s.size : Int) := by omega
          have HD2 : Hid (words (toL s) = (L ++ [s.extract a s.size]).map toL) := Lib.hid (by have := HD.out; rw [if_pos hai] at this; exact this)
          have hl2 : L.length + 1 ≤ s.size := by
            have h1 : WoAt s (L ++ [s.extract a s.size]) s.size s.size := ⟨Nat.le_refl _, Nat.le_refl _, by
              rw [HD2.out, (drop_nil_iff (Nat.le_refl _) (Nat.le_refl _)).2 rfl, List.drop_of_length_le (Nat.le_of_eq (toL_len s)), wl, if_pos rfl, List.append_nil]⟩
            have := wo_len h1
            rw [List.length_append, List.length_singleton] at this
            exact this
          have HAL := Lib.hid (HR.out.alloc (.cells #[.string (s.extract a s.size)] 9))
          have HBK := Lib.hid (Blk.new wr 9 [.string (s.extract a s.size)])
          go_wp2_with (first | (at_builtin; refine wp_appendS rfl _ _ rfl A L.length c L rfl HAL.out wr.heap.size (s.extract a s.size) rfl HBK.out (by omega) ?_; intro A' c' w1 hR1 hO1 hK1))
          go_roundw
          case rel => exact WoRel.append HK.out HO.out hl2 hi2 hR1.out hO1.out hK1.out (.inr ⟨rfl, HD2.out⟩)
          case measure => simp [intOf]
        · have hai' : ¬ (a : Int) < (s.size : Int) := by omega
          have HD2 : Hid (s.size + 1 = s.size + 1 ∧ words (toL s) = L.map toL) := Lib.hid ⟨rfl, by have := HD.out; rw [if_neg hai] at this; exact this⟩
          go_wp2_with fail
          go_roundw
          case rel => exact ⟨A, c, L, s.size + 1, s.size + 1, rfl, rfl, rfl, HR.out, HK.out, HO.out, hl, by omega, by omega, .inr ⟨rfl, HD2.out.2⟩⟩
          case measure => simp [intOf]
    · have hgt : (s.size : Int) < (i : Int) := by omega
      have HW : Hid (wordsB s = L) := Lib.hid (by unfold wordsB; rw [hp, ← L_parts rfl])
      clear hp
      go_wp2_with fail
      go_ret
      unfold WordsPost
      rw [HW.out]
      exact ⟨bel_of_only HO.out, _, _, rfl, strs_of_row HR.out, hl, HR.out.le, HR.out.max⟩
end Go.Proofs.YtpcapmdfjmpdiaaGreatDoor

namespace Go.Proofs.YtpcapmdfjmpdiaaGreatDoor
open Go.RowKit Go.BigFrame Go.Maps Go.WideMaps
set_option linter.unusedVariables false
set_option linter.unusedSimpArgs false

theorem bel_grown {w w1 w2 : World} (h : Bel w w1) (hg : w1.grownBy w2 (some w.heap.size)) : Bel w w2 := Below.grown h hg h.size (fun j hj => by cases hj; exact Nat.le_refl _)
section
variable {w : World} {ops : Array Oper} {rest : List Oper} {o : Oper} {a : Act} {Q : Exit → Act → World → Prop}
/-- An entry of a map literal. -/
theorem wp_insert {w0 : World} (hg : o.guard = none) (m : Operand) (t : TypeId) (key : ByteArray) (u : Value) (hop : o.op = Op.insert t m (.const (.string key)) (.const u)) (e : TypeId) (ht : Tryz.prog.underlying t = some (.map 9 e))
    (n : Nat) (f : ByteArray → Option Value) (hm : a.eval m = .map (some w0.heap.size)) (h : SMap w w0.heap.size n f) (hb : Bel w0 w) (hn : n < maxLen) (hk : key.size ≤ maxLen)
    (hK : ∀ w', Hid (SMap w' w0.heap.size (n + 1) (fun k => if k = key then some u else f k)) → Hid (Bel w0 w') → wpList Tryz.prog ops Q rest (a.put o.dst undef) w') : wpList Tryz.prog ops Q (o :: rest) a w := by
  refine wpList_plain hg fun K' hK' => ?_
  obtain ⟨w', hrun, h1, h2⟩ := h.push ht hn hk u
  unfold Oper.wp
  simp [execOp, hop, hm, show a.eval (.const (.string key)) = .string key from rfl, show a.eval (.const u) = u from rfl, hrun, Result.andThen]
  exact hK' _ _ (hK w' (Lib.hid h1) (Lib.hid (bel_grown hb h2)))
end
/-- What the map of forms holds. -/
def kindF (k : ByteArray) : Option Value := (kindN k).map fun n : Nat => .int .i64 (n : Int)
theorem kindF_eq (k : ByteArray) : (if k = ⟨#[102, 108, 117, 115, 104]⟩ then some (Value.int .i64 5) else if k = ⟨#[99, 97, 108, 108, 32, 110, 97, 109, 101, 32, 46]⟩ then some (.int .i64 4) else if k = ⟨#[99, 97, 108, 108, 32, 110, 97, 109, 101]⟩ then some (.int .i64 4) else
    if k = ⟨#[100, 101, 102, 105, 110, 101, 32, 110, 97, 109, 101]⟩ then some (.int .i64 6) else if k = ⟨#[101, 110, 100]⟩ then some (.int .i64 8) else if k = ⟨#[114, 97, 110, 103, 101, 32, 46]⟩ then some (.int .i64 3) else
    if k = ⟨#[101, 108, 115, 101]⟩ then some (.int .i64 7) else if k = ⟨#[105, 102, 32, 46]⟩ then some (.int .i64 2) else if k = ⟨#[46]⟩ then some (.int .i64 1) else none) = kindF k := by
  simp only [kindF, kindN, apply_ite (Option.map fun n : Nat => Value.int .i64 (n : Int)), Option.map_some, Option.map_none]
  rfl
set_option maxRecDepth 100000 in
set_option maxHeartbeats 1600000 in
theorem kinds_c (w : World) : Calls Tryz.prog 51 #[] w fun e w' => e = .returned (.map (some w.heap.size)) ∧ SMap w' w.heap.size 9 kindF ∧ Bel w w' := by
  have HSM := Lib.hid (SMap.made w)
  have hmm := @run_makeMap Tryz.prog
  have HB : Hid (Bel w (w.alloc (.map #[] 0))) := Lib.hid (Bel.alloc _ _)
  go_enter Tryz.func51, Tryz.ntmps51
  go_wp2_with (with_reducible refine wp_insert (w0 := w) rfl _ 101 _ _ rfl 3 Tryz.underlying101 _ _ rfl HSM.out HB.out (by unfold maxLen; omega) (by decide) ?_; intro w1 HSM HB)
  go_ret
  exact ⟨rfl, HSM.out.congr kindF_eq, HB.out⟩
/-- 'make' lays a block of so many cells. -/
theorem make_cells {t e : TypeId} {z : Value} {size bytes : Nat} (ht : Tryz.prog.underlying t = some (.slice e)) (hinfo : (Tryz.prog.info? e).map (fun i => (i.zero, i.size, i.bytes)) = some (some z, size, bytes)) (m n : Nat) (hm : m ≤ n) (hb : bytes * n ≤ 281474976710656) (hn : n ≤ 9223372036854775807) :
    ∃ L : List Value, L.length = n * size ∧ ∀ W, (Instr.makeSlice t (.int .i64 (m : Int)) (.int .i64 (n : Int))).run Tryz.prog W = .ok (.slice (some ⟨W.heap.size, 0, none⟩) m n) (W.alloc (.cells L.toArray e)) := by
  obtain ⟨i0, hi, hz0, hz1, hz2⟩ := info_parts hinfo
  refine ⟨(madeCells z.cells (n * size)).toList, by rw [Array.length_toList, size_madeCells], fun W => ?_⟩
  have hr := run_make (P := Tryz.prog) W t e i0 _ ht hi hz0 .i64 .i64 m n (by omega) (by omega) (by rw [hz2, ← Int.natCast_mul]; omega) (by omega)
  rw [hr, hz1, Int.toNat_natCast, Int.toNat_natCast, Array.toArray_toList]
/-- What strings.Builder asks besides. -/
theorem jnExtra : Builder.Extra Tryz.prog Tryz.laysJN_ren where
  sizeBuilder := by kernel_rfl
  liesBuilder := by kernel_rfl
  t5 := Tryz.underlying5
  a5 := Tryz.isAgg5
  z5 := Tryz.sizeOf5
  v5 := Tryz.zeroValue5
  infoByte := by kernel_rfl
  cellsByte := by kernel_rfl
  sizeByte := by kernel_rfl
  neB5 := by decide
/-- The word at a place. -/
theorem strs_at {w : World} {A : Option Addr} {ws : List ByteArray} {i : Nat} (h : Strs w A ws) (hi : i < ws.length) : ∃ g o, A = some ⟨g, o, none⟩ ∧ g < w.heap.size ∧ w.cell? ⟨g, o + i, none⟩ = some (.string (ws.getD i ByteArray.empty)) := by
  rcases h with h | ⟨g, o, h1, h2, h3⟩
  · subst h; exact absurd hi (Nat.not_lt_zero _)
  · exact ⟨g, o, h1, h2, h3 i hi⟩
theorem getD_toL {ws : List ByteArray} {i : Nat} (hi : i < ws.length) : (ws.map toL)[i]? = some (toL (ws.getD i ByteArray.empty)) := by
  rw [List.getElem?_map, List.getD_eq_getElem?_getD, List.getElem?_eq_getElem hi]
  rfl
theorem bel_on1 {w w1 w2 : World} {B : Nat} (h : Bel w w1) (ho : Only [B] w1 w2) (hB : w.heap.size ≤ B) : Bel w w2 :=
  Below.trans h (ho.to_below h.size (by intro k hk; simp at hk; omega))
/-- The first k words of the form lie in the row. -/
def FoRow (w : World) (B : Nat) (L : List Value) (fs : List (List UInt8)) (k : Nat) : Prop := Blk w B 9 L ∧ L.length = fs.length ∧ ∀ i x, i < k → fs[i]? = some x → L[i]? = some (.string (ofL x))
theorem FoRow.set_ {w : World} {B k : Nat} {L : List Value} {fs : List (List UInt8)} {x : List UInt8} (h : FoRow w B L fs k) (hx : fs[k]? = some x) : FoRow (w.setCell ⟨B, k, none⟩ (.string (ofL x))) B (L.set k (.string (ofL x))) fs (k + 1) := by
  obtain ⟨h1, h2, h3⟩ := h
  refine ⟨h1.set_ k _, by rw [List.length_set]; exact h2, fun i y hi hy => ?_⟩
  have hk := (List.getElem?_eq_some_iff.1 hx).1
  by_cases e : i = k
  · subst e
    rw [hx] at hy; injection hy with hy; subst hy
    rw [List.getElem?_set_self (by omega)]
  · rw [List.getElem?_set_ne (by omega)]
    exact h3 i y (by omega) hy
set_option maxRecDepth 100000 in
set_option maxHeartbeats 3200000 in
theorem formOf_c (A : Option Addr) (c : Nat) (ws : List ByteArray) (w : World) (hS : Strs w A ws) (hw : ∀ x ∈ ws, Wd (toL x) ∧ x.size ≤ 70000) (hn : ws.length ≤ 70000) :
    Calls Tryz.prog 79 #[.slice A ws.length c] w fun e w' => e = .returned (.string (ofL (jn (formL (ws.map toL))))) ∧ Bel w w' := by
  obtain ⟨n, hN⟩ : ∃ n, n = ws.length := ⟨_, rfl⟩
  obtain ⟨L0, hL0, hmk⟩ := make_cells (t := 112) Tryz.underlying112 info_str n n (Nat.le_refl _) (by omega) (by omega)
  have hfl : (formL (ws.map toL)).length = n := by rw [formL_len, List.length_map, hN]
  have hle : (jn (formL (ws.map toL))).length ≤ 140737488355328 := by
    have h1 := jn_le (formL_le (ws := ws.map toL) (B := 70000) (fun x hx => by obtain ⟨y, hy, rfl⟩ := List.mem_map.1 hx; exact (hw y hy).2))
    rw [hfl] at h1
    have h2 : n * (70000 + 4 + 1) ≤ 70000 * (70000 + 4 + 1) := Nat.mul_le_mul_right _ (by omega)
    omega
  have HBL := Lib.hid (show FoRow (w.alloc (.cells L0.toArray 9)) w.heap.size L0 (formL (ws.map toL)) 0 from ⟨Blk.new w 9 L0, by rw [hfl, hL0, Nat.mul_one], fun i x hi => absurd hi (Nat.not_lt_zero _)⟩)
  have HB0 : Hid (Bel w (w.alloc (.cells L0.toArray 9))) := Lib.hid (Bel.alloc _ _)
  have HSZ : Hid (w.heap.size < (w.alloc (.cells L0.toArray 9)).heap.size) := Lib.hid (by simp)
  have HS := Lib.hid hS
  have HW := Lib.hid hw
  have HLE := Lib.hid hle
  have HFL := Lib.hid hfl
  have HNN := Lib.hid hN
  rw [← hN]
  have hnn : n ≤ 70000 := by omega
  clear hS hw hle hfl hL0 hN hn
  go_enter Tryz.func79, Tryz.ntmps79
  go_wp2_with fail
  go_loopw [11] (fun s11 wr => ∃ (k : Nat) (L : List Value), k ≤ n ∧ s11 = .int .i64 k ∧ Hid (FoRow wr w.heap.size L (formL (ws.map toL)) k) ∧ Hid (Bel w wr) ∧ Hid (w.heap.size < wr.heap.size)) (fun s11 _ => n - (intOf s11).toNat)
  case atStart => exact ⟨0, L0, Nat.zero_le _, rfl, HBL, HB0, HSZ⟩
  case round =>
    clear HBL HB0 HSZ
    obtain ⟨k, L, hk, rfl, HR, HB, HZ⟩ := hrel
    by_cases hlt : k < n
    · have hkw : k < ws.length := by have := HNN.out; omega
      obtain ⟨g, o, hA, hg, hcell⟩ := strs_at HS.out hkw
      have c0 := (HB.out.cell hg).trans hcell
      subst hA
      have hmem : ws.getD k ByteArray.empty ∈ ws := by rw [List.getD_eq_getElem?_getD, List.getElem?_eq_getElem hkw]; exact List.getElem_mem hkw
      have hwd := (HW.out _ hmem).1
      have hfx := formL_at (getD_toL hkw)
      have HX := Lib.hid hfx
      clear hfx hmem hcell
      generalize ws.getD k ByteArray.empty = x at *
      have hxs : 0 < x.size := by
        rw [← toL_len]; exact List.length_pos_iff.2 hwd.1
      have HP := Lib.hid (isPath_c x wr hxs)
      have hll : L.length = n := by rw [HR.out.2.1, HFL.out]
      obtain ⟨v0, m0⟩ : ∃ v, wr.cell? ⟨w.heap.size, k, none⟩ = some v := ⟨_, (HR.out.1.cell k).trans (List.getElem?_eq_getElem (by omega))⟩
      have u0 := HR.out.1.free k
      clear hwd hxs
      cases hp : isP (toL x) with
      | true =>
        have HST := Lib.hid (HR.out.set_ (x := [46]) (by rw [HX.out]; simp [fw, hp]))
        rw [hp] at HP
        clear hp hll
        go_wp2_with (go_at_call 80; refine HP.out.mono ?_; rintro e w2 ⟨rfl, rfl⟩)
        go_roundw
        case rel => exact ⟨k + 1, _, by omega, by go_num, HST, Lib.hid (bel_on1 HB.out ((Only.refl [w.heap.size] _).setCell (.inl (by simp)) _) (Nat.le_refl _)), Lib.hid (by have := HZ.out; simpa using this)⟩
        case measure => simp [intOf]; omega
      | false =>
        rw [hp] at HP
        by_cases h0 : k = 0
        · have HST := Lib.hid (HR.out.set_ (x := toL x) (by rw [HX.out]; simp [fw, hp, h0]))
          rw [ofL_toL] at HST
          have h0' : ((k : Int) == 0) = true := by subst h0; rfl
          clear hp hll h0
          go_wp2_with (go_at_call 80; refine HP.out.mono ?_; rintro e w2 ⟨rfl, rfl⟩)
          go_roundw
          case rel => exact ⟨k + 1, _, by omega, by go_num, HST, Lib.hid (bel_on1 HB.out ((Only.refl [w.heap.size] _).setCell (.inl (by simp)) _) (Nat.le_refl _)), Lib.hid (by have := HZ.out; simpa using this)⟩
          case measure => simp [intOf]; omega
        · have HST := Lib.hid (HR.out.set_ (x := [110, 97, 109, 101]) (by rw [HX.out]; simp [fw, hp, h0]))
          have h0' : ¬ k = 0 := h0
          clear hp hll h0
          go_wp2_with (go_at_call 80; refine HP.out.mono ?_; rintro e w2 ⟨rfl, rfl⟩)
          go_roundw
          case rel => exact ⟨k + 1, _, by omega, by go_num, HST, Lib.hid (bel_on1 HB.out ((Only.refl [w.heap.size] _).setCell (.inl (by simp)) _) (Nat.le_refl _)), Lib.hid (by have := HZ.out; simpa using this)⟩
          case measure => simp [intOf]; omega
    · obtain rfl : k = n := by omega
      have hlen := HFL.out
      have hcells : ∀ (j : Nat) x, ((formL (ws.map toL)).map ofL)[j]? = some x → wr.cell? ⟨w.heap.size, 0 + j, none⟩ = some (.string x) := by
        intro j x hx
        rw [List.getElem?_map] at hx
        obtain ⟨y, hy, rfl⟩ := Option.map_eq_some_iff.1 hx
        rw [Nat.zero_add, HR.out.1.cell]
        exact HR.out.2.2 j y (by rw [← hlen]; exact (List.getElem?_eq_some_iff.1 hy).1) hy
      have hj : Lib.join (((formL (ws.map toL)).map ofL).map (fun x => x.data.toList)) (⟨#[32]⟩ : ByteArray).data.toList = jn (formL (ws.map toL)) := by
        rw [List.map_map]
        have e1 : (fun x : ByteArray => x.data.toList) ∘ ofL = id := rfl
        rw [e1, List.map_id]
        exact join_jn _
      have hl2 : ((formL (ws.map toL)).map ofL).length = k := by rw [List.length_map]; exact hlen
      have HJ := Lib.hid (Any.strings_Join Tryz.laysJN jnExtra w.heap.size 0 k ((formL (ws.map toL)).map ofL) ⟨#[32]⟩ wr hcells HZ.out (by omega) (by omega) (by rw [hj]; exact HLE.out))
      rw [hj, hl2] at HJ
      clear hcells hj hl2 hlen
      go_wp2_with (go_at_call 65; refine HJ.out.mono ?_; rintro e w2 ⟨rfl, hb⟩; have HB2 := Lib.hid (HB.out.trans hb); clear hb)
      go_ret
      exact ⟨rfl, HB2.out⟩
end Go.Proofs.YtpcapmdfjmpdiaaGreatDoor

namespace Go.Proofs.YtpcapmdfjmpdiaaGreatDoor
open Go.RowKit Go.BigFrame
set_option linter.unusedVariables false
namespace NT
/-- All of it is there. -/
abbrev Lt (w : World) : Nat → Prop := fun g => g < w.heap.size
theorem Row.bel {w w' : World} {A : Option Addr} {c : Nat} {l : List NT} (h : Row w (Lt w) A c l) (hb : Bel w w') : Row w' (Lt w') A c l :=
  h.same (fun _ hg => Nat.lt_of_lt_of_le hg hb.size) fun g p hg => hb.cell hg
theorem In.bel {w w' : World} {t : NT} (h : t.In w (Lt w)) (hb : Bel w w') : t.In w' (Lt w') :=
  h.same (fun _ hg => Nat.lt_of_lt_of_le hg hb.size) fun g p hg => hb.cell hg
/-- A node of a row, in whatever later world. -/
theorem Row.cells {w : World} {A : Option Addr} {c : Nat} {l : List NT} (h : Row w (Lt w) A c l) {i : Nat} {x : NT} (hx : l[i]? = some x) :
    ∃ g o, A = some ⟨g, o, none⟩ ∧ g < w.heap.size ∧ ∀ W, Bel w W → W.cell? ⟨g, o + i * 8, none⟩ = some (.int .i64 x.k) ∧ W.cell? ⟨g, o + i * 8 + 1, none⟩ = some (.int .i64 x.a) ∧ W.cell? ⟨g, o + i * 8 + 2, none⟩ = some (.string x.s) ∧ W.cell? ⟨g, o + i * 8 + 3, none⟩ = some (.string x.p) ∧
      W.cell? ⟨g, o + i * 8 + 4, none⟩ = some (.bool x.h) ∧ W.cell? ⟨g, o + i * 8 + 5, none⟩ = some (.bool x.e) ∧ W.cell? ⟨g, o + i * 8 + 6, none⟩ = some (.slice x.A x.b.length x.c) ∧ W.cell? ⟨g, o + i * 8 + 7, none⟩ = some (.slice x.B x.l.length x.d) := by
  obtain ⟨g, o, e1, hg, hc, _⟩ := h.at_ hx
  refine ⟨g, o, e1, hg, fun W hb => ?_⟩
  exact (hc.same (w' := W) fun p => hb.cell hg).all
theorem Row.len {w : World} {Q : Nat → Prop} {A : Option Addr} {c : Nat} {l : List NT} (h : Row w Q A c l) : l.length ≤ 1353245080300 := by
  have := h.1.1.2.2
  unfold reachBytes at this
  omega
/-- A block that holds a node. -/
theorem cells8 {w : World} {g : Nat} {T : TypeId} {a0 a1 a2 a3 a4 a5 a6 a7 : Value} (h : Blk w g T [a0, a1, a2, a3, a4, a5, a6, a7]) :
    w.cell? ⟨g, 0, none⟩ = some a0 ∧ w.cell? ⟨g, 1, none⟩ = some a1 ∧ w.cell? ⟨g, 2, none⟩ = some a2 ∧ w.cell? ⟨g, 3, none⟩ = some a3 ∧ w.cell? ⟨g, 4, none⟩ = some a4 ∧ w.cell? ⟨g, 5, none⟩ = some a5 ∧ w.cell? ⟨g, 6, none⟩ = some a6 ∧ w.cell? ⟨g, 7, none⟩ = some a7 :=
  ⟨h.cell 0, h.cell 1, h.cell 2, h.cell 3, h.cell 4, h.cell 5, h.cell 6, h.cell 7⟩
end NT
theorem blk_at1 (w : World) (o : Obj) (T : TypeId) (L : List Value) : Blk ((w.alloc o).alloc (.cells L.toArray T)) (w.heap.size + 1) T L := by
  have := Blk.new (w.alloc o) T L
  rwa [show (w.alloc o).heap.size = w.heap.size + 1 by simp] at this
theorem Blk.bel {w w' : World} {g : Nat} {t : TypeId} {cs : List Value} (h : Blk w g t cs) (hb : Bel w w') : Blk w' g t cs := h.below hb h.lt
end Go.Proofs.YtpcapmdfjmpdiaaGreatDoor

namespace Go.Proofs.YtpcapmdfjmpdiaaGreatDoor
open Go.RowKit Go.BigFrame NT
set_option linter.unusedVariables false
set_option linter.unusedSimpArgs false

theorem block_c (k : Int) (w : World) : Calls Tryz.prog 89 #[.int .i64 k] w fun e w' => e = .returned (.bool (blkI k)) ∧ w' = w := by
  by_cases h2 : k = 2
  · subst h2
    go_enter Tryz.func89, Tryz.ntmps89
    go_wp2_with fail
    go_ret
    exact ⟨rfl, rfl⟩
  by_cases h3 : k = 3
  · subst h3
    go_enter Tryz.func89, Tryz.ntmps89
    go_wp2_with fail
    go_ret
    exact ⟨rfl, rfl⟩
  by_cases h6 : k = 6
  · subst h6
    go_enter Tryz.func89, Tryz.ntmps89
    go_wp2_with fail
    go_ret
    exact ⟨rfl, rfl⟩
  have e2 : (k == 2) = false := by simpa using h2
  have e3 : (k == 3) = false := by simpa using h3
  have e6 : (k == 6) = false := by simpa using h6
  have hb : blkI k = false := by unfold blkI; rw [e2, e3, e6]; rfl
  have HB := Lib.hid hb
  clear hb
  go_enter Tryz.func89, Tryz.ntmps89
  go_wp2_with fail
  go_ret
  exact ⟨by rw [HB.out]; rfl, rfl⟩
/-! ### Count -/
end Go.Proofs.YtpcapmdfjmpdiaaGreatDoor
