/-
  Contracts: the reference's find and words.
-/
import Derived.Test.YteclclidibmajaaStd11
namespace Go.Proofs.Yteclclidibmajaa
open Go.RowKit Go.BigFrame
set_option linter.unusedVariables false
set_option linter.unusedSimpArgs false
attribute [local go_sem ↓] sliced_cut run_min2 run_max2
attribute [local go_sem] cutA_zero

theorem toL_at {s : ByteArray} {i : Nat} (h : i < s.size) : (toL s)[i]? = some s[i] := getElem_toList h
theorem toL_drop {s : ByteArray} {i : Nat} (hi : i < s.size) : (toL s).drop i = s[i] :: (toL s).drop (i + 1) := List.drop_eq_getElem_cons (l := toL s) hi
theorem byte_eq {b c : UInt8} : ((b.toNat : Int) == (c.toNat : Int)) = decide (b = c) := by
  rw [Bool.eq_iff_iff, decide_eq_true_iff, beq_iff_eq]
  exact ⟨fun h => UInt8.toNat_inj.1 (by omega), fun h => by rw [h]⟩
/-- What find answers from a place on. -/
def fnumFrom (c : UInt8) (l : List UInt8) (a : Nat) : Int := match find2 c (l.drop a) with | none => -1 | some i => ((a + i : Nat) : Int)
theorem find_end {c : UInt8} {l : List UInt8} {a k : Nat} (hk : l.length ≤ k + 1) (h : ∀ j, a ≤ j → j < k → ¬ BB c l j) : fnumFrom c l a = -1 := by
  unfold fnumFrom
  have : find2 c (l.drop a) = none := by
    rw [find2_none]
    intro j hb
    unfold BB at hb
    rw [List.getElem?_drop, List.getElem?_drop] at hb
    have h1 := (List.getElem?_eq_some_iff.1 hb.2).1
    exact h (a + j) (by omega) (by omega) ⟨hb.1, by rw [Nat.add_assoc]; exact hb.2⟩
  rw [this]
theorem find_hit {c : UInt8} {l : List UInt8} {a k : Nat} (ha : a ≤ k) (hb : BB c l k) (h : ∀ j, a ≤ j → j < k → ¬ BB c l j) : fnumFrom c l a = (k : Int) := by
  unfold fnumFrom
  have : find2 c (l.drop a) = some (k - a) := by
    rw [find2_some]
    unfold BB at hb ⊢
    refine ⟨?_, fun j hj hbj => ?_⟩
    · rw [List.getElem?_drop, List.getElem?_drop, show a + (k - a) = k by omega, show a + (k - a + 1) = k + 1 by omega]
      exact hb
    · rw [List.getElem?_drop, List.getElem?_drop] at hbj
      exact h (a + j) (by omega) (by omega) ⟨hbj.1, by rw [Nat.add_assoc]; exact hbj.2⟩
  rw [this]
  dsimp only
  congr 1
  omega
set_option maxHeartbeats 1000000 in
theorem find_c (s : ByteArray) (c : UInt8) (a : Nat) (w : World) (hs : s.size ≤ 2000000) (ha : a ≤ s.size) :
    Calls Try.prog 38 #[.string s, .int .u8 c.toNat, .int .i64 a] w fun e w' => e = .returned (.int .i64 (fnumFrom c (toL s) a)) ∧ w' = w := by
  have HL : Hid ((toL s).length = s.size) := Lib.hid (toL_len s)
  go_enter Try.func38, Try.ntmps38
  go_wp2_with fail
  go_loop [7] (fun i => ∃ k : Nat, a ≤ k ∧ k ≤ s.size ∧ i = .int .i64 k ∧ Hid (∀ j, a ≤ j → j < k → ¬ BB c (toL s) j)) (fun i => s.size - (intOf i).toNat)
  case atStart => exact ⟨a, Nat.le_refl _, ha, rfl, Lib.hid (fun j h1 h2 => absurd h1 (by omega))⟩
  case round =>
    obtain ⟨k, hak, hks, rfl, HN⟩ := hrel
    by_cases hlt : k + 1 < s.size
    · have hk : k < s.size := by omega
      have h1 := toL_at hk
      have h2 := toL_at hlt
      have b1 : ((s[k].toNat : Int) == (c.toNat : Int)) = decide (s[k] = c) := byte_eq
      have b2 : ((s[k + 1].toNat : Int) == (c.toNat : Int)) = decide (s[k + 1] = c) := byte_eq
      by_cases e1 : s[k] = c
      · by_cases e2 : s[k + 1] = c
        · have HB := Lib.hid (find_hit (c := c) (l := toL s) hak ⟨by rw [h1, e1], by rw [h2, e2]⟩ HN.out)
          rw [decide_eq_true e1] at b1
          rw [decide_eq_true e2] at b2
          clear h1 h2 e1 e2
          go_wp2_with fail
          go_ret
          rw [HB.out]; exact ⟨rfl, rfl⟩
        · have HN2 : Hid (∀ j, a ≤ j → j < k + 1 → ¬ BB c (toL s) j) := Lib.hid (fun j h3 h4 hb => by
            by_cases e : j = k
            · subst e; rw [hb.2] at h2; injection h2 with h2; exact e2 h2.symm
            · exact HN.out j h3 (by omega) hb)
          rw [decide_eq_true e1] at b1
          rw [decide_eq_false e2] at b2
          clear h1 h2 e1 e2
          go_wp2_with fail
          go_round
          case rel => exact ⟨k + 1, by omega, by omega, by go_num, HN2⟩
          case measure => simp [intOf]; omega
      · have HN2 : Hid (∀ j, a ≤ j → j < k + 1 → ¬ BB c (toL s) j) := Lib.hid (fun j h3 h4 hb => by
            by_cases e : j = k
            · subst e; rw [hb.1] at h1; injection h1 with h1; exact e1 h1.symm
            · exact HN.out j h3 (by omega) hb)
        rw [decide_eq_false e1] at b1
        clear h1 h2 e1 b2
        go_wp2_with fail
        go_round
        case rel => exact ⟨k + 1, by omega, by omega, by go_num, HN2⟩
        case measure => simp [intOf]; omega
    · have HB := Lib.hid (find_end (c := c) (l := toL s) (a := a) (k := k) (by rw [toL_len]; omega) HN.out)
      go_wp2_with fail
      go_ret
      rw [HB.out]; exact ⟨rfl, rfl⟩

/-! ### words -/
/-- Where the loop stands: L are the words so far, the next one began at a. -/
structure WoAt (s : ByteArray) (L : List ByteArray) (a i : Nat) : Prop where
  le : a ≤ i
  top : i ≤ s.size
  eq : words (toL s) = L.map toL ++ wl (((toL s).take i).drop a) ((toL s).drop i)
theorem WoAt.start (s : ByteArray) : WoAt s [] 0 0 := ⟨Nat.le_refl _, Nat.zero_le _, by simp [words]⟩
theorem take_step {s : ByteArray} {a i : Nat} (h : a ≤ i) (hi : i < s.size) : ((toL s).take (i + 1)).drop a = ((toL s).take i).drop a ++ [s[i]] := by
  rw [List.take_add_one, toL_at hi, List.drop_append_of_le_length (by rw [List.length_take, toL_len]; omega)]
  rfl
theorem WoAt.next {s : ByteArray} {L : List ByteArray} {a i : Nat} (h : WoAt s L a i) (hi : i < s.size) (hc : s[i] ≠ 32) : WoAt s L a (i + 1) := by
  refine ⟨by have := h.le; omega, hi, ?_⟩
  have hd := toL_drop hi
  rw [h.eq, hd, wl, if_neg hc, take_step h.le hi]
theorem WoAt.piece {s : ByteArray} (a i : Nat) : toL (s.extract a i) = ((toL s).take i).drop a := toL_extract s a i
theorem drop_nil_iff {s : ByteArray} {a i : Nat} (h1 : a ≤ i) (h2 : i ≤ s.size) : ((toL s).take i).drop a = [] ↔ a = i := by
  rw [List.drop_eq_nil_iff, List.length_take, toL_len]
  omega
theorem WoAt.space {s : ByteArray} {L : List ByteArray} {a i : Nat} (h : WoAt s L a i) (hi : i < s.size) (hc : s[i] = 32) : WoAt s (if a < i then L ++ [s.extract a i] else L) (i + 1) (i + 1) := by
  refine ⟨Nat.le_refl _, hi, ?_⟩
  have hd := toL_drop hi
  have h0 : ((toL s).take (i + 1)).drop (i + 1) = [] := (drop_nil_iff (Nat.le_refl _) hi).2 rfl
  rw [h.eq, hd, wl, if_pos hc, h0]
  have := h.le
  by_cases e : a = i
  · rw [if_pos ((drop_nil_iff h.le h.top).2 e), if_neg (by omega)]
  · rw [if_neg (fun hh => e ((drop_nil_iff h.le h.top).1 hh)), if_pos (by omega)]
    simp [WoAt.piece]
theorem WoAt.stop {s : ByteArray} {L : List ByteArray} {a : Nat} (h : WoAt s L a s.size) : words (toL s) = (if a < s.size then L ++ [s.extract a s.size] else L).map toL := by
  rw [h.eq, List.drop_of_length_le (Nat.le_of_eq (toL_len s)), wl]
  have := h.le
  by_cases e : a = s.size
  · rw [if_pos ((drop_nil_iff h.le h.top).2 e), if_neg (by omega)]; simp
  · rw [if_neg (fun hh => e ((drop_nil_iff h.le h.top).1 hh)), if_pos (by omega)]
    simp [WoAt.piece]
theorem wo_len {s : ByteArray} {L : List ByteArray} {a i : Nat} (h : WoAt s L a i) : L.length ≤ s.size := by
  have h1 := congrArg List.length h.eq
  rw [List.length_append, List.length_map] at h1
  have h2 : ∀ (l cur : List UInt8), (wl cur l).length ≤ cur.length + l.length := by
    intro l
    induction l with
    | nil => intro cur; unfold wl; split; simp; rename_i h; have := List.length_pos_iff.2 h; simp; omega
    | cons c l ih =>
      intro cur
      unfold wl
      split
      · split
        · have := ih []; simp at this ⊢; omega
        · rename_i h; have := List.length_pos_iff.2 h; have := ih []; simp at this ⊢; omega
      · have := ih (cur ++ [c]); simp at this ⊢; omega
  have h3 := h2 (toL s) []
  rw [toL_len] at h3
  unfold words at h1
  simp at h3
  omega
/-- The loop's state. -/
def WoRel (s : ByteArray) (w : World) (v3 v4 v5 : Value) (wr : World) : Prop :=
  ∃ (A : Option Addr) (c : Nat) (L : List ByteArray) (a i : Nat), v3 = .slice A L.length c ∧ v4 = .int .i64 a ∧ v5 = .int .i64 i ∧ RowAt wr 9 A L.length c (vss L) ∧ (∀ k, k ∈ rowT A → w.heap.size ≤ k) ∧ Only [] w wr ∧
    L.length ≤ s.size ∧ a ≤ s.size + 1 ∧ i ≤ s.size + 1 ∧ (WoAt s L a i ∨ (i = s.size + 1 ∧ words (toL s) = L.map toL))
theorem WoRel.start (s : ByteArray) (w : World) : WoRel s w (.slice none 0 0) (.int .i64 0) (.int .i64 0) w :=
  ⟨none, 0, [], 0, 0, rfl, rfl, rfl, RowAt.nil _ _, by simp [rowT], Only.refl _ _, Nat.zero_le _, Nat.zero_le _, Nat.zero_le _, .inl (WoAt.start s)⟩
theorem WoRel.append {s : ByteArray} {w wr w1 : World} {A A' : Option Addr} {c' : Nat} {L : List ByteArray} {i : Nat} {nm : ByteArray} (hk : ∀ k, k ∈ rowT A → w.heap.size ≤ k) (hO : Only [] w wr)
    (hl : L.length + 1 ≤ s.size) (hi : i ≤ s.size) (hR : RowAt w1 9 A' (L.length + 1) c' (vss (L ++ [nm]))) (hO1 : Only (rowT A) (wr.alloc (.cells #[.string nm] 9)) w1)
    (hk1 : ∀ k, k ∈ rowT A' → k ∈ rowT A ∨ (wr.alloc (.cells #[.string nm] 9)).heap.size ≤ k) (hs : WoAt s (L ++ [nm]) (i + 1) (i + 1) ∨ (i + 1 = s.size + 1 ∧ words (toL s) = (L ++ [nm]).map toL)) :
    WoRel s w (.slice A' (L.length + 1) c') (.int .i64 ((i : Int) + 1)) (.int .i64 ((i : Int) + 1)) w1 := by
  refine ⟨A', c', L ++ [nm], i + 1, i + 1, by simp, rfl, rfl, by simpa using hR, fun k hkk => ?_, ?_, by simp; omega, by omega, by omega, hs⟩
  · rcases hk1 k hkk with h | h
    · exact hk k h
    · have := hO.size; simp at h; omega
  · exact (hO.alloc _).join hO1 fun k hkk => .inr (hk k hkk)
/-- What splitting into words gives. -/
def WordsPost (s : ByteArray) (w : World) (e : Ending) (w' : World) : Prop :=
  Bel w w' ∧ ∃ A c, e = .returned (.slice A (wordsB s).length c) ∧ Strs w' A (wordsB s) ∧ (wordsB s).length ≤ s.size ∧ (wordsB s).length ≤ c ∧ c ≤ maxLen
set_option maxRecDepth 100000 in
set_option maxHeartbeats 1600000 in
theorem words_c (s : ByteArray) (w : World) (hs : s.size ≤ 2000000) :
    Calls Try.prog 40 #[.string s] w (WordsPost s w) := by
  have HSTART := Lib.hid (WoRel.start s w)
  go_enter Try.func40, Try.ntmps40
  go_wp2_with fail
  go_loopw [3, 4, 5] (fun v3 v4 v5 wr => WoRel s w v3 v4 v5 wr) (fun _ _ v5 _ => s.size + 2 - (intOf v5).toNat)
  case atStart => exact HSTART.out
  case round =>
    clear HSTART
    obtain ⟨A, c, L, a, i, rfl, rfl, rfl, hR, hk, hO, hl, ha, hi, hst⟩ := hrel
    have HR := Lib.hid hR
    have HO := Lib.hid hO
    have HK := Lib.hid hk
    clear hR hO hk
    rcases hst with hst | ⟨hie, hp⟩
    · have ha2 : a ≤ i := hst.le
      have hi2 : i ≤ s.size := hst.top
      have HS := Lib.hid hst
      clear hst
      by_cases hlt : i < s.size
      · by_cases hc : s[i] = 32
        · have hne : ¬ i = s.size := by omega
          have hc1 : ((s[i].toNat : Int) == 32) = true := by rw [hc]; rfl
          have HD := Lib.hid (HS.out.space hlt hc)
          clear hc
          by_cases hai : a < i
          · have hai' : (a : Int) < (i : Int) := by omega
            have HD2 : Hid (WoAt s (L ++ [s.extract a i]) (i + 1) (i + 1)) := Lib.hid (by have := HD.out; rw [if_pos hai] at this; exact this)
            have hl2 := wo_len HD2.out
            rw [List.length_append, List.length_singleton] at hl2
            have HAL := Lib.hid (HR.out.alloc (.cells #[.string (s.extract a i)] 9))
            have HBK := Lib.hid (Blk.new wr 9 [.string (s.extract a i)])
            go_wp2_with (first | (at_builtin; refine wp_appendS rfl _ _ rfl A L.length c L rfl HAL.out wr.heap.size (s.extract a i) rfl HBK.out (by omega) ?_; intro A' c' w1 hR1 hO1 hK1))
            go_roundw
            case rel => exact WoRel.append HK.out HO.out hl2 hi2 hR1.out hO1.out hK1.out (.inl HD2.out)
            case measure => simp [intOf]; omega
          · have hai' : ¬ (a : Int) < (i : Int) := by omega
            have HD2 : Hid (WoAt s L (i + 1) (i + 1)) := Lib.hid (by have := HD.out; rw [if_neg hai] at this; exact this)
            go_wp2_with fail
            go_roundw
            case rel => exact ⟨A, c, L, i + 1, i + 1, rfl, rfl, rfl, HR.out, HK.out, HO.out, hl, by omega, by omega, .inl HD2.out⟩
            case measure => simp [intOf]; omega
        · have hne : ¬ i = s.size := by omega
          have hc1 : ((s[i].toNat : Int) == 32) = false := by
            simp only [beq_eq_false_iff_ne]
            intro e
            exact hc (UInt8.toNat_inj.1 (by rw [show (32 : UInt8).toNat = 32 from rfl]; omega))
          have HD := Lib.hid (HS.out.next hlt hc)
          clear hc
          go_wp2_with fail
          go_roundw
          case rel => exact ⟨A, c, L, a, i + 1, rfl, rfl, rfl, HR.out, HK.out, HO.out, hl, ha, by omega, .inl HD.out⟩
          case measure => simp [intOf]; omega
      · obtain rfl : i = s.size := by omega
        clear hlt hi2 hi
        have hi2 : s.size ≤ s.size := Nat.le_refl _
        have HD := Lib.hid HS.out.stop
        by_cases hai : a < s.size
        · have hai' : (a : Int) < (s.size : Int) := by omega
          have HD2 : Hid (words (toL s) = (L ++ [s.extract a s.size]).map toL) := Lib.hid (by have := HD.out; rw [if_pos hai] at this; exact this)
          have hl2 : L.length + 1 ≤ s.size := by
            have h1 : WoAt s (L ++ [s.extract a s.size]) s.size s.size := ⟨Nat.le_refl _, Nat.le_refl _, by
              rw [HD2.out, (drop_nil_iff (Nat.le_refl _) (Nat.le_refl _)).2 rfl, List.drop_of_length_le (Nat.le_of_eq (toL_len s)), wl, if_pos rfl, List.append_nil]⟩
            have := wo_len h1
            rw [List.length_append, List.length_singleton] at this
            exact this
          have HAL := Lib.hid (HR.out.alloc (.cells #[.string (s.extract a s.size)] 9))
          have HBK := Lib.hid (Blk.new wr 9 [.string (s.extract a s.size)])
          go_wp2_with (first | (at_builtin; refine wp_appendS rfl _ _ rfl A L.length c L rfl HAL.out wr.heap.size (s.extract a s.size) rfl HBK.out (by omega) ?_; intro A' c' w1 hR1 hO1 hK1))
          go_roundw
          case rel => exact WoRel.append HK.out HO.out hl2 hi2 hR1.out hO1.out hK1.out (.inr ⟨rfl, HD2.out⟩)
          case measure => simp [intOf]
        · have hai' : ¬ (a : Int) < (s.size : Int) := by omega
          have HD2 : Hid (s.size + 1 = s.size + 1 ∧ words (toL s) = L.map toL) := Lib.hid ⟨rfl, by have := HD.out; rw [if_neg hai] at this; exact this⟩
          go_wp2_with fail
          go_roundw
          case rel => exact ⟨A, c, L, s.size + 1, s.size + 1, rfl, rfl, rfl, HR.out, HK.out, HO.out, hl, by omega, by omega, .inr ⟨rfl, HD2.out.2⟩⟩
          case measure => simp [intOf]
    · have hgt : (s.size : Int) < (i : Int) := by omega
      have HW : Hid (wordsB s = L) := Lib.hid (by unfold wordsB; rw [hp, ← L_parts rfl])
      clear hp
      go_wp2_with fail
      go_ret
      unfold WordsPost
      rw [HW.out]
      exact ⟨bel_of_only HO.out, _, _, rfl, strs_of_row HR.out, hl, HR.out.le, HR.out.max⟩
end Go.Proofs.Yteclclidibmajaa
