/-
  Contracts of package runes that hold no decoder: Decode, Encode, Valid; a rune appended to a row.
-/
import Derived.Test.YtbpmhleokmcggaaDoorRuneEq
import Derived.Test.YtbpmhleokmcggaaDoorFull
import Derived.Test.YtbpmhleokmcggaaDoorValid
import Derived.Test.YtbpmhleokmcggaaDoorUniEnc
import Derived.Lib.OthersKept
import Derived.Laws.Cover4
import Derived.Laws.IdiomStrings
import Derived.WalkSmall
namespace Go.Proofs.YtbpmhleokmcggaaDoor
open Go.RowKit Go.BigFrame
set_option linter.unusedVariables false
set_option linter.unusedSimpArgs false
attribute [local go_sem ↓] sliced_cut run_min2 run_max2
attribute [local go_sem] cutA_zero

theorem info_rune : (Tryd.prog.info? 21).map (fun i => (i.zero, i.size, i.bytes)) = some (some (.int .i32 0), 1, 4) := by kernel_rfl
/-- append(l, r) at the operation. -/
theorem wp_append1 {w : World} {ops : Array Oper} {rest : List Oper} {o : Oper} {a : Act} {Q : Exit → Act → World → Prop} (hgd : o.guard = none) (s x : Operand)
    (ho : o.op = .call { callee := .builtin .append, args := #[s, x], argTypes := #[24, 24] })
    (A : Option Addr) (n c : Nat) (zs : List Int) (hs : a.eval s = .slice A n c) (hA : RowAt w 21 A n c (vrs zs)) (g : Nat) (r : Int) (hx : a.eval x = .slice (some ⟨g, 0, none⟩) 1 1)
    (hb : Blk w g 21 [.int .i32 r]) (hn : n ≤ 4000000)
    (h : ∀ A' c' w', Hid (RowAt w' 21 A' (n + 1) c' (vrs (zs ++ [r]))) → Hid (Only (rowT A) w w') → Hid (∀ k, k ∈ rowT A' → k ∈ rowT A ∨ w.heap.size ≤ k) → wpList Tryd.prog ops Q rest (a.put o.dst (.slice A' (n + 1) c')) w') :
    wpList Tryd.prog ops Q (o :: rest) a w := by
  obtain ⟨i0, hi, hz0, hz1, hz2⟩ := info_parts info_rune
  have hr := Reads.of_blk hb 0 1 (by simp) hb.lt
  refine wp_rowAppend hgd s x 24 ho 21 i0 _ 4 Tryd.underlying24 hi hz0 hz1 hz2 rfl A n c (vrs zs) hs hA w.heap.size (some ⟨g, 0, none⟩) 1 1 [.int .i32 r] hx hr (by simp [Value.oneCell']) (by unfold maxLen; omega) (by omega) (n + 1) rfl ?_
  intro A' c' w' h1 h2 h3
  refine h A' c' w' (Lib.hid ?_) (Lib.hid h2) h3
  have := h1.out
  rw [vrs_append]
  exact this
theorem only_iter (w : World) (k : Nat) (s : ByteArray) (p : Nat) : Only [k] w (w.iterAt k s p) :=
  ⟨rfl, rfl, rfl, by rw [Lib.iterAt_size]; exact Nat.le_refl _, fun j hj hk => Lib.iterAt_other w k j s p (fun e => hk (by simp [e]))⟩
theorem dec_step {s : ByteArray} {pos : Nat} (h : pos < s.size) : decL (s.data.toList.drop pos) = (Utf8.decode s pos).1 :: decL (s.data.toList.drop (pos + (Utf8.decode s pos).2)) ∧ 1 ≤ (Utf8.decode s pos).2 ∧ pos + (Utf8.decode s pos).2 ≤ s.size := by
  have hne : s.data.toList.drop pos ≠ [] := by
    intro e
    have := congrArg List.length e
    rw [List.length_drop, sl_size] at this
    simp at this
    omega
  rw [decL_step hne, decode_dk]
  have := dk_wid hne
  rw [List.length_drop, sl_size] at this
  exact ⟨by rw [List.drop_drop], this.1, by omega⟩
/-- What Decode has come to. -/
def DecAt6 (w : World) (s : ByteArray) (v : Value) (w' : World) (pos : Nat) : Prop :=
  ∃ (A : Option Addr) (n c : Nat) (zs : List Nat), v = .slice A n c ∧ n = zs.length ∧ n ≤ pos ∧ pos ≤ s.size ∧ zs ++ decL (s.data.toList.drop pos) = decL s.data.toList ∧ RowAt w' 21 A n c (vrs (ints zs)) ∧
    w'.heap[w.heap.size]? = some (.stringIter s pos) ∧ (∀ k, k ∈ rowT A → w.heap.size < k) ∧ Only [] w w'
set_option maxRecDepth 100000 in
set_option maxHeartbeats 1600000 in
theorem decode_c {w : World} (s : ByteArray) (hs : s.size ≤ 1000000) :
    Calls Tryd.prog 11 #[.string s] w fun e w' => ∃ A c, e = .returned (.slice A (decL s.data.toList).length c) ∧ RowAt w' 21 A (decL s.data.toList).length c (vrs (ints (decL s.data.toList))) ∧ (∀ k, k ∈ rowT A → w.heap.size ≤ k) ∧ Only [] w w' := by
  go_enter Tryd.func11, Tryd.ntmps11
  go_wp2
  go_loopw [3] (fun v w' => ∃ pos, DecAt6 w s v w' pos) (fun v w' => s.size - w'.iterPos w.heap.size)
  case atStart => exact ⟨0, none, 0, 0, [], rfl, rfl, Nat.le_refl _, Nat.zero_le _, by simp, RowAt.nil _ _, World.iter_heap w s 0, by simp [rowT], (Only.refl [] w).alloc _⟩
  case round =>
    obtain ⟨pos, A, n, c, zs, rfl, hn, hnp, hps, hz, hrow, hit, hk, hO⟩ := hrel
    have HZ := Lib.hid hz
    have HN := Lib.hid hn
    by_cases hp : pos < s.size
    · have hnx : ∀ ty, (Instr.next (.pointer (some ⟨w.heap.size, 0, none⟩)) true ty).run Tryd.prog wr = _ := fun ty => Lib.run_next_any_at wr w.heap.size s pos ty hit hp
      obtain ⟨hd, hd1, hd2⟩ := dec_step hp
      have HD := Lib.hid hd
      generalize (Utf8.decode s pos).1 = R at *
      generalize (Utf8.decode s pos).2 = K at *
      have hk1 := hk
      obtain ⟨W1, hW1⟩ : ∃ W1, wr.iterAt w.heap.size s (pos + K) = W1 := ⟨_, rfl⟩
      rw [hW1] at hnx
      have hO1 : Only [w.heap.size] wr W1 := by rw [← hW1]; exact only_iter wr w.heap.size s (pos + K)
      have hi1 : W1.heap[w.heap.size]? = some (.stringIter s (pos + K)) := by rw [← hW1]; exact Lib.iterAt_heap wr w.heap.size s pos (pos + K) hit
      have HROW := Lib.hid ((hrow.only hO1 (fun k hk2 => by have := hk k hk2; simp; omega)).alloc (.cells #[.int .i32 R] 21))
      have HB := Lib.hid (Blk.new W1 21 [.int .i32 R])
      have HO1 := Lib.hid ((hO.join hO1 (fun k hk2 => by simp at hk2; omega)).alloc (.cells #[.int .i32 R] 21))
      have HI1 := Lib.hid hi1
      have HK := Lib.hid hk
      have HPO := Lib.hid (iterPos_of hit)
      have hns : n ≤ 4000000 := by omega
      clear hd hz hn hW1 hO1 hi1 hrow hk hO hit hk1
      go_wp2_with (first | (with_reducible refine wp_append1 rfl (.tmp 11) (.tmp 13) rfl A n c (ints zs) rfl HROW.out W1.heap.size R rfl HB.out hns ?_; intro A2 c2 w2 HR2 HO2 HK2))
      go_roundw
      case rel =>
        have hlt : w.heap.size < W1.heap.size := (Array.getElem?_eq_some_iff.1 HI1.out).1
        have hi2 : w2.heap[w.heap.size]? = some (.stringIter s (pos + K)) := by
          rw [HO2.out.block w.heap.size (by simp; omega) (fun hk => by have := HK.out _ hk; omega)]
          exact (Below.heap_alloc W1 _ _ hlt).trans HI1.out
        refine ⟨pos + K, A2, n + 1, c2, zs ++ [R], rfl, by rw [HN.out]; simp, by omega, hd2, ?_, ?_, hi2, ?_, ?_⟩
        · rw [← HZ.out, HD.out]; simp
        · have := HR2.out
          simpa [ints] using this
        · intro k hk
          rcases HK2.out k hk with h | h
          · exact HK.out k h
          · simp at h; omega
        · exact HO1.out.join HO2.out (fun k hk => .inr (by have := HK.out k hk; omega))
      case measure =>
        have hlt : w.heap.size < W1.heap.size := (Array.getElem?_eq_some_iff.1 HI1.out).1
        have hi2 : w2.heap[w.heap.size]? = some (.stringIter s (pos + K)) := by
          rw [HO2.out.block w.heap.size (by simp; omega) (fun hk => by have := HK.out _ hk; omega)]
          exact (Below.heap_alloc W1 _ _ hlt).trans HI1.out
        rw [iterPos_of hi2, HPO.out]
        omega
    · have hnx : ∀ ty, (Instr.next (.pointer (some ⟨w.heap.size, 0, none⟩)) true ty).run Tryd.prog wr = _ := fun ty => Lib.run_next_end_at wr w.heap.size s pos ty hit hp
      have HR := Lib.hid (show zs = decL s.data.toList by
        have := HZ.out
        rw [List.drop_of_length_le (by rw [sl_size]; omega), decL_nil, List.append_nil] at this
        exact this)
      clear hz hn
      have HROW := Lib.hid hrow
      have HK := Lib.hid hk
      have HO := Lib.hid hO
      clear hrow hk hO
      go_wp2
      go_ret
      rw [← HR.out, ← HN.out]
      exact ⟨A, c, rfl, HROW.out, fun k hk => Nat.le_of_lt (HK.out k hk), HO.out⟩
end Go.Proofs.YtbpmhleokmcggaaDoor
