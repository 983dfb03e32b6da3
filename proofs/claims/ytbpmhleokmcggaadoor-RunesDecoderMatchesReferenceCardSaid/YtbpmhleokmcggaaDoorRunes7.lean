/-
  Contracts of package runes: Encode, Valid, what can be decoded.
-/
import Derived.Test.YtbpmhleokmcggaaDoorRunes6
import Derived.Test.YtbpmhleokmcggaaDoorShelf
namespace Go.Proofs.YtbpmhleokmcggaaDoor
open Go.RowKit Go.BigFrame
set_option linter.unusedVariables false
set_option linter.unusedSimpArgs false
attribute [local go_sem ↓] sliced_cut run_min2 run_max2
attribute [local go_sem] cutA_zero

theorem runes_fold (zs : List Int) : ∀ s : ByteArray, (zs.foldl (fun r n => r ++ Utf8.encode n) s).data.toList = s.data.toList ++ encL zs := by
  induction zs with
  | nil => intro s; simp [encL]
  | cons r zs ih =>
    intro s
    rw [List.foldl_cons, ih, sl_add, encode_encN, encL_cons, List.append_assoc]
theorem runes_bytes (zs : List Int) : runesBytes zs = ⟨(encL zs).toArray⟩ := by
  apply sl_inj
  unfold runesBytes
  rw [runes_fold]
  rfl
/-- 'string(l)' of runes. -/
theorem run_string_of_runes {w : World} {B n : Nat} {A : Option Addr} {zs : List Int} (h : Reads w B A n (vrs zs)) (c : Nat) :
    (convert 24 9 (.slice A n c)).run Tryd.prog w = .ok (.string ⟨(encL zs).toArray⟩) w := by
  have hl : zs.length = n := by have := h.1; rwa [vrs_length] at this
  subst hl
  rw [run_convert_runes_string w _ _ _ A zs.length c Tryd.underlying24 Tryd.underlying21 Tryd.underlying9]
  rcases A with _ | ad
  · have h0 : zs.length = 0 := by
      rcases Nat.eq_zero_or_pos zs.length with h0 | h0
      · exact h0
      · obtain ⟨_, e1, _⟩ := h.2 h0
        cases e1
    have : zs = [] := List.eq_nil_of_length_eq_zero h0
    subst this
    rfl
  · have hl := run_loadCells_list (P := Tryd.prog) w ad (zs.map (Value.int .i32)) (fun j v hj => by
      obtain ⟨ad', e1, _, hc⟩ := h.2 (by
        have := (List.getElem?_eq_some_iff.1 hj).1
        simp at this
        omega)
      injection e1 with e1
      subst e1
      exact hc j v hj)
    simp only [List.length_map] at hl
    rw [run_runesToString w ad zs.length c zs hl, runes_bytes]
set_option maxRecDepth 100000 in
set_option maxHeartbeats 800000 in
theorem encode_c {w : World} {B n c : Nat} {A : Option Addr} {zs : List Int} (h : Reads w B A n (vrs zs)) :
    Calls Tryd.prog 15 #[.slice A n c] w fun e w' => e = .returned (.string ⟨(encL zs).toArray⟩) ∧ w = w' := by
  have hcv := run_string_of_runes h c
  clear h
  go_enter Tryd.func15, Tryd.ntmps15
  go_wp2
  go_ret
  exact ⟨rfl, rfl⟩
set_option maxRecDepth 100000 in
set_option maxHeartbeats 800000 in
theorem valid_c {w : World} (hT : Tabs w) (s : ByteArray) :
    Calls Tryd.prog 13 #[.string s] w fun e w' => e = .returned (.bool (valL s.data.toList)) ∧ Only [] w w' := by
  have HC := Lib.hid (validString_c hT s)
  clear hT
  go_enter Tryd.func13, Tryd.ntmps13
  go_wp2_with (go_at_call 25; refine HC.out.mono ?_; rintro e w5 ⟨rfl, hO5⟩)
  go_ret
  exact ⟨rfl, hO5⟩
set_option maxRecDepth 100000 in
set_option maxHeartbeats 800000 in
theorem clone_c {w : World} (s : ByteArray) (hs : s.size ≤ 281474976710656) :
    Calls Tryd.prog 28 #[.string s] w fun e w' => e = .returned (.string s) ∧ Only [] w w' := by
  have HC := Lib.hid (Any.stringslite_Clone Tryd.laysSC s w hs)
  clear hs
  go_enter Tryd.func28, Tryd.ntmps28
  go_wp2_with (go_at_call 31; refine (HC.out).mono ?_; rintro e w5 ⟨rfl, hO5⟩)
  go_ret
  exact ⟨rfl, Only.of_below hO5 (fun k hk _ => hk)⟩
set_option maxRecDepth 100000 in
set_option maxHeartbeats 1600000 in
theorem decodable_c {w : World} (hT : Tabs w) (s : ByteArray) :
    Calls Tryd.prog 27 #[.string s] w fun e w' => e = .returned (.int .i64 (cutL s.data.toList)) ∧ Only [] w w' := by
  have HT := Lib.hid hT
  clear hT
  go_enter Tryd.func27, Tryd.ntmps27
  go_wp2
  go_loopw [] (fun w' => ∃ pos, pos ≤ s.size ∧ cutL s.data.toList = pos + cutL (s.data.toList.drop pos) ∧ w'.heap[w.heap.size]? = some (.stringIter s pos) ∧ Only [] w w') (fun w' => s.size - w'.iterPos w.heap.size)
  case atStart => exact ⟨0, Nat.zero_le _, by simp, World.iter_heap w s 0, (Only.refl [] w).alloc _⟩
  case round =>
    obtain ⟨pos, hps, hcut, hit, hO⟩ := hrel
    have HCUT := Lib.hid hcut
    have HO := Lib.hid hO
    by_cases hp : pos < s.size
    · have hnx : ∀ ty, (Instr.next (.pointer (some ⟨w.heap.size, 0, none⟩)) true ty).run Tryd.prog wr = _ := fun ty => Lib.run_next_any_at wr w.heap.size s pos ty hit hp
      have hd := (dec_step hp).2
      have hdk := decode_dk s pos
      generalize Utf8.decode s pos = RK at *
      obtain ⟨R, K⟩ := RK
      have hd' : 1 ≤ K ∧ pos + K ≤ s.size := hd
      obtain ⟨W1, hW1⟩ : ∃ W1, wr.iterAt w.heap.size s (pos + K) = W1 := ⟨_, rfl⟩
      simp only [hW1] at hnx
      have hO1 : Only [w.heap.size] wr W1 := by rw [← hW1]; exact only_iter wr w.heap.size s (pos + K)
      have HI1 := Lib.hid (show W1.heap[w.heap.size]? = some (.stringIter s (pos + K)) by rw [← hW1]; exact Lib.iterAt_heap wr w.heap.size s pos (pos + K) hit)
      have HO1 := Lib.hid (hO.join hO1 (fun k hk2 => by simp at hk2; omega))
      have HPO := Lib.hid (iterPos_of hit)
      obtain ⟨t, ht⟩ : ∃ t, s.extract pos s.size = t := ⟨_, rfl⟩
      have HF := Lib.hid (full_c (HT.out.only HO1.out) t)
      have hne : t.data.toList ≠ [] := by
        rw [← ht, sl_from]
        intro e
        have := congrArg List.length e
        rw [List.length_drop, sl_size] at this
        simp at this
        omega
      have hfu : fullL t.data.toList = !(fst t.data.toList).2 := by unfold fullL; rw [if_neg hne]
      have hpi : (pos : Int) ≤ (s.size : Int) := by omega
      have hdr : s.data.toList.drop pos = t.data.toList := by rw [← ht, sl_from]
      rw [hdr] at hdk
      clear hcut hO hit hW1 hO1
      cases hm : (fst t.data.toList).2 with
      | true =>
        have HR := Lib.hid (show cutL s.data.toList = pos by rw [HCUT.out, hdr, cutL_more hm]; rfl)
        rw [hfu, hm] at HF
        clear hfu hm hdk hdr hne
        go_wp2_with (go_at_call 30; refine (HF.out).mono ?_; rintro e w5 ⟨rfl, hO5⟩; have HO5 := Lib.hid hO5; clear hO5)
        go_ret
        rw [HR.out]
        exact ⟨rfl, HO1.out.trans HO5.out⟩
      | false =>
        have HR := Lib.hid (show cutL s.data.toList = (pos + K) + cutL (s.data.toList.drop (pos + K)) by
          rw [HCUT.out, hdr, cutL_step hne hm, ← hdk, ← hdr, List.drop_drop, Nat.add_assoc])
        rw [hfu, hm] at HF
        clear hfu hm hdk hdr hne
        go_wp2_with (go_at_call 30; refine (HF.out).mono ?_; rintro e w5 ⟨rfl, hO5⟩; have HO5 := Lib.hid hO5; clear hO5)
        have hlt : w.heap.size < W1.heap.size := (Array.getElem?_eq_some_iff.1 HI1.out).1
        have hi2 : w5.heap[w.heap.size]? = some (.stringIter s (pos + K)) := by
          rw [HO5.out.block w.heap.size hlt (by simp)]
          exact HI1.out
        have HPO2 := Lib.hid (iterPos_of hi2)
        go_roundw
        case rel => exact ⟨pos + K, hd.2, HR.out, hi2, HO1.out.trans HO5.out⟩
        case measure => rw [HPO2.out, HPO.out]; have := hd'.1; have := hd'.2; omega
    · have hnx : ∀ ty, (Instr.next (.pointer (some ⟨w.heap.size, 0, none⟩)) true ty).run Tryd.prog wr = _ := fun ty => Lib.run_next_end_at wr w.heap.size s pos ty hit hp
      have HR := Lib.hid (show cutL s.data.toList = s.size by
        rw [hcut, List.drop_of_length_le (by rw [sl_size]; omega), cutL_nil]; omega)
      clear hcut hO hit
      go_wp2
      go_ret
      rw [HR.out]
      exact ⟨rfl, HO.out⟩
end Go.Proofs.YtbpmhleokmcggaaDoor
