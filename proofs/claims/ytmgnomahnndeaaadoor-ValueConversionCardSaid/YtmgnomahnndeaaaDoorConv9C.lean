/-
  Contract: convert.
-/
import Derived.Test.YtmgnomahnndeaaaDoorConv9M
namespace Go.Proofs.YtmgnomahnndeaaaDoor
open Go.RowKit Go.BigFrame
set_option linter.unusedVariables false
set_option linter.unusedSimpArgs false
/-- A value without addresses. -/
theorem flatIn (w : World) (Q : Nat → Prop) (k : Int) (s : ByteArray) (n : Int) (b : Bool) (hk : -9223372036854775808 ≤ k ∧ k ≤ 9223372036854775807) (hs : s.size ≤ 140737488351232) (hn : -9223372036854775808 ≤ n ∧ n ≤ 9223372036854775807) : (VT.mk k s n b none 0 [] none 0 [] []).In w Q :=
  .mk _ hk hn hs (of_decide_eq_true rfl) (of_decide_eq_true rfl) rfl (fun h => absurd h (Nat.lt_irrefl 0)) (fun h => absurd h (Nat.lt_irrefl 0)) (by intro x hx; cases hx) (by intro x hx; cases hx) (by intro x hx; cases hx)
theorem plain_flat (k : Int) (s : ByteArray) (n : Int) (b : Bool) : (VT.mk k s n b none 0 [] none 0 [] []).plain = .mk k s n b [] [] [] := by rw [VT.plain_eq]; rfl
set_option maxRecDepth 100000 in
set_option maxHeartbeats 400000 in
theorem cv_bad (v : Value) (h : AT.Bad v) (d : Nat) (hd : d ≤ 65536) (w : World) : Calls Tryd.prog 43 #[v, .int .i64 d] w (CvR (AT.bad v) w) := by
  have HZ : Hid (Blk (w.alloc (.cells #[.int .i64 0, .string ByteArray.empty, .int .i64 0, .bool false, .slice none 0 0, .slice none 0 0] 34)) w.heap.size 34 VT.zero.cs) := Lib.hid (Blk.new w 34 VT.zero.cs)
  have HW0 : Hid (Bel w (w.alloc (.cells #[.int .i64 0, .string ByteArray.empty, .int .i64 0, .bool false, .slice none 0 0, .slice none 0 0] 34))) := Lib.hid (Bel.alloc _ _)
  obtain ⟨a0, a1, a2, a3, a4, a5⟩ := h
  go_enter Tryd.func43, Tryd.ntmps43
  go_wp2_with fail
  refine bodyPost_ret (done2b (u := VT.zero) rfl rfl rfl (Blk.new w 34 (VT.zero).cs)) rfl ?_
  exact ⟨VT.zero, false, rfl, Bel.alloc _ _, zeroIn _ _, .inr ⟨rfl, by rw [AT.conv], rfl⟩⟩
set_option maxRecDepth 100000 in
set_option maxHeartbeats 400000 in
theorem cv_str (s : ByteArray) (hs : s.size ≤ 140737488351232) (d : Nat) (hd : d ≤ 65536) (w : World) : Calls Tryd.prog 43 #[.iface 9 (.string s), .int .i64 d] w (CvR (AT.str s) w) := by
  have HZ : Hid (Blk (w.alloc (.cells #[.int .i64 0, .string ByteArray.empty, .int .i64 0, .bool false, .slice none 0 0, .slice none 0 0] 34)) w.heap.size 34 VT.zero.cs) := Lib.hid (Blk.new w 34 VT.zero.cs)
  have HW0 : Hid (Bel w (w.alloc (.cells #[.int .i64 0, .string ByteArray.empty, .int .i64 0, .bool false, .slice none 0 0, .slice none 0 0] 34))) := Lib.hid (Bel.alloc _ _)
  have a0 : ∀ W, (Instr.typeAssert (.iface 9 (.string s)) 20 9 true).run Tryd.prog W = .ok (.tuple #[.string s, .bool true]) W := fun W => by kernel_rfl
  go_enter Tryd.func43, Tryd.ntmps43
  go_wp2_with fail
  refine bodyPost_ret (done2b (u := VT.mk 0 s 0 false none 0 [] none 0 [] []) rfl rfl rfl (Blk.new w 34 (VT.mk 0 s 0 false none 0 [] none 0 [] []).cs)) rfl ?_
  exact ⟨VT.mk 0 s 0 false none 0 [] none 0 [] [], true, rfl, Bel.alloc _ _, flatIn _ _ _ _ _ _ (of_decide_eq_true rfl) hs (of_decide_eq_true rfl), .inl ⟨rfl, by rw [AT.conv, plain_flat]⟩⟩
set_option maxRecDepth 100000 in
set_option maxHeartbeats 400000 in
theorem cv_int (m : Int) (hm : -9223372036854775808 ≤ m ∧ m ≤ 9223372036854775807) (d : Nat) (hd : d ≤ 65536) (w : World) : Calls Tryd.prog 43 #[.iface 3 (.int .i64 m), .int .i64 d] w (CvR (AT.int m) w) := by
  have HZ : Hid (Blk (w.alloc (.cells #[.int .i64 0, .string ByteArray.empty, .int .i64 0, .bool false, .slice none 0 0, .slice none 0 0] 34)) w.heap.size 34 VT.zero.cs) := Lib.hid (Blk.new w 34 VT.zero.cs)
  have HW0 : Hid (Bel w (w.alloc (.cells #[.int .i64 0, .string ByteArray.empty, .int .i64 0, .bool false, .slice none 0 0, .slice none 0 0] 34))) := Lib.hid (Bel.alloc _ _)
  have a0 : ∀ W, (Instr.typeAssert (.iface 3 (.int .i64 m)) 20 9 true).run Tryd.prog W = .ok (.tuple #[.string ByteArray.empty, .bool false]) W := fun W => by kernel_rfl
  have a1 : ∀ W, (Instr.typeAssert (.iface 3 (.int .i64 m)) 20 3 true).run Tryd.prog W = .ok (.tuple #[.int .i64 m, .bool true]) W := fun W => by kernel_rfl
  go_enter Tryd.func43, Tryd.ntmps43
  go_wp2_with fail
  refine bodyPost_ret (done2b (u := VT.mk 1 ByteArray.empty m false none 0 [] none 0 [] []) rfl rfl rfl (Blk.new w 34 (VT.mk 1 ByteArray.empty m false none 0 [] none 0 [] []).cs)) rfl ?_
  exact ⟨VT.mk 1 ByteArray.empty m false none 0 [] none 0 [] [], true, rfl, Bel.alloc _ _, flatIn _ _ _ _ _ _ (of_decide_eq_true rfl) (of_decide_eq_true rfl) hm, .inl ⟨rfl, by rw [AT.conv, plain_flat]⟩⟩
set_option maxRecDepth 100000 in
set_option maxHeartbeats 400000 in
theorem cv_i64 (m : Int) (hm : -9223372036854775808 ≤ m ∧ m ≤ 9223372036854775807) (d : Nat) (hd : d ≤ 65536) (w : World) : Calls Tryd.prog 43 #[.iface 2 (.int .i64 m), .int .i64 d] w (CvR (AT.i64 m) w) := by
  have HZ : Hid (Blk (w.alloc (.cells #[.int .i64 0, .string ByteArray.empty, .int .i64 0, .bool false, .slice none 0 0, .slice none 0 0] 34)) w.heap.size 34 VT.zero.cs) := Lib.hid (Blk.new w 34 VT.zero.cs)
  have HW0 : Hid (Bel w (w.alloc (.cells #[.int .i64 0, .string ByteArray.empty, .int .i64 0, .bool false, .slice none 0 0, .slice none 0 0] 34))) := Lib.hid (Bel.alloc _ _)
  have a0 : ∀ W, (Instr.typeAssert (.iface 2 (.int .i64 m)) 20 9 true).run Tryd.prog W = .ok (.tuple #[.string ByteArray.empty, .bool false]) W := fun W => by kernel_rfl
  have a1 : ∀ W, (Instr.typeAssert (.iface 2 (.int .i64 m)) 20 3 true).run Tryd.prog W = .ok (.tuple #[.int .i64 0, .bool false]) W := fun W => by kernel_rfl
  have a2 : ∀ W, (Instr.typeAssert (.iface 2 (.int .i64 m)) 20 2 true).run Tryd.prog W = .ok (.tuple #[.int .i64 m, .bool true]) W := fun W => by kernel_rfl
  go_enter Tryd.func43, Tryd.ntmps43
  go_wp2_with fail
  refine bodyPost_ret (done2b (u := VT.mk 1 ByteArray.empty m false none 0 [] none 0 [] []) rfl rfl rfl (Blk.new w 34 (VT.mk 1 ByteArray.empty m false none 0 [] none 0 [] []).cs)) rfl ?_
  exact ⟨VT.mk 1 ByteArray.empty m false none 0 [] none 0 [] [], true, rfl, Bel.alloc _ _, flatIn _ _ _ _ _ _ (of_decide_eq_true rfl) (of_decide_eq_true rfl) hm, .inl ⟨rfl, by rw [AT.conv, plain_flat]⟩⟩
set_option maxRecDepth 100000 in
set_option maxHeartbeats 400000 in
theorem cv_bool (b : Bool) (d : Nat) (hd : d ≤ 65536) (w : World) : Calls Tryd.prog 43 #[.iface 4 (.bool b), .int .i64 d] w (CvR (AT.bool b) w) := by
  have HZ : Hid (Blk (w.alloc (.cells #[.int .i64 0, .string ByteArray.empty, .int .i64 0, .bool false, .slice none 0 0, .slice none 0 0] 34)) w.heap.size 34 VT.zero.cs) := Lib.hid (Blk.new w 34 VT.zero.cs)
  have HW0 : Hid (Bel w (w.alloc (.cells #[.int .i64 0, .string ByteArray.empty, .int .i64 0, .bool false, .slice none 0 0, .slice none 0 0] 34))) := Lib.hid (Bel.alloc _ _)
  have a0 : ∀ W, (Instr.typeAssert (.iface 4 (.bool b)) 20 9 true).run Tryd.prog W = .ok (.tuple #[.string ByteArray.empty, .bool false]) W := fun W => by kernel_rfl
  have a1 : ∀ W, (Instr.typeAssert (.iface 4 (.bool b)) 20 3 true).run Tryd.prog W = .ok (.tuple #[.int .i64 0, .bool false]) W := fun W => by kernel_rfl
  have a2 : ∀ W, (Instr.typeAssert (.iface 4 (.bool b)) 20 2 true).run Tryd.prog W = .ok (.tuple #[.int .i64 0, .bool false]) W := fun W => by kernel_rfl
  have a3 : ∀ W, (Instr.typeAssert (.iface 4 (.bool b)) 20 4 true).run Tryd.prog W = .ok (.tuple #[.bool b, .bool true]) W := fun W => by kernel_rfl
  go_enter Tryd.func43, Tryd.ntmps43
  go_wp2_with fail
  refine bodyPost_ret (done2b (u := VT.mk 2 ByteArray.empty 0 b none 0 [] none 0 [] []) rfl rfl rfl (Blk.new w 34 (VT.mk 2 ByteArray.empty 0 b none 0 [] none 0 [] []).cs)) rfl ?_
  exact ⟨VT.mk 2 ByteArray.empty 0 b none 0 [] none 0 [] [], true, rfl, Bel.alloc _ _, flatIn _ _ _ _ _ _ (of_decide_eq_true rfl) (of_decide_eq_true rfl) (of_decide_eq_true rfl), .inl ⟨rfl, by rw [AT.conv, plain_flat]⟩⟩
set_option maxRecDepth 100000 in
set_option maxHeartbeats 400000 in
theorem cv_list (A : Option Addr) (c : Nat) (xs : List AT) (d : Nat) (hd : d ≤ 65536) (w : World) (hC : ∀ W, Bel w W → Calls Tryd.prog 51 #[.slice A xs.length c, .int .i64 d] W (CvR (AT.list A c xs) W)) : Calls Tryd.prog 43 #[.iface 53 (.slice A xs.length c), .int .i64 d] w (CvR (AT.list A c xs) w) := by
  have HZ : Hid (Blk (w.alloc (.cells #[.int .i64 0, .string ByteArray.empty, .int .i64 0, .bool false, .slice none 0 0, .slice none 0 0] 34)) w.heap.size 34 VT.zero.cs) := Lib.hid (Blk.new w 34 VT.zero.cs)
  have HW0 : Hid (Bel w (w.alloc (.cells #[.int .i64 0, .string ByteArray.empty, .int .i64 0, .bool false, .slice none 0 0, .slice none 0 0] 34))) := Lib.hid (Bel.alloc _ _)
  have HC := Lib.hid hC
  clear hC
  have a0 : ∀ W, (Instr.typeAssert (.iface 53 (.slice A xs.length c)) 20 9 true).run Tryd.prog W = .ok (.tuple #[.string ByteArray.empty, .bool false]) W := fun W => by kernel_rfl
  have a1 : ∀ W, (Instr.typeAssert (.iface 53 (.slice A xs.length c)) 20 3 true).run Tryd.prog W = .ok (.tuple #[.int .i64 0, .bool false]) W := fun W => by kernel_rfl
  have a2 : ∀ W, (Instr.typeAssert (.iface 53 (.slice A xs.length c)) 20 2 true).run Tryd.prog W = .ok (.tuple #[.int .i64 0, .bool false]) W := fun W => by kernel_rfl
  have a3 : ∀ W, (Instr.typeAssert (.iface 53 (.slice A xs.length c)) 20 4 true).run Tryd.prog W = .ok (.tuple #[.bool false, .bool false]) W := fun W => by kernel_rfl
  have a4 : ∀ W, (Instr.typeAssert (.iface 53 (.slice A xs.length c)) 20 53 true).run Tryd.prog W = .ok (.tuple #[.slice A xs.length c, .bool true]) W := fun W => by kernel_rfl
  go_enter Tryd.func43, Tryd.ntmps43
  go_wp2_with (go_at_call 51; refine (HC.out _ HW0.out).mono ?_; rintro e w1 ⟨t, b, rfl, hb, ht, hcase⟩; have HB1 := Lib.hid hb; have HT := Lib.hid ht; have HCASE := Lib.hid hcase; have hB1 := HZ.out.below hb (by simp); obtain ⟨c0, c1, c2, c3, c4, c5⟩ := cs_cells hB1; have f0 := hB1.free 0; have f1 := hB1.free 1; have f2 := hB1.free 2; have f3 := hB1.free 3; have f4 := hB1.free 4; have f5 := hB1.free 5; have HBB := Lib.hid hB1; clear hb ht hcase hB1)
  refine bodyPost_ret (done2b (u := t) rfl rfl rfl (set6 HBB.out _ _ _ _ _ _)) rfl ?_
  exact ⟨t, b, rfl, bel_on1 (HW0.out.trans HB1.out) (only6 _ _ _ _ _ _ _ _) (by omega), HT.out.only (only6 _ _ _ _ _ _ _ _) (fun g hg => ⟨by simp at hg ⊢; omega, by omega⟩) (fun g hg => by simp at hg ⊢; omega), HCASE.out⟩
set_option maxRecDepth 100000 in
set_option maxHeartbeats 400000 in
theorem cv_map (B : Nat) (ks : List ByteArray) (vs : List AT) (d : Nat) (hd : d ≤ 65536) (w : World) (hC : ∀ W, Bel w W → Calls Tryd.prog 52 #[.map (some B), .int .i64 d] W (CvR (AT.map B ks vs) W)) : Calls Tryd.prog 43 #[.iface 54 (.map (some B)), .int .i64 d] w (CvR (AT.map B ks vs) w) := by
  have HZ : Hid (Blk (w.alloc (.cells #[.int .i64 0, .string ByteArray.empty, .int .i64 0, .bool false, .slice none 0 0, .slice none 0 0] 34)) w.heap.size 34 VT.zero.cs) := Lib.hid (Blk.new w 34 VT.zero.cs)
  have HW0 : Hid (Bel w (w.alloc (.cells #[.int .i64 0, .string ByteArray.empty, .int .i64 0, .bool false, .slice none 0 0, .slice none 0 0] 34))) := Lib.hid (Bel.alloc _ _)
  have HC := Lib.hid hC
  clear hC
  have a0 : ∀ W, (Instr.typeAssert (.iface 54 (.map (some B))) 20 9 true).run Tryd.prog W = .ok (.tuple #[.string ByteArray.empty, .bool false]) W := fun W => by kernel_rfl
  have a1 : ∀ W, (Instr.typeAssert (.iface 54 (.map (some B))) 20 3 true).run Tryd.prog W = .ok (.tuple #[.int .i64 0, .bool false]) W := fun W => by kernel_rfl
  have a2 : ∀ W, (Instr.typeAssert (.iface 54 (.map (some B))) 20 2 true).run Tryd.prog W = .ok (.tuple #[.int .i64 0, .bool false]) W := fun W => by kernel_rfl
  have a3 : ∀ W, (Instr.typeAssert (.iface 54 (.map (some B))) 20 4 true).run Tryd.prog W = .ok (.tuple #[.bool false, .bool false]) W := fun W => by kernel_rfl
  have a4 : ∀ W, (Instr.typeAssert (.iface 54 (.map (some B))) 20 53 true).run Tryd.prog W = .ok (.tuple #[.slice none 0 0, .bool false]) W := fun W => by kernel_rfl
  have a5 : ∀ W, (Instr.typeAssert (.iface 54 (.map (some B))) 20 54 true).run Tryd.prog W = .ok (.tuple #[.map (some B), .bool true]) W := fun W => by kernel_rfl
  go_enter Tryd.func43, Tryd.ntmps43
  go_wp2_with (go_at_call 52; refine (HC.out _ HW0.out).mono ?_; rintro e w1 ⟨t, b, rfl, hb, ht, hcase⟩; have HB1 := Lib.hid hb; have HT := Lib.hid ht; have HCASE := Lib.hid hcase; have hB1 := HZ.out.below hb (by simp); obtain ⟨c0, c1, c2, c3, c4, c5⟩ := cs_cells hB1; have f0 := hB1.free 0; have f1 := hB1.free 1; have f2 := hB1.free 2; have f3 := hB1.free 3; have f4 := hB1.free 4; have f5 := hB1.free 5; have HBB := Lib.hid hB1; clear hb ht hcase hB1)
  refine bodyPost_ret (done2b (u := t) rfl rfl rfl (set6 HBB.out _ _ _ _ _ _)) rfl ?_
  exact ⟨t, b, rfl, bel_on1 (HW0.out.trans HB1.out) (only6 _ _ _ _ _ _ _ _) (by omega), HT.out.only (only6 _ _ _ _ _ _ _ _) (fun g hg => ⟨by simp at hg ⊢; omega, by omega⟩) (fun g hg => by simp at hg ⊢; omega), HCASE.out⟩
theorem convert_c : ∀ (n : Nat) (a : AT), a.hle n → ∀ (d : Nat), d + n ≤ 60000 → ∀ (w : World), a.In w (· < w.heap.size) → Calls Tryd.prog 43 #[a.val, .int .i64 d] w (CvR a w) := by
  intro n
  induction n with
  | zero => intro a h; cases h
  | succ n ih =>
  intro a hle d hd w hI
  have hI' := hI
  cases hI with
  | bad v h => exact cv_bad v h d (by omega) w
  | str s h => exact cv_str s h d (by omega) w
  | int m h => exact cv_int m h d (by omega) w
  | i64 m h => exact cv_i64 m h d (by omega) w
  | bool b => exact cv_bool b d (by omega) w
  | list A c xs hc hA hv =>
    have hle' : ∀ x, x ∈ xs → x.hle n := hle
    exact cv_list A c xs d (by omega) w fun W hb => convertList_c A c xs d (by omega) W (hI'.bel hb) fun x hx W' hb' => element_c x (d + 1) (by omega) W' ((hv x hx).bel (hb.trans hb')) fun W'' hb'' => ih x (hle' x hx) (d + 1) (by omega) W'' ((hv x hx).bel ((hb.trans hb').trans hb''))
  | map B ks vs hB hl hn hc hm hks hv =>
    have hle' : ∀ x, x ∈ vs → x.hle n := hle
    exact cv_map B ks vs d (by omega) w fun W hb => convertMap_c B ks vs d (by omega) W (hI'.bel hb) fun x hx W' hb' => element_c x (d + 1) (by omega) W' ((hv x hx).bel (hb.trans hb')) fun W'' hb'' => ih x (hle' x hx) (d + 1) (by omega) W'' ((hv x hx).bel ((hb.trans hb').trans hb''))
end Go.Proofs.YtmgnomahnndeaaaDoor
