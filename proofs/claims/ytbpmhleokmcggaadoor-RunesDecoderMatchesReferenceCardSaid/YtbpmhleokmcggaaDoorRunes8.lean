/-
  The decoder of package runes as it lies in a world; contracts of its methods.
-/
import Derived.Test.YtbpmhleokmcggaaDoorRunes7
namespace Go.Proofs.YtbpmhleokmcggaaDoor
open Go.RowKit Go.BigFrame
set_option linter.unusedVariables false
set_option linter.unusedSimpArgs false
attribute [local go_sem ↓] sliced_cut run_min2 run_max2
attribute [local go_sem] cutA_zero

/-- What a write hands out, what it holds back. -/
def wout (L : List UInt8) : List Nat := decL (L.take (cutL L))
def wheld (L : List UInt8) : List UInt8 := L.drop (cutL L)
theorem wheld_length (L : List UInt8) : (wheld L).length ≤ 3 := (cutL_le L).2
theorem wout_length (L : List UInt8) : (wout L).length ≤ L.length := by
  have := decL_length (L.take (cutL L))
  unfold wout
  rw [List.length_take] at this
  omega
def str (l : List UInt8) : ByteArray := ⟨l.toArray⟩
theorem str_list (l : List UInt8) : (str l).data.toList = l := rfl
theorem str_size (l : List UInt8) : (str l).size = l.length := rfl
theorem str_add (a b : List UInt8) : str a ++ str b = str (a ++ b) := by
  apply sl_inj
  rw [sl_add, str_list, str_list, str_list]
theorem str_from (l : List UInt8) (k : Nat) : (str l).extract k (str l).size = str (l.drop k) := by
  apply sl_inj
  rw [sl_from, str_list, str_list]
theorem str_to (l : List UInt8) (k : Nat) : (str l).extract 0 k = str (l.take k) := by
  apply sl_inj
  rw [sl_to, str_list, str_list]
theorem str_nil : str [] = ⟨#[]⟩ := rfl
/-- A row of runes that came out of a call. -/
def Out (w w' : World) (e : Ending) (l : List Nat) : Prop := ∃ A c, e = .returned (.slice A l.length c) ∧ RowAt w' 21 A l.length c (vrs (ints l)) ∧ ∀ k, k ∈ rowT A → w.heap.size ≤ k
/-- A decoder at block r. -/
def Hd (r : Nat) (l : List UInt8) (w : World) : Prop := Blk w r 49 [.string (str l)]

set_option maxRecDepth 100000 in
set_option maxHeartbeats 800000 in
theorem new_c {w : World} :
    Calls Tryd.prog 20 #[] w fun e w' => e = .returned (.pointer (some ⟨w.heap.size, 0, none⟩)) ∧ Hd w.heap.size [] w' ∧ Only [] w w' := by
  go_enter Tryd.func20, Tryd.ntmps20
  go_wp2
  go_ret
  exact ⟨rfl, Blk.new w _ _, (Only.refl _ _).alloc _⟩
set_option maxRecDepth 100000 in
set_option maxHeartbeats 800000 in
theorem held_c {w : World} {r : Nat} {l : List UInt8} (h : Hd r l w) :
    Calls Tryd.prog 19 #[.pointer (some ⟨r, 0, none⟩)] w fun e w' => e = .returned (.int .i64 l.length) ∧ w = w' := by
  have hc : w.cell? ⟨r, 0, none⟩ = some (.string (str l)) := h.cell 0
  have hz : (str l).size = l.length := str_size l
  generalize str l = s at *
  clear h
  go_enter Tryd.func19, Tryd.ntmps19
  go_wp2
  go_ret
  exact ⟨rfl, rfl⟩
set_option maxRecDepth 100000 in
set_option maxHeartbeats 800000 in
theorem held_nil {w : World} :
    Calls Tryd.prog 19 #[.pointer none] w fun e w' => e = .returned (.int .i64 0) ∧ w = w' := by
  go_enter Tryd.func19, Tryd.ntmps19
  go_wp2
  go_ret
  exact ⟨rfl, rfl⟩
set_option maxRecDepth 100000 in
set_option maxHeartbeats 800000 in
theorem close_nil {w : World} :
    Calls Tryd.prog 18 #[.pointer none] w fun e w' => e = .returned (.slice none 0 0) ∧ w = w' := by
  go_enter Tryd.func18, Tryd.ntmps18
  go_wp2
  go_ret
  exact ⟨rfl, rfl⟩
set_option maxRecDepth 100000 in
set_option maxHeartbeats 800000 in
theorem write_nil {w : World} (v : Value) :
    Calls Tryd.prog 17 #[.pointer none, v] w fun e w' => e = .returned (.slice none 0 0) ∧ w = w' := by
  go_enter Tryd.func17, Tryd.ntmps17
  go_wp2
  go_ret
  exact ⟨rfl, rfl⟩
set_option maxRecDepth 100000 in
set_option maxHeartbeats 1600000 in
theorem close_c {w : World} {r : Nat} {l : List UInt8} (h : Hd r l w) (hl : l.length ≤ 1000000) :
    Calls Tryd.prog 18 #[.pointer (some ⟨r, 0, none⟩)] w fun e w' => Out w w' e (decL l) ∧ Hd r [] w' ∧ Only [r] w w' := by
  have hc : w.cell? ⟨r, 0, none⟩ = some (.string (str l)) := h.cell 0
  have HD := Lib.hid (decode_c (w := w) (str l) (by rw [str_size]; exact hl))
  rw [str_list] at HD
  have H := Lib.hid (show Blk w r 49 [.string (str l)] from h)
  generalize str l = s at *
  clear h hl
  go_enter Tryd.func18, Tryd.ntmps18
  go_wp2_with (go_at_call 11; refine (HD.out).mono ?_; rintro e w5 ⟨A, c, rfl, hrow, hk, hO⟩; have HROW := Lib.hid hrow; have HK := Lib.hid hk; have HO := Lib.hid hO; have hc5 := (H.out.only hO (by simp)).cell 0; have hf5 := (H.out.only hO (by simp)).free 0; simp only [List.getElem?_cons_zero] at hc5; clear hrow hk hO)
  go_ret
  have hB : Blk w5 r 49 [.string s] := H.out.only HO.out (by simp)
  refine ⟨⟨A, c, rfl, HROW.out.far (fun hk => ?_) _, HK.out⟩, hB.set_ 0 _, ?_⟩
  · have := HK.out _ hk
    have := H.out.lt
    simp at *
    omega
  · exact (HO.out.more (by simp)).setCell (.inl (by simp)) _
set_option maxRecDepth 100000 in
set_option maxHeartbeats 3200000 in
theorem write_c {w : World} {r : Nat} {l : List UInt8} (h : Hd r l w) (hT : Tabs w) {B n c : Nat} {A : Option Addr} {b : List UInt8} (hb : Reads w B A n (vbs b)) (hl : l.length ≤ 500000) (hn : n ≤ 500000) :
    Calls Tryd.prog 17 #[.pointer (some ⟨r, 0, none⟩), .slice A n c] w fun e w' => Out w w' e (wout (l ++ b)) ∧ Hd r (wheld (l ++ b)) w' ∧ Only [r] w w' := by
  have hbl : b.length = n := by have := hb.1; rwa [vbs_length] at this
  have hc : w.cell? ⟨r, 0, none⟩ = some (.string (str l)) := h.cell 0
  have hcv : ∀ k, (convert 34 9 (.slice A n c)).run Tryd.prog (w.drewN k) = .ok (.string (str b)) (w.drewN k) := fun k => run_string_of Tryd.underlying34 Tryd.underlying5 Tryd.underlying9 (show Reads (w.drewN k) B A n (vbs b) from hb) c
  have hadd : str l ++ str b = str (l ++ b) := str_add l b
  have hsum : ¬ ((str l).size + (str b).size > 9223372036854775807) := by rw [str_size, str_size]; omega
  have hcut := (cutL_le (l ++ b)).1
  have HLEN := Lib.hid (show (l ++ b).length ≤ 1000000 by simp; omega)
  have hto := str_to (l ++ b) (cutL (l ++ b))
  have hfr := str_from (l ++ b) (cutL (l ++ b))
  have hsz : (str (l ++ b)).size = (l ++ b).length := str_size _
  have HW := Lib.hid (wheld_length (l ++ b))
  have HDL := Lib.hid (fun (w1 : World) (hT1 : Tabs w1) => by have := decodable_c (w := w1) hT1 (str (l ++ b)); rw [str_list] at this; exact this)
  have HDC := Lib.hid (fun (w1 : World) => by have := decode_c (w := w1) (str ((l ++ b).take (cutL (l ++ b)))) (by rw [str_size, List.length_take]; have := HLEN.out; omega); rw [str_list] at this; exact this)
  have HCL := Lib.hid (fun (w1 : World) => clone_c (w := w1) (str (wheld (l ++ b))) (by rw [str_size]; have := wheld_length (l ++ b); omega))
  have H := Lib.hid (show Blk w r 49 [.string (str l)] from h)
  have HT := Lib.hid hT
  change (str (l ++ b)).extract (cutL (l ++ b)) (str (l ++ b)).size = str (wheld (l ++ b)) at hfr
  have HF1 := Lib.hid (show decL ((l ++ b).take (cutL (l ++ b))) = wout (l ++ b) from rfl)
  rw [HF1.out] at HDC
  have hq : (cutL (l ++ b) : Int) ≤ ((str (l ++ b)).size : Int) := by rw [str_size]; omega
  clear hb hcut HLEN HW HF1 hbl hl hn hsz h hT
  unfold Hd
  generalize str (wheld (l ++ b)) = SH at *
  generalize wout (l ++ b) = WO at *
  generalize str ((l ++ b).take (cutL (l ++ b))) = SF at *
  generalize cutL (l ++ b) = q at *
  generalize str (l ++ b) = S at *
  generalize str l = s at *
  generalize str b = t at *
  go_enter Tryd.func17, Tryd.ntmps17
  go_wp2_with fail
  go_quiet (fail)
  go_wp2_with (first | (go_at_call 27; refine (HDL.out _ (HT.out.only ((Only.refl _ _).drewN _))).mono ?_; rintro e w5 ⟨rfl, hO⟩; have HO := Lib.hid (((Only.refl [] w).drewN _).trans hO); clear hO) | (go_at_call 28; refine (HCL.out _).mono ?_; rintro e w6 ⟨rfl, hO⟩; have HO6 := Lib.hid (HO.out.trans hO); have hc6 := (H.out.only HO6.out (by simp)).cell 0; have hf6 := (H.out.only HO6.out (by simp)).free 0; simp only [List.getElem?_cons_zero] at hc6; clear hO) | (go_at_call 11; refine (HDC.out _).mono ?_; rintro e w7 ⟨A7, c7, rfl, hrow, hk, hO⟩; have HROW := Lib.hid hrow; have HK := Lib.hid hk; have HO7 := Lib.hid hO; clear hrow hk hO))
  go_ret
  have hB : Blk w6 r 49 [.string s] := H.out.only HO6.out (by simp)
  have hB2 : Blk (w6.setCell ⟨r, 0, none⟩ (.string SH)) r 49 [.string SH] := hB.set_ 0 _
  have hz := HO6.out.size
  have hO6 : Only [r] w (w6.setCell ⟨r, 0, none⟩ (.string SH)) := (HO6.out.more (by simp)).setCell (.inl (by simp)) _
  have hz2 := hO6.size
  exact ⟨⟨A7, c7, rfl, HROW.out, fun k hk => by have := HK.out k hk; omega⟩, hB2.only HO7.out (by simp), hO6.trans (HO7.out.more (by simp))⟩
end Go.Proofs.YtbpmhleokmcggaaDoor
