/-
  The walks of RunesRoundTrip and RunesConcatenation.
-/
import Derived.Test.YtbpmhleokmcggaaDoorAlive6
namespace Go.Proofs.YtbpmhleokmcggaaDoor
open Go.RowKit Go.BigFrame
set_option linter.unusedVariables false
set_option linter.unusedSimpArgs false
attribute [local go_sem ↓] sliced_cut run_min2 run_max2
attribute [local go_sem] cutA_zero

/-- An append whose guard says yes. -/
theorem wp_rowAppend_want {P : Program} {w : World} {ops : Array Oper} {rest : List Oper} {o : Oper} {a : Act} {Q : Exit → Act → World → Prop} (hw : Region.wanted o (yielded ops a.tmps) = true) (s x : Operand) (t : TypeId) (ho : o.op = .call { callee := .builtin .append, args := #[s, x], argTypes := #[t, t] })
    (e : TypeId) (i : TypeInfo) (z : Value) (bytes : Nat) (ht : P.underlying t = some (.slice e)) (hi : P.info? e = some i) (hz : i.zero = some z)
    (hsize : i.size = 1) (hby : i.bytes = bytes) (hzs : z.cells.size = 1) (A : Option Addr) (n c : Nat) (xs : List Value) (hs : a.eval s = .slice A n c) (hA : RowAt w e A n c xs)
    (B : Nat) (X : Option Addr) (m d : Nat) (news : List Value) (hx : a.eval x = .slice X m d) (hr : Reads w B X m news) (h1 : ∀ u ∈ news, u.oneCell' = true)
    (h63 : n + m ≤ maxLen) (hbytes : (n + m) * bytes ≤ 140737488355328) (N : Nat) (hN : N = n + m)
    (h : ∀ A' c' w', Hid (RowAt w' e A' N c' (xs ++ news)) → Only (rowT A) w w' → Hid (∀ k, k ∈ rowT A' → k ∈ rowT A ∨ w.heap.size ≤ k) → wpList P ops Q rest (a.put o.dst (.slice A' N c')) w') :
    wpList P ops Q (o :: rest) a w := by
  subst hN
  refine wpList_want hw fun K hK => ?_
  obtain ⟨A', c', w', hrun, h2, h3, h4⟩ := row_append (P := P) o.type ht hi hz hsize hby hzs hA d hr h1 h63 hbytes
  unfold Oper.wp execOp
  simp only [ho, resolve, invoke, builtin, Sem.run_bind, Sem.run_pure, Result.andThen_ok, List.map_toArray, List.map_cons, List.map_nil, hs, hx, hrun]
  exact hK _ _ (h A' c' w' h2 h3 h4)
set_option maxRecDepth 100000 in
set_option maxHeartbeats 3200000 in
theorem roundLaw (s : ByteArray) (w : World) (hT : Tabs w) (hs : s.size ≤ maxLen) :
    Calls Tryd.prog 7 #[.string s] w fun e w' => e = .returned (.bool true) ∧ Below w.heap.size w w' := by
  have HT := Lib.hid hT
  by_cases hbig : 3000 < s.size
  · have HA := Lib.hid (alive_c hT)
    have hi : (3000 : Int) < (s.size : Int) := by omega
    clear hT hs
    go_enter Tryd.func7, Tryd.ntmps7
    go_wp2_with (go_at_call 9; refine (HA.out).mono ?_; rintro e w1 ⟨rfl, hO⟩)
    go_ret
    exact ⟨rfl, only_nil_below hO⟩
  have hi : ¬ ((3000 : Int) < (s.size : Int)) := by omega
  obtain ⟨rt1, rt2, rt3, rt4⟩ := round_trip s.data.toList
  have HLE := Lib.hid (show s.size ≤ 1000000 by omega)
  have HA := Lib.hid (fun (w1 : World) (hO : Only [] w w1) => alive_c (HT.out.only hO))
  have hle : ((decL s.data.toList).length : Int) ≤ (s.size : Int) := by rw [sl_size] at rt4; omega
  have HN := Lib.hid (show (decL s.data.toList).length ≤ 1000000 by have := HLE.out; omega)
  have HD := Lib.hid (fun w1 : World => decode_c (w := w1) s HLE.out)
  have hel : (encL (ints (decL s.data.toList))).length ≤ 4 * s.size := by
    have h4 : ∀ l : List Int, (encL l).length ≤ 4 * l.length := by
      intro l
      induction l with
      | nil => simp [encL]
      | cons r l ih => rw [encL_cons, List.length_append, List.length_cons]; have := encN_length (cp r); omega
    have := h4 (ints (decL s.data.toList))
    have h5 : (ints (decL s.data.toList)).length = (decL s.data.toList).length := by simp [ints]
    rw [sl_size] at rt4
    omega
  obtain ⟨t, ht⟩ : ∃ t, str (encL (ints (decL s.data.toList))) = t := ⟨_, rfl⟩
  have htl : t.data.toList = encL (ints (decL s.data.toList)) := by rw [← ht, str_list]
  have htz : t.size ≤ 1000000 := by rw [← ht, str_size]; have := HLE.out; omega
  have HE := Lib.hid (fun (w1 : World) (B c : Nat) (A : Option Addr) (h : Reads w1 B A (decL s.data.toList).length (vrs (ints (decL s.data.toList)))) => by
    have := encode_c (c := c) h
    change Calls _ _ _ _ (fun e w' => e = .returned (.string (str (encL (ints (decL s.data.toList))))) ∧ w1 = w') at this
    rw [ht] at this
    exact this)
  rw [← htl] at rt1 rt2 rt3
  have HVT := Lib.hid (fun (w1 : World) (hO : Only [] w w1) => by
    have := valid_c (HT.out.only hO) t
    rw [rt1] at this
    exact this)
  have HVS := Lib.hid (fun (w1 : World) (hO : Only [] w w1) => valid_c (HT.out.only hO) s)
  have HDT := Lib.hid (fun w1 : World => by
    have := decode_c (w := w1) t htz
    rw [rt3] at this
    exact this)
  have HEQ := Lib.hid (show (t.toList == s.toList) = valL s.data.toList by
    rw [ByteArray.toList_eq, ByteArray.toList_eq, Bool.eq_iff_iff, beq_iff_eq]
    exact rt2)
  clear htl ht htz hel rt1 rt2 rt3 rt4 hT hs
  generalize decL s.data.toList = L at *
  generalize valL s.data.toList = V at *
  go_enter Tryd.func7, Tryd.ntmps7
  go_wp2_with (first | (go_at_call 11; (with_reducible refine (HD.out _).mono ?_); rintro e w1 ⟨A1, c1, rfl, hrow, _, hO⟩; have HO1 := Lib.hid hO; have HR1 := Lib.hid hrow; clear hrow hO) | (go_at_call 15; refine (HE.out _ _ _ _ HR1.out.reads).mono ?_; rintro e w2 ⟨rfl, rfl⟩) | (go_at_call 9; refine (HA.out _ HO1.out).mono ?_; rintro e w3 ⟨rfl, hO⟩; have HO3 := Lib.hid (HO1.out.trans hO); have HR3 := Lib.hid (HR1.out.only hO (by simp)); clear hO) | (go_at_call 13; (with_reducible refine (HVT.out _ HO3.out).mono ?_); rintro e w4 ⟨rfl, hO⟩; have HO4 := Lib.hid (HO3.out.trans hO); have HR4 := Lib.hid (HR3.out.only hO (by simp)); clear hO) | (go_at_call 13; (with_reducible refine (HVS.out _ HO4.out).mono ?_); rintro e w5 ⟨rfl, hO⟩; have HO5 := Lib.hid (HO4.out.trans hO); have HR5 := Lib.hid (HR4.out.only hO (by simp)); clear hO) | (go_at_call 11; (with_reducible refine (HDT.out _).mono ?_); rintro e w6 ⟨A6, c6, rfl, hrow, _, hO⟩; have HO6 := Lib.hid (HO5.out.trans hO); have HEE := Lib.hid (equalr_c hrow.reads (HR5.out.only hO (by simp)).reads c6 c1 HN.out HN.out); clear hrow hO) | (go_at_call 10; refine (HEE.out).mono ?_; rintro e w7 ⟨rfl, hO⟩; rw [beq_self_eq_true]; have HO7 := Lib.hid (HO6.out.trans hO); clear hO))
  go_ret
  exact ⟨rfl, only_nil_below HO7.out⟩
theorem row_ints {w : World} {e : TypeId} {A : Option Addr} {n c : Nat} {a b : List Nat} (h : RowAt w e A n c (vrs (ints a) ++ vrs (ints b))) : RowAt w e A n c (vrs (ints (a ++ b))) := by
  rw [← vrs_append] at h
  have : ints (a ++ b) = ints a ++ ints b := by simp [ints]
  rw [this]
  exact h
set_option maxRecDepth 100000 in
set_option maxHeartbeats 3200000 in
theorem concatLaw (a b : ByteArray) (w : World) (hT : Tabs w) (hs : a.size ≤ maxLen) (hs2 : b.size ≤ maxLen) :
    Calls Tryd.prog 8 #[.string a, .string b] w fun e w' => e = .returned (.bool true) ∧ Below w.heap.size w w' := by
  have HT := Lib.hid hT
  have HA := Lib.hid (fun (w1 : World) (hO : Only [] w w1) => alive_c (HT.out.only hO))
  by_cases hbig : 2000 < a.size
  · have hi : (2000 : Int) < (a.size : Int) := by omega
    clear hT hs hs2
    go_enter Tryd.func8, Tryd.ntmps8
    go_wp2_with (go_at_call 9; refine (HA.out _ (Only.refl _ _)).mono ?_; rintro e w1 ⟨rfl, hO⟩)
    go_ret
    exact ⟨rfl, only_nil_below hO⟩
  have hi : ¬ ((2000 : Int) < (a.size : Int)) := by omega
  by_cases hbig2 : 2000 < b.size
  · have hi2 : (2000 : Int) < (b.size : Int) := by omega
    clear hT hs hs2
    go_enter Tryd.func8, Tryd.ntmps8
    go_wp2_with (go_at_call 9; refine (HA.out _ (Only.refl _ _)).mono ?_; rintro e w1 ⟨rfl, hO⟩)
    go_ret
    exact ⟨rfl, only_nil_below hO⟩
  have hi2 : ¬ ((2000 : Int) < (b.size : Int)) := by omega
  have HVA := Lib.hid (fun (w1 : World) (hO : Only [] w w1) => valid_c (HT.out.only hO) a)
  cases hva : valL a.data.toList with
  | false =>
    rw [hva] at HVA
    clear hT hs hs2 hva
    go_enter Tryd.func8, Tryd.ntmps8
    go_wp2_with (first | (go_at_call 13; refine (HVA.out _ (Only.refl _ _)).mono ?_; rintro e w1 ⟨rfl, hO⟩; have HO1 := Lib.hid hO; clear hO) | (go_at_call 9; refine (HA.out _ HO1.out).mono ?_; rintro e w2 ⟨rfl, hO⟩; have HO2 := Lib.hid (HO1.out.trans hO); clear hO))
    go_ret
    exact ⟨rfl, only_nil_below HO2.out⟩
  | true =>
    rw [hva] at HVA
    obtain ⟨q1, q2⟩ := decL_split a.data.toList b.data.toList hva
    have hsum : ¬ (a.size + b.size > 9223372036854775807) := by omega
    have HLA := Lib.hid (show a.size ≤ 1000000 by omega)
    have HLB := Lib.hid (show b.size ≤ 1000000 by omega)
    have HLT := Lib.hid (show (a ++ b).size ≤ 1000000 by rw [ByteArray.size_append]; omega)
    rw [← sl_add] at q1 q2
    have HNA := Lib.hid (show (decL a.data.toList).length ≤ 1000000 by have := decL_length a.data.toList; rw [sl_size] at this; omega)
    have HNB := Lib.hid (show (decL b.data.toList).length ≤ 1000000 by have := decL_length b.data.toList; rw [sl_size] at this; omega)
    have HNS := Lib.hid (show (decL a.data.toList).length + (decL b.data.toList).length ≤ 1000000 by
      have h1 := decL_length a.data.toList
      have h2 := decL_length b.data.toList
      rw [sl_size] at h1 h2
      omega)
    have HDA := Lib.hid (fun w1 : World => decode_c (w := w1) a HLA.out)
    have HDB := Lib.hid (fun w1 : World => decode_c (w := w1) b HLB.out)
    have HDT := Lib.hid (fun w1 : World => by
      have := decode_c (w := w1) (a ++ b) HLT.out
      rw [q1] at this
      exact this)
    have HVB := Lib.hid (fun (w1 : World) (hO : Only [] w w1) => valid_c (HT.out.only hO) b)
    have HVT := Lib.hid (fun (w1 : World) (hO : Only [] w w1) => by
      have := valid_c (HT.out.only hO) (a ++ b)
      rw [q2] at this
      exact this)
    obtain ⟨i0, hinf, hz0, hz1, hz2⟩ := info_parts info_rune
    clear q1 q2 hva hT hs hs2
    generalize decL a.data.toList = LA at *
    generalize decL b.data.toList = LB at *
    generalize valL b.data.toList = V at *
    obtain ⟨T, hTT⟩ : ∃ T, a ++ b = T := ⟨_, rfl⟩
    rw [hTT] at HDT HVT
    have hb1 := Lib.hid (show LA.length + LB.length ≤ maxLen by have := HNS.out; unfold maxLen; omega)
    have hb2 := Lib.hid (show (LA.length + LB.length) * 4 ≤ 140737488355328 by have := HNS.out; omega)
    go_enter Tryd.func8, Tryd.ntmps8
    go_wp2_with (first | (go_at_call 13; (with_reducible refine (HVA.out _ (Only.refl _ _)).mono ?_); rintro e w1 ⟨rfl, hO⟩; have HO1 := Lib.hid hO; clear hO) | (go_at_call 9; refine (HA.out _ HO1.out).mono ?_; rintro e w2 ⟨rfl, hO⟩; have HO2 := Lib.hid (HO1.out.trans hO); clear hO) | (go_at_call 11; (with_reducible refine (HDT.out _).mono ?_); rintro e w3 ⟨A3, c3, rfl, hrow, hk, hO⟩; have HO3 := Lib.hid (HO2.out.trans hO); have HL3 := Lib.hid hrow.lt; rw [List.length_append] at hrow; have HR3 := Lib.hid hrow; clear hrow hk hO) | (go_at_call 11; (with_reducible refine (HDA.out _).mono ?_); rintro e w4 ⟨A4, c4, rfl, hrow, hk, hO⟩; have HO4 := Lib.hid (HO3.out.trans hO); have HR43 := Lib.hid (HR3.out.only hO (by simp)); have HR4 := Lib.hid hrow; have HK4 := Lib.hid hk; clear hrow hk hO) | (go_at_call 11; (with_reducible refine (HDB.out _).mono ?_); rintro e w5 ⟨A5, c5, rfl, hrow, hk, hO⟩; have HO5 := Lib.hid (HO4.out.trans hO); have HR53 := Lib.hid (HR43.out.only hO (by simp)); have HR54 := Lib.hid (HR4.out.only hO (by simp)); have HR5 := Lib.hid hrow.reads; clear hrow hk hO) | ((with_reducible refine wp_rowAppend_want ?hw (.tmp 26) (.tmp 28) 24 rfl 21 i0 _ 4 Tryd.underlying24 hinf hz0 hz1 hz2 rfl A4 LA.length c4 (vrs (ints LA)) rfl HR54.out w5.heap.size A5 LB.length c5 (vrs (ints LB)) rfl HR5.out (vrs_one _) hb1.out hb2.out (LA.length + LB.length) rfl ?_); (case hw => rfl); intro A6 c6 w6 HR6 hO6 HK6; have HO6 := Lib.hid (HO5.out.join hO6 (fun k hk => .inr (by have := HK4.out k hk; have := HO3.out.size; omega))); have HR6' := Lib.hid (row_ints HR6.out); have HR63 := Lib.hid (HR53.out.only hO6 (fun k hk hk2 => by have := HK4.out k hk2; have := HL3.out k hk; omega)); have HEE := Lib.hid (equalr_c HR63.out.reads HR6'.out.reads c3 c6 HNS.out HNS.out); clear hO6) | (go_at_call 10; refine (HEE.out).mono ?_; rintro e w7 ⟨rfl, hO⟩; rw [beq_self_eq_true]; have HO7 := Lib.hid (HO6.out.trans hO); clear hO) | (go_at_call 13; (with_reducible refine (HVT.out _ HO7.out).mono ?_); rintro e w8 ⟨rfl, hO⟩; have HO8 := Lib.hid (HO7.out.trans hO); clear hO) | (go_at_call 13; (with_reducible refine (HVB.out _ HO8.out).mono ?_); rintro e w9 ⟨rfl, hO⟩; have HO9 := Lib.hid (HO8.out.trans hO); clear hO))
    go_ret
    refine ⟨?_, only_nil_below HO9.out⟩
    cases V <;> rfl
end Go.Proofs.YtbpmhleokmcggaaDoor
