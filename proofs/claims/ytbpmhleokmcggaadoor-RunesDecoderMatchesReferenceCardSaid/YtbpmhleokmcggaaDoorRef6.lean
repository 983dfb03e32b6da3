/-
  Contracts of the reference of layer 6: Decode, Valid, Encode.
-/
import Derived.Test.YtbpmhleokmcggaaDoorRunes8
import Derived.Test.YtbpmhleokmcggaaDoorOne
namespace Go.Proofs.YtbpmhleokmcggaaDoor
open Go.RowKit Go.BigFrame
set_option linter.unusedVariables false
set_option linter.unusedSimpArgs false
attribute [local go_sem ↓] sliced_cut run_min2 run_max2
attribute [local go_sem] cutA_zero

theorem empty_of {t : ByteArray} (h : t.size = 0) : t.toList.isEmpty = true := by rw [ByteArray.toList_eq, sl_nil h]; rfl
theorem empty_not {t : ByteArray} (h : t.size ≠ 0) : t.toList.isEmpty = false := by
  rw [ByteArray.toList_eq]
  cases h2 : t.data.toList with
  | nil => exact absurd h2 (sl_ne h)
  | cons _ _ => rfl
set_option maxRecDepth 100000 in
set_option maxHeartbeats 1600000 in
theorem refValid_c {w : World} (s : ByteArray) :
    Calls Tryd.prog 14 #[.string s] w fun e w' => e = .returned (.bool (valL s.data.toList)) ∧ w = w' := by
  obtain ⟨L, hL⟩ : ∃ L, s.data.toList = L := ⟨_, rfl⟩
  rw [hL]
  have HV := Lib.hid (show valL s.data.toList = valL L by rw [hL])
  clear hL
  go_enter Tryd.func14, Tryd.ntmps14
  go_wp2
  go_loopw [0] (fun v w' => ∃ t : ByteArray, v = .string t ∧ Hid (valL t.data.toList = valL L) ∧ w' = w) (fun v w' => (match v with | .string t => t.size | _ => 0))
  case atStart => exact ⟨s, rfl, HV, rfl⟩
  case round =>
    obtain ⟨t, rfl, hv, rfl⟩ := hrel
    clear HV
    by_cases h0 : t.size = 0
    · have he := empty_of h0
      have hr : Hid (valL L = true) := Lib.hid (by rw [← hv.out, sl_nil h0, valL_nil])
      go_wp2
      go_ret
      rw [hr.out]
      exact ⟨rfl, rfl⟩
    have he := empty_not h0
    have HF := Lib.hid (fun w1 : World => first_c (w := w1) t)
    have hne := sl_ne h0
    have hb := valL_bad hne
    have hdk := dk_valid hne
    have hst := valL_step hne
    have hle := (fst_le t.data.toList).1
    rw [sl_size] at hle
    generalize fst t.data.toList = F at *
    obtain ⟨F1, F2⟩ := F
    simp only at hb hdk hst hle
    by_cases hF : F1 = 0
    · have HB := Lib.hid ((hb hF).symm.trans hv.out)
      subst hF
      clear hb hdk hst hle
      go_wp2_with (go_at_call 23; refine (HF.out _).mono ?_; rintro e w5 ⟨rfl, hw5⟩; rw [hw5]; clear hw5)
      go_ret
      rw [← HB.out]
      exact ⟨rfl, rfl⟩
    · have hF2 : ¬ ((F1 : Int) = 0) := by omega
      have hle2 : (F1 : Int) ≤ (t.size : Int) := by omega
      obtain ⟨u, hu⟩ : ∃ u, t.extract F1 t.size = u := ⟨_, rfl⟩
      have hus : u.size = t.size - F1 := by rw [← hu, from_size]
      have HU := Lib.hid (show valL u.data.toList = valL L by
        rw [← hv.out, hst, if_neg hF, hdk hF, ← hu, sl_from])
      have hut : u.size < t.size := by omega
      clear hb hdk hst hle hus
      go_wp2_with (go_at_call 23; refine (HF.out _).mono ?_; rintro e w5 ⟨rfl, hw5⟩; rw [hw5]; clear hw5)
      first
        | exact ⟨⟨u, rfl, HU, rfl⟩, hut⟩
        | (go_roundw
           case rel => exact ⟨u, rfl, HU, trivial⟩
           case measure => exact hut)
/-- The rest of a string that is still to be decoded. -/
def RefAt6 (w : World) (s : ByteArray) (v0 v3 : Value) (w' : World) : Prop :=
  ∃ (t : ByteArray) (A : Option Addr) (n c : Nat) (zs : List Nat), v0 = .string t ∧ v3 = .slice A n c ∧ n = zs.length ∧ n + t.size ≤ s.size ∧ zs ++ decL t.data.toList = decL s.data.toList ∧ RowAt w' 21 A n c (vrs (ints zs)) ∧
    (∀ k, k ∈ rowT A → w.heap.size ≤ k) ∧ Only [] w w'
theorem rng_take {k : Nat} {l : List UInt8} (h : Rng k (bt l 0) (bt l 1) (bt l 2) (bt l 3)) : Rng k (bt (l.take k) 0) (bt (l.take k) 1) (bt (l.take k) 2) (bt (l.take k) 3) := by
  rcases h with ⟨rfl, h⟩ | ⟨rfl, h⟩ | ⟨rfl, h⟩ | ⟨rfl, h⟩
  · refine .inl ⟨rfl, ?_⟩
    rw [bt_take l (by omega)]
    exact h
  · refine .inr (.inl ⟨rfl, ?_⟩)
    rw [bt_take l (by omega : 0 < 2), bt_take l (by omega : 1 < 2)]
    exact h
  · refine .inr (.inr (.inl ⟨rfl, ?_⟩))
    rw [bt_take l (by omega : 0 < 3), bt_take l (by omega : 1 < 3), bt_take l (by omega : 2 < 3)]
    exact h
  · refine .inr (.inr (.inr ⟨rfl, ?_⟩))
    rw [bt_take l (by omega : 0 < 4), bt_take l (by omega : 1 < 4), bt_take l (by omega : 2 < 4), bt_take l (by omega : 3 < 4)]
    exact h
set_option maxRecDepth 100000 in
set_option maxHeartbeats 3200000 in
theorem refDecode_c {w : World} (s : ByteArray) (hs : s.size ≤ 1000000) :
    Calls Tryd.prog 12 #[.string s] w fun e w' => Out w w' e (decL s.data.toList) ∧ Only [] w w' := by
  go_enter Tryd.func12, Tryd.ntmps12
  go_wp2
  go_loopw [0, 3] (fun v0 v3 w' => RefAt6 w s v0 v3 w') (fun v0 v3 w' => (match v0 with | .string t => t.size | _ => 0))
  case atStart => exact ⟨s, none, 0, 0, [], rfl, rfl, rfl, by omega, rfl, RowAt.nil _ _, by simp [rowT], Only.refl _ _⟩
  case round =>
    obtain ⟨t, A, n, c, zs, rfl, rfl, hn, hnt, hz, hrow, hk, hO⟩ := hrel
    have HZ := Lib.hid hz
    have HN := Lib.hid hn
    have HROW := Lib.hid hrow
    have HK := Lib.hid hk
    have HO := Lib.hid hO
    by_cases h0 : t.size = 0
    · have he := empty_of h0
      have HR := Lib.hid (show zs = decL s.data.toList by
        rw [← HZ.out, sl_nil h0, decL_nil, List.append_nil])
      clear hz hn hrow hk hO
      go_wp2
      go_ret
      rw [← HR.out]
      refine ⟨⟨A, c, ?_, ?_, HK.out⟩, HO.out⟩
      · rw [← HN.out]; rfl
      · rw [← HN.out]; exact HROW.out
    have he := empty_not h0
    have HF := Lib.hid (fun w1 : World => first_c (w := w1) t)
    have hne := sl_ne h0
    have hdk := dk_fst hne
    have hst := decL_step hne
    have hle := (fst_le t.data.toList).1
    have hrng := @fst_rng t.data.toList
    have hl4 := (fst_le t.data.toList).2.1
    have hns : n ≤ 4000000 := by omega
    rw [sl_size] at hle
    generalize fst t.data.toList = F at *
    obtain ⟨F1, F2⟩ := F
    simp only at hdk hle hrng hl4
    clear hz hn hrow hk hO
    by_cases hF : F1 = 0
    · subst hF
      obtain ⟨u, hu⟩ : ∃ u, t.extract 1 t.size = u := ⟨_, rfl⟩
      have hus : u.size = t.size - 1 := by rw [← hu, from_size]
      have HD := Lib.hid (show decL t.data.toList = 65533 :: decL u.data.toList by rw [hst, hdk, ← hu, sl_from]; rfl)
      have hut : u.size < t.size := by omega
      have h1le : (1 : Int) ≤ (t.size : Int) := by omega
      have HB := Lib.hid (Blk.new wr 21 [.int .i32 65533])
      have HROW2 := Lib.hid (HROW.out.alloc (.cells #[.int .i32 65533] 21))
      clear hdk hst hle hrng hl4 hus
      go_wp2_with (first | (go_at_call 23; refine (HF.out _).mono ?_; rintro e w5 ⟨rfl, hw5⟩; rw [hw5]; clear hw5) | (with_reducible refine wp_append1 rfl (.tmp 15) (.tmp 16) rfl A n c (ints zs) rfl HROW2.out wr.heap.size 65533 rfl HB.out hns ?_; intro A2 c2 w2 HR2 HO2 HK2))
      refine ⟨⟨u, A2, n + 1, c2, zs ++ [65533], rfl, rfl, ?_, ?_, ?_, ?_, ?_, ?_⟩, hut⟩
      · rw [HN.out]; simp
      · omega
      · rw [← HZ.out, HD.out]; simp
      · have := HR2.out
        simpa [ints] using this
      · intro k hk
        have hz := HO.out.size
        rcases HK2.out k hk with h | h
        · exact HK.out k h
        · simp at h; omega
      · exact (HO.out.alloc _).join HO2.out (fun k hk => .inr (HK.out k hk))
    · have hF2 : ¬ ((F1 : Int) = 0) := by omega
      have hle2 : (F1 : Int) ≤ (t.size : Int) := by omega
      obtain ⟨u, hu⟩ : ∃ u, t.extract F1 t.size = u := ⟨_, rfl⟩
      have hus : u.size = t.size - F1 := by rw [← hu, from_size]
      obtain ⟨p, hp⟩ : ∃ p, t.extract 0 F1 = p := ⟨_, rfl⟩
      have hpl : p.data.toList = t.data.toList.take F1 := by rw [← hp, sl_to]
      have hps : p.size = F1 := by rw [← sl_size, hpl, List.length_take, sl_size]; omega
      have hval : val F1 p.data.toList = val F1 t.data.toList := by
        rw [hpl]
        exact val_congr (by omega) (fun j hj => bt_take _ hj) hl4
      have hdk2 : dk t.data.toList = (val F1 t.data.toList, F1) := by rw [hdk]; unfold res; rw [if_neg hF]
      have HV := Lib.hid (fun w1 : World => by
        have := value_c (w := w1) p F1 hps (by rw [hpl]; exact rng_take (hrng hF))
        rw [hval] at this
        exact this)
      have HD := Lib.hid (show decL t.data.toList = val F1 t.data.toList :: decL u.data.toList by rw [hst, hdk2, ← hu, sl_from])
      have hut : u.size < t.size := by omega
      have hun : n + 1 + u.size ≤ s.size := by omega
      generalize val F1 t.data.toList = R at *
      clear hdk hst hle hrng hl4 hus hpl hps hval hdk2
      go_wp2_with (first | (go_at_call 23; refine (HF.out _).mono ?_; rintro e w5 ⟨rfl, hw5⟩; rw [hw5]; clear hw5) | (go_at_call 24; refine (HV.out _).mono ?_; rintro e w6 ⟨rfl, hw6⟩; have HO6 := Lib.hid (only_drew HO.out hw6); have HROW6 := Lib.hid ((HROW.out.only (only_drew (Only.refl [] wr) hw6) (by simp)).alloc (.cells #[.int .i32 (R : Nat)] 21)); have HB6 := Lib.hid (Blk.new w6 21 [.int .i32 (R : Nat)]); clear hw6) | (with_reducible refine wp_append1 rfl (.tmp 20) (.tmp 25) rfl A n c (ints zs) rfl HROW6.out w6.heap.size (R : Nat) rfl HB6.out hns ?_; intro A2 c2 w2 HR2 HO2 HK2))
      refine ⟨⟨u, A2, n + 1, c2, zs ++ [R], rfl, rfl, ?_, hun, ?_, ?_, ?_, ?_⟩, hut⟩
      · rw [HN.out]; simp
      · rw [← HZ.out, HD.out]; simp
      · have := HR2.out
        simpa [ints] using this
      · intro k hk
        have hz := HO6.out.size
        rcases HK2.out k hk with h | h
        · exact HK.out k h
        · simp at h; omega
      · exact (HO6.out.alloc _).join HO2.out (fun k hk => .inr (HK.out k hk))
set_option maxRecDepth 100000 in
set_option maxHeartbeats 1600000 in
theorem refEncode_c {w : World} {B n c : Nat} {A : Option Addr} {zs : List Int} (h : Reads w B A n (vrs zs)) (hB : B ≤ w.heap.size) (hnn : n ≤ 1000000) :
    Calls Tryd.prog 16 #[.slice A n c] w fun e w' => e = .returned (.string (str (encL zs))) ∧ Only [] w w' := by
  have hl : zs.length = n := by have := h.1; rwa [vrs_length] at this
  have HL := Lib.hid hl
  have H := Lib.hid h
  clear h hl
  go_enter Tryd.func16, Tryd.ntmps16
  go_wp2
  go_loopw [3, 4] (fun v3 v4 w' => ∃ (i : Nat) (S : ByteArray), i ≤ n ∧ v4 = .int .i64 i ∧ v3 = .string S ∧ Hid (S = str (encL (zs.take i))) ∧ S.size ≤ 4 * i ∧ Hid (Only [] w w')) (fun v3 v4 _ => n - (intOf v4).toNat)
  case atStart => exact ⟨0, ⟨#[]⟩, by omega, rfl, rfl, Lib.hid rfl, Nat.le_refl _, Lib.hid (Only.refl _ _)⟩
  case round =>
    obtain ⟨i, S, hin, rfl, rfl, hS, hsz, hO⟩ := hrel
    by_cases hlt : i < n
    · obtain ⟨g, o, rfl, hg, hcell⟩ := H.out.plain (by omega)
      have hi : i < zs.length := by rw [HL.out]; exact hlt
      have d1 : wr.cell? ⟨g, o + i, none⟩ = some (.int .i32 (zs[i]'hi)) := cell_only (hcell i _ (by rw [vrs_getElem?, List.getElem?_eq_getElem hi]; rfl)) hO.out (by simp)
      have ht : zs.take (i + 1) = zs.take i ++ [zs[i]'hi] := by rw [List.take_add_one, List.getElem?_eq_getElem hi]; rfl
      have HT := Lib.hid ht
      have hlti : (i : Int) < (n : Int) := by omega
      clear ht hcell
      generalize zs[i]'hi = v at *
      have HO1 := Lib.hid (fun w1 : World => one_c (w := w1) v)
      have hel := encN_length (cp v)
      have HENC := Lib.hid (show encL (zs.take (i + 1)) = encL (zs.take i) ++ encN (cp v) by rw [HT.out, encL_append]; simp [encL])
      have hsum : ¬ (S.size + (str (encN (cp v))).size > 9223372036854775807) := by rw [str_size]; omega
      have hs2 : (S ++ str (encN (cp v))).size ≤ 4 * (i + 1) := by rw [ByteArray.size_append, str_size]; omega
      have HS2 := Lib.hid (show S ++ str (encN (cp v)) = str (encL (zs.take (i + 1))) by rw [hS.out, str_add, HENC.out])
      change Hid (∀ w1 : World, Calls Tryd.prog 26 #[.int .i32 v] w1 fun e w' => e = .returned (.string (str (encN (cp v)))) ∧ Only [] w1 w') at HO1
      generalize str (encN (cp v)) = E at *
      clear hel hi
      go_wp2_with (go_at_call 26; refine (HO1.out _).mono ?_; rintro e w5 ⟨rfl, hO5⟩; have HO5 := Lib.hid (hO.out.trans hO5); clear hO5)
      go_roundw
      case rel => exact ⟨i + 1, _, by omega, by go_num, rfl, HS2, hs2, HO5⟩
      case measure => simp [intOf]; omega
    · obtain rfl : i = n := by omega
      have hr : S = str (encL zs) := by
        rw [hS.out, List.take_of_length_le (by rw [HL.out]; exact Nat.le_refl _)]
      have hnlt : ¬ ((i : Int) < (i : Int)) := by omega
      have HR := Lib.hid hr
      clear hr
      go_wp2
      go_ret
      rw [← HR.out]
      exact ⟨rfl, hO.out⟩
end Go.Proofs.YtbpmhleokmcggaaDoor
