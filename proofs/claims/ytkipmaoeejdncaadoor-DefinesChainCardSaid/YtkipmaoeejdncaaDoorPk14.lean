/-
  Contracts: the program's Names and Check of layer 14.
-/
import Derived.Test.YtkipmaoeejdncaaDoorPc14
import Derived.Test.YtkipmaoeejdncaaDoorMp14
namespace Go.Proofs.YtkipmaoeejdncaaDoor
open Go.RowKit Go.BigFrame Go.Maps NT
set_option linter.unusedVariables false
set_option linter.unusedSimpArgs false

/-- A row of strings of the call's own. -/
structure SnAt (w wr : World) (A : Option Addr) (q c : Nat) (F : List ByteArray) : Prop where
  row : KRow wr 9 1 fS14 A c F
  len : F.length = q
  fresh : ∀ k, k ∈ rowT A → w.heap.size ≤ k
  bel : Bel w wr
theorem SnAt.later {w wr w2 : World} {A : Option Addr} {q c : Nat} {F : List ByteArray} (h : SnAt w wr A q c F) (hb : Bel wr w2) : SnAt w w2 A q c F :=
  ⟨h.row.only (bel_only hb) (by simp), h.len, h.fresh, h.bel.trans hb⟩
theorem info_str14 : (Tryd.prog.info? 9).map (fun i => (i.zero, i.size, i.bytes)) = some (some (.string ByteArray.empty), 1, 16) := by kernel_rfl
theorem fS14_one (s : ByteArray) (u : Value) (h : u ∈ fS14 s) : u.oneCell' = true := by
  simp only [fS14, List.mem_cons, List.not_mem_nil, or_false] at h
  subst h
  rfl
theorem zeroBool14 (w : World) : (zeroValue 4).run Tryd.prog w = .ok (.bool false) w := by kernel_rfl
section
variable {w : World} {ops : Array Oper} {rest : List Oper} {o : Oper} {a : Act} {Q : Exit → Act → World → Prop}
theorem wp_sn (hgd : o.guard = none) (s x : Operand) (ho : o.op = .call { callee := .builtin .append, args := #[s, x], argTypes := #[30, 30] })
    {w0 : World} {A : Option Addr} {n c : Nat} {F : List ByteArray} (hA : SnAt w0 w A n c F) (hf : n ≤ 100000) (hs : a.eval s = .slice A n c) (nm : ByteArray) (X : Option Addr) (hx : a.eval x = .slice X 1 1) (hX : Src w 1 fS14 X [nm])
    (h : ∀ A' c' w', Hid (SnAt w0 w' A' (n + 1) c' (F ++ [nm])) → wpList Tryd.prog ops Q rest (a.put o.dst (.slice A' (n + 1) c')) w') :
    wpList Tryd.prog ops Q (o :: rest) a w := by
  refine wp_kAppend hgd s x 30 ho 9 _ 1 16 fS14 fS14_len fS14_one Tryd.underlying30 info_str14 rfl (by decide) A c F n hA.len hs hA.row X 1 [nm] 1 rfl hx hX (by unfold maxLen; omega) (by omega) (n + 1) rfl ?_
  intro A' c' w' h1 h2 h3
  refine h A' c' w' (Lib.hid ⟨h1.out, by rw [List.length_append, hA.len]; rfl, fun k hk => ?_, bel_onK14 hA.bel h2 hA.fresh⟩)
  rcases h3.out k hk with h4 | h4
  · exact hA.fresh k h4
  · have := hA.bel.size; omega
theorem wp_lenF (hgd : o.guard = none) (m : Operand) (t : TypeId) (hop : o.op = Op.call { callee := Callee.builtin Builtin.len, args := #[m], argTypes := #[t] }) (e : TypeId) (ht : Tryd.prog.underlying t = some (.map 9 e))
    (M n : Nat) (F : List ByteArray) (hm : a.eval m = .map (some M)) (h : SMap w M n (fF F)) (hn : F.Nodup) (k : Nat) (hk : F.length = k)
    (hK : wpList Tryd.prog ops Q rest (a.put o.dst (.int .i64 k)) w) : wpList Tryd.prog ops Q (o :: rest) a w := by
  obtain ⟨D, hown, hp⟩ := h.perm hn
  have hsz : Maps.size D = k := by rw [size_strKeys, hp.length_eq, List.length_map, hk]
  rw [← hsz] at hK
  exact wpList_len_own _ hgd m t hop _ e ht RVal M n D hm hown hK
end
theorem fF_bool (F : List ByteArray) (k : ByteArray) : (fF F k).getD (.bool false) = .bool (hasN F k) := by
  unfold fF
  cases hasN F k <;> rfl
theorem names_take {l : List NT} {i : Nat} {x : NT} (h : (defsN l)[i]? = some x) : ((defsN l).take (i + 1)).map NT.s = ((defsN l).take i).map NT.s ++ [x.s] := by rw [NT.take_step h, List.map_append]; rfl
set_option maxRecDepth 100000 in
set_option maxHeartbeats 3200000 in
theorem dnamesK_c {l : List NT} {A : Option Addr} {c : Nat} {w : World} (hA : Row w (Lt w) A c l) (ht : l.length ≤ 100000) :
    Calls Tryd.prog 9 #[.slice A l.length c] w fun e w' => ∃ B d, e = .returned (.slice B (namesN l).length d) ∧ SnAt w w' B (namesN l).length d (namesN l) := by
  have HSP := Lib.hid (dsplit_c hA ht)
  have hdl := defs_len l
  obtain ⟨D, hD⟩ : ∃ q, q = defsN l := ⟨_, rfl⟩
  rw [← hD] at hdl
  obtain ⟨n, hn⟩ : ∃ q, q = D.length := ⟨_, rfl⟩
  have hn5 : n ≤ 100000 := by omega
  have HN := Lib.hid hn
  have HD := Lib.hid hD
  clear hA hn hD hdl ht
  go_enter Tryd.func9, Tryd.ntmps9
  go_wp2_with (go_at_call 13; ((with_reducible refine HSP.out.mono ?_); rintro e w1 ⟨A1, c1, B1, d1, rfl, HS1⟩; rw [← HD.out, ← HN.out] at HS1 ⊢))
  go_loopw [3, 15] (fun s3 s15 wr => ∃ (i : Nat) (B : Option Addr) (d : Nat), i ≤ n ∧ s15 = .int .i64 i ∧ s3 = .slice B i d ∧ Hid (SnAt w1 wr B i d ((D.take i).map NT.s))) (fun _ s15 _ => n - (intOf s15).toNat)
  case atStart => exact ⟨0, none, 0, Nat.zero_le _, rfl, rfl, Lib.hid ⟨KRow.nil _ _ _ _, rfl, by simp [rowT], Bel.refl _⟩⟩
  case round =>
    obtain ⟨i, B, d, hi, rfl, rfl, HSN⟩ := hrel
    by_cases hlt : i < n
    · obtain ⟨x, hx⟩ : ∃ x, D[i]? = some x := ⟨_, List.getElem?_eq_getElem (by have := HN.out; omega)⟩
      obtain ⟨g, o, hAA, hg, hcc⟩ := (HS1.out.a.row.only (bel_only HSN.out.bel) (by simp)).at_ NT.cs_len hx (by decide)
      subst hAA
      obtain ⟨a0, a1, a2, a3, a4, a5, a6, a7⟩ := Cells.all (t := x) hcc
      have HST := Lib.hid (show (D.take (i + 1)).map NT.s = (D.take i).map NT.s ++ [x.s] by rw [NT.take_step hx, List.map_append]; rfl)
      have HS0 := Lib.hid (src_blk (f := fS14) (z := 1) (m := [x.s]) (blk_at1 wr (.cells #[.int .i64 x.k, .int .i64 x.a, .string x.s, .string x.p, .bool x.h, .bool x.e, .slice x.A x.b.length x.c, .slice x.B x.l.length x.d] 39) 9 [.string x.s]) (by rw [flat_one]; rfl))
      have HP0 := Lib.hid ((HSN.out.later (Bel.alloc wr (.cells #[.int .i64 x.k, .int .i64 x.a, .string x.s, .string x.p, .bool x.h, .bool x.e, .slice x.A x.b.length x.c, .slice x.B x.l.length x.d] 39))).later (Bel.alloc (wr.alloc (.cells #[.int .i64 x.k, .int .i64 x.a, .string x.s, .string x.p, .bool x.h, .bool x.e, .slice x.A x.b.length x.c, .slice x.B x.l.length x.d] 39)) (.cells #[.string x.s] 9)))
      have hi5 : i ≤ 100000 := by omega
      clear hx hg hcc
      go_wp2_with ((with_reducible refine wp_sn rfl (.tmp 19) (.tmp 22) rfl HP0.out hi5 rfl x.s (some ⟨wr.heap.size + 1, 0, none⟩) rfl HS0.out ?_); intro Az cz wz HRZ)
      go_roundw
      case rel => exact ⟨i + 1, Az, cz, by omega, by go_num, rfl, Lib.hid (by rw [HST.out]; exact HRZ.out)⟩
      case measure => simp [intOf]; omega
    · obtain rfl : i = n := by omega
      have HRF := Lib.hid (show SnAt w1 wr B i d (D.map NT.s) by have h := HSN.out; have e : D.take i = D := (by rw [HN.out, List.take_length]); rw [e] at h; exact h)
      go_wp2_with fail
      go_ret
      have e1 : (namesN l).length = i := by unfold namesN; rw [← HD.out, List.length_map]; exact HN.out.symm
      refine ⟨B, d, by rw [e1]; rfl, ?_⟩
      rw [e1]
      refine ⟨by unfold namesN; rw [← HD.out]; exact HRF.out.row, e1, fun k hk => ?_, HS1.out.a.bel.trans HRF.out.bel⟩
      exact Nat.le_trans HS1.out.a.bel.size (HRF.out.fresh k hk)

theorem in_s14 {w : World} {Q : Nat → Prop} {x : NT} (h : x.In w Q) : x.s.size ≤ maxLen := by
  cases h with
  | mk _ _ _ hs _ _ _ _ _ => unfold reachBytes at hs; unfold maxLen; omega
theorem callN_in {w : World} {Q : Nat → Prop} (t : NT) : t.In w Q → ∀ x, x ∈ callN t → x.In w Q := by
  refine NT.ind (M := fun t => t.In w Q → ∀ x, x ∈ callN t → x.In w Q) (fun t h1 h2 ht => ?_) t
  have key : ∀ l : List NT, (∀ y, y ∈ l → y.In w Q) → (∀ y, y ∈ l → y.In w Q → ∀ x, x ∈ callN y → x.In w Q) → ∀ x, x ∈ callNs l → x.In w Q := by
    intro l
    induction l with
    | nil => intro _ _ x hx; rw [callNs_nil] at hx; cases hx
    | cons y l ih =>
      intro hi hk x hx
      rw [callNs_cons] at hx
      rcases List.mem_append.1 hx with h | h
      · exact hk y (by simp) (hi y (by simp)) x h
      · exact ih (fun z hz => hi z (by simp [hz])) (fun z hz => hk z (by simp [hz])) x h
  intro x hx
  rw [callN_eq] at hx
  rcases List.mem_append.1 hx with h | h
  · split at h
    · rw [List.mem_singleton] at h; subst h; exact ht
    · cases h
  · rcases List.mem_append.1 h with h | h
    · exact key _ ht.body.2 h1 x h
    · exact key _ ht.els.2 h2 x h
theorem callNs_in {w : World} {Q : Nat → Prop} {A : Option Addr} {c : Nat} {l : List NT} (h : Row w Q A c l) : ∀ x, x ∈ callNs l → x.In w Q := by
  obtain ⟨h0, h⟩ := h
  clear h0
  induction l with
  | nil => intro x hx; rw [callNs_nil] at hx; cases hx
  | cons y l ih =>
    intro x hx
    rw [callNs_cons] at hx
    rcases List.mem_append.1 hx with h1 | h1
    · exact callN_in y (h y (by simp)) x h1
    · exact ih (fun z hz => h z (by simp [hz])) x h1

/-! ### Check -/
/-- The definitions before the i-th are different from one another and few enough. -/
def DupAt (D : List NT) (i : Nat) : Prop := dupN [] D = dupN ((D.take i).map NT.s) (D.drop i) ∧ ((D.take i).map NT.s).Nodup
theorem DupAt.start (D : List NT) : DupAt D 0 := ⟨by simp, by simp⟩
theorem DupAt.at_ {D : List NT} {i : Nat} {x : NT} (h : DupAt D i) (hx : D[i]? = some x) :
    (hasN ((D.take i).map NT.s) x.s = true → dupN [] D = some (x.a, 12)) ∧
    (hasN ((D.take i).map NT.s) x.s = false → i = 64 → dupN [] D = some (x.a, 14)) ∧
    (hasN ((D.take i).map NT.s) x.s = false → i ≠ 64 → DupAt D (i + 1)) := by
  have hi := (List.getElem?_eq_some_iff.1 hx).1
  have hd : D.drop i = x :: D.drop (i + 1) := by
    rw [List.drop_eq_getElem_cons hi]
    rw [List.getElem?_eq_getElem hi] at hx
    injection hx with hx
    rw [hx]
  have hl : ((D.take i).map NT.s).length = i := by rw [List.length_map, List.length_take]; omega
  have h1 : dupN [] D = (if hasN ((D.take i).map NT.s) x.s = true then some (x.a, 12) else if ((D.take i).map NT.s).length = 64 then some (x.a, 14) else dupN ((D.take i).map NT.s ++ [x.s]) (D.drop (i + 1))) := by rw [h.1, hd, dupN]
  rw [hl] at h1
  refine ⟨fun hh => ?_, fun hh h6 => ?_, fun hh h6 => ⟨?_, ?_⟩⟩
  · rw [h1, if_pos hh]
  · rw [h1, if_neg (by rw [hh]; decide), if_pos h6]
  · rw [h1, if_neg (by rw [hh]; decide), if_neg h6, NT.take_step hx, List.map_append]
    rfl
  · rw [NT.take_step hx, List.map_append, List.nodup_append]
    refine ⟨h.2, by simp, fun a ha b hb e => ?_⟩
    simp only [List.map_cons, List.map_nil, List.mem_singleton] at hb
    subst hb
    subst e
    rw [hasN_iff.2 ha] at hh
    cases hh
theorem DupAt.end_ {D : List NT} {n : Nat} (h : DupAt D n) (hn : n = D.length) : dupN [] D = none := by
  rw [h.1, hn, List.drop_length]
  rfl
/-- No call before the i-th is one of a name without a definition. -/
theorem bad_step {l cs : List NT} {i : Nat} {x : NT} (h : (cs.take i).find? (badCall l) = none) (hx : cs[i]? = some x) : (badCall l x = true → cs.find? (badCall l) = some x) ∧ (badCall l x = false → (cs.take (i + 1)).find? (badCall l) = none) := by
  have hi := (List.getElem?_eq_some_iff.1 hx).1
  have hl : cs = cs.take i ++ x :: cs.drop (i + 1) := by
    rw [List.getElem?_eq_getElem hi] at hx
    injection hx with hx
    conv => lhs; rw [← List.take_append_drop i cs, List.drop_eq_getElem_cons hi, hx]
  constructor
  · intro hb
    rw [hl, List.find?_append, h, Option.none_or, List.find?_cons, hb]
  · intro hb
    rw [NT.take_step hx, List.find?_append, h, Option.none_or, List.find?_cons, hb]
    rfl
theorem checkN_dupE {l : List NT} {r : Int × Nat} (h : dupN [] (defsN l) = some r) : checkN l = r := by unfold checkN; rw [h]
theorem checkN_badE {l : List NT} {t : NT} (h : dupN [] (defsN l) = none) (hb : (callNs l).find? (badCall l) = some t) : checkN l = (t.a, 11) := by unfold checkN; rw [h]; dsimp only; rw [hb]
theorem checkN_okE {l : List NT} (h : dupN [] (defsN l) = none) (hb : (callNs l).find? (badCall l) = none) : checkN l = (0, 0) := by unfold checkN; rw [h]; dsimp only; rw [hb]
set_option maxRecDepth 100000 in
set_option maxHeartbeats 6400000 in
theorem dcheckK_c {l : List NT} {A : Option Addr} {c : Nat} {w : World} (hA : Row w (Lt w) A c l) (ht : tots l ≤ 5000) :
    Calls Tryd.prog 6 #[.slice A l.length c] w fun e w' => Bel w w' ∧ e = .returned (.tuple #[.int .i64 (checkN l).1, .int .i64 ((checkN l).2 : Nat)]) := by
  have hll : l.length ≤ 100000 := by have := cnts_le_len l; have := cnts_le l; omega
  have HSP := Lib.hid (dsplit_c hA hll)
  have hdl := defs_len l
  have HCA := Lib.hid (fun W (hb : Bel w W) => dcalls_c (hA.bel hb) (show tots l ≤ 100000 by omega))
  obtain ⟨D, hD⟩ : ∃ q, q = defsN l := ⟨_, rfl⟩
  rw [← hD] at hdl
  obtain ⟨n, hn⟩ : ∃ q, q = D.length := ⟨_, rfl⟩
  have hn5 : n ≤ 100000 := by omega
  have hkl := callNs_len l
  have HKL := Lib.hid (show (callNs l).length ≤ 100000 by omega)
  have HKS := Lib.hid (fun x (hx : x ∈ l) => in_s14 (hA.2 x hx))
  have HCK := Lib.hid (fun x (hx : x ∈ callNs l) => in_s14 (callNs_in hA x hx))
  have HN := Lib.hid hn
  have HD := Lib.hid hD
  have hmm := @run_makeMap Tryd.prog
  clear hA hn hD hdl ht hll hkl
  go_enter Tryd.func6, Tryd.ntmps6
  go_wp2_with (go_at_call 13; ((with_reducible refine HSP.out.mono ?_); rintro e w1 ⟨A1, c1, B1, d1, rfl, HS1⟩; rw [← HD.out, ← HN.out] at HS1 ⊢))
  have HM0 := Lib.hid (SMap.made w1)
  have HB0 := Lib.hid (Bel.alloc w1 (.map #[] 0))
  obtain ⟨M, hM⟩ : ∃ q, q = w1.heap.size := ⟨_, rfl⟩
  have HM := Lib.hid hM
  rw [← hM] at HM0 ⊢
  clear hM hmm
  generalize w1.alloc (.map #[] 0) = w2 at HM0 HB0 ⊢
  go_loopw [19] (fun s19 wr => ∃ i : Nat, i ≤ n ∧ s19 = .int .i64 i ∧ Hid (DupAt D i) ∧ Hid (SMap wr M i (fF ((D.take i).map NT.s))) ∧ Hid (Bel w1 wr)) (fun s19 _ => n - (intOf s19).toNat)
  case atStart => exact ⟨0, Nat.zero_le _, rfl, Lib.hid (DupAt.start D), Lib.hid (HM0.out.congr fun k => fF_nil k), HB0⟩
  case round =>
    obtain ⟨i, hi, rfl, HDU, HMP, HBW⟩ := hrel
    by_cases hlt : i < n
    · obtain ⟨x, hx⟩ : ∃ x, D[i]? = some x := ⟨_, List.getElem?_eq_getElem (by have := HN.out; omega)⟩
      have hxl : x ∈ l := (defs_mem (l := l) (by rw [← HD.out]; exact List.mem_of_getElem? hx)).1
      obtain ⟨g, o, hAA, hg, hcc⟩ := (HS1.out.a.row.only (bel_only HBW.out) (by simp)).at_ NT.cs_len hx (by decide)
      subst hAA
      obtain ⟨a0, a1, a2, a3, a4, a5, a6, a7⟩ := Cells.all (t := x) hcc
      have HBA := Lib.hid (Bel.alloc wr (.cells #[.int .i64 x.k, .int .i64 x.a, .string x.s, .string x.p, .bool x.h, .bool x.e, .slice x.A x.b.length x.c, .slice x.B x.l.length x.d] 39))
      have HXS := Lib.hid (HKS.out x hxl)
      have HAT := Lib.hid (HDU.out.at_ hx)
      have HMA := Lib.hid (HMP.out.alloc (.cells #[.int .i64 x.k, .int .i64 x.a, .string x.s, .string x.p, .bool x.h, .bool x.e, .slice x.A x.b.length x.c, .slice x.B x.l.length x.d] 39))
      have HST := Lib.hid (show (D.take (i + 1)).map NT.s = (D.take i).map NT.s ++ [x.s] by rw [NT.take_step hx, List.map_append]; rfl)
      have HND := Lib.hid HDU.out.2
      have HLE := Lib.hid (show ((D.take i).map NT.s).length = i by rw [List.length_map, List.length_take]; have := HN.out; omega)
      have HDE := Lib.hid (show ∀ r, dupN [] D = some r → checkN l = r from fun r h => checkN_dupE (by rw [← HD.out]; exact h))
      have HBF := Lib.hid (HS1.out.a.bel.trans (HBW.out.trans HBA.out))
      clear hx hxl hg hcc
      cases hh : hasN ((D.take i).map NT.s) x.s with
      | true =>
        have HE := Lib.hid (HDE.out _ (HAT.out.1 hh))
        have HV := Lib.hid (show (fF ((D.take i).map NT.s) x.s).getD (.bool false) = .bool true by rw [fF_bool, hh])
        clear hh
        go_wp2_with ((with_reducible refine wp_look rfl (.tmp 24) (.tmp 26) 37 rfl 4 Tryd.underlying37 (.bool false) zeroBool14 M i (fF ((D.take i).map NT.s)) rfl HMA.out x.s rfl HXS.out (.bool true) HV.out ?_))
        go_ret2
        rw [HE.out]
        exact ⟨HBF.out, rfl⟩
      | false =>
        have HV := Lib.hid (show (fF ((D.take i).map NT.s) x.s).getD (.bool false) = .bool false by rw [fF_bool, hh])
        by_cases h64 : i = 64
        · subst h64
          have HE := Lib.hid (HDE.out _ (HAT.out.2.1 hh rfl))
          clear hh
          go_wp2_with (first
            | ((with_reducible refine wp_look rfl (.tmp 24) (.tmp 26) 37 rfl 4 Tryd.underlying37 (.bool false) zeroBool14 M 64 (fF ((D.take 64).map NT.s)) rfl HMA.out x.s rfl HXS.out (.bool false) HV.out ?_))
            | ((with_reducible refine wp_lenF rfl (.tmp 31) 37 rfl 4 Tryd.underlying37 M 64 ((D.take 64).map NT.s) rfl HMA.out HND.out 64 HLE.out ?_)))
          go_ret2
          rw [HE.out]
          exact ⟨HBF.out, rfl⟩
        · have HE := Lib.hid (HAT.out.2.2 hh h64)
          have h64b : ((i : Int) == 64) = false := by simpa using (by omega : ¬ (i : Int) = 64)
          clear hh
          go_wp2_with (first
            | ((with_reducible refine wp_look rfl (.tmp 24) (.tmp 26) 37 rfl 4 Tryd.underlying37 (.bool false) zeroBool14 M i (fF ((D.take i).map NT.s)) rfl HMA.out x.s rfl HXS.out (.bool false) HV.out ?_))
            | ((with_reducible refine wp_lenF rfl (.tmp 31) 37 rfl 4 Tryd.underlying37 M i ((D.take i).map NT.s) rfl HMA.out HND.out i HLE.out ?_))
            | ((with_reducible refine wp_store rfl (.tmp 36) (.tmp 38) (.const (.bool true)) 37 rfl 4 Tryd.underlying37 M i (fF ((D.take i).map NT.s)) rfl HMA.out (by unfold maxLen; omega) x.s rfl HXS.out (.bool true) rfl ?_); intro wz HMZ hgz; have HGZ := Lib.hid hgz; clear hgz))
          go_roundw
          case rel => exact ⟨i + 1, by omega, by go_num, HE, Lib.hid (HMZ.out.congr fun k => by rw [HST.out]; exact fF_push _ _ _), Lib.hid (Below.grown (HBW.out.trans HBA.out) HGZ.out (HBW.out.trans HBA.out).size (fun j hj => by cases hj; exact Nat.le_of_eq HM.out.symm))⟩
          case measure => simp [intOf]; omega
    · obtain rfl : i = n := by omega
      have HDN := Lib.hid (show dupN [] (defsN l) = none by rw [← HD.out]; exact HDU.out.end_ HN.out)
      have HMF := Lib.hid (show SMap wr M i (fF (namesN l)) by have h := HMP.out; have e : D.take i = D := (by rw [HN.out, List.take_length]); rw [e] at h; unfold namesN; rw [← HD.out]; exact h)
      have HBR := Lib.hid (HS1.out.a.bel.trans HBW.out)
      have HCC := Lib.hid (HCA.out _ HBR.out)
      clear hlt
      go_wp2_with (go_at_call 14; ((with_reducible refine HCC.out.mono ?_); rintro e w3 ⟨Y, y, rfl, HY1, HYF, HB3⟩; obtain ⟨cs, hcs⟩ : ∃ q, q = callNs l := ⟨_, rfl⟩; have hkl := HKL.out; rw [← hcs] at HY1 hkl ⊢; obtain ⟨cn, hcn⟩ : ∃ q, q = cs.length := ⟨_, rfl⟩; rw [← hcn] at hkl ⊢; have HCS := Lib.hid hcs; have HCN := Lib.hid hcn; clear hcs hcn))
      have HM3 := Lib.hid (HMF.out.bel HB3.out)
      go_loopw [43] (fun s43 wq => ∃ j : Nat, j ≤ cn ∧ s43 = .int .i64 j ∧ Hid ((cs.take j).find? (badCall l) = none) ∧ Hid (Bel w3 wq)) (fun s43 _ => cn - (intOf s43).toNat)
      case atStart => exact ⟨0, Nat.zero_le _, rfl, Lib.hid rfl, Lib.hid (Bel.refl _)⟩
      case round =>
        obtain ⟨j, hj, rfl, HFN, HBJ⟩ := hrel
        by_cases hlt : j < cn
        · obtain ⟨x, hx⟩ : ∃ x, cs[j]? = some x := ⟨_, List.getElem?_eq_getElem (by have := HCN.out; omega)⟩
          have HXS := Lib.hid (HCK.out x (by rw [← HCS.out]; exact List.mem_of_getElem? hx))
          obtain ⟨g, o, hAA, hg, hcc⟩ := (HY1.out.only (bel_only HBJ.out) (by simp)).at_ NT.cs_len hx (by decide)
          subst hAA
          obtain ⟨a0, a1, a2, a3, a4, a5, a6, a7⟩ := Cells.all (t := x) hcc
          have HST := Lib.hid (bad_step HFN.out hx)
          rename World => wj
          have HBA := Lib.hid (Bel.alloc wj (.cells #[.int .i64 x.k, .int .i64 x.a, .string x.s, .string x.p, .bool x.h, .bool x.e, .slice x.A x.b.length x.c, .slice x.B x.l.length x.d] 39))
          have HMA := Lib.hid ((HM3.out.bel HBJ.out).bel HBA.out)
          have HBF := Lib.hid (((HBR.out.trans HB3.out).trans HBJ.out).trans HBA.out)
          clear hx hg hcc
          cases hh : hasN (namesN l) x.s with
          | true =>
            have HE := Lib.hid (HST.out.2 (by unfold badCall; rw [hh]; rfl))
            have HV := Lib.hid (show (fF (namesN l) x.s).getD (.bool false) = .bool true by rw [fF_bool, hh])
            clear hh
            go_wp2_with ((with_reducible refine wp_look rfl (.tmp 47) (.tmp 49) 37 rfl 4 Tryd.underlying37 (.bool false) zeroBool14 M i (fF (namesN l)) rfl HMA.out x.s rfl HXS.out (.bool true) HV.out ?_))
            go_roundw
            case rel => exact ⟨j + 1, by omega, by go_num, HE, Lib.hid (HBJ.out.trans HBA.out)⟩
            case measure => simp [intOf]; omega
          | false =>
            have HE := Lib.hid (checkN_badE HDN.out (by rw [← HCS.out]; exact HST.out.1 (by unfold badCall; rw [hh]; rfl)))
            have HV := Lib.hid (show (fF (namesN l) x.s).getD (.bool false) = .bool false by rw [fF_bool, hh])
            clear hh
            go_wp2_with ((with_reducible refine wp_look rfl (.tmp 47) (.tmp 49) 37 rfl 4 Tryd.underlying37 (.bool false) zeroBool14 M i (fF (namesN l)) rfl HMA.out x.s rfl HXS.out (.bool false) HV.out ?_))
            go_ret2
            rw [HE.out]
            exact ⟨HBF.out, rfl⟩
        · obtain rfl : j = cn := by omega
          have HE := Lib.hid (checkN_okE HDN.out (by rw [← HCS.out]; have h := HFN.out; rwa [HCN.out, List.take_length] at h))
          have HBF := Lib.hid ((HBR.out.trans HB3.out).trans HBJ.out)
          go_wp2_with fail
          go_ret2
          rw [HE.out]
          exact ⟨HBF.out, rfl⟩
end Go.Proofs.YtkipmaoeejdncaaDoor
