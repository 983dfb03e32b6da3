/-
  Contract: directive.
  What is left of a source and what it gives; rows of tokens; appending a token.
  Names, calls, checks and reach of nodes that differ in their places only. No program is imported here.
  Lists of strings that are only read: slices.Contains, slices.Equal.
-/
import Derived.Test.YtpcapmdfjmpdiaaGreatDoorZCt12
import Derived.Test.YtpcapmdfjmpdiaaGreatDoorZIq16
import Derived.Lib.SlicesS
import Derived.Test.YtpcapmdfjmpdiaaGreatDoorZRegion2
namespace Go.Proofs.YtpcapmdfjmpdiaaGreatDoor
open Go.RowKit Go.BigFrame Go.Maps Go.WideMaps
set_option linter.unusedVariables false
set_option linter.unusedSimpArgs false

/-- A token's cells. -/
def Tok.cs (t : Tok) : List Value := [.int .i64 t.k, .int .i64 t.a, .string (ofL t.s), .string (ofL t.p), .bool t.h]
theorem tok_len (t : Tok) : t.cs.length = 5 := rfl
theorem tok_one (t : Tok) (u : Value) (h : u ∈ t.cs) : u.oneCell' = true := by
  simp only [Tok.cs, List.mem_cons, List.not_mem_nil, or_false] at h
  rcases h with rfl | rfl | rfl | rfl | rfl <;> rfl
theorem calls_closure : ∀ args w, (callFunc 78 args).run Tryz.prog w = .ok (.enter 78 args) w := by
  exact enters_of Tryz.func78 (by kernel_rfl) rfl
theorem fields_c (s : ByteArray) (w : World) (hs : s.size ≤ 70000) :
    Calls Tryz.prog 77 #[.string s, .func (.func 78) #[] #[]] w fun e w' => ∃ A c, e = .returned (.slice A (wordsB s).length c) ∧ Strs w' A (wordsB s) ∧ Bel w w' := by
  have hp : PredAtRunes Tryz.prog 78 #[] isSp w := by
    intro W x hx hb
    unfold FnGives
    refine (closure_c W x hx).mono ?_
    rintro e w' ⟨rfl, rfl⟩
    exact ⟨rfl, 0, rfl⟩
  refine (Any.strings_FieldsFunc_runes Tryz.laysFF 78 #[] calls_closure isSp s w (by omega) hp (by kernel_rfl) (by kernel_rfl)).mono ?_
  rintro e w' ⟨A, rfl, hA, hown, hb⟩
  rw [fields_words] at hown ⊢
  refine ⟨_, _, rfl, ?_, hb⟩
  obtain ⟨A', c', e1, hR, hk⟩ := rowK_of_own hown
  simp only [Value.slice.injEq] at e1
  obtain ⟨rfl, _, rfl⟩ := e1
  by_cases h0 : wordsB s = []
  · exact .inl h0
  · have hl : 0 < (wordsB s).length := List.length_pos_iff.2 h0
    obtain ⟨g, o, e2, hg, hc⟩ := RowK.addr hR hl
    injection e2 with e2
    injection e2 with e3 e4
    subst e3 e4
    refine .inr ⟨_, _, rfl, hg, fun i hi => hc i _ ?_⟩
    rw [List.getElem?_map, List.getElem?_eq_getElem hi, List.getD_eq_getElem?_getD, List.getElem?_eq_getElem hi]
    rfl
theorem wordsB_wd {s x : ByteArray} (h : x ∈ wordsB s) : Wd (toL x) ∧ x.size ≤ s.size := by
  unfold wordsB at h
  obtain ⟨y, hy, rfl⟩ := List.mem_map.1 h
  refine ⟨words_wd hy, ?_⟩
  have h1 := words_len (toL s)
  rw [toL_len] at h1
  have h2 : y.length ≤ (jn (words (toL s))).length := by
    revert hy
    generalize words (toL s) = ws
    intro hy
    clear h1
    induction ws with
    | nil => cases hy
    | cons w ws ihw =>
      rw [jn_cons_len]
      rcases List.mem_cons.1 hy with h6 | h6
      · subst h6; omega
      · have := ihw h6
        rw [if_neg (by intro h7; subst h7; cases h6)]; omega
  have e : (ofL y).size = y.length := rfl
  omega
theorem wordsB_len (s : ByteArray) : (wordsB s).length ≤ s.size := by
  unfold wordsB
  rw [List.length_map]
  have h1 := words_len (toL s)
  rw [toL_len] at h1
  have h2 : ∀ ws : List (List UInt8), (∀ w ∈ ws, Wd w) → ws.length ≤ (jn ws).length := by
    intro ws
    induction ws with
    | nil => simp
    | cons w ws ih =>
      intro h
      have h3 := ih fun x hx => h x (by simp [hx])
      have h4 := List.length_pos_iff.2 (h w (by simp)).1
      rw [jn_cons_len, List.length_cons]
      split
      · rename_i h5; subst h5; simp; omega
      · omega
  have := h2 _ (fun w hw => words_wd hw : ∀ w ∈ words (toL s), Wd w)
  omega
theorem toL_wordsB (s : ByteArray) : (wordsB s).map toL = words (toL s) := by
  unfold wordsB
  rw [List.map_map]
  have : toL ∘ ofL = id := rfl
  rw [this, List.map_id]
/-- What directive gives. -/
def DirPost (s : ByteArray) (w : World) (e : Ending) (w' : World) : Prop :=
  Bel w w' ∧ match dirOf (words (toL s)) with
    | .ok t => e = .returned (.tuple #[.agg #[.int .i64 t.k, .int .i64 0, .string (ofL t.s), .string (ofL t.p), .bool t.h], .int .i64 0])
    | .error c => e = .returned (.tuple #[.agg #[.int .i64 0, .int .i64 0, .string ByteArray.empty, .string ByteArray.empty, .bool false], .int .i64 c]) ∧ (c = 5 ∨ c = 11)
theorem done5 {f : Func} (hf : f.results = #[.cell 4 64, .tmp 5]) {tmps : Array Value} {g : Nat} {x : Value} {v0 v1 v2 v3 v4 : Value} {W : World} (hp : tmps.getD 4 undef = .pointer (some ⟨g, 0, none⟩)) (h5 : tmps.getD 5 undef = x)
    (h1 : v0.oneCell' = true ∧ v1.oneCell' = true ∧ v2.oneCell' = true ∧ v3.oneCell' = true ∧ v4.oneCell' = true)
    (hB : Blk W g 64 [v0, v1, v2, v3, v4]) : (results f tmps).run Tryz.prog W = .ok (.tuple #[.agg #[v0, v1, v2, v3, v4], x]) W := by
  have hp' : tmps[4]?.getD undef = .pointer (some ⟨g, 0, none⟩) := by simpa using hp
  have h5' : tmps[5]?.getD undef = x := by simpa using h5
  have hl := run_loadVar_row W g 64 #[v0, v1, v2, v3, v4] (0, 0) _ (P := Tryz.prog) (ty := 64) hB Tryz.underlying64 rfl (by kernel_rfl)
  simp [results, hf, hp', h5', asAddr, hl]
theorem set5 {w : World} {g : Nat} {T : TypeId} {a0 a1 a2 a3 a4 : Value} (h : Blk w g T [a0, a1, a2, a3, a4]) (v0 v1 v2 v3 v4 : Value) :
    Blk (((((w.setCell ⟨g, 0, none⟩ v0).setCell ⟨g, 1, none⟩ v1).setCell ⟨g, 2, none⟩ v2).setCell ⟨g, 3, none⟩ v3).setCell ⟨g, 4, none⟩ v4) g T [v0, v1, v2, v3, v4] :=
  ((((h.set_ 0 v0).set_ 1 v1).set_ 2 v2).set_ 3 v3).set_ 4 v4
theorem only5 (w : World) (g : Nat) (v0 v1 v2 v3 v4 : Value) :
    Only [g] w (((((w.setCell ⟨g, 0, none⟩ v0).setCell ⟨g, 1, none⟩ v1).setCell ⟨g, 2, none⟩ v2).setCell ⟨g, 3, none⟩ v3).setCell ⟨g, 4, none⟩ v4) :=
  (((((Only.refl [g] w).setCell (.inl (by simp)) _).setCell (.inl (by simp)) _).setCell (.inl (by simp)) _).setCell (.inl (by simp)) _).setCell (.inl (by simp)) _
theorem cells5 {w : World} {g : Nat} {T : TypeId} {a0 a1 a2 a3 a4 : Value} (h : Blk w g T [a0, a1, a2, a3, a4]) :
    w.cell? ⟨g, 0, none⟩ = some a0 ∧ w.cell? ⟨g, 1, none⟩ = some a1 ∧ w.cell? ⟨g, 2, none⟩ = some a2 ∧ w.cell? ⟨g, 3, none⟩ = some a3 ∧ w.cell? ⟨g, 4, none⟩ = some a4 := ⟨h.cell 0, h.cell 1, h.cell 2, h.cell 3, h.cell 4⟩
theorem frees5 {w : World} {g : Nat} {T : TypeId} {L : List Value} (h : Blk w g T L) :
    w.frozen? ⟨g, 0, none⟩ = false ∧ w.frozen? ⟨g, 1, none⟩ = false ∧ w.frozen? ⟨g, 2, none⟩ = false ∧ w.frozen? ⟨g, 3, none⟩ = false ∧ w.frozen? ⟨g, 4, none⟩ = false := ⟨h.free 0, h.free 1, h.free 2, h.free 3, h.free 4⟩
theorem one5 (k a : Int) (s p : ByteArray) (h : Bool) : (Value.int .i64 k).oneCell' = true ∧ (Value.int .i64 a).oneCell' = true ∧ (Value.string s).oneCell' = true ∧ (Value.string p).oneCell' = true ∧ (Value.bool h).oneCell' = true := ⟨rfl, rfl, rfl, rfl, rfl⟩
theorem tail_extract (x : ByteArray) : ofL (toL x).tail = x.extract 1 x.size := by
  apply toL_inj
  rw [toL_ofL, toL_extract, List.take_of_length_le (Nat.le_of_eq (toL_len x)), List.drop_one]
theorem tail_path (x : ByteArray) : pathL (toL x).tail = (pathOf (x.extract 1 x.size)).isSome := by
  rw [pathOf_isSome, ← tail_extract, toL_ofL]
/-- The words still to come. -/
theorem drop_word {ws : List ByteArray} {k : Nat} (hk : k < ws.length) : (ws.map toL).drop k = toL (ws.getD k ByteArray.empty) :: (ws.map toL).drop (k + 1) := by
  have h1 : k < (ws.map toL).length := by rw [List.length_map]; exact hk
  rw [List.drop_eq_getElem_cons h1]
  congr 1
  rw [List.getElem_map, List.getD_eq_getElem?_getD, List.getElem?_eq_getElem hk]
  rfl
set_option maxRecDepth 100000 in
set_option maxHeartbeats 3200000 in
theorem directive_c (s : ByteArray) (M : Nat) (w : World) (hT : MX w) (hs : s.size ≤ 66000) (hM : SMap w M 9 kindF) : Calls Tryz.prog 54 #[.string s, .map (some M)] w (DirPost s w) := by
  have hbase := wordsB_len s
  have HWD := Lib.hid (fun x (h : x ∈ wordsB s) => wordsB_wd h)
  have HFF := Lib.hid (fields_c s (w.alloc (.cells #[.int .i64 0, .int .i64 0, .string ByteArray.empty, .string ByteArray.empty, .bool false] 64)) (by omega))
  have HFO := Lib.hid (fun (W : World) A c (h : Strs W A (wordsB s)) => formOf_c A c (wordsB s) W h (fun x hx => ⟨(wordsB_wd hx).1, by have := (wordsB_wd hx).2; omega⟩) (by omega))
  have HB0 := Lib.hid (show Bel w (w.alloc (.cells #[.int .i64 0, .int .i64 0, .string ByteArray.empty, .string ByteArray.empty, .bool false] 64)) from Bel.alloc _ _)
  have HZ0 := Lib.hid (show Blk (w.alloc (.cells #[.int .i64 0, .int .i64 0, .string ByteArray.empty, .string ByteArray.empty, .bool false] 64)) w.heap.size 64 [.int .i64 0, .int .i64 0, .string ByteArray.empty, .string ByteArray.empty, .bool false] from Blk.new w 64 [.int .i64 0, .int .i64 0, .string ByteArray.empty, .string ByteArray.empty, .bool false])
  have HLT0 : Hid (w.heap.size < (w.alloc (.cells #[.int .i64 0, .int .i64 0, .string ByteArray.empty, .string ByteArray.empty, .bool false] 64)).heap.size) := Lib.hid (by simp)
  have HK : Hid (kindF (ofL (jn (formL ((wordsB s).map toL)))) = ((formW (words (toL s))).map (·.1)).map fun n : Nat => .int .i64 (n : Int)) := Lib.hid (by
    rw [toL_wordsB]
    unfold kindF
    rw [kindN_jn (formL_wd fun w hw => words_wd hw), form_map])
  have hks : (ofL (jn (formL ((wordsB s).map toL)))).size ≤ maxLen := by
    have h1 := jn_le (formL_le (ws := (wordsB s).map toL) (B := 70000) (fun x hx => by obtain ⟨y, hy, rfl⟩ := List.mem_map.1 hx; have := (wordsB_wd hy).2; rw [toL_len]; omega))
    rw [formL_len, List.length_map] at h1
    have h2 : (wordsB s).length * (70000 + 4 + 1) ≤ 70000 * (70000 + 4 + 1) := Nat.mul_le_mul_right _ (by omega)
    have e : (ofL (jn (formL ((wordsB s).map toL)))).size = (jn (formL ((wordsB s).map toL))).length := rfl
    unfold maxLen
    omega
  have HKS := Lib.hid hks
  have HM := Lib.hid hM
  have HT := Lib.hid hT
  have HTW := Lib.hid (toL_wordsB s)
  clear hks hM hT
  cases hf : formW (words (toL s)) with
  | none =>
    have HD : Hid (dirOf (words (toL s)) = .error 5) := Lib.hid (by unfold dirOf; rw [hf])
    rw [hf] at HK
    clear hf
    generalize ofL (jn (formL ((wordsB s).map toL))) = key at *
    generalize wordsB s = ws at *
    go_enter Tryz.func54, Tryz.ntmps54
    go_wp2_with (first | (go_at_call 77; refine HFF.out.mono ?_; rintro e w1 ⟨A, c, rfl, hst, hb⟩; have HB1 := Lib.hid (HB0.out.trans hb); have HST := Lib.hid hst; have HZ1 := Lib.hid (HZ0.out.below hb HLT0.out); clear hst hb) | (go_at_call 79; refine (HFO.out _ _ _ HST.out).mono ?_; rintro e w2 ⟨rfl, hb⟩; have HB2 := Lib.hid (HB1.out.trans hb); have HZ2 := Lib.hid (HZ1.out.below hb HZ1.out.lt); obtain ⟨c0, c1, c2, c3, c4⟩ := cells5 HZ2.out; obtain ⟨f0, f1, f2, f3, f4⟩ := frees5 HZ2.out; have HM2 := Lib.hid (HM.out.bel HB2.out); clear hb) | (at_lookup; refine wp_look_ok rfl _ _ 101 rfl 3 Tryz.underlying101 _ (Tryz.zeroValue3) M 9 kindF rfl HM2.out key rfl HKS.out (.int .i64 0) false (by rw [HK.out]; rfl) (by rw [HK.out]; rfl) ?_))
    refine bodyPost_ret (done5 rfl rfl rfl (one5 0 0 ByteArray.empty ByteArray.empty false) (set5 HZ2.out _ _ _ _ _)) rfl ?_
    unfold DirPost
    rw [HD.out]
    exact ⟨bel_on1 HB2.out (only5 _ _ _ _ _ _ _) (Nat.le_refl _), rfl, .inl rfl⟩
  | some r =>
    obtain ⟨k, nm, pt⟩ := r
    have HR : Hid (dgo true ([], [], false) ((wordsB s).map toL) = if okF k nm pt then .ok (nm, pt.getD [], pt.isSome) else .error 11) := Lib.hid (by rw [toL_wordsB]; exact dgo_form hf)
    have HD : Hid (dirOf (words (toL s)) = if okF k nm pt then .ok ⟨k, 0, nm, pt.getD [], pt.isSome⟩ else .error 11) := Lib.hid (by unfold dirOf; rw [hf])
    rw [hf] at HK
    clear hf HTW
    generalize ofL (jn (formL ((wordsB s).map toL))) = key at *
    have hws : (wordsB s).length ≤ 66000 := by omega
    have HWS : Hid (∀ x ∈ wordsB s, x.size ≤ 66000) := Lib.hid (fun x hx => by have := (wordsB_wd hx).2; omega)
    clear hbase
    generalize wordsB s = ws at *
    obtain ⟨n, hn⟩ : ∃ n, n = ws.length := ⟨_, rfl⟩
    rw [← hn] at hws
    have HN := Lib.hid hn
    rw [← hn] at HFF
    have HFO' : Hid (∀ (W : World) A c, Strs W A ws → Calls Tryz.prog 79 #[.slice A n c] W fun e w' => e = .returned (.string key) ∧ Bel W w') := Lib.hid (by rw [hn]; exact HFO.out)
    clear HFO hn
    go_enter Tryz.func54, Tryz.ntmps54
    go_wp2_with (first | (go_at_call 77; refine HFF.out.mono ?_; rintro e w1 ⟨A, c, rfl, hst, hb⟩; have HB1 := Lib.hid (HB0.out.trans hb); have HST := Lib.hid hst; have HZ1 := Lib.hid (HZ0.out.below hb HLT0.out); clear hst hb) | (go_at_call 79; refine (HFO'.out _ _ _ HST.out).mono ?_; rintro e w2 ⟨rfl, hb⟩; have HB2 := Lib.hid (HB1.out.trans hb); have HST2 := Lib.hid (HST.out.bel hb); have HZ2 := Lib.hid (HZ1.out.below hb HZ1.out.lt); have HM2 := Lib.hid (HM.out.bel HB2.out); clear hb) | (at_lookup; refine wp_look_ok rfl _ _ 101 rfl 3 Tryz.underlying101 _ (Tryz.zeroValue3) M 9 kindF rfl HM2.out key rfl HKS.out (.int .i64 k) true (by rw [HK.out]; rfl) (by rw [HK.out]; rfl) ?_))
    go_loopw [30] (fun s30 wr => ∃ (j : Nat) (sn sp : List UInt8) (h : Bool), j ≤ n ∧ s30 = .int .i64 j ∧ Hid (dgo (decide (j = 0)) (sn, sp, h) ((ws.map toL).drop j) = if okF k nm pt then .ok (nm, pt.getD [], pt.isSome) else .error 11) ∧ Hid (Bel w2 wr) ∧
        Hid (Blk wr w.heap.size 64 [.int .i64 0, .int .i64 0, .string ByteArray.empty, .string ByteArray.empty, .bool false]) ∧ Hid (Blk wr w2.heap.size 64 [.int .i64 k, .int .i64 0, .string (ofL sn), .string (ofL sp), .bool h])) (fun s30 _ => n - (intOf s30).toNat)
    case atStart =>
      refine ⟨0, [], [], false, Nat.zero_le _, rfl, HR, Lib.hid (Bel.alloc _ _), Lib.hid (HZ2.out.below (Bel.alloc _ _) HZ2.out.lt), Lib.hid (Blk.new w2 64 [.int .i64 k, .int .i64 0, .string ByteArray.empty, .string ByteArray.empty, .bool false])⟩
    case round =>
      obtain ⟨j, sn, sp, h, hj, rfl, HG, HBR, HZ, HTK⟩ := hrel
      have hzt : w.heap.size < w2.heap.size := HZ2.out.lt
      have HBW := Lib.hid (HB2.out.trans HBR.out)
      obtain ⟨t0, t1, t2, t3, t4⟩ := cells5 HTK.out
      obtain ⟨g0, g1, g2, g3, g4⟩ := frees5 HTK.out
      by_cases hlt : j < n
      · have hjw : j < ws.length := by have := HN.out; omega
        obtain ⟨g, o, hA, hg, hcell⟩ := strs_at HST2.out hjw
        have c0 := (HBR.out.cell hg).trans hcell
        subst hA
        have hmem : ws.getD j ByteArray.empty ∈ ws := by rw [List.getD_eq_getElem?_getD, List.getElem?_eq_getElem hjw]; exact List.getElem_mem hjw
        have hwd := (HWD.out _ hmem).1
        have hxle := HWS.out _ hmem
        have hdw := drop_word hjw
        have HG2 := HG.out
        rw [hdw] at HG2
        clear hmem hcell HG hdw
        generalize ws.getD j ByteArray.empty = x at *
        have hxs : 0 < x.size := by
          rw [← toL_len]; exact List.length_pos_iff.2 hwd.1
        have hx1 : 1 ≤ x.size := hxs
        have HP := Lib.hid (fun W => isPath_c x W hxs)
        clear hwd
        unfold dgo at HG2
        cases hp : isP (toL x) with
        | true =>
          rw [hp] at HP
          simp only [hp, if_true] at HG2
          have hez : (x.extract 1 x.size).size < 4294967281 := by simp; omega
          cases hq : pathOf (x.extract 1 x.size) with
          | none =>
            have hpl : pathL (toL x).tail = false := by rw [tail_path, hq]; rfl
            have HE : Hid (okF k nm pt = false) := Lib.hid (by
              rw [hpl] at HG2
              simp only [Bool.false_eq_true, if_false] at HG2
              cases ho : okF k nm pt with
              | false => rfl
              | true => rw [ho] at HG2; simp at HG2)
            have HSP := Lib.hid (fun W (hM : MX W) => split_c (x.extract 1 x.size) W hM hez)
            have HQ := Lib.hid hq
            clear hq hpl HG2 hp hez
            go_wp2_with (first | (go_at_call 80; refine (HP.out _).mono ?_; rintro e w3 ⟨rfl, rfl⟩) | (go_at_call 49; refine (HSP.out _ (HT.out.bel HBW.out)).mono ?_; rintro e w4 ⟨hb, hm⟩; rw [HQ.out] at hm; obtain rfl := hm; have HB4 := Lib.hid (HBW.out.trans hb); have HZ4 := Lib.hid (HZ.out.below hb HZ.out.lt); obtain ⟨z0, z1, z2, z3, z4⟩ := cells5 HZ4.out; obtain ⟨y0, y1, y2, y3, y4⟩ := frees5 HZ4.out; clear hb))
            refine bodyPost_ret (done5 rfl rfl rfl (one5 0 0 ByteArray.empty ByteArray.empty false) (set5 HZ4.out _ _ _ _ _)) rfl ?_
            unfold DirPost
            rw [HD.out, HE.out]
            exact ⟨bel_on1 HB4.out (only5 _ _ _ _ _ _ _) (Nat.le_refl _), rfl, .inr rfl⟩
          | some l =>
            have hpl : pathL (toL x).tail = true := by rw [tail_path, hq]; rfl
            have HG3 : Hid (dgo (decide (j + 1 = 0)) (sn, (toL x).tail, true) ((ws.map toL).drop (j + 1)) = if okF k nm pt then .ok (nm, pt.getD [], pt.isSome) else .error 11) := Lib.hid (by
              rw [hpl] at HG2
              simpa using HG2)
            have HSP := Lib.hid (fun W (hM : MX W) => split_c (x.extract 1 x.size) W hM hez)
            have HQ := Lib.hid hq
            have HTE := Lib.hid (tail_extract x)
            clear hq hpl HG2 hp hez t0 t1 t2 t3 t4 g0 g1 g2 g3 g4
            go_wp2_with (first | (go_at_call 80; refine (HP.out _).mono ?_; rintro e w3 ⟨rfl, rfl⟩) | (go_at_call 49; refine (HSP.out _ (HT.out.bel HBW.out)).mono ?_; rintro e w4 ⟨hb, hm⟩; rw [HQ.out] at hm; obtain ⟨A4, c4, rfl, _⟩ := hm; have HB4 := Lib.hid (HBR.out.trans hb); have HZ4 := Lib.hid (HZ.out.below hb HZ.out.lt); have HT4 := Lib.hid (HTK.out.below hb HTK.out.lt); obtain ⟨t0, t1, t2, t3, t4⟩ := cells5 HT4.out; obtain ⟨g0, g1, g2, g3, g4⟩ := frees5 HT4.out; clear hb))
            go_roundw
            case rel =>
              refine ⟨j + 1, sn, (toL x).tail, true, by omega, by go_num, HG3, Lib.hid (bel_on1 HB4.out (((Only.refl [w2.heap.size] w4).setCell (.inl (by simp)) _).setCell (.inl (by simp)) _) (Nat.le_refl _)), Lib.hid (HZ4.out.only (S := [w2.heap.size]) ?_ (by simp; omega)), Lib.hid ?_⟩
              · exact ((Only.refl [w2.heap.size] w4).setCell (.inl (by simp)) _).setCell (.inl (by simp)) _
              · rw [HTE.out]; exact (HT4.out.set_ 3 _).set_ 4 _
            case measure => simp [intOf]; omega
        | false =>
          rw [hp] at HP
          simp only [hp, Bool.false_eq_true, if_false] at HG2
          by_cases h0 : j = 0
          · have HG3 : Hid (dgo (decide (j + 1 = 0)) (sn, sp, h) ((ws.map toL).drop (j + 1)) = if okF k nm pt then .ok (nm, pt.getD [], pt.isSome) else .error 11) := Lib.hid (by
              rw [decide_eq_true h0] at HG2
              simpa using HG2)
            have h0' : ¬ (0 : Int) < (j : Int) := by omega
            clear HG2 hp h0 t0 t1 t2 t3 t4 g0 g1 g2 g3 g4
            go_wp2_with (go_at_call 80; refine (HP.out _).mono ?_; rintro e w3 ⟨rfl, rfl⟩)
            go_roundw
            case rel => exact ⟨j + 1, sn, sp, h, by omega, by go_num, HG3, HBR, HZ, HTK⟩
            case measure => simp [intOf]; omega
          · rw [decide_eq_false h0] at HG2
            simp only [Bool.false_eq_true, if_false] at HG2
            have h0' : (0 : Int) < (j : Int) := by omega
            have hxm : x.size ≤ maxLen := by unfold maxLen; omega
            have HNM := Lib.hid (fun W => isName_c x hxm W)
            cases hnm : nameB x with
            | false =>
              have hnl : nameL (toL x) = false := hnm
              have HE : Hid (okF k nm pt = false) := Lib.hid (by
                rw [hnl] at HG2
                simp only [Bool.false_eq_true, if_false] at HG2
                cases ho : okF k nm pt with
                | false => rfl
                | true => rw [ho] at HG2; simp at HG2)
              rw [hnm] at HNM
              obtain ⟨z0, z1, z2, z3, z4⟩ := cells5 HZ.out
              obtain ⟨y0, y1, y2, y3, y4⟩ := frees5 HZ.out
              clear HG2 hp h0 hnl hnm hxm
              go_wp2_with (first | (go_at_call 80; refine (HP.out _).mono ?_; rintro e w3 ⟨rfl, rfl⟩) | (go_at_call 73; refine (HNM.out _).mono ?_; rintro e w3 ⟨rfl, rfl⟩))
              refine bodyPost_ret (done5 rfl rfl rfl (one5 0 0 ByteArray.empty ByteArray.empty false) (set5 HZ.out _ _ _ _ _)) rfl ?_
              unfold DirPost
              rw [HD.out, HE.out]
              exact ⟨bel_on1 HBW.out (only5 _ _ _ _ _ _ _) (Nat.le_refl _), rfl, .inr rfl⟩
            | true =>
              have hnl : nameL (toL x) = true := hnm
              have HG3 : Hid (dgo (decide (j + 1 = 0)) (toL x, sp, h) ((ws.map toL).drop (j + 1)) = if okF k nm pt then .ok (nm, pt.getD [], pt.isSome) else .error 11) := Lib.hid (by
                rw [hnl] at HG2
                simpa using HG2)
              rw [hnm] at HNM
              clear HG2 hp h0 hnl hnm hxm
              go_wp2_with (first | (go_at_call 80; refine (HP.out _).mono ?_; rintro e w3 ⟨rfl, rfl⟩) | (go_at_call 73; refine (HNM.out _).mono ?_; rintro e w3 ⟨rfl, rfl⟩))
              go_roundw
              case rel =>
                have hon := (Only.refl [w2.heap.size] w3).setCell (p := ⟨w2.heap.size, 2, none⟩) (.inl (by simp)) (.string x)
                refine ⟨j + 1, toL x, sp, h, by omega, by go_num, HG3, Lib.hid (bel_on1 HBR.out hon (Nat.le_refl _)), Lib.hid (HZ.out.only hon (by simp; omega)), Lib.hid ?_⟩
                rw [ofL_toL]; exact HTK.out.set_ 2 _
              case measure => simp [intOf]; omega
      · obtain rfl : j = n := by omega
        have HFIN : Hid (okF k nm pt = true ∧ sn = nm ∧ sp = pt.getD [] ∧ h = pt.isSome) := Lib.hid (by
          have := HG.out
          rw [List.drop_of_length_le (by rw [List.length_map]; have := HN.out; omega)] at this
          cases ho : okF k nm pt with
          | false => rw [ho] at this; simp [dgo] at this
          | true =>
            rw [ho] at this
            simp only [dgo, if_true, Except.ok.injEq, Prod.mk.injEq] at this
            exact ⟨rfl, this.1, this.2.1, this.2.2⟩)
        obtain ⟨z0, z1, z2, z3, z4⟩ := cells5 HZ.out
        obtain ⟨y0, y1, y2, y3, y4⟩ := frees5 HZ.out
        clear HG
        go_wp2_with fail
        refine bodyPost_ret (done5 rfl rfl rfl (one5 k 0 (ofL sn) (ofL sp) h) (set5 HZ.out _ _ _ _ _)) rfl ?_
        unfold DirPost
        rw [HD.out, HFIN.out.1]
        refine ⟨bel_on1 HBW.out (only5 _ _ _ _ _ _ _) (Nat.le_refl _), ?_⟩
        rw [HFIN.out.2.1, HFIN.out.2.2.1, HFIN.out.2.2.2]
        rfl
end Go.Proofs.YtpcapmdfjmpdiaaGreatDoor

namespace Go.Proofs.YtpcapmdfjmpdiaaGreatDoor
open Go.RowKit Go.BigFrame Go.Maps Go.WideMaps
set_option linter.unusedVariables false
set_option linter.unusedSimpArgs false

/-- What a source gives: its tokens, or where its first fault is and which. -/
abbrev LexR := Except (Nat × Nat) (List Tok)
def Rs (l : List UInt8) (a : Nat) (r : LexR) : Prop := match r with | .ok ts => Lx l a ts | .error (b, c) => Er l a b c
def comb (done : List Tok) (r : LexR) : LexR := match r with | .ok ts => .ok (done ++ ts) | .error e => .error e
theorem comb_nil (r : LexR) : comb [] r = r := by cases r <;> rfl
theorem comb_snoc (done : List Tok) (t : Tok) (r : LexR) : comb done (comb [t] r) = comb (done ++ [t]) r := by cases r <;> simp [comb]
theorem rs_total (l : List UInt8) (a : Nat) : ∃ r, Rs l a r := by
  rcases lx_total l.length l a (Nat.le_refl _) with ⟨ts, h⟩ | ⟨b, c, h⟩
  · exact ⟨.ok ts, h⟩
  · exact ⟨.error (b, c), h⟩
theorem rs_fun {l : List UInt8} {a : Nat} {r r2 : LexR} (h : Rs l a r) (h2 : Rs l a r2) : r = r2 := by
  match r, r2, h, h2 with
  | .ok ts, .ok us, h, h2 => rw [lx_fun h h2]
  | .ok ts, .error (b, c), h, h2 => exact absurd h (er_not h2)
  | .error (b, c), .ok us, h, h2 => exact absurd h2 (er_not h)
  | .error (b, c), .error (b2, c2), h, h2 => obtain ⟨rfl, rfl⟩ := er_fun h h2; rfl
theorem rs_nil {a : Nat} {r : LexR} (h : Rs [] a r) : r = .ok [] := rs_fun h (Lx.nil a)
theorem rs_all {l : List UInt8} {a : Nat} {r : LexR} (h : Rs l a r) (hl : l ≠ []) (hf : find2 123 l = none) : r = comb [text a l] (.ok []) := rs_fun h (Lx.all l a hl hf)
theorem rs_text {l : List UInt8} {a k : Nat} {r : LexR} (h : Rs l a r) (hf : find2 123 l = some (k + 1)) : ∃ r2, Rs (l.drop (k + 1)) (a + (k + 1)) r2 ∧ r = comb [text a (l.take (k + 1))] r2 := by
  obtain ⟨r2, h2⟩ := rs_total (l.drop (k + 1)) (a + (k + 1))
  refine ⟨r2, h2, rs_fun h ?_⟩
  match r2, h2 with
  | .ok ts, h2 => exact Lx.text l a k ts hf h2
  | .error (b, c), h2 => exact Er.text l a k b c hf h2
theorem rs_trunc {l : List UInt8} {a : Nat} {r : LexR} (h : Rs l a r) (hf : find2 123 l = some 0) (hc : find2 125 (l.drop 2) = none) : r = .error (a, 7) := rs_fun h (Er.trunc l a hf hc)
theorem rs_bad {l : List UInt8} {a e c : Nat} {r : LexR} (h : Rs l a r) (hf : find2 123 l = some 0) (hc : find2 125 (l.drop 2) = some e) (hd : dirOf (words ((l.drop 2).take e)) = .error c) : r = .error (a, c) := rs_fun h (Er.bad l a e c hf hc hd)
theorem rs_dir {l : List UInt8} {a e : Nat} {t : Tok} {r : LexR} (h : Rs l a r) (hf : find2 123 l = some 0) (hc : find2 125 (l.drop 2) = some e) (hd : dirOf (words ((l.drop 2).take e)) = .ok t) :
    ∃ r2, Rs (l.drop (e + 4)) (a + (e + 4)) r2 ∧ r = comb [{ t with a := a }] r2 := by
  obtain ⟨r2, h2⟩ := rs_total (l.drop (e + 4)) (a + (e + 4))
  refine ⟨r2, h2, rs_fun h ?_⟩
  match r2, h2 with
  | .ok ts, h2 => exact Lx.dir l a e t ts hf hc hd h2
  | .error (b, c), h2 => exact Er.dir l a e t b c hf hc hd h2
/-! ### Rows of tokens -/
theorem info_tok : (Tryz.prog.info? 64).map (fun i => (i.zero, i.size, i.bytes)) = some (some (.agg #[.int .i64 0, .int .i64 0, .string ByteArray.empty, .string ByteArray.empty, .bool false]), 5, 56) := by kernel_rfl
theorem info_rtok : (Tryz.prog.info? 138).map (fun i => (i.zero, i.size, i.bytes)) = some (some (.agg #[.int .i64 0, .int .i64 0, .string ByteArray.empty, .string ByteArray.empty, .bool false]), 5, 56) := by kernel_rfl
theorem cells_tok : (Value.agg #[.int .i64 0, .int .i64 0, .string ByteArray.empty, .string ByteArray.empty, .bool false]).cells.size = 5 := by kernel_rfl
section
variable {w : World} {ops : Array Oper} {rest : List Oper} {o : Oper} {a : Act} {Q : Exit → Act → World → Prop}
theorem wp_tokL (hgd : o.guard = none) (s x : Operand) (ho : o.op = .call { callee := .builtin .append, args := #[s, x], argTypes := #[54, 54] })
    (A : Option Addr) (n c : Nat) (l : List Tok) (hn : l.length = n) (hs : a.eval s = .slice A n c) (hA : KRow w 64 5 Tok.cs A c l) (g : Nat) (cs : List Value) (t : Tok) (ht : cs = t.cs) (hx : a.eval x = .slice (some ⟨g, 0, none⟩) 1 1) (hb : Blk w g 64 cs) (hle : n ≤ 100000)
    (h : ∀ A' c' w', Hid (KRow w' 64 5 Tok.cs A' c' (l ++ [t])) → Hid (Only (rowT A) w w') → Hid (∀ k, k ∈ rowT A' → k ∈ rowT A ∨ k = w.heap.size) → wpList Tryz.prog ops Q rest (a.put o.dst (.slice A' (n + 1) c')) w') :
    wpList Tryz.prog ops Q (o :: rest) a w :=
  wp_kAppend hgd s x 54 ho 64 _ 5 56 Tok.cs tok_len tok_one Tryz.underlying54 info_tok cells_tok (by decide) A c l n hn hs hA (some ⟨g, 0, none⟩) 1 [t] 1 rfl hx (src_blk hb (by rw [ht, flat_one])) (by unfold maxLen; omega) (by omega) (n + 1) rfl
    (fun A' c' w' h1 h2 h3 => h A' c' w' h1 (Lib.hid h2) h3)
theorem wp_tokR (hgd : o.guard = none) (s x : Operand) (ho : o.op = .call { callee := .builtin .append, args := #[s, x], argTypes := #[77, 77] })
    (A : Option Addr) (n c : Nat) (l : List Tok) (hn : l.length = n) (hs : a.eval s = .slice A n c) (hA : KRow w 138 5 Tok.cs A c l) (g : Nat) (cs : List Value) (t : Tok) (ht : cs = t.cs) (hx : a.eval x = .slice (some ⟨g, 0, none⟩) 1 1) (hb : Blk w g 138 cs) (hle : n ≤ 100000)
    (h : ∀ A' c' w', Hid (KRow w' 138 5 Tok.cs A' c' (l ++ [t])) → Hid (Only (rowT A) w w') → Hid (∀ k, k ∈ rowT A' → k ∈ rowT A ∨ k = w.heap.size) → wpList Tryz.prog ops Q rest (a.put o.dst (.slice A' (n + 1) c')) w') :
    wpList Tryz.prog ops Q (o :: rest) a w :=
  wp_kAppend hgd s x 77 ho 138 _ 5 56 Tok.cs tok_len tok_one Tryz.underlying77 info_rtok cells_tok (by decide) A c l n hn hs hA (some ⟨g, 0, none⟩) 1 [t] 1 rfl hx (src_blk hb (by rw [ht, flat_one])) (by unfold maxLen; omega) (by omega) (n + 1) rfl
    (fun A' c' w' h1 h2 h3 => h A' c' w' h1 (Lib.hid h2) h3)
end
/-- The state of a row of tokens in a loop that began in world W. -/
structure TkAt (T : TypeId) (W wr : World) (A : Option Addr) (n c : Nat) (done : List Tok) : Prop where
  row : KRow wr T 5 Tok.cs A c done
  len : done.length = n
  fresh : ∀ k, k ∈ rowT A → W.heap.size ≤ k
  bel : Bel W wr
theorem TkAt.start (T : TypeId) (W : World) : TkAt T W W none 0 0 [] := ⟨KRow.nil _ _ _ _, rfl, by simp [rowT], Bel.refl _⟩
theorem TkAt.later {T : TypeId} {W wr w2 : World} {A : Option Addr} {n c : Nat} {done : List Tok} (h : TkAt T W wr A n c done) (hb : Bel wr w2) : TkAt T W w2 A n c done :=
  ⟨h.row.only (Only.of_below (S := []) hb fun _ hk _ => hk) (by simp), h.len, h.fresh, h.bel.trans hb⟩
theorem TkAt.push {T : TypeId} {W wr w2 : World} {A A' : Option Addr} {n c c' : Nat} {done : List Tok} {t : Tok} (h : TkAt T W wr A n c done) (o : Obj) (hR : KRow w2 T 5 Tok.cs A' c' (done ++ [t])) (hO : Only (rowT A) (wr.alloc o) w2) (hK : ∀ k, k ∈ rowT A' → k ∈ rowT A ∨ k = (wr.alloc o).heap.size) :
    TkAt T W w2 A' (n + 1) c' (done ++ [t]) := by
  refine ⟨hR, by rw [List.length_append, h.len]; rfl, fun k hk => ?_, ?_⟩
  · rcases hK k hk with h1 | h1
    · exact h.fresh k h1
    · have := h.bel.size; simp at h1; omega
  · exact Below.trans (h.bel.trans (Bel.alloc wr o)) (hO.to_below ((h.bel.trans (Bel.alloc wr o)).size) (fun k hk => h.fresh k hk))
/-- What Lex gives. -/
def LexPost (T : TypeId) (s : ByteArray) (r : LexR) (w : World) (e : Ending) (w' : World) : Prop :=
  Bel w w' ∧ match r with
    | .ok ts => ∃ A c, e = .returned (.tuple #[.slice A ts.length c, .int .i64 s.size, .int .i64 0]) ∧ KRow w' T 5 Tok.cs A c ts ∧ ∀ k, k ∈ rowT A → w.heap.size ≤ k
    | .error (b, c) => e = .returned (.tuple #[.slice none 0 0, .int .i64 b, .int .i64 c])
/-- The result of Lex as a whole. -/
def LexOf (s : ByteArray) (r : LexR) : Prop := if 65536 < s.size then r = .error (0, 6) else Rs (toL s) 0 r
theorem toL_from (s : ByteArray) (a : Nat) : toL (s.extract a s.size) = (toL s).drop a := by rw [toL_extract, List.take_of_length_le (Nat.le_of_eq (toL_len s))]
theorem extract_take (s : ByteArray) (a k : Nat) : s.extract a (a + k) = ofL (((toL s).drop a).take k) := by
  apply toL_inj
  rw [toL_ofL, toL_extract, List.take_drop]
end Go.Proofs.YtpcapmdfjmpdiaaGreatDoor

namespace Go.Proofs.YtpcapmdfjmpdiaaGreatDoor
open NT
set_option linter.unusedVariables false
set_option linter.unusedSimpArgs false

theorem callN_er (t : NT) : callN t.er = (callN t).map er := by
  refine NT.ind (M := fun t => callN t.er = (callN t).map er) (fun t h1 h2 => ?_) t
  have key : ∀ l : List NT, (∀ x, x ∈ l → callN x.er = (callN x).map er) → callNs (ers l) = (callNs l).map er := by
    intro l
    induction l with
    | nil => intro _; simp [ers, callNs_nil]
    | cons x l ih =>
      intro h
      rw [ers, callNs_cons, callNs_cons, List.map_append, h x (by simp), ih fun y hy => h y (by simp [hy])]
  rw [callN_eq t.er, callN_eq t, er_k, er_b, er_l, key _ h1, key _ h2]
  by_cases hk : t.k = 4 <;> simp [hk]
theorem callNs_ers : ∀ l : List NT, callNs (ers l) = (callNs l).map er
  | [] => by simp [ers, callNs_nil]
  | x :: l => by rw [ers, callNs_cons, callNs_cons, List.map_append, callN_er, callNs_ers l]
theorem defsN_ers : ∀ l : List NT, defsN (ers l) = (defsN l).map er
  | [] => rfl
  | x :: l => by
    have := defsN_ers l
    unfold defsN at this ⊢
    rw [ers, List.filter_cons, List.filter_cons, show isDef x.er = isDef x from by unfold isDef; rw [er_k], this]
    split <;> rfl
theorem namesN_ers (l : List NT) : namesN (ers l) = namesN l := by
  unfold namesN
  rw [defsN_ers, List.map_map]
  exact List.map_congr_left fun t _ => er_s t
theorem dupN_er : ∀ (l : List NT) (seen : List ByteArray), dupN seen (l.map er) = dupN seen l
  | [], seen => rfl
  | x :: l, seen => by
    rw [List.map_cons]
    unfold dupN
    rw [er_s, er_a, dupN_er l]
theorem checkN_ers (l : List NT) : checkN (ers l) = checkN l := by
  unfold checkN
  rw [defsN_ers, dupN_er, callNs_ers, List.find?_map]
  have h : (badCall (ers l) ∘ er) = badCall l := by
    funext t
    show badCall (ers l) t.er = badCall l t
    unfold badCall
    rw [namesN_ers, er_s]
  rw [h]
  split
  · rfl
  · cases (callNs l).find? (badCall l) with
    | none => rfl
    | some t => simp [er_a]
/-! ### What a program's answers are like -/
end Go.Proofs.YtpcapmdfjmpdiaaGreatDoor

namespace Go.Proofs.YtpcapmdfjmpdiaaGreatDoor
open Go.RowKit Go.BigFrame NT
set_option linter.unusedVariables false
set_option linter.unusedSimpArgs false

def fS14 (s : ByteArray) : List Value := [.string s]
end Go.Proofs.YtpcapmdfjmpdiaaGreatDoor
