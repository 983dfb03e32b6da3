/-
  The law LexConcatenation, walked.
-/
import Derived.Test.YtkiefgifbkpcfaaDoorCo11
namespace Go.Proofs.YtkiefgifbkpcfaaDoor
open Go.RowKit Go.BigFrame
set_option linter.unusedVariables false
set_option linter.unusedSimpArgs false

set_option maxRecDepth 100000 in
set_option maxHeartbeats 3200000 in
theorem coBig (a b : ByteArray) (w : World) (hT : MX w) (ha : a.size ≤ 140737488351232) (hb : b.size ≤ 140737488351232) (h : 5000 < a.size + b.size) :
    Calls Tryd.prog 7 #[.string a, .string b] w fun e w' => e = .returned (.bool true) ∧ Below w.heap.size w w' := by
  have HT := Lib.hid hT
  have HA := Lib.hid (fun (W : World) (h : MX W) => alive_c W h)
  have hsum : IntKind.i64.wrap ((a.size : Int) + (b.size : Int)) = (a.size : Int) + (b.size : Int) := wrap_small _ (by omega) (by omega)
  have hi : (5000 : Int) < (a.size : Int) + (b.size : Int) := by omega
  clear hT ha hb h
  go_enter Tryd.func7, Tryd.ntmps7
  go_wp2_with (go_at_call 8; refine (HA.out _ HT.out).mono ?_; rintro e w1 ⟨rfl, hb⟩)
  go_ret
  exact ⟨rfl, hb⟩
theorem suf_yes {s : ByteArray} (h : (toL s).getLast? = some 123) (hs : s.size ≤ maxLen) (w : World) : Calls Tryd.prog 14 #[.string s, .string ⟨#[123]⟩] w fun e w' => e = .returned (.bool true) ∧ w' = w := by
  have := suffix_c s w hs
  rw [decide_eq_true h] at this
  exact this
theorem suf_no {s : ByteArray} (h : (toL s).getLast? ≠ some 123) (hs : s.size ≤ maxLen) (w : World) : Calls Tryd.prog 14 #[.string s, .string ⟨#[123]⟩] w fun e w' => e = .returned (.bool false) ∧ w' = w := by
  have := suffix_c s w hs
  rw [decide_eq_false h] at this
  exact this
set_option maxRecDepth 100000 in
set_option maxHeartbeats 3200000 in
theorem coSuf (a b : ByteArray) (w : World) (hT : MX w) (h : a.size + b.size ≤ 5000) (hl : (toL a).getLast? = some 123) :
    Calls Tryd.prog 7 #[.string a, .string b] w fun e w' => e = .returned (.bool true) ∧ Below w.heap.size w w' := by
  have HT := Lib.hid hT
  have HA := Lib.hid (fun (W : World) (h : MX W) => alive_c W h)
  have HS := Lib.hid (suf_yes hl (by unfold maxLen; omega))
  have hsum : IntKind.i64.wrap ((a.size : Int) + (b.size : Int)) = (a.size : Int) + (b.size : Int) := wrap_small _ (by omega) (by omega)
  have hi : ¬ (5000 : Int) < (a.size : Int) + (b.size : Int) := by omega
  clear hT h hl
  go_enter Tryd.func7, Tryd.ntmps7
  go_wp2_with (first | (go_at_call 14; refine (HS.out _).mono ?_; rintro e w1 ⟨rfl, rfl⟩) | (go_at_call 8; refine (HA.out _ HT.out).mono ?_; rintro e w1 ⟨rfl, hb⟩))
  go_ret
  exact ⟨rfl, hb⟩
set_option maxRecDepth 100000 in
set_option maxHeartbeats 3200000 in
theorem coErr (a b : ByteArray) (w : World) (hT : MX w) (h : a.size + b.size ≤ 5000) (hl : (toL a).getLast? ≠ some 123) (r1 r2 : LexR) (h1 : LexOf a r1) (h2 : LexOf b r2) (he : errR r1 ≠ 0 ∨ errR r2 ≠ 0) :
    Calls Tryd.prog 7 #[.string a, .string b] w fun e w' => e = .returned (.bool true) ∧ Below w.heap.size w w' := by
  have HT := Lib.hid hT
  have HA := Lib.hid (fun (W : World) (h : MX W) => alive_c W h)
  have HS := Lib.hid (suf_no hl (by unfold maxLen; omega))
  have H1 := Lib.hid (fun (W : World) (h : MX W) => lex_c a r1 W h h1)
  have H2 := Lib.hid (fun (W : World) (h : MX W) => lex_c b r2 W h h2)
  have hsum : IntKind.i64.wrap ((a.size : Int) + (b.size : Int)) = (a.size : Int) + (b.size : Int) := wrap_small _ (by omega) (by omega)
  have hi : ¬ (5000 : Int) < (a.size : Int) + (b.size : Int) := by omega
  generalize hx : errR r1 = e1 at he
  generalize hy : errR r2 = e2 at he
  have HX := Lib.hid hx
  have HY := Lib.hid hy
  clear hT h hl hx hy h1 h2
  by_cases e10 : e1 = 0
  · have e20 : ¬ (e2 : Int) = 0 := by omega
    subst e10
    clear he
    go_enter Tryd.func7, Tryd.ntmps7
    go_wp2_with (first | (go_at_call 14; refine (HS.out _).mono ?_; rintro e w1 ⟨rfl, rfl⟩) | (go_at_call 9; ((with_reducible refine (H1.out _ HT.out).mono ?_); rintro e w1 hp; obtain ⟨hb, A, c, rfl, hr⟩ := lex_any hp; rw [HX.out]; have HB1 := Lib.hid hb; clear hp hb hr)) | (go_at_call 9; ((with_reducible refine (H2.out _ (HT.out.bel HB1.out)).mono ?_); rintro e w2 hp; obtain ⟨hb, B, d, rfl, hr⟩ := lex_any hp; rw [HY.out]; have HB2 := Lib.hid (HB1.out.trans hb); clear hp hb hr)) | (go_at_call 8; refine (HA.out _ (HT.out.bel HB2.out)).mono ?_; rintro e w3 ⟨rfl, hb⟩; have HB3 := Lib.hid (HB2.out.trans hb); clear hb))
    go_ret
    exact ⟨rfl, HB3.out⟩
  · have e10' : ¬ (e1 : Int) = 0 := by omega
    clear he e10
    go_enter Tryd.func7, Tryd.ntmps7
    go_wp2_with (first | (go_at_call 14; refine (HS.out _).mono ?_; rintro e w1 ⟨rfl, rfl⟩) | (go_at_call 9; ((with_reducible refine (H1.out _ HT.out).mono ?_); rintro e w1 hp; obtain ⟨hb, A, c, rfl, hr⟩ := lex_any hp; rw [HX.out]; have HB1 := Lib.hid hb; clear hp hb hr)) | (go_at_call 9; ((with_reducible refine (H2.out _ (HT.out.bel HB1.out)).mono ?_); rintro e w2 hp; obtain ⟨hb, B, d, rfl, hr⟩ := lex_any hp; rw [HY.out]; have HB2 := Lib.hid (HB1.out.trans hb); clear hp hb hr)) | (go_at_call 8; refine (HA.out _ (HT.out.bel HB2.out)).mono ?_; rintro e w3 ⟨rfl, hb⟩; have HB3 := Lib.hid (HB2.out.trans hb); clear hb))
    go_ret
    exact ⟨rfl, HB3.out⟩
theorem shift_at {us : List Tok} {d k : Nat} {u : Tok} (h : us[k]? = some u) : (us.map (shift d))[k]? = some ⟨u.k, u.a + d, u.s, u.p, u.h⟩ := by rw [List.getElem?_map, h]; rfl
set_option maxRecDepth 100000 in
set_option maxHeartbeats 3200000 in
theorem coMain (a b : ByteArray) (w : World) (hT : MX w) (h : a.size + b.size ≤ 5000) (hl : (toL a).getLast? ≠ some 123) (ts us : List Tok) (h1 : Lx (toL a) 0 ts) (h2 : Lx (toL b) 0 us) :
    Calls Tryd.prog 7 #[.string a, .string b] w fun e w' => e = .returned (.bool true) ∧ Below w.heap.size w w' := by
  have HT := Lib.hid hT
  have HA := Lib.hid (fun (W : World) (h : MX W) => alive_c W h)
  have HS := Lib.hid (suf_no hl (by unfold maxLen; omega))
  have H1 := Lib.hid (fun (W : World) (h : MX W) => lex_c a (.ok ts) W h (by unfold LexOf; rw [if_neg (by omega)]; exact h1))
  have H2 := Lib.hid (fun (W : World) (h : MX W) => lex_c b (.ok us) W h (by unfold LexOf; rw [if_neg (by omega)]; exact h2))
  have H3 := Lib.hid (fun (W : World) (h' : MX W) => lex_c (a ++ b) (.ok (mergeT ts (us.map (shift a.size)))) W h' (by unfold LexOf; rw [if_neg (by rw [ByteArray.size_append]; omega)]; exact co_pure h1 h2 hl))
  have hsum : IntKind.i64.wrap ((a.size : Int) + (b.size : Int)) = (a.size : Int) + (b.size : Int) := wrap_small _ (by omega) (by omega)
  have hi : ¬ (5000 : Int) < (a.size : Int) + (b.size : Int) := by omega
  have hc1 := lx_count h1
  have hc2 := lx_count h2
  rw [toL_len] at hc1 hc2
  have HSA : Hid (∀ (k : Nat) (u : Tok), us[k]? = some u → (us.map (shift a.size))[k]? = some ⟨u.k, u.a + a.size, u.s, u.p, u.h⟩ ∧ u.a + a.size ≤ 5000 ∧ u.s.length ≤ 5000) := Lib.hid (fun k u hu => by
    obtain ⟨_, g1, _, g2⟩ := lx_good h2 u (List.mem_of_getElem? hu)
    rw [toL_len] at g1 g2
    exact ⟨shift_at hu, by omega, by omega⟩)
  have HSB : Hid (∀ (k : Nat) (u : Tok), ts[k]? = some u → u.s.length ≤ 5000) := Lib.hid (fun k u hu => by
    obtain ⟨_, g1, _, g2⟩ := lx_good h1 u (List.mem_of_getElem? hu)
    rw [toL_len] at g1 g2
    omega)
  have hml : (us.map (shift a.size)).length = us.length := List.length_map _
  generalize us.map (shift a.size) = ms at *
  obtain ⟨n, hn⟩ : ∃ n, n = ts.length := ⟨_, rfl⟩
  obtain ⟨m, hm⟩ : ∃ m, m = us.length := ⟨_, rfl⟩
  have hn5 : n ≤ 5000 := by omega
  have hm5 : m ≤ 5000 := by omega
  have HN := Lib.hid hn
  have HM := Lib.hid hm
  have HML : Hid (ms.length = m) := Lib.hid (by omega)
  have HSZ : Hid ((a ++ b).size = a.size + b.size ∧ a.size + b.size ≤ 5000) := Lib.hid ⟨ByteArray.size_append, h⟩
  clear hT h hl h1 h2 hc1 hc2 hml hn hm
  go_enter Tryd.func7, Tryd.ntmps7
  go_wp2_with (first | (go_at_call 14; refine (HS.out _).mono ?_; rintro e w1 ⟨rfl, rfl⟩) | (go_at_call 9; ((with_reducible refine (H1.out _ HT.out).mono ?_); rintro e w1 hp; obtain ⟨hb, A, c, rfl, hr, _⟩ := lex_ok hp; rw [← HN.out]; have HB1 := Lib.hid hb; have HR1 := Lib.hid hr; clear hp hb hr)) | (go_at_call 9; ((with_reducible refine (H2.out _ (HT.out.bel HB1.out)).mono ?_); rintro e w2 hp; obtain ⟨hb, B, d, rfl, hr, _⟩ := lex_ok hp; rw [← HM.out]; have HB2 := Lib.hid (HB1.out.trans hb); have HR2 := Lib.hid hr; have HR12 := Lib.hid ((HR1.out.only (bel_only hb) (by simp)).alloc (.cells #[] 32)); have HE0 : Hid (KRow (w2.alloc (.cells #[] 32)) 32 5 Tok.cs (some ⟨w2.heap.size, 0, none⟩) 0 ([] : List Tok)) := Lib.hid (KRow.of_room (Blk.new w2 32 []) 0 rfl (by decide)); clear hp hb hr)) | (at_builtin; ((with_reducible refine wp_tokAll rfl (.tmp 58) (.tmp 59) rfl _ 0 rfl HE0.out A c n ts HN.out.symm rfl HR12.out (by omega) ?_); intro A1 c1 w3 HR3 HO3 HK3)))
  have HT3 : Hid (TkAt 32 w2 w3 A1 n c1 ts) := Lib.hid ⟨HR3.out, HN.out.symm, fun k hk => by
      rcases HK3.out k hk with h1 | h1
      · rw [rowT_some] at h1; simp at h1; omega
      · simp at h1; omega, Below.trans (Bel.alloc w2 (.cells #[] 32)) (HO3.out.to_below (Bel.alloc w2 (.cells #[] 32)).size (fun k hk => by rw [rowT_some] at hk; simp at hk; omega))⟩
  clear HR3 HO3 HK3 HE0 HR12 HR1 HB1
  go_loopw [11, 63] (fun s11 s63 wr => ∃ (k : Nat) (A' : Option Addr) (q c' : Nat) (done : List Tok), k ≤ m ∧ s11 = .slice A' q c' ∧ s63 = .int .i64 k ∧ Hid (done = sofar ts ms k) ∧ Hid (TkAt 32 w2 wr A' q c' done)) (fun _ s63 _ => m - (intOf s63).toNat)
  case atStart => exact ⟨0, A1, n, c1, ts, Nat.zero_le _, rfl, rfl, Lib.hid (sofar_zero ts ms).symm, HT3⟩
  case round =>
    obtain ⟨k, A', q, c', done, hk, rfl, rfl, HD, HTK⟩ := hrel
    have HQL := Lib.hid HTK.out.len
    have hq5 : q ≤ 10000 := by have := HTK.out.len; have h2 := sofar_len ts ms k; rw [← HD.out] at h2; have := HN.out; have := HML.out; omega
    by_cases hlt : k < m
    · have hkl : k < us.length := by have := HM.out; omega
      have hku := List.getElem?_eq_getElem hkl
      generalize us[k] = u at hku
      obtain ⟨hms, hua, hux⟩ := HSA.out k u hku
      obtain ⟨g, o, hBB, hb⟩ := tok_at HR2.out hku
      subst hBB
      obtain ⟨b0, b1, b2, b3, b4⟩ := hb wr HTK.out.bel
      obtain ⟨uk, ua, ux, up, uh⟩ := u
      dsimp only at hms hua hux b0 b1 b2 b3 b4
      obtain ⟨ue, hue⟩ : ∃ ue, ue = ua + a.size := ⟨_, rfl⟩
      have hw : IntKind.i64.wrap ((ua : Int) + (a.size : Int)) = (ue : Int) := by rw [wrap_small _ (by omega) (by omega)]; omega
      rw [← hue] at hms
      obtain ⟨ui, hui⟩ : ∃ ui : Int, ui = (uk : Int) := ⟨_, rfl⟩
      rw [← hui] at b0
      have HMS := Lib.hid hms
      have hw0 : IntKind.i64.wrap ((q : Int) - 1) = (q : Int) - 1 := IntWalk.i64_in _ (by clear hw; omega)
      have HTX : Hid ([Value.int .i64 ui, .int .i64 ue, .string (ofL ux), .string (ofL up), .bool uh] = Tok.cs ⟨uk, ue, ux, up, uh⟩) := Lib.hid (by rw [hui]; rfl)
      have HTA := Lib.hid (HTK.out.later (Bel.alloc wr (.cells #[.int .i64 ui, .int .i64 ue, .string (ofL ux), .string (ofL up), .bool uh] 32)))
      have HAL := Lib.hid (HTA.out.row.alloc (.cells #[.int .i64 ui, .int .i64 ue, .string (ofL ux), .string (ofL up), .bool uh] 32))
      have HBK := Lib.hid (new_at1 wr (.cells #[.int .i64 ui, .int .i64 ue, .string (ofL ux), .string (ofL up), .bool uh] 32) 32 [.int .i64 ui, .int .i64 ue, .string (ofL ux), .string (ofL up), .bool uh])
      have HUI := Lib.hid hui
      clear hb hku hkl hms hua hue hui
      by_cases hk0 : k = 0
      · subst hk0
        obtain rfl : done = ts := by rw [HD.out, sofar_zero]
        have p0 : wr.cell? ⟨g, o, none⟩ = some (.int .i64 ui) := b0
        have p1 : wr.cell? ⟨g, o + 1, none⟩ = some (.int .i64 ua) := b1
        have p2 : wr.cell? ⟨g, o + 2, none⟩ = some (.string (ofL ux)) := b2
        have p3 : wr.cell? ⟨g, o + 3, none⟩ = some (.string (ofL up)) := b3
        have p4 : wr.cell? ⟨g, o + 4, none⟩ = some (.bool uh) := b4
        clear b0 b1 b2 b3 b4
        by_cases hq0 : q = 0
        · subst hq0
          have HPU : Hid (done ++ [⟨uk, ue, ux, up, uh⟩] = sofar done ms (0 + 1)) := Lib.hid (by
            refine (sofar_push HMS.out (fun _ l hl => ?_)).trans ?_ |>.symm
            · rw [List.length_eq_zero_iff.1 HQL.out] at hl; simp at hl
            · rw [sofar_zero])
          have hz : IntKind.i64.wrap (-1) = -1 := by decide
          clear hw0
          go_wp2_with ((with_reducible refine wp_tokL rfl (.tmp 106) (.tmp 108) rfl A' 0 c' done HQL.out rfl HAL.out (wr.heap.size + 1) _ _ HTX.out rfl HBK.out (by omega) ?_); intro A2 c2 w4 HR4 HO4 HK4; have HT4 := Lib.hid (HTA.out.push _ HR4.out HO4.out HK4.out); clear HR4 HO4 HK4)
          go_roundw
          case rel => exact ⟨1, A2, 0 + 1, c2, _, by omega, rfl, by go_num, HPU, HT4⟩
          case measure => simp [intOf]; omega
        · obtain ⟨j, hj⟩ : ∃ j, j = q - 1 := ⟨_, rfl⟩
          have hjl : j < done.length := by have := HQL.out; omega
          have hjt := List.getElem?_eq_getElem hjl
          have HSL := Lib.hid (HSB.out j _ hjt)
          generalize done[j] = l at hjt HSL
          obtain ⟨g2, o2, hAA, hl⟩ := tok_at HTK.out.row hjt
          have hg2 := HTK.out.row.lt g2 (by rw [hAA]; simp [rowT])
          have hg3 := HTK.out.fresh g2 (by rw [hAA]; simp [rowT])
          subst hAA
          have HLC := Lib.hid (fun ob => hl (wr.alloc ob) (Bel.alloc _ ob))
          obtain ⟨lk, la, lx, lp, lh⟩ := l
          have d0 : ∀ ob, (wr.alloc ob).cell? ⟨g2, o2 + j * 5, none⟩ = some (.int .i64 lk) := fun ob => (HLC.out ob).1
          have d2 : ∀ ob, (wr.alloc ob).cell? ⟨g2, o2 + j * 5 + 2, none⟩ = some (.string (ofL lx)) := fun ob => (HLC.out ob).2.2.1
          have hwj : IntKind.i64.wrap ((q : Int) - 1) = (j : Int) := by rw [hw0]; clear hw hw0; omega
          have hjq : (j : Int) < (q : Int) := by clear hw hw0 hwj; omega
          have hjq2 : j < q := by clear hw hw0 hwj; omega
          have hj0 : (0 : Int) ≤ (j : Int) := by clear hw hw0 hwj; omega
          have hj1 : ¬ (j : Int) < 0 := by clear hw hw0 hwj; omega
          have hdl : done.length - 1 = j := by have := HQL.out; clear hw hw0 hwj; omega
          have HJT := Lib.hid hjt
          have HJ := Lib.hid (And.intro hj hdl)
          clear hl hjt hw0 hjl hj hdl
          by_cases hm1 : uk = 0 ∧ lk = 0
          · obtain ⟨rfl, rfl⟩ := hm1
            obtain rfl : ui = 0 := HUI.out
            have d0' : ∀ ob, (wr.alloc ob).cell? ⟨g2, o2 + j * 5, none⟩ = some (.int .i64 0) := d0
            have HMG : Hid (done.set j ⟨0, la, lx ++ ux, lp, lh⟩ = sofar done ms (0 + 1)) := Lib.hid (by
              have := sofar_text HMS.out (by rw [HJ.out.2]; exact HJT.out) rfl rfl
              rw [HJ.out.2] at this
              exact this.symm)
            have hss : (ofL lx).size + (ofL ux).size ≤ 10000 := by
              have h3 := HSL.out
              have e1 : (ofL lx).size = lx.length := rfl
              have e2 : (ofL ux).size = ux.length := rfl
              dsimp only at h3
              rw [e1, e2]; clear hw hwj; omega
            have hne : ¬ wr.heap.size = g2 := by clear hw hwj; omega
            clear d0
            go_wp2_with fail
            refine region_begin (T := [g2]) (by kernel_rfl) ?_
            have HBW := Lib.hid (Blk.new wr 32 [.int .i64 0, .int .i64 ue, .string (ofL ux), .string (ofL up), .bool uh]).drew
            have HTW := Lib.hid (HTA.out.later (Bel.drew _))
            have m2 := d2 (.cells #[.int .i64 0, .int .i64 ue, .string (ofL ux), .string (ofL up), .bool uh] 32)
            have m2 : ((wr.alloc (.cells #[.int .i64 0, .int .i64 ue, .string (ofL ux), .string (ofL up), .bool uh] 32)).drew).cell? ⟨g2, o2 + j * 5 + 2, none⟩ = some (.string (ofL lx)) := m2
            have HF := HTW.out.row.free rfl
            generalize (wr.alloc (.cells #[.int .i64 0, .int .i64 ue, .string (ofL ux), .string (ofL up), .bool uh] 32)).drew = W at HBW HTW m2 HF ⊢
            have i2 : ∀ X : Later [g2] W, X.w.cell? ⟨wr.heap.size, 2, none⟩ = some (.string (ofL ux)) := fun X => (HBW.out.only X.h (by simp; exact hne)).cell 2
            refine region_seg [true, true, true, true, false, true, true] 5 (by kernel_rfl) (by kernel_rfl) (by kernel_rfl) rfl (fun _ _ d _ _ h => by cases d <;> exact h) ?_
            repeat (first | with_reducible refine wpMask_pass ?_ | (refine wpMask_want (by rfl) (fun K hK => ?_); go_big_quiet_op; refine hK _ ?_; clear hK K))
            with_reducible refine wpMask_nil ?_
            refine region_make 4 (v := .string (ofL lx)) (w1 := W) (by kernel_rfl) rfl (by rfl) (by go_simp) (Only.refl _ _) ?_
            simp only [List.getElem_toArray, List.getElem_cons_zero, List.getElem_cons_succ, Act.put, List.setIfInBounds_toArray, List.set_cons_zero, List.set_cons_succ]
            refine region_seg [false, false, false, false, false, false, false, true, true, true] 1 (by kernel_rfl) (by kernel_rfl) (by kernel_rfl) rfl (fun _ _ d _ _ h => by cases d <;> exact h) ?_
            repeat (first | with_reducible refine wpMask_pass ?_ | (refine wpMask_want (by rfl) (fun K hK => ?_); go_big_quiet_op; refine hK _ ?_; clear hK K))
            with_reducible refine wpMask_nil ?_
            have f2 := HF (o2 + j * 5 + 2)
            refine region_store (w1 := W.setCell ⟨g2, o2 + j * 5 + 2, none⟩ (.string (ofL lx ++ ofL ux))) 10 (by kernel_rfl) rfl (by rfl) (by go_simp) ((Only.refl _ _).setCell (.inl (by simp)) _) ?_
            clear m2 f2 HF i2
            refine region_end (by kernel_rfl) ?_
            simp only [List.getElem_toArray, List.getElem_cons_zero, List.getElem_cons_succ, Act.put, List.setIfInBounds_toArray, List.set_cons_zero, List.set_cons_succ]
            have HTN : Hid (TkAt 32 w2 (W.setCell ⟨g2, o2 + j * 5 + 2, none⟩ (.string (ofL lx ++ ofL ux))) (some ⟨g2, o2, none⟩) q c' (done.set j ⟨0, la, lx ++ ux, lp, lh⟩)) := Lib.hid ⟨by
              have h5 := KRow.setCell HTW.out.row tok_len (j := 2) (v := .string (ofL lx ++ ofL ux)) (b := ⟨0, la, lx ++ ux, lp, lh⟩) HJT.out (by decide) (by
                have : ofL lx ++ ofL ux = ofL (lx ++ ux) := by apply toL_inj; rw [toL_app, toL_ofL, toL_ofL, toL_ofL]
                rw [this]; rfl)
              rw [← Nat.add_assoc] at h5
              exact h5, by rw [List.length_set]; exact HQL.out, HTW.out.fresh, bel_on1 HTW.out.bel ((Only.refl [g2] W).setCell (.inl (by simp)) _) hg3⟩
            generalize W.setCell ⟨g2, o2 + j * 5 + 2, none⟩ (.string (ofL lx ++ ofL ux)) = wn at HTN ⊢
            go_wp2_with fail
            go_roundw
            case rel => exact ⟨1, _, q, c', _, by omega, rfl, by go_num, HMG, HTN⟩
            case measure => simp [intOf]; omega
          · have HPU : Hid (done ++ [⟨uk, ue, ux, up, uh⟩] = sofar done ms (0 + 1)) := Lib.hid (by
              refine (sofar_push HMS.out (fun _ l hl => ?_)).trans ?_ |>.symm
              · rw [HJ.out.2, HJT.out] at hl
                injection hl with hl
                subst hl
                exact fun h => hm1 ⟨h.2, h.1⟩
              · rw [sofar_zero])
            by_cases hu : uk = 0
            · subst hu
              obtain rfl : ui = 0 := HUI.out
              have n0 : ¬ (lk : Int) = 0 := by clear hw hwj; omega
              have n1 : ((lk : Int) == 0) = false := by rw [beq_eq_false_iff_ne]; exact n0
              clear hm1
              go_wp2_with ((with_reducible refine wp_tokL rfl (.tmp 106) (.tmp 108) rfl (some ⟨g2, o2, none⟩) q c' done HQL.out rfl HAL.out (wr.heap.size + 1) _ _ HTX.out rfl HBK.out (by omega) ?_); intro A2 c2 w4 HR4 HO4 HK4; have HT4 := Lib.hid (HTA.out.push _ HR4.out HO4.out HK4.out); clear HR4 HO4 HK4)
              go_roundw
              case rel => exact ⟨1, A2, q + 1, c2, _, by omega, rfl, by go_num, HPU, HT4⟩
              case measure => simp [intOf]; omega
            · have n0 : ¬ ui = 0 := by have := HUI.out; clear hw hwj; omega
              have n1 : (ui == 0) = false := by rw [beq_eq_false_iff_ne]; exact n0
              clear hm1
              go_wp2_with ((with_reducible refine wp_tokL rfl (.tmp 106) (.tmp 108) rfl (some ⟨g2, o2, none⟩) q c' done HQL.out rfl HAL.out (wr.heap.size + 1) _ _ HTX.out rfl HBK.out (by omega) ?_); intro A2 c2 w4 HR4 HO4 HK4; have HT4 := Lib.hid (HTA.out.push _ HR4.out HO4.out HK4.out); clear HR4 HO4 HK4)
              go_roundw
              case rel => exact ⟨1, A2, q + 1, c2, _, by omega, rfl, by go_num, HPU, HT4⟩
              case measure => simp [intOf]; omega
      · have HPU : Hid (done ++ [⟨uk, ue, ux, up, uh⟩] = sofar ts ms (k + 1)) := Lib.hid (by rw [HD.out]; exact (sofar_push HMS.out (fun h => absurd h hk0)).symm)
        have hk1 : ¬ (k : Int) = 0 := by omega
        have hk2 : ((k : Int) == 0) = false := by simpa using hk0
        clear hk0
        go_wp2_with ((with_reducible refine wp_tokL rfl (.tmp 106) (.tmp 108) rfl A' q c' done HQL.out rfl HAL.out (wr.heap.size + 1) _ _ HTX.out rfl HBK.out (by omega) ?_); intro A2 c2 w4 HR4 HO4 HK4; have HT4 := Lib.hid (HTA.out.push _ HR4.out HO4.out HK4.out); clear HR4 HO4 HK4)
        go_roundw
        case rel => exact ⟨k + 1, A2, q + 1, c2, _, by omega, rfl, by go_num, HPU, HT4⟩
        case measure => simp [intOf]; omega
    · obtain rfl : k = m := by omega
      have HB3 := Lib.hid (HB2.out.trans HTK.out.bel)
      have HDA : Hid (done = mergeT ts ms) := Lib.hid (by rw [HD.out, sofar_all HML.out.symm])
      have HQM : Hid ((mergeT ts ms).length = q) := Lib.hid (by rw [← HDA.out]; exact HQL.out)
      have HRW := Lib.hid HTK.out.row
      have hab := HSZ.out.1
      go_wp2_with (first | (go_at_call 9; ((with_reducible refine (H3.out _ (HT.out.bel HB3.out)).mono ?_); rintro e w5 hp; obtain ⟨hb, C, f, rfl, hr, _⟩ := lex_ok hp; rw [HQM.out]; have HB5 := Lib.hid (HB3.out.trans hb); have HR5 := Lib.hid hr; have HRW5 := Lib.hid (HRW.out.only (bel_only hb) (by simp)); clear hp hb hr)) | (go_at_call 8; refine (HA.out _ (HT.out.bel HB5.out)).mono ?_; rintro e w6 ⟨rfl, hb⟩; have HB6 := Lib.hid (HB5.out.trans hb); have HR6 := Lib.hid (HR5.out.only (bel_only hb) (by simp)); have HRW6 := Lib.hid (HRW5.out.only (bel_only hb) (by simp)); clear hb) | (go_at_call 15; refine (equalT_c HR6.out (HDA.out ▸ HRW6.out) q HQM.out (by omega)).mono ?_; rintro e w7 ⟨rfl, hb⟩; have HB7 := Lib.hid (HB6.out.trans hb); clear hb))
      go_ret
      exact ⟨rfl, HB7.out⟩
theorem coLaw (a b : ByteArray) (w : World) (hT : MX w) (ha : a.size ≤ 140737488351232) (hb : b.size ≤ 140737488351232) :
    Calls Tryd.prog 7 #[.string a, .string b] w fun e w' => e = .returned (.bool true) ∧ Below w.heap.size w w' := by
  by_cases h : 5000 < a.size + b.size
  · exact coBig a b w hT ha hb h
  by_cases hl : (toL a).getLast? = some 123
  · exact coSuf a b w hT (by omega) hl
  obtain ⟨r1, h1, _, g1, _⟩ := lexOf_total a
  obtain ⟨r2, h2, _, g2, _⟩ := lexOf_total b
  by_cases he : errR r1 ≠ 0 ∨ errR r2 ≠ 0
  · exact coErr a b w hT (by omega) hl r1 r2 h1 h2 he
  obtain ⟨ts, _, k1⟩ := g1 (by omega) (by omega)
  obtain ⟨us, _, k2⟩ := g2 (by omega) (by omega)
  exact coMain a b w hT (by omega) hl ts us k1 k2
end Go.Proofs.YtkiefgifbkpcfaaDoor
