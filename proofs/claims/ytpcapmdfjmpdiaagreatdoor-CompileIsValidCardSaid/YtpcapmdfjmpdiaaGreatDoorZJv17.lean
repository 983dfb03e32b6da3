/-
  The law's count of layer 17.
  The law CompileIsValid, walked.
-/
import Derived.Test.YtpcapmdfjmpdiaaGreatDoorZPb17
import Derived.Test.YtpcapmdfjmpdiaaGreatDoorZCt12
import Derived.Test.YtpcapmdfjmpdiaaGreatDoorZSz17
import Derived.Test.YtpcapmdfjmpdiaaGreatDoorZJl17
import Derived.Test.YtpcapmdfjmpdiaaGreatDoorZTabs
import Derived.Test.YtpcapmdfjmpdiaaGreatDoorZRlist
namespace Go.Proofs.YtpcapmdfjmpdiaaGreatDoor
open Go.RowKit Go.BigFrame NT
set_option linter.unusedVariables false
set_option linter.unusedSimpArgs false
set_option maxRecDepth 100000

namespace NT
mutual
def cnc : NT → Nat | mk k _ _ _ _ e _ _ b _ _ l => 1 + (if e = true ∨ k = 3 then 1 else 0) + (cncs b + cncs l)
def cncs : List NT → Nat | [] => 0 | x :: r => cnc x + cncs r
end
theorem cnc_eq (t : NT) : cnc t = 1 + (if t.e = true ∨ t.k = 3 then 1 else 0) + (cncs t.b + cncs t.l) := by cases t; rw [cnc]; rfl
theorem cncs_nil : cncs [] = 0 := by simp [cncs]
theorem cncs_cons (x : NT) (r : List NT) : cncs (x :: r) = cnc x + cncs r := by simp [cncs]
theorem cncs_append : ∀ l m : List NT, cncs (l ++ m) = cncs l + cncs m
  | [], m => by simp [cncs_nil]
  | x :: l, m => by rw [List.cons_append, cncs_cons, cncs_cons, cncs_append l m]; omega
theorem cnc_bound (t : NT) : cnc t ≤ 2 * tot t := by
  refine ind (M := fun t => cnc t ≤ 2 * tot t) (fun t h1 h2 => ?_) t
  have key : ∀ l : List NT, (∀ x, x ∈ l → cnc x ≤ 2 * tot x) → cncs l ≤ 2 * tots l := by
    intro l
    induction l with
    | nil => intro _; simp [cncs_nil, tots_nil]
    | cons x l ih =>
      intro h
      have := h x (by simp)
      have := ih fun y hy => h y (by simp [hy])
      rw [cncs_cons, tots_cons]
      omega
  have := key _ h1
  have := key _ h2
  rw [cnc_eq, tot_eq]
  split <;> omega
theorem cncs_bound : ∀ l : List NT, cncs l ≤ 2 * tots l
  | [] => by simp [cncs_nil, tots_nil]
  | x :: l => by
    have := cnc_bound x
    have := cncs_bound l
    rw [cncs_cons, tots_cons]
    omega
theorem cncs_step {l : List NT} {i : Nat} {x : NT} (h : l[i]? = some x) : cncs (l.take (i + 1)) = cncs (l.take i) + x.cnc := by
  rw [take_step h, cncs_append, cncs_cons, cncs_nil, Nat.add_zero]
end NT
theorem cnc_of_wk (t : NT) : ∀ n, Wk n t → cnc t = if t.k = 6 then 1 + sizs t.b else siz t := by
  refine ind (M := fun t => ∀ n, Wk n t → cnc t = if t.k = 6 then 1 + sizs t.b else siz t) (fun t h1 h2 n h => ?_) t
  have key : ∀ l : List NT, (∀ x, x ∈ l → Wk true x) → (∀ x, x ∈ l → ∀ n, Wk n x → cnc x = if x.k = 6 then 1 + sizs x.b else siz x) → cncs l = sizs l := by
    intro l
    induction l with
    | nil => intro _ _; rw [cncs_nil, sizs_nil]
    | cons x l ih =>
      intro hw hm
      have e1 := hm x (by simp) _ (hw x (by simp))
      rw [if_neg ((hw x (by simp)).facts.2.2.1 rfl)] at e1
      rw [cncs_cons, sizs_cons, e1, ih (fun y hy => hw y (by simp [hy])) (fun y hy => hm y (by simp [hy]))]
  have b1 := key t.b h.body h1
  have l1 := key t.l h.els h2
  obtain ⟨f1, f2, f3, f4, f5, f6⟩ := h.facts
  have f7 := h.noElse
  have hk : t.k = 0 ∨ t.k = 1 ∨ t.k = 2 ∨ t.k = 3 ∨ t.k = 4 ∨ t.k = 5 ∨ t.k = 6 := by omega
  rw [cnc_eq, siz_eq, b1, l1]
  by_cases h2k : t.k = 2
  · cases he : t.e with
    | true => simp [h2k]; omega
    | false => rw [f4 he, sizs_nil]; simp [h2k]
  · have he := f7 h2k
    have hl := f5 h2k
    rw [hl, sizs_nil, he]
    by_cases h3 : t.k = 3
    · simp [h3]
    · by_cases h6 : t.k = 6
      · simp [h6]
      · have hb := f6 h2k h3 h6
        rw [hb, sizs_nil]
        simp [h2k, h3, h6]
        omega
theorem cncs_of_wk : ∀ {l : List NT}, (∀ x, x ∈ l → Wk false x) → ∀ es, cncs l = sizs l + dsz (dfs l es)
  | [], _, es => by rw [cncs_nil, sizs_nil]; rfl
  | x :: l, h, es => by
    have e1 := cnc_of_wk x _ (h x (by simp))
    have e2 := cncs_of_wk (l := l) (fun y hy => h y (by simp [hy])) (es.drop (prf x))
    rw [cncs_cons, sizs_cons, dfs_cons, e1, e2]
    by_cases h6 : x.k = 6
    · rw [if_pos h6, if_pos h6, siz_eq]
      show _ = _ + (sizs x.b + 1 + dsz _)
      simp [h6]
      omega
    · rw [if_neg h6, if_neg h6]
      omega
abbrev Cscount (w : World) (A : Option Addr) (n c : Nat) (r : Nat) : Prop := Calls Tryz.prog 19 #[.slice A n c] w fun e w' => e = .returned (.int .i64 (r : Nat)) ∧ Bel w w'
def Mcount (x : NT) : Prop := ∀ (w : World), x.In w (Lt w) → x.tot ≤ 100000 → Cscount w x.A x.b.length x.c (cncs x.b) ∧ Cscount w x.B x.l.length x.d (cncs x.l)
set_option maxHeartbeats 6400000 in
theorem count17_row (l : List NT) (ih : ∀ x ∈ l, Mcount x) (A : Option Addr) (c : Nat) (w : World) (hA : Row w (Lt w) A c l) (ht : tots l ≤ 100000) : Cscount w A l.length c (cncs l) := by
  obtain ⟨n, hn⟩ : ∃ n, n = l.length := ⟨_, rfl⟩
  have hn5 := hA.len
  rw [← hn] at hn5 ⊢
  have HA := Lib.hid hA
  have HI := Lib.hid ih
  have HN := Lib.hid hn
  have HT := Lib.hid ht
  clear hA ih hn ht
  go_enter Tryz.func19, Tryz.ntmps19
  go_wp2_with fail
  go_loopw [3, 8] (fun s3 s8 wr => ∃ i q : Nat, i ≤ n ∧ s3 = .int .i64 q ∧ s8 = .int .i64 i ∧ Hid (q = cncs (l.take i)) ∧ Hid (Bel w wr)) (fun _ s8 _ => n - (intOf s8).toNat)
  case atStart => exact ⟨0, 0, Nat.zero_le _, rfl, rfl, Lib.hid (by rw [List.take_zero, cncs_nil]), Lib.hid (Bel.refl _)⟩
  case round =>
    obtain ⟨i, q, hin, rfl, rfl, HQ, HB⟩ := hrel
    by_cases hlt : i < n
    · have hxt := List.getElem?_eq_getElem (l := l) (i := i) (by have := HN.out; omega)
      generalize l[i]'(by have := HN.out; omega) = x at hxt
      have hxm := List.mem_of_getElem? hxt
      obtain ⟨g, o, hAA, hg, ha⟩ := HA.out.cells hxt
      subst hAA
      have HXI := Lib.hid (HA.out.2 x hxm)
      have hst := tots_step hxt
      have hle1 : tots (l.take (i + 1)) ≤ 100000 := by have h1 := HT.out; rw [← List.take_append_drop (i + 1) l, tots_append] at h1; omega
      have hte := tot_eq x
      have hx1 : x.tot ≤ 100000 := by omega
      have HMX := Lib.hid (fun W (hb : Bel w W) => HI.out x hxm W (HXI.out.bel hb) hx1)
      have hqb : q ≤ 200000 := by have h1 := cncs_bound (l.take i); have := HQ.out; omega
      have hsb := cncs_bound x.b
      have hsl := cncs_bound x.l
      have hstep := cncs_step hxt
      obtain ⟨SB, hSB⟩ : ∃ SB, SB = cncs x.b := ⟨_, rfl⟩
      obtain ⟨SL, hSL⟩ : ∃ SL, SL = cncs x.l := ⟨_, rfl⟩
      have hb1 : SB ≤ 200000 := by omega
      have hl1 : SL ≤ 200000 := by omega
      have HCB := Lib.hid (fun W (hb : Bel w W) => show Cscount W x.A x.b.length x.c SB by rw [hSB]; exact (HMX.out W hb).1)
      have HCL := Lib.hid (fun W (hb : Bel w W) => show Cscount W x.B x.l.length x.d SL by rw [hSL]; exact (HMX.out W hb).2)
      have heq := cnc_eq x
      rw [← hSB, ← hSL] at heq
      have HST := Lib.hid (show cncs (l.take (i + 1)) = q + x.cnc by rw [hstep, HQ.out])
      obtain ⟨a0, a1, a2, a3, a4, a5, a6, a7⟩ := ha wr HB.out
      obtain ⟨W, hW⟩ : ∃ W, W = (wr.alloc (.cells #[.int .i64 x.k, .int .i64 x.a, .string x.s, .string x.p, .bool x.h, .bool x.e, .slice x.A x.b.length x.c, .slice x.B x.l.length x.d] 69)).drew := ⟨_, rfl⟩
      have HBd := Lib.hid (show Bel w W by rw [hW]; exact (HB.out.trans (Bel.alloc _ _)).trans (Bel.drew17 _))
      have HNW := Lib.hid (show Blk W wr.heap.size 69 x.cs by rw [hW]; exact (Blk.new wr 69 x.cs).drew)
      clear hxt hxm hg ha hst hle1 hte hx1 hsb hsl hstep hSB hSL HXI
      have arms : ∀ (xe : Bool) (d : Nat) (b3 : Bool), x.e = xe → (x.k == 3) = b3 → d = (if (xe || b3) = true then 1 else 0) → x.cnc = 1 + d + (SB + SL) := by
        intro xe d b3 h1 h2 h3
        rw [heq, h3]
        have e : (x.e = true ∨ x.k = 3) ↔ (xe || b3) = true := by rw [← h1, ← h2, Bool.or_eq_true, beq_iff_eq]
        by_cases hh : (xe || b3) = true
        · rw [if_pos (e.2 hh), if_pos hh]
        · rw [if_neg (fun h => hh (e.1 h)), if_neg hh]
      have HARM := Lib.hid arms
      clear heq arms
      obtain ⟨xe, hxe⟩ : ∃ xe, xe = x.e := ⟨_, rfl⟩
      obtain ⟨b3, hb3⟩ : ∃ b3, b3 = (x.k == 3) := ⟨_, rfl⟩
      rw [← hxe] at a5 hW
      have HXE := Lib.hid hxe
      have HB3' := Lib.hid hb3
      have hb3' := hb3.symm
      clear hxe hb3
      cases xe
      all_goals cases b3
      all_goals
        go_wp2_with fail
        refine region_begin (T := []) (by kernel_rfl) ?_
        rw [show (World.drew _) = W from hW.symm]
        have c5 := fun X : Later [] W => (HNW.out.bel (bel_of_only X.h)).cell 6
        have c6 := fun X : Later [] W => (HNW.out.bel (bel_of_only X.h)).cell 7
        simp only [NT.cs, List.getElem?_cons_zero, List.getElem?_cons_succ] at c5 c6
        refine region_seg [true, true, true, false, true, true] 5 (by kernel_rfl) (by kernel_rfl) (by kernel_rfl) rfl (fun _ _ d _ _ h => by cases d <;> exact h) ?_
        repeat (first | with_reducible refine wpMask_pass ?_ | (refine wpMask_want (by rfl) (fun K hK => ?_); go_big_quiet_op; refine hK _ ?_; clear hK K))
        with_reducible refine wpMask_nil ?_
        clear c5 c6
        refine region_call 3 (by kernel_rfl) rfl (by rfl) (by go_simp; exact ⟨rfl, rfl⟩) ?_
        (with_reducible refine (HCB.out _ HBd.out).mono ?_); rintro e w2 ⟨rfl, hb⟩; refine ⟨_, rfl, bel_only hb, ?_⟩
        simp only [List.getElem_toArray, List.getElem_cons_zero, List.getElem_cons_succ, Act.put, List.setIfInBounds_toArray, List.set_cons_zero, List.set_cons_succ]
        have HB2 := Lib.hid (HBd.out.trans hb)
        clear hb
        refine region_call 6 (by kernel_rfl) rfl (by rfl) (by go_simp; exact ⟨rfl, rfl⟩) ?_
        (with_reducible refine (HCL.out _ HB2.out).mono ?_); rintro e w3 ⟨rfl, hb⟩; refine ⟨_, rfl, bel_only hb, ?_⟩
        simp only [List.getElem_toArray, List.getElem_cons_zero, List.getElem_cons_succ, Act.put, List.setIfInBounds_toArray, List.set_cons_zero, List.set_cons_succ]
        have HB3 := Lib.hid (HB2.out.trans hb)
        clear hb
        refine region_seg [false, false, false, false, false, false, false, true, true, true] 0 (by kernel_rfl) (by kernel_rfl) (by kernel_rfl) rfl (fun _ _ d _ _ h => by cases d <;> exact h) ?_
        repeat (first | with_reducible refine wpMask_pass ?_ | (refine wpMask_want (by rfl) (fun K hK => ?_); go_big_quiet_op; refine hK _ ?_; clear hK K))
        with_reducible refine wpMask_nil ?_
        refine region_end (by kernel_rfl) ?_
        go_wp2_with fail
        go_roundw
        case rel =>
          first
            | exact ⟨i + 1, q + 1 + (SB + SL), by omega, by go_num, by go_num, Lib.hid (by rw [HST.out, HARM.out _ 0 _ HXE.out.symm HB3'.out.symm rfl]; omega), HB3⟩
            | exact ⟨i + 1, q + 1 + 1 + (SB + SL), by omega, by go_num, by go_num, Lib.hid (by rw [HST.out, HARM.out _ 1 _ HXE.out.symm HB3'.out.symm rfl]; omega), HB3⟩
        case measure => simp [intOf]; omega
    · obtain rfl : i = n := by omega
      have HRF := Lib.hid (show q = cncs l by have h := HQ.out; rwa [HN.out, List.take_length] at h)
      go_wp2_with fail
      go_ret
      exact ⟨by rw [HRF.out]; rfl, HB.out⟩
theorem count17_all (x : NT) : Mcount x := by
  refine NT.ind (M := Mcount) (fun t h1 h2 => ?_) x
  intro w ht hz
  rw [tot_eq] at hz
  exact ⟨count17_row t.b h1 _ _ w ht.body (by omega), count17_row t.l h2 _ _ w ht.els (by omega)⟩
theorem count17_c {l : List NT} {A : Option Addr} {c : Nat} {w : World} (hA : Row w (Lt w) A c l) (ht : tots l ≤ 100000) : Cscount w A l.length c (cncs l) := count17_row l (fun x _ => count17_all x) A c w hA ht
/-- What is a path is not long. -/
theorem parts_sum : ∀ l : List UInt8, (∀ q, q ∈ parts l → q.length ≤ 32) → l.length + 1 ≤ 33 * (parts l).length
  | [], _ => by simp [parts]
  | c :: l, h => by
    by_cases hc : c = 46
    · have e : parts (c :: l) = [] :: parts l := by rw [parts, if_pos hc]
      rw [e] at h ⊢
      have := parts_sum l (fun q hq => h q (by simp [hq]))
      simp only [List.length_cons]
      omega
    · obtain ⟨p, ps, h1, h2⟩ := parts_cons (l := l) hc
      rw [h2] at h ⊢
      have key : l.length + 1 ≤ p.length + 1 + 33 * ps.length := by
        have gen : ∀ (m : List UInt8) (p : List UInt8) (ps : List (List UInt8)), parts m = p :: ps → (∀ q, q ∈ ps → q.length ≤ 32) → m.length + 1 ≤ p.length + 1 + 33 * ps.length := by
          intro m
          induction m with
          | nil => intro p ps hp _; simp [parts] at hp; obtain ⟨rfl, rfl⟩ := hp; simp
          | cons d m ih =>
            intro p ps hp hq
            by_cases hd : d = 46
            · rw [parts, if_pos hd] at hp
              injection hp with e1 e2
              subst e1
              obtain ⟨p2, ps2, g1⟩ : ∃ p2 ps2, parts m = p2 :: ps2 := by
                cases hm : parts m with
                | nil => exact absurd hm (parts_ne m)
                | cons a b => exact ⟨a, b, rfl⟩
              rw [g1] at e2
              subst e2
              have := ih p2 ps2 g1 (fun q h => hq q (by simp [h]))
              have := hq p2 (by simp)
              simp only [List.length_cons, List.length_nil]
              omega
            · obtain ⟨p2, ps2, g1, g2⟩ := parts_cons (l := m) hd
              rw [g2] at hp
              injection hp with e1 e2
              subst e1 e2
              have := ih p2 ps2 g1 hq
              simp only [List.length_cons]
              omega
        exact gen l p ps h1 (fun q hq => h q (by simp [hq]))
      have := h (c :: p) (by simp)
      simp only [List.length_cons] at this ⊢
      omega
theorem path_size {p : ByteArray} (h : (pathOf p).isSome = true) : p.size ≤ 300 := by
  unfold pathOf at h
  split at h
  · omega
  split at h
  · rename_i h1
    obtain ⟨g1, g2⟩ := h1
    have h3 := parts_sum (toL p) (fun q hq => by
      have := List.all_eq_true.1 g2 q hq
      cases q with
      | nil => simp
      | cons c q =>
        rw [nameL_cons] at this
        simp only [Bool.and_eq_true, decide_eq_true_eq] at this
        exact this.1.1)
    rw [toL_len] at h3
    omega
  · cases h
end Go.Proofs.YtpcapmdfjmpdiaaGreatDoor

namespace Go.Proofs.YtpcapmdfjmpdiaaGreatDoor
open Go.RowKit Go.BigFrame NT
set_option linter.unusedVariables false
set_option linter.unusedSimpArgs false
set_option maxRecDepth 100000

theorem codeW_paths {l : List NT} (hl : Parsed l) {es : List Nat} (he : ∀ k, k ∈ es → k ≤ 4) : ∀ x, x ∈ (codeW l es).map IN.x → x.p.size < 4294967281 := by
  intro x hx
  obtain ⟨y, hy, rfl⟩ := List.mem_map.1 hx
  have := path_size (codeW_vd hl.pth he y hy).p
  show y.p.size < _
  omega
theorem cnc_er (t : NT) : t.er.cnc = t.cnc := by
  refine ind (M := fun t => t.er.cnc = t.cnc) (fun t h1 h2 => ?_) t
  have key : ∀ l : List NT, (∀ x, x ∈ l → x.er.cnc = x.cnc) → cncs (ers l) = cncs l := by
    intro l
    induction l with
    | nil => intro _; rfl
    | cons x l ih =>
      intro h
      show cncs (x.er :: ers l) = _
      rw [cncs_cons, cncs_cons, h x (by simp), ih (fun y hy => h y (by simp [hy]))]
  rw [cnc_eq, cnc_eq, er_e, er_k, er_b, er_l, key _ h1, key _ h2]
theorem cncs_ers : ∀ l : List NT, cncs (ers l) = cncs l
  | [] => rfl
  | x :: l => by
    show cncs (x.er :: ers l) = _
    rw [cncs_cons, cncs_cons, cnc_er, cncs_ers l]
set_option maxHeartbeats 6400000 in
theorem jvLaw (s : ByteArray) (w : World) (hT : MX w) (hO : TabO w) (hs : s.size ≤ maxLen) :
    Calls Tryz.prog 6 #[.string s] w fun e w' => e = .returned (.bool true) ∧ Below w.heap.size w w' := by
  have hs2 : (s.size : Int) ≤ 9223372036854775807 := by have := hs; unfold maxLen at this; omega
  have HT := Lib.hid hT
  have HO := Lib.hid hO
  have HAL := Lib.hid (fun (W : World) (hb : Bel w W) => alive_c W (hT.bel hb))
  by_cases hbig : 5000 < s.size
  · have hi : (5000 : Int) < (s.size : Int) := by omega
    clear hs hT hO
    go_enter Tryz.func6, Tryz.ntmps6
    go_wp2_with (go_at_call 9; ((with_reducible refine (HAL.out _ (Bel.refl _)).mono ?_); rintro e w1 ⟨rfl, hb⟩; have HB1 := Lib.hid hb; clear hb))
    go_ret
    exact ⟨rfl, HB1.out⟩
  have hi : ¬ (5000 : Int) < (s.size : Int) := by omega
  have hs5 : s.size ≤ 5000 := by omega
  obtain ⟨r, hlo, _⟩ := lexOf_total s
  obtain ⟨hne, hpa⟩ := par17 hs5 hlo
  have HCO := Lib.hid (pcompile_c s hs5 hlo w hT)
  have HRP := Lib.hid (fun W => refParse_c s r W hlo)
  obtain ⟨C, hC⟩ : ∃ C, C = cmpR (parR r) := ⟨_, rfl⟩
  rw [← hC] at HCO
  obtain ⟨c, a, k⟩ := C
  by_cases hk : k = 0
  · subst hk
    obtain ⟨l, hl, hcn⟩ := cmpR_ok hC.symm hne
    have hpl := hpa l hl
    obtain ⟨es, rfl, rfl, ⟨b, hck⟩, hes, _⟩ := codeN_ok hpl hcn
    rw [hl] at HRP
    have HPL := Lib.hid hpl
    have HES := Lib.hid hes
    have HFEW := Lib.hid (codeW_few hpl es)
    have HCK := Lib.hid (codeW_check hck hpl.pth hes (by have := codeW_few hpl es; omega))
    obtain ⟨n, hn⟩ : ∃ n, n = (codeW l es).length := ⟨_, rfl⟩
    have HN := Lib.hid hn
    have HCN := Lib.hid (show n = cncs l + 1 by rw [hn, codeW_len, cncs_of_wk hpl.wk es]; omega)
    have hn9 : n ≤ 31000 := by rw [hn]; exact codeW_few hpl es
    have HXP := Lib.hid (codeW_paths hpl hes)
    unfold CdP at HCO
    dsimp only at HCO
    rw [← hn] at HCO HCK
    clear hlo hne hpa hC hl hcn hpl hes hck hn hT hO hs
    go_enter Tryz.func6, Tryz.ntmps6
    go_wp2_with (first
      | (go_at_call 10; ((with_reducible refine (HCO.out).mono ?_); rintro e w1 ⟨hb, A1, c1, rfl, hI⟩; have HB1 := Lib.hid hb; have HX1 := Lib.hid (Xr.of_krow hI.out.1); clear hb hI))
      | (go_at_call 18; ((with_reducible refine (HRP.out _).mono ?_); rintro e w2 hp; obtain ⟨hb, A2, c2, m, he, hrow, rfl, htm, _⟩ := hp.row17 HPL.out; have HB2 := Lib.hid (HB1.out.trans hb); have HX2 := Lib.hid (HX1.out.bel hb); have HROW := Lib.hid hrow; have HTM := Lib.hid htm; have HE := Lib.hid he; have HCH := Lib.hid (pcheck17_c HX2.out (HO.out.bel HB2.out) (HT.out.bel HB2.out) HXP.out (by rw [List.length_map]; have := HFEW.out; omega)); rw [HCK.out, List.length_map, ← HN.out] at HCH; clear hp hb hrow htm he))
      | (go_at_call 13; ((with_reducible refine (HCH.out).mono ?_); rintro e w3 ⟨rfl, hb⟩; have HB3 := Lib.hid (HB2.out.trans hb); have HROW3 := Lib.hid (HROW.out.bel hb); clear hb))
      | (go_at_call 9; ((with_reducible refine (HAL.out _ HB3.out).mono ?_); rintro e w4 ⟨rfl, hb⟩; have HB4 := Lib.hid (HB3.out.trans hb); have HROW4 := Lib.hid (HROW3.out.bel hb); have HCT := Lib.hid (count17_c HROW4.out (by have := HTM.out; omega)); obtain ⟨q, hq⟩ : ∃ q, q = cncs m := ⟨_, rfl⟩; have hqn : q + 1 = n := (by rw [hq, ← cncs_ers, HE.out, HCN.out]); unfold Cscount at HCT; rw [← hq] at HCT; have e1 : IntKind.i64.wrap ((q : Int) + 1) = (n : Int) := ((IntWalk.i64_in _ (by omega)).trans (by omega)); have e2 : (q : Int) + 1 = (n : Int) := (by omega); clear hb hq hqn))
      | (go_at_call 19; ((with_reducible refine (HCT.out).mono ?_); rintro e w5 ⟨rfl, hb⟩; have HB5 := Lib.hid (HB4.out.trans hb); clear hb)))
    go_ret
    exact ⟨rfl, HB5.out⟩
  · have hk1 : ((k : Int) != 0) = true := bne_iff_ne.2 (by omega)
    clear hlo hne hpa hC hT hO hs HRP hk
    go_enter Tryz.func6, Tryz.ntmps6
    go_wp2_with (first
      | (go_at_call 10; ((with_reducible refine (HCO.out).mono ?_); rintro e w1 ⟨hb, A1, c1, rfl, hI⟩; have HB1 := Lib.hid hb; clear hb hI))
      | (go_at_call 9; ((with_reducible refine (HAL.out _ HB1.out).mono ?_); rintro e w2 ⟨rfl, hb⟩; have HB2 := Lib.hid (HB1.out.trans hb); clear hb)))
    go_ret
    exact ⟨rfl, HB2.out⟩
end Go.Proofs.YtpcapmdfjmpdiaaGreatDoor
