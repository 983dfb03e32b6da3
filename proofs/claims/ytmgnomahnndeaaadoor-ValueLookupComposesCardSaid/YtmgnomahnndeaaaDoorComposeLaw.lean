/-
  The law ValueLookupComposes, walked.
-/
import Derived.Test.YtmgnomahnndeaaaDoorLookLaw
import Derived.Test.YtmgnomahnndeaaaDoorCompose
namespace Go.Proofs.YtmgnomahnndeaaaDoor
open Go.RowKit Go.BigFrame
set_option linter.unusedVariables false
set_option linter.unusedSimpArgs false

theorem look_err : ∀ {l : List ByteArray} {t : VT} {c : Int}, t.look l = .error c → c ≠ 0 := by
  intro l
  induction l with
  | nil => intro t c h; rw [VT.look_nil] at h; cases h
  | cons nm l ih =>
    intro t c h
    rw [VT.look_cons] at h
    cases hf : t.fld nm with
    | ok v => rw [hf] at h; exact ih h
    | error e =>
      rw [hf] at h
      injection h with h
      subst h
      unfold VT.fld at hf
      split at hf
      · injection hf with hf; omega
      · split at hf
        · cases hf
        · injection hf with hf; omega
theorem lookR_two {t : VT} {p q : ByteArray} {l : List ByteArray} (h : pathOf (joinP p q) = some l) :
    ((lookR t p).2 ≠ 0 → (lookR t (joinP p q)).2 = (lookR t p).2) ∧ ((lookR t p).2 = 0 → lookR (lookR t p).1 q = lookR t (joinP p q)) := by
  obtain ⟨l1, l2, h1, h2, rfl⟩ := path_two h
  unfold lookR
  rw [h, h1, h2]
  simp only [VT.look_append]
  cases hl : t.look l1 with
  | ok u => exact ⟨fun hh => absurd rfl hh, fun _ => rfl⟩
  | error c => exact ⟨fun _ => rfl, fun hh => absurd hh (look_err hl)⟩
/-- Split's number. -/
theorem splitE_c (s : ByteArray) (w : World) (hT : MX w) (hs : s.size < 4294967281) :
    Calls Tryd.prog 10 #[.string s] w fun e w' => ∃ (A : Option Addr) (n c : Nat) (r : Int), e = .returned (.tuple #[.slice A n c, .int .i64 r]) ∧ (pathOf s = none ∧ r = 11 ∨ (∃ l, pathOf s = some l) ∧ r = 0) ∧ Bel w w' :=
  (split_c s w hT hs).mono fun e w' h => by
    cases hp : pathOf s with
    | none => obtain ⟨rfl, hb⟩ := split_none hp h; exact ⟨none, 0, 0, 11, rfl, .inl ⟨rfl, rfl⟩, hb⟩
    | some l => obtain ⟨A, c, rfl, _, _, _, _, hb⟩ := split_some hp h; exact ⟨A, l.length, c, 0, rfl, .inr ⟨⟨l, rfl⟩, rfl⟩, hb⟩
theorem two_of {P : Option (List ByteArray)} {r : Int} {c f : Int} {A B : VT × Int} (h : P = none ∧ r = 11 ∨ (∃ l, P = some l) ∧ r = 0) (h2 : P = none ∨ (f ≠ 0 → c = f) ∧ (f = 0 → A = B)) (hr : r = 0) : (f ≠ 0 → c = f) ∧ (f = 0 → A = B) := by
  rcases h with ⟨_, h⟩ | ⟨⟨l, hl⟩, _⟩
  · omega
  · rcases h2 with h2 | h2
    · rw [hl] at h2; cases h2
    · exact h2

set_option maxRecDepth 100000 in
set_option maxHeartbeats 3200000 in
theorem composeBig (v : VT) (p q : ByteArray) (w : World) (hT : MX w) (hv : v.In w (· < w.heap.size)) (hp : p.size ≤ 140737488351232) (hq : q.size ≤ 140737488351232) (hbig : 1000 < p.size + q.size) :
    Calls Tryd.prog 6 #[v.val, .string p, .string q] w fun e w' => e = .returned (.bool true) ∧ Below w.heap.size w w' := by
  rw [VT.val_eq]
  have HT := Lib.hid hT
  have HV := Lib.hid hv
  have HA := Lib.hid (fun (W : World) (h : MX W) => alive_c W h)
  have HBX := Lib.hid (Blk.new w 34 v.cs)
  have HW0 : Hid (Bel w (w.alloc (.cells #[.int .i64 v.k, .string v.s, .int .i64 v.n, .bool v.b, .slice v.A v.xs.length v.c, .slice v.F v.vs.length v.d] 34))) := Lib.hid (Bel.alloc _ _)
  have HTL := Lib.hid (fun (W : World) (hb : Bel w W) => show Calls Tryd.prog 15 #[.agg #[.int .i64 v.k, .string v.s, .int .i64 v.n, .bool v.b, .slice v.A v.xs.length v.c, .slice v.F v.vs.length v.d]] W _ from tooLarge_n v W (hv.bel hb))
  clear hT hv
  go_enter Tryd.func6, Tryd.ntmps6
  go_wp2_with (first | (go_at_call 15; refine (HTL.out _ HW0.out).mono ?_; rintro e w1 ⟨r, hr0, hr1, rfl, hb⟩; have HB1 := Lib.hid (HW0.out.trans hb); clear hb) | (go_at_call 9; refine (HA.out _ (HT.out.bel HB1.out)).mono ?_; rintro e w3 ⟨rfl, hb⟩; have HB3 := Lib.hid (HB1.out.trans hb); clear hb))
  all_goals (go_ret; exact ⟨rfl, HB3.out⟩)

set_option maxRecDepth 100000 in
set_option maxHeartbeats 3200000 in
theorem composeQ (v : VT) (p q : ByteArray) (w : World) (hT : MX w) (hv : v.In w (· < w.heap.size)) (hp : p.size ≤ 140737488351232) (hq : q.size ≤ 140737488351232) (hbig : ¬ 1000 < p.size + q.size) (h0 : q.size = 0) :
    Calls Tryd.prog 6 #[v.val, .string p, .string q] w fun e w' => e = .returned (.bool true) ∧ Below w.heap.size w w' := by
  rw [VT.val_eq]
  have HT := Lib.hid hT
  have HV := Lib.hid hv
  have HA := Lib.hid (fun (W : World) (h : MX W) => alive_c W h)
  have HBX := Lib.hid (Blk.new w 34 v.cs)
  have HW0 : Hid (Bel w (w.alloc (.cells #[.int .i64 v.k, .string v.s, .int .i64 v.n, .bool v.b, .slice v.A v.xs.length v.c, .slice v.F v.vs.length v.d] 34))) := Lib.hid (Bel.alloc _ _)
  have HTL := Lib.hid (fun (W : World) (hb : Bel w W) => show Calls Tryd.prog 15 #[.agg #[.int .i64 v.k, .string v.s, .int .i64 v.n, .bool v.b, .slice v.A v.xs.length v.c, .slice v.F v.vs.length v.d]] W _ from tooLarge_n v W (hv.bel hb))
  clear hT hv
  have hj : joinP p q = p := by unfold joinP; rw [if_pos h0]
  have hzq := empty_of h0
  obtain ⟨P, hP⟩ : ∃ P, P = p := ⟨_, rfl⟩
  have hj := hj.trans hP.symm
  have hPs : P.size < 4294967281 := by rw [hP]; omega
  have HSP : Hid (∀ W, Bel w W → _) := Lib.hid (fun W (hb : Bel w W) => splitE_c P W (HT.out.bel hb) hPs)
  have HL0 : Hid (∀ W, Bel w W → Calls Tryd.prog 22 #[.agg #[.int .i64 v.k, .string v.s, .int .i64 v.n, .bool v.b, .slice v.A v.xs.length v.c, .slice v.F v.vs.length v.d], .string P] W fun e w' => e = .returned (.tuple #[(lookR v P).1.val, .int .i64 (lookR v P).2]) ∧ Bel W w') :=
    Lib.hid (fun W hb => (lookup_c v P W (HT.out.bel hb) hPs (HV.out.bel hb)).mono fun e w' h => lookR_of h)
  have HM0 : Hid (∀ W, Bel w W → Calls Tryd.prog 22 #[.agg #[.int .i64 v.k, .string v.s, .int .i64 v.n, .bool v.b, .slice v.A v.xs.length v.c, .slice v.F v.vs.length v.d], .string p] W fun e w' => e = .returned (.tuple #[(lookR v p).1.val, .int .i64 (lookR v p).2]) ∧ Bel W w') :=
    Lib.hid (fun W hb => (lookup_c v p W (HT.out.bel hb) (by omega) (HV.out.bel hb)).mono fun e w' h => lookR_of h)
  have hmi := lookR_in (s := p) HV.out
  have HN0 : Hid (∀ W, Bel w W → Calls Tryd.prog 22 #[(lookR v p).1.val, .string q] W fun e w' => e = .returned (.tuple #[(lookR (lookR v p).1 q).1.val, .int .i64 (lookR (lookR v p).1 q).2]) ∧ Bel W w') :=
    Lib.hid (fun W hb => (lookup_c (lookR v p).1 q W (HT.out.bel hb) (by omega) (hmi.bel hb)).mono fun e w' h => lookR_of h)
  have htwo : ∀ l, pathOf P = some l → ((lookR v p).2 ≠ 0 → (lookR v P).2 = (lookR v p).2) ∧ ((lookR v p).2 = 0 → lookR (lookR v p).1 q = lookR v P) := by
    intro l hl
    have h2 := lookR_two (t := v) (p := p) (q := q) (l := l) (by rw [hj]; exact hl)
    rw [hj] at h2
    exact h2
  have hxi := lookR_in (s := P) HV.out
  generalize lookR (lookR v p).1 q = R3 at HN0 htwo
  generalize hR1 : lookR v P = R1 at HL0 hxi htwo
  generalize hR2 : lookR v p = R2 at HM0 HN0 hmi htwo
  clear hR1 hR2
  obtain ⟨x, c⟩ := R1
  obtain ⟨m, f⟩ := R2
  obtain ⟨y, d⟩ := R3
  have HXI := Lib.hid hxi
  have HMI := Lib.hid hmi
  have HTWO : Hid (pathOf P = none ∨ (f ≠ 0 → c = f) ∧ (f = 0 → (y, d) = (x, c))) := Lib.hid (by
    cases hpp : pathOf P with
    | none => exact .inl rfl
    | some l => exact .inr (htwo l hpp))
  have HL : Hid (∀ W, Bel w W → Calls Tryd.prog 22 #[.agg #[.int .i64 v.k, .string v.s, .int .i64 v.n, .bool v.b, .slice v.A v.xs.length v.c, .slice v.F v.vs.length v.d], .string P] W fun e w' => e = .returned (.tuple #[.agg #[.int .i64 x.k, .string x.s, .int .i64 x.n, .bool x.b, .slice x.A x.xs.length x.c, .slice x.F x.vs.length x.d], .int .i64 c]) ∧ Bel W w') := HL0
  have HM : Hid (∀ W, Bel w W → Calls Tryd.prog 22 #[.agg #[.int .i64 v.k, .string v.s, .int .i64 v.n, .bool v.b, .slice v.A v.xs.length v.c, .slice v.F v.vs.length v.d], .string p] W fun e w' => e = .returned (.tuple #[.agg #[.int .i64 m.k, .string m.s, .int .i64 m.n, .bool m.b, .slice m.A m.xs.length m.c, .slice m.F m.vs.length m.d], .int .i64 f]) ∧ Bel W w') := HM0
  have HN : Hid (∀ W, Bel w W → Calls Tryd.prog 22 #[.agg #[.int .i64 m.k, .string m.s, .int .i64 m.n, .bool m.b, .slice m.A m.xs.length m.c, .slice m.F m.vs.length m.d], .string q] W fun e w' => e = .returned (.tuple #[.agg #[.int .i64 y.k, .string y.s, .int .i64 y.n, .bool y.b, .slice y.A y.xs.length y.c, .slice y.F y.vs.length y.d], .int .i64 d]) ∧ Bel W w') := HN0
  have HE : Hid (∀ W, Bel w W → Calls Tryd.prog 21 #[.agg #[.int .i64 x.k, .string x.s, .int .i64 x.n, .bool x.b, .slice x.A x.xs.length x.c, .slice x.F x.vs.length x.d], .agg #[.int .i64 x.k, .string x.s, .int .i64 x.n, .bool x.b, .slice x.A x.xs.length x.c, .slice x.F x.vs.length x.d]] W fun e w' => e = .returned (.bool true) ∧ Bel W w') := Lib.hid (fun W hb => refSame_c x W (HXI.out.bel hb))
  clear HL0 HM0 HN0 hxi hmi htwo hj hPs
  subst hP
  go_enter Tryd.func6, Tryd.ntmps6
  go_wp2_with (first | (go_at_call 15; refine (HTL.out _ HW0.out).mono ?_; rintro e w1 ⟨r, hr0, hr1, rfl, hb⟩; have HB1 := Lib.hid (HW0.out.trans hb); have hB := HBX.out.below hb HBX.out.lt; have HBX1 := Lib.hid hB; clear hb hB) | (go_at_call 9; (with_reducible refine (HA.out w1 (HT.out.bel HB1.out)).mono ?_); rintro e w3 ⟨rfl, hb⟩; have HBR := Lib.hid (HB1.out.trans hb); clear hb) | (go_at_call 10; refine (HSP.out _ HB1.out).mono ?_; rintro e w2 ⟨A0, n0, cc0, r0, rfl, hcase, hb⟩; have HCASE := Lib.hid hcase; have HB2 := Lib.hid (HB1.out.trans hb); have HBX2 := Lib.hid (HBX1.out.below hb HBX1.out.lt); obtain ⟨c0, c1, c2, c3, c4, c5⟩ := cs_cells HBX2.out; clear hb hcase) | (go_at_call 9; (with_reducible refine (HA.out w2 (HT.out.bel HB2.out)).mono ?_); rintro e w3 ⟨rfl, hb⟩; have HBR := Lib.hid (HB2.out.trans hb); clear hb) | (go_at_call 22; (with_reducible refine (HL.out w2 HB2.out).mono ?_); rintro e w4 ⟨rfl, hb⟩; have HB4 := Lib.hid (HB2.out.trans (hb.trans (Bel.alloc w4 (.cells #[.int .i64 x.k, .string x.s, .int .i64 x.n, .bool x.b, .slice x.A x.xs.length x.c, .slice x.F x.vs.length x.d] 34)))); have HX4 := Lib.hid (Blk.new w4 34 x.cs); have hB := (HBX2.out.below hb HBX2.out.lt).alloc (.cells #[.int .i64 x.k, .string x.s, .int .i64 x.n, .bool x.b, .slice x.A x.xs.length x.c, .slice x.F x.vs.length x.d] 34); have HBX4 := Lib.hid hB; clear c0 c1 c2 c3 c4 c5; obtain ⟨c0, c1, c2, c3, c4, c5⟩ := cs_cells hB; clear hb hB) | (go_at_call 22; (with_reducible refine (HM.out (w4.alloc (.cells #[.int .i64 x.k, .string x.s, .int .i64 x.n, .bool x.b, .slice x.A x.xs.length x.c, .slice x.F x.vs.length x.d] 34)) HB4.out).mono ?_); rintro e w5 ⟨rfl, hb⟩; have HB5 := Lib.hid (HB4.out.trans (hb.trans (Bel.alloc w5 (.cells #[.int .i64 m.k, .string m.s, .int .i64 m.n, .bool m.b, .slice m.A m.xs.length m.c, .slice m.F m.vs.length m.d] 34)))); have HX5 := Lib.hid ((HX4.out.below hb HX4.out.lt).alloc (.cells #[.int .i64 m.k, .string m.s, .int .i64 m.n, .bool m.b, .slice m.A m.xs.length m.c, .slice m.F m.vs.length m.d] 34)); clear c0 c1 c2 c3 c4 c5; obtain ⟨c0, c1, c2, c3, c4, c5⟩ := cs_cells (Blk.new w5 34 m.cs); clear hb) | (go_at_call 9; (with_reducible refine (HA.out (w5.alloc (.cells #[.int .i64 m.k, .string m.s, .int .i64 m.n, .bool m.b, .slice m.A m.xs.length m.c, .slice m.F m.vs.length m.d] 34)) (HT.out.bel HB5.out)).mono ?_); rintro e w6 ⟨rfl, hb⟩; have HBR := Lib.hid (HB5.out.trans hb); clear hb) | (go_at_call 22; (with_reducible refine (HN.out (w5.alloc (.cells #[.int .i64 m.k, .string m.s, .int .i64 m.n, .bool m.b, .slice m.A m.xs.length m.c, .slice m.F m.vs.length m.d] 34)) HB5.out).mono ?_); rintro e w7 ⟨rfl, hb⟩; have HB7 := Lib.hid (HB5.out.trans (hb.trans (Bel.alloc w7 (.cells #[.int .i64 y.k, .string y.s, .int .i64 y.n, .bool y.b, .slice y.A y.xs.length y.c, .slice y.F y.vs.length y.d] 34)))); have HX7 := Lib.hid ((HX5.out.below hb HX5.out.lt).alloc (.cells #[.int .i64 y.k, .string y.s, .int .i64 y.n, .bool y.b, .slice y.A y.xs.length y.c, .slice y.F y.vs.length y.d] 34)); have HY7 := Lib.hid (Blk.new w7 34 y.cs); clear hb c0 c1 c2 c3 c4 c5) | (go_at_call 9; (with_reducible refine (HA.out (w7.alloc (.cells #[.int .i64 y.k, .string y.s, .int .i64 y.n, .bool y.b, .slice y.A y.xs.length y.c, .slice y.F y.vs.length y.d] 34)) (HT.out.bel HB7.out)).mono ?_); rintro e w8 ⟨rfl, hb⟩; have HB8 := Lib.hid (HB7.out.trans hb); obtain ⟨c0, c1, c2, c3, c4, c5⟩ := cs_cells (HX7.out.below hb HX7.out.lt); obtain ⟨d0, d1, d2, d3, d4, d5⟩ := cs_cells (HY7.out.below hb HY7.out.lt); clear hb))
  all_goals first
    | (go_ret; exact ⟨rfl, HBR.out⟩)
    | (have h9 : (r0 != 0) = false := by assumption
       have h8 : (f != 0) = true := by assumption
       have h7 := (two_of HCASE.out HTWO.out (by simpa using h9)).1 (by simpa using h8)
       go_ret
       exact ⟨ret_bool (by simpa using h7), HBR.out⟩)
    | (have h9 : (r0 != 0) = false := by assumption
       have h8 : (f != 0) = false := by assumption
       have h7 := (two_of HCASE.out HTWO.out (by simpa using h9)).2 (by simpa using h8)
       obtain ⟨rfl, rfl⟩ := Prod.mk.inj h7
       first
         | contradiction
         | (refine (HE.out _ HB8.out).mono ?_
            rintro e w9 ⟨rfl, hb⟩
            have HB9 := Lib.hid (HB8.out.trans hb)
            clear hb
            go_wp2_with fail
            go_ret
            exact ⟨rfl, HB9.out⟩))

set_option maxRecDepth 100000 in
set_option maxHeartbeats 3200000 in
theorem composeP (v : VT) (p q : ByteArray) (w : World) (hT : MX w) (hv : v.In w (· < w.heap.size)) (hp : p.size ≤ 140737488351232) (hq : q.size ≤ 140737488351232) (hbig : ¬ 1000 < p.size + q.size) (h1 : q.size ≠ 0) (h0 : p.size = 0) :
    Calls Tryd.prog 6 #[v.val, .string p, .string q] w fun e w' => e = .returned (.bool true) ∧ Below w.heap.size w w' := by
  rw [VT.val_eq]
  have HT := Lib.hid hT
  have HV := Lib.hid hv
  have HA := Lib.hid (fun (W : World) (h : MX W) => alive_c W h)
  have HBX := Lib.hid (Blk.new w 34 v.cs)
  have HW0 : Hid (Bel w (w.alloc (.cells #[.int .i64 v.k, .string v.s, .int .i64 v.n, .bool v.b, .slice v.A v.xs.length v.c, .slice v.F v.vs.length v.d] 34))) := Lib.hid (Bel.alloc _ _)
  have HTL := Lib.hid (fun (W : World) (hb : Bel w W) => show Calls Tryd.prog 15 #[.agg #[.int .i64 v.k, .string v.s, .int .i64 v.n, .bool v.b, .slice v.A v.xs.length v.c, .slice v.F v.vs.length v.d]] W _ from tooLarge_n v W (hv.bel hb))
  clear hT hv
  have hj : joinP p q = q := by unfold joinP; rw [if_neg h1, if_pos h0]
  have hzq := empty_not h1
  have hzp := empty_of h0
  obtain ⟨P, hP⟩ : ∃ P, P = q := ⟨_, rfl⟩
  have hj := hj.trans hP.symm
  have hPs : P.size < 4294967281 := by rw [hP]; omega
  have HSP : Hid (∀ W, Bel w W → _) := Lib.hid (fun W (hb : Bel w W) => splitE_c P W (HT.out.bel hb) hPs)
  have HL0 : Hid (∀ W, Bel w W → Calls Tryd.prog 22 #[.agg #[.int .i64 v.k, .string v.s, .int .i64 v.n, .bool v.b, .slice v.A v.xs.length v.c, .slice v.F v.vs.length v.d], .string P] W fun e w' => e = .returned (.tuple #[(lookR v P).1.val, .int .i64 (lookR v P).2]) ∧ Bel W w') :=
    Lib.hid (fun W hb => (lookup_c v P W (HT.out.bel hb) hPs (HV.out.bel hb)).mono fun e w' h => lookR_of h)
  have HM0 : Hid (∀ W, Bel w W → Calls Tryd.prog 22 #[.agg #[.int .i64 v.k, .string v.s, .int .i64 v.n, .bool v.b, .slice v.A v.xs.length v.c, .slice v.F v.vs.length v.d], .string p] W fun e w' => e = .returned (.tuple #[(lookR v p).1.val, .int .i64 (lookR v p).2]) ∧ Bel W w') :=
    Lib.hid (fun W hb => (lookup_c v p W (HT.out.bel hb) (by omega) (HV.out.bel hb)).mono fun e w' h => lookR_of h)
  have hmi := lookR_in (s := p) HV.out
  have HN0 : Hid (∀ W, Bel w W → Calls Tryd.prog 22 #[(lookR v p).1.val, .string q] W fun e w' => e = .returned (.tuple #[(lookR (lookR v p).1 q).1.val, .int .i64 (lookR (lookR v p).1 q).2]) ∧ Bel W w') :=
    Lib.hid (fun W hb => (lookup_c (lookR v p).1 q W (HT.out.bel hb) (by omega) (hmi.bel hb)).mono fun e w' h => lookR_of h)
  have htwo : ∀ l, pathOf P = some l → ((lookR v p).2 ≠ 0 → (lookR v P).2 = (lookR v p).2) ∧ ((lookR v p).2 = 0 → lookR (lookR v p).1 q = lookR v P) := by
    intro l hl
    have h2 := lookR_two (t := v) (p := p) (q := q) (l := l) (by rw [hj]; exact hl)
    rw [hj] at h2
    exact h2
  have hxi := lookR_in (s := P) HV.out
  generalize lookR (lookR v p).1 q = R3 at HN0 htwo
  generalize hR1 : lookR v P = R1 at HL0 hxi htwo
  generalize hR2 : lookR v p = R2 at HM0 HN0 hmi htwo
  clear hR1 hR2
  obtain ⟨x, c⟩ := R1
  obtain ⟨m, f⟩ := R2
  obtain ⟨y, d⟩ := R3
  have HXI := Lib.hid hxi
  have HMI := Lib.hid hmi
  have HTWO : Hid (pathOf P = none ∨ (f ≠ 0 → c = f) ∧ (f = 0 → (y, d) = (x, c))) := Lib.hid (by
    cases hpp : pathOf P with
    | none => exact .inl rfl
    | some l => exact .inr (htwo l hpp))
  have HL : Hid (∀ W, Bel w W → Calls Tryd.prog 22 #[.agg #[.int .i64 v.k, .string v.s, .int .i64 v.n, .bool v.b, .slice v.A v.xs.length v.c, .slice v.F v.vs.length v.d], .string P] W fun e w' => e = .returned (.tuple #[.agg #[.int .i64 x.k, .string x.s, .int .i64 x.n, .bool x.b, .slice x.A x.xs.length x.c, .slice x.F x.vs.length x.d], .int .i64 c]) ∧ Bel W w') := HL0
  have HM : Hid (∀ W, Bel w W → Calls Tryd.prog 22 #[.agg #[.int .i64 v.k, .string v.s, .int .i64 v.n, .bool v.b, .slice v.A v.xs.length v.c, .slice v.F v.vs.length v.d], .string p] W fun e w' => e = .returned (.tuple #[.agg #[.int .i64 m.k, .string m.s, .int .i64 m.n, .bool m.b, .slice m.A m.xs.length m.c, .slice m.F m.vs.length m.d], .int .i64 f]) ∧ Bel W w') := HM0
  have HN : Hid (∀ W, Bel w W → Calls Tryd.prog 22 #[.agg #[.int .i64 m.k, .string m.s, .int .i64 m.n, .bool m.b, .slice m.A m.xs.length m.c, .slice m.F m.vs.length m.d], .string q] W fun e w' => e = .returned (.tuple #[.agg #[.int .i64 y.k, .string y.s, .int .i64 y.n, .bool y.b, .slice y.A y.xs.length y.c, .slice y.F y.vs.length y.d], .int .i64 d]) ∧ Bel W w') := HN0
  have HE : Hid (∀ W, Bel w W → Calls Tryd.prog 21 #[.agg #[.int .i64 x.k, .string x.s, .int .i64 x.n, .bool x.b, .slice x.A x.xs.length x.c, .slice x.F x.vs.length x.d], .agg #[.int .i64 x.k, .string x.s, .int .i64 x.n, .bool x.b, .slice x.A x.xs.length x.c, .slice x.F x.vs.length x.d]] W fun e w' => e = .returned (.bool true) ∧ Bel W w') := Lib.hid (fun W hb => refSame_c x W (HXI.out.bel hb))
  clear HL0 HM0 HN0 hxi hmi htwo hj hPs
  subst hP
  go_enter Tryd.func6, Tryd.ntmps6
  go_wp2_with (first | (go_at_call 15; refine (HTL.out _ HW0.out).mono ?_; rintro e w1 ⟨r, hr0, hr1, rfl, hb⟩; have HB1 := Lib.hid (HW0.out.trans hb); have hB := HBX.out.below hb HBX.out.lt; have HBX1 := Lib.hid hB; clear hb hB) | (go_at_call 9; (with_reducible refine (HA.out w1 (HT.out.bel HB1.out)).mono ?_); rintro e w3 ⟨rfl, hb⟩; have HBR := Lib.hid (HB1.out.trans hb); clear hb) | (go_at_call 10; refine (HSP.out _ HB1.out).mono ?_; rintro e w2 ⟨A0, n0, cc0, r0, rfl, hcase, hb⟩; have HCASE := Lib.hid hcase; have HB2 := Lib.hid (HB1.out.trans hb); have HBX2 := Lib.hid (HBX1.out.below hb HBX1.out.lt); obtain ⟨c0, c1, c2, c3, c4, c5⟩ := cs_cells HBX2.out; clear hb hcase) | (go_at_call 9; (with_reducible refine (HA.out w2 (HT.out.bel HB2.out)).mono ?_); rintro e w3 ⟨rfl, hb⟩; have HBR := Lib.hid (HB2.out.trans hb); clear hb) | (go_at_call 22; (with_reducible refine (HL.out w2 HB2.out).mono ?_); rintro e w4 ⟨rfl, hb⟩; have HB4 := Lib.hid (HB2.out.trans (hb.trans (Bel.alloc w4 (.cells #[.int .i64 x.k, .string x.s, .int .i64 x.n, .bool x.b, .slice x.A x.xs.length x.c, .slice x.F x.vs.length x.d] 34)))); have HX4 := Lib.hid (Blk.new w4 34 x.cs); have hB := (HBX2.out.below hb HBX2.out.lt).alloc (.cells #[.int .i64 x.k, .string x.s, .int .i64 x.n, .bool x.b, .slice x.A x.xs.length x.c, .slice x.F x.vs.length x.d] 34); have HBX4 := Lib.hid hB; clear c0 c1 c2 c3 c4 c5; obtain ⟨c0, c1, c2, c3, c4, c5⟩ := cs_cells hB; clear hb hB) | (go_at_call 22; (with_reducible refine (HM.out (w4.alloc (.cells #[.int .i64 x.k, .string x.s, .int .i64 x.n, .bool x.b, .slice x.A x.xs.length x.c, .slice x.F x.vs.length x.d] 34)) HB4.out).mono ?_); rintro e w5 ⟨rfl, hb⟩; have HB5 := Lib.hid (HB4.out.trans (hb.trans (Bel.alloc w5 (.cells #[.int .i64 m.k, .string m.s, .int .i64 m.n, .bool m.b, .slice m.A m.xs.length m.c, .slice m.F m.vs.length m.d] 34)))); have HX5 := Lib.hid ((HX4.out.below hb HX4.out.lt).alloc (.cells #[.int .i64 m.k, .string m.s, .int .i64 m.n, .bool m.b, .slice m.A m.xs.length m.c, .slice m.F m.vs.length m.d] 34)); clear c0 c1 c2 c3 c4 c5; obtain ⟨c0, c1, c2, c3, c4, c5⟩ := cs_cells (Blk.new w5 34 m.cs); clear hb) | (go_at_call 9; (with_reducible refine (HA.out (w5.alloc (.cells #[.int .i64 m.k, .string m.s, .int .i64 m.n, .bool m.b, .slice m.A m.xs.length m.c, .slice m.F m.vs.length m.d] 34)) (HT.out.bel HB5.out)).mono ?_); rintro e w6 ⟨rfl, hb⟩; have HBR := Lib.hid (HB5.out.trans hb); clear hb) | (go_at_call 22; (with_reducible refine (HN.out (w5.alloc (.cells #[.int .i64 m.k, .string m.s, .int .i64 m.n, .bool m.b, .slice m.A m.xs.length m.c, .slice m.F m.vs.length m.d] 34)) HB5.out).mono ?_); rintro e w7 ⟨rfl, hb⟩; have HB7 := Lib.hid (HB5.out.trans (hb.trans (Bel.alloc w7 (.cells #[.int .i64 y.k, .string y.s, .int .i64 y.n, .bool y.b, .slice y.A y.xs.length y.c, .slice y.F y.vs.length y.d] 34)))); have HX7 := Lib.hid ((HX5.out.below hb HX5.out.lt).alloc (.cells #[.int .i64 y.k, .string y.s, .int .i64 y.n, .bool y.b, .slice y.A y.xs.length y.c, .slice y.F y.vs.length y.d] 34)); have HY7 := Lib.hid (Blk.new w7 34 y.cs); clear hb c0 c1 c2 c3 c4 c5) | (go_at_call 9; (with_reducible refine (HA.out (w7.alloc (.cells #[.int .i64 y.k, .string y.s, .int .i64 y.n, .bool y.b, .slice y.A y.xs.length y.c, .slice y.F y.vs.length y.d] 34)) (HT.out.bel HB7.out)).mono ?_); rintro e w8 ⟨rfl, hb⟩; have HB8 := Lib.hid (HB7.out.trans hb); obtain ⟨c0, c1, c2, c3, c4, c5⟩ := cs_cells (HX7.out.below hb HX7.out.lt); obtain ⟨d0, d1, d2, d3, d4, d5⟩ := cs_cells (HY7.out.below hb HY7.out.lt); clear hb))
  all_goals first
    | (go_ret; exact ⟨rfl, HBR.out⟩)
    | (have h9 : (r0 != 0) = false := by assumption
       have h8 : (f != 0) = true := by assumption
       have h7 := (two_of HCASE.out HTWO.out (by simpa using h9)).1 (by simpa using h8)
       go_ret
       exact ⟨ret_bool (by simpa using h7), HBR.out⟩)
    | (have h9 : (r0 != 0) = false := by assumption
       have h8 : (f != 0) = false := by assumption
       have h7 := (two_of HCASE.out HTWO.out (by simpa using h9)).2 (by simpa using h8)
       obtain ⟨rfl, rfl⟩ := Prod.mk.inj h7
       first
         | contradiction
         | (refine (HE.out _ HB8.out).mono ?_
            rintro e w9 ⟨rfl, hb⟩
            have HB9 := Lib.hid (HB8.out.trans hb)
            clear hb
            go_wp2_with fail
            go_ret
            exact ⟨rfl, HB9.out⟩))

set_option maxRecDepth 100000 in
set_option maxHeartbeats 3200000 in
theorem composeB (v : VT) (p q : ByteArray) (w : World) (hT : MX w) (hv : v.In w (· < w.heap.size)) (hp : p.size ≤ 140737488351232) (hq : q.size ≤ 140737488351232) (hbig : ¬ 1000 < p.size + q.size) (h1 : q.size ≠ 0) (h0 : p.size ≠ 0) :
    Calls Tryd.prog 6 #[v.val, .string p, .string q] w fun e w' => e = .returned (.bool true) ∧ Below w.heap.size w w' := by
  rw [VT.val_eq]
  have HT := Lib.hid hT
  have HV := Lib.hid hv
  have HA := Lib.hid (fun (W : World) (h : MX W) => alive_c W h)
  have HBX := Lib.hid (Blk.new w 34 v.cs)
  have HW0 : Hid (Bel w (w.alloc (.cells #[.int .i64 v.k, .string v.s, .int .i64 v.n, .bool v.b, .slice v.A v.xs.length v.c, .slice v.F v.vs.length v.d] 34))) := Lib.hid (Bel.alloc _ _)
  have HTL := Lib.hid (fun (W : World) (hb : Bel w W) => show Calls Tryd.prog 15 #[.agg #[.int .i64 v.k, .string v.s, .int .i64 v.n, .bool v.b, .slice v.A v.xs.length v.c, .slice v.F v.vs.length v.d]] W _ from tooLarge_n v W (hv.bel hb))
  clear hT hv
  have hj : joinP p q = p ++ ⟨#[46]⟩ ++ q := by unfold joinP; rw [if_neg h1, if_neg h0]; rfl
  have hzq := empty_not h1
  have hzp := empty_not h0
  have HSZ : Hid ((p ++ ⟨#[46]⟩ ++ q).size < 4294967281) := Lib.hid (by rw [ByteArray.size_append, ByteArray.size_append]; show p.size + 1 + q.size < _; omega)
  obtain ⟨P, hP⟩ : ∃ P, P = p ++ ⟨#[46]⟩ ++ q := ⟨_, rfl⟩
  have hj := hj.trans hP.symm
  have hPs : P.size < 4294967281 := by rw [hP]; exact HSZ.out
  have HSP : Hid (∀ W, Bel w W → _) := Lib.hid (fun W (hb : Bel w W) => splitE_c P W (HT.out.bel hb) hPs)
  have HL0 : Hid (∀ W, Bel w W → Calls Tryd.prog 22 #[.agg #[.int .i64 v.k, .string v.s, .int .i64 v.n, .bool v.b, .slice v.A v.xs.length v.c, .slice v.F v.vs.length v.d], .string P] W fun e w' => e = .returned (.tuple #[(lookR v P).1.val, .int .i64 (lookR v P).2]) ∧ Bel W w') :=
    Lib.hid (fun W hb => (lookup_c v P W (HT.out.bel hb) hPs (HV.out.bel hb)).mono fun e w' h => lookR_of h)
  have HM0 : Hid (∀ W, Bel w W → Calls Tryd.prog 22 #[.agg #[.int .i64 v.k, .string v.s, .int .i64 v.n, .bool v.b, .slice v.A v.xs.length v.c, .slice v.F v.vs.length v.d], .string p] W fun e w' => e = .returned (.tuple #[(lookR v p).1.val, .int .i64 (lookR v p).2]) ∧ Bel W w') :=
    Lib.hid (fun W hb => (lookup_c v p W (HT.out.bel hb) (by omega) (HV.out.bel hb)).mono fun e w' h => lookR_of h)
  have hmi := lookR_in (s := p) HV.out
  have HN0 : Hid (∀ W, Bel w W → Calls Tryd.prog 22 #[(lookR v p).1.val, .string q] W fun e w' => e = .returned (.tuple #[(lookR (lookR v p).1 q).1.val, .int .i64 (lookR (lookR v p).1 q).2]) ∧ Bel W w') :=
    Lib.hid (fun W hb => (lookup_c (lookR v p).1 q W (HT.out.bel hb) (by omega) (hmi.bel hb)).mono fun e w' h => lookR_of h)
  have htwo : ∀ l, pathOf P = some l → ((lookR v p).2 ≠ 0 → (lookR v P).2 = (lookR v p).2) ∧ ((lookR v p).2 = 0 → lookR (lookR v p).1 q = lookR v P) := by
    intro l hl
    have h2 := lookR_two (t := v) (p := p) (q := q) (l := l) (by rw [hj]; exact hl)
    rw [hj] at h2
    exact h2
  have hxi := lookR_in (s := P) HV.out
  generalize lookR (lookR v p).1 q = R3 at HN0 htwo
  generalize hR1 : lookR v P = R1 at HL0 hxi htwo
  generalize hR2 : lookR v p = R2 at HM0 HN0 hmi htwo
  clear hR1 hR2
  obtain ⟨x, c⟩ := R1
  obtain ⟨m, f⟩ := R2
  obtain ⟨y, d⟩ := R3
  have HXI := Lib.hid hxi
  have HMI := Lib.hid hmi
  have HTWO : Hid (pathOf P = none ∨ (f ≠ 0 → c = f) ∧ (f = 0 → (y, d) = (x, c))) := Lib.hid (by
    cases hpp : pathOf P with
    | none => exact .inl rfl
    | some l => exact .inr (htwo l hpp))
  have HL : Hid (∀ W, Bel w W → Calls Tryd.prog 22 #[.agg #[.int .i64 v.k, .string v.s, .int .i64 v.n, .bool v.b, .slice v.A v.xs.length v.c, .slice v.F v.vs.length v.d], .string P] W fun e w' => e = .returned (.tuple #[.agg #[.int .i64 x.k, .string x.s, .int .i64 x.n, .bool x.b, .slice x.A x.xs.length x.c, .slice x.F x.vs.length x.d], .int .i64 c]) ∧ Bel W w') := HL0
  have HM : Hid (∀ W, Bel w W → Calls Tryd.prog 22 #[.agg #[.int .i64 v.k, .string v.s, .int .i64 v.n, .bool v.b, .slice v.A v.xs.length v.c, .slice v.F v.vs.length v.d], .string p] W fun e w' => e = .returned (.tuple #[.agg #[.int .i64 m.k, .string m.s, .int .i64 m.n, .bool m.b, .slice m.A m.xs.length m.c, .slice m.F m.vs.length m.d], .int .i64 f]) ∧ Bel W w') := HM0
  have HN : Hid (∀ W, Bel w W → Calls Tryd.prog 22 #[.agg #[.int .i64 m.k, .string m.s, .int .i64 m.n, .bool m.b, .slice m.A m.xs.length m.c, .slice m.F m.vs.length m.d], .string q] W fun e w' => e = .returned (.tuple #[.agg #[.int .i64 y.k, .string y.s, .int .i64 y.n, .bool y.b, .slice y.A y.xs.length y.c, .slice y.F y.vs.length y.d], .int .i64 d]) ∧ Bel W w') := HN0
  have HE : Hid (∀ W, Bel w W → Calls Tryd.prog 21 #[.agg #[.int .i64 x.k, .string x.s, .int .i64 x.n, .bool x.b, .slice x.A x.xs.length x.c, .slice x.F x.vs.length x.d], .agg #[.int .i64 x.k, .string x.s, .int .i64 x.n, .bool x.b, .slice x.A x.xs.length x.c, .slice x.F x.vs.length x.d]] W fun e w' => e = .returned (.bool true) ∧ Bel W w') := Lib.hid (fun W hb => refSame_c x W (HXI.out.bel hb))
  clear HL0 HM0 HN0 hxi hmi htwo hj hPs
  have hPP : p ++ ⟨#[46]⟩ ++ q = P := hP.symm
  clear hP
  go_enter Tryd.func6, Tryd.ntmps6
  go_wp2_with (first | (go_at_call 15; refine (HTL.out _ HW0.out).mono ?_; rintro e w1 ⟨r, hr0, hr1, rfl, hb⟩; have HB1 := Lib.hid (HW0.out.trans hb); have hB := HBX.out.below hb HBX.out.lt; have HBX1 := Lib.hid hB; clear hb hB) | (go_at_call 9; (with_reducible refine (HA.out w1 (HT.out.bel HB1.out)).mono ?_); rintro e w3 ⟨rfl, hb⟩; have HBR := Lib.hid (HB1.out.trans hb); clear hb) | (go_at_call 10; refine (HSP.out _ HB1.out).mono ?_; rintro e w2 ⟨A0, n0, cc0, r0, rfl, hcase, hb⟩; have HCASE := Lib.hid hcase; have HB2 := Lib.hid (HB1.out.trans hb); have HBX2 := Lib.hid (HBX1.out.below hb HBX1.out.lt); obtain ⟨c0, c1, c2, c3, c4, c5⟩ := cs_cells HBX2.out; clear hb hcase) | (go_at_call 9; (with_reducible refine (HA.out w2 (HT.out.bel HB2.out)).mono ?_); rintro e w3 ⟨rfl, hb⟩; have HBR := Lib.hid (HB2.out.trans hb); clear hb) | (go_at_call 22; (with_reducible refine (HL.out w2 HB2.out).mono ?_); rintro e w4 ⟨rfl, hb⟩; have HB4 := Lib.hid (HB2.out.trans (hb.trans (Bel.alloc w4 (.cells #[.int .i64 x.k, .string x.s, .int .i64 x.n, .bool x.b, .slice x.A x.xs.length x.c, .slice x.F x.vs.length x.d] 34)))); have HX4 := Lib.hid (Blk.new w4 34 x.cs); have hB := (HBX2.out.below hb HBX2.out.lt).alloc (.cells #[.int .i64 x.k, .string x.s, .int .i64 x.n, .bool x.b, .slice x.A x.xs.length x.c, .slice x.F x.vs.length x.d] 34); have HBX4 := Lib.hid hB; clear c0 c1 c2 c3 c4 c5; obtain ⟨c0, c1, c2, c3, c4, c5⟩ := cs_cells hB; clear hb hB) | (go_at_call 22; (with_reducible refine (HM.out (w4.alloc (.cells #[.int .i64 x.k, .string x.s, .int .i64 x.n, .bool x.b, .slice x.A x.xs.length x.c, .slice x.F x.vs.length x.d] 34)) HB4.out).mono ?_); rintro e w5 ⟨rfl, hb⟩; have HB5 := Lib.hid (HB4.out.trans (hb.trans (Bel.alloc w5 (.cells #[.int .i64 m.k, .string m.s, .int .i64 m.n, .bool m.b, .slice m.A m.xs.length m.c, .slice m.F m.vs.length m.d] 34)))); have HX5 := Lib.hid ((HX4.out.below hb HX4.out.lt).alloc (.cells #[.int .i64 m.k, .string m.s, .int .i64 m.n, .bool m.b, .slice m.A m.xs.length m.c, .slice m.F m.vs.length m.d] 34)); clear c0 c1 c2 c3 c4 c5; obtain ⟨c0, c1, c2, c3, c4, c5⟩ := cs_cells (Blk.new w5 34 m.cs); clear hb) | (go_at_call 9; (with_reducible refine (HA.out (w5.alloc (.cells #[.int .i64 m.k, .string m.s, .int .i64 m.n, .bool m.b, .slice m.A m.xs.length m.c, .slice m.F m.vs.length m.d] 34)) (HT.out.bel HB5.out)).mono ?_); rintro e w6 ⟨rfl, hb⟩; have HBR := Lib.hid (HB5.out.trans hb); clear hb) | (go_at_call 22; (with_reducible refine (HN.out (w5.alloc (.cells #[.int .i64 m.k, .string m.s, .int .i64 m.n, .bool m.b, .slice m.A m.xs.length m.c, .slice m.F m.vs.length m.d] 34)) HB5.out).mono ?_); rintro e w7 ⟨rfl, hb⟩; have HB7 := Lib.hid (HB5.out.trans (hb.trans (Bel.alloc w7 (.cells #[.int .i64 y.k, .string y.s, .int .i64 y.n, .bool y.b, .slice y.A y.xs.length y.c, .slice y.F y.vs.length y.d] 34)))); have HX7 := Lib.hid ((HX5.out.below hb HX5.out.lt).alloc (.cells #[.int .i64 y.k, .string y.s, .int .i64 y.n, .bool y.b, .slice y.A y.xs.length y.c, .slice y.F y.vs.length y.d] 34)); have HY7 := Lib.hid (Blk.new w7 34 y.cs); clear hb c0 c1 c2 c3 c4 c5) | (go_at_call 9; (with_reducible refine (HA.out (w7.alloc (.cells #[.int .i64 y.k, .string y.s, .int .i64 y.n, .bool y.b, .slice y.A y.xs.length y.c, .slice y.F y.vs.length y.d] 34)) (HT.out.bel HB7.out)).mono ?_); rintro e w8 ⟨rfl, hb⟩; have HB8 := Lib.hid (HB7.out.trans hb); obtain ⟨c0, c1, c2, c3, c4, c5⟩ := cs_cells (HX7.out.below hb HX7.out.lt); obtain ⟨d0, d1, d2, d3, d4, d5⟩ := cs_cells (HY7.out.below hb HY7.out.lt); clear hb))
  all_goals first
    | (go_ret; exact ⟨rfl, HBR.out⟩)
    | (have h9 : (r0 != 0) = false := by assumption
       have h8 : (f != 0) = true := by assumption
       have h7 := (two_of HCASE.out HTWO.out (by simpa using h9)).1 (by simpa using h8)
       go_ret
       exact ⟨ret_bool (by simpa using h7), HBR.out⟩)
    | (have h9 : (r0 != 0) = false := by assumption
       have h8 : (f != 0) = false := by assumption
       have h7 := (two_of HCASE.out HTWO.out (by simpa using h9)).2 (by simpa using h8)
       obtain ⟨rfl, rfl⟩ := Prod.mk.inj h7
       first
         | contradiction
         | (refine (HE.out _ HB8.out).mono ?_
            rintro e w9 ⟨rfl, hb⟩
            have HB9 := Lib.hid (HB8.out.trans hb)
            clear hb
            go_wp2_with fail
            go_ret
            exact ⟨rfl, HB9.out⟩))

theorem composeLaw (v : VT) (p q : ByteArray) (w : World) (hT : MX w) (hv : v.In w (· < w.heap.size)) (hp : p.size ≤ 140737488351232) (hq : q.size ≤ 140737488351232) :
    Calls Tryd.prog 6 #[v.val, .string p, .string q] w fun e w' => e = .returned (.bool true) ∧ Below w.heap.size w w' := by
  by_cases hbig : 1000 < p.size + q.size
  · exact composeBig v p q w hT hv hp hq hbig
  · by_cases h1 : q.size = 0
    · exact composeQ v p q w hT hv hp hq hbig h1
    · by_cases h0 : p.size = 0
      · exact composeP v p q w hT hv hp hq hbig h1 h0
      · exact composeB v p q w hT hv hp hq hbig h1 h0
end Go.Proofs.YtmgnomahnndeaaaDoor
