/-
  The program of layer 16: branches.
  The program of layer 17: node for a Range and an If (its jump behind the Body is set by a deferred call).
  The frame's need: a world's shape (the length at which Go's library goes over to another search is some number).
-/
import Derived.Test.YtpcapmdfjmpdiaaGreatDoorZPc17
import Derived.Test.YtpcapmdfjmpdiaaGreatDoorZPd17
import Derived.Test.YtpcapmdfjmpdiaaGreatDoorZHp15
import Derived.HandedShaped
import Derived.Shelf.Vars
namespace Go.Proofs.YtpcapmdfjmpdiaaGreatDoor
open Go.RowKit Go.BigFrame NT
set_option linter.unusedVariables false
set_option linter.unusedSimpArgs false
set_option maxRecDepth 100000

set_option maxHeartbeats 6400000 in
theorem branches_c (s : HS) (x : NT) (done : List Nat) (B rr : Nat) (A : Option Addr) (n c : Nat) (w : World) (hA : An B rr w A n c done) (hle : n + tots x.b + tots x.l ≤ 100000) (hb : PLc B rr w s x.A x.c x.b) (hl : PLc B rr w s x.B x.d x.l) :
    Calls Tryz.prog 86 #[.pointer (some ⟨rr, 0, none⟩), .agg #[.int .i64 (s.c : Nat), .string (ofL s.n), .string (ofL s.a), .string (ofL s.p)], nV x] w
      (PP ((listI s x.b).next fun s1 e1 => (listI s x.l).next fun s2 e2 => if eqH s1 s2 = true then .ok s1 (e1 ++ e2) else .no x.a 16) done B rr w A) := by
  have HP0 := Lib.hid (p30_start w s x)
  have HE0 := Lib.hid ((Ev.refl hA).bel (show Bel w (w3p w s x) from bel3_16 w _ _ _))
  have HL := Lib.hid (hb (w3p w s x) A n c done (HE0.out.below hA) HE0.out.an (by omega))
  have HA := Lib.hid hA
  have hrr := hA.blk.lt
  have hgp := st_guard
  clear hb
  cases hr : listI s x.b with
  | no a1 e1 =>
    rw [hr] at HL
    have he := listI_err hr
    have hk0 : (e1 : Int) ≠ 0 := by omega
    have hk1 : ((e1 : Int) != 0) = true := bne_iff_ne.2 hk0
    have HE := Lib.hid (show e1 ≠ 0 by omega)
    clear hr he hle hA hl
    rw [IR.next_no]
    go_enter Tryz.func86, Tryz.ntmps86
    go_wp2_with (go_at_call 31; ((with_reducible refine (HL.out).mono ?_); rintro e w2 ⟨t, a, k, A', n', c', es, rfl, hE, hQ⟩; obtain ⟨ht, rfl, rfl, hne⟩ := hQ.out; have HP2 := Lib.hid ((HP0.out.keep HE0.out.an hE.out.only).later (Bel.alloc w2 (.cells #[.int .i64 (t.c : Nat), .string (ofL t.n), .string (ofL t.a), .string (ofL t.p)] 74))); have HE2 := Lib.hid ((HE0.out.then hE.out).bel (Bel.alloc w2 (.cells #[.int .i64 (t.c : Nat), .string (ofL t.n), .string (ofL t.a), .string (ofL t.p)] 74))); clear hE hQ hne ht; obtain ⟨k0, k1, k2, k3⟩ := cells4 HP2.out.b2; obtain ⟨y0, y1, y2, y3⟩ := frees4 HP2.out.b2))
    refine pp_set rfl rfl rfl rfl HP2.out.b2 (by omega) HE2.out (t := s0 0) rfl ?_
    exact ⟨rfl, rfl, rfl, HE.out⟩
  | ok s1 es1 =>
    rw [hr] at HL
    rw [IR.next_ok]
    have HLE := Lib.hid (listI_le hr)
    have HLN := Lib.hid hle
    have HL2 := Lib.hid hl
    clear hr hle hA hl
    cases hr2 : listI s x.l with
    | no a1 e1 =>
      unfold PLc at HL2
      simp only [hr2] at HL2
      have he := listI_err hr2
      have hk0 : (e1 : Int) ≠ 0 := by omega
      have hk1 : ((e1 : Int) != 0) = true := bne_iff_ne.2 hk0
      have HE := Lib.hid (show e1 ≠ 0 by omega)
      clear hr2 he
      rw [IR.next_no]
      go_enter Tryz.func86, Tryz.ntmps86
      go_wp2_with (first
        | (go_at_call 31; ((with_reducible refine (HL.out).mono ?_); rintro e w2 ⟨t, a, k, A', n', c', es, rfl, hE, hQ⟩; obtain ⟨rfl, rfl, rfl, rfl⟩ := hQ.out; have HP2 := Lib.hid ((HP0.out.keep HE0.out.an hE.out.only).later (Bel.alloc w2 (.cells #[.int .i64 (t.c : Nat), .string (ofL t.n), .string (ofL t.a), .string (ofL t.p)] 74))); have HE2 := Lib.hid ((HE0.out.then hE.out).bel (Bel.alloc w2 (.cells #[.int .i64 (t.c : Nat), .string (ofL t.n), .string (ofL t.a), .string (ofL t.p)] 74))); have H9 := Lib.hid (Blk.new w2 74 (sC t)); have HLL := Lib.hid (HL2.out (w2.alloc (.cells #[.int .i64 (t.c : Nat), .string (ofL t.n), .string (ofL t.a), .string (ofL t.p)] 74)) A' n' c' (done ++ es1) (HE2.out.below HA.out) HE2.out.an (by have h1 := HE2.out.an.len; have h2 := HA.out.len; have h3 := HLE.out; have h4 := HLN.out; rw [List.length_append] at h1; omega)); clear hE hQ; obtain ⟨s0', s1', s2', s3'⟩ := cells4 HP2.out.b0; obtain ⟨x0', x1', x2', x3', x4', x5', x6', x7'⟩ := cells8 HP2.out.b1))
        | (go_at_call 31; ((with_reducible refine (HLL.out).mono ?_); rintro e w4 ⟨t2, a2, k2, A2, n2, c2, es2, rfl, hE, hQ⟩; obtain ⟨ht, rfl, rfl, hne⟩ := hQ.out; have HP4 := Lib.hid ((HP2.out.keep HE2.out.an hE.out.only).later (Bel.alloc w4 (.cells #[.int .i64 (t2.c : Nat), .string (ofL t2.n), .string (ofL t2.a), .string (ofL t2.p)] 74))); have HE4 := Lib.hid ((HE2.out.then hE.out).bel (Bel.alloc w4 (.cells #[.int .i64 (t2.c : Nat), .string (ofL t2.n), .string (ofL t2.a), .string (ofL t2.p)] 74))); clear hE hQ hne ht; obtain ⟨k0, k1, k2, k3⟩ := cells4 HP4.out.b2; obtain ⟨y0, y1, y2, y3⟩ := frees4 HP4.out.b2)))
      refine pp_set rfl rfl rfl rfl HP4.out.b2 (by omega) HE4.out (t := s0 0) rfl ?_
      exact ⟨rfl, rfl, rfl, HE.out⟩
    | ok s2 es2 =>
      unfold PLc at HL2
      simp only [hr2] at HL2
      rw [IR.next_ok]
      clear hr2
      cases hq : eqH s1 s2 with
      | true =>
        have hcmp : ∀ W, (binOp .neq 74 (.agg #[.int .i64 (s1.c : Nat), .string (ofL s1.n), .string (ofL s1.a), .string (ofL s1.p)]) (.agg #[.int .i64 (s2.c : Nat), .string (ofL s2.n), .string (ofL s2.a), .string (ofL s2.p)])).run Tryz.prog W = .ok (.bool false) W := fun W => by have h := pst_neq s1 s2 W; rw [hq] at h; exact h
        rw [if_pos rfl]
        clear hq
        go_enter Tryz.func86, Tryz.ntmps86
        go_wp2_with (first
          | (go_at_call 31; ((with_reducible refine (HL.out).mono ?_); rintro e w2 ⟨t, a, k, A', n', c', es, rfl, hE, hQ⟩; obtain ⟨rfl, rfl, rfl, rfl⟩ := hQ.out; have HP2 := Lib.hid ((HP0.out.keep HE0.out.an hE.out.only).later (Bel.alloc w2 (.cells #[.int .i64 (t.c : Nat), .string (ofL t.n), .string (ofL t.a), .string (ofL t.p)] 74))); have HE2 := Lib.hid ((HE0.out.then hE.out).bel (Bel.alloc w2 (.cells #[.int .i64 (t.c : Nat), .string (ofL t.n), .string (ofL t.a), .string (ofL t.p)] 74))); have H9 := Lib.hid (Blk.new w2 74 (sC t)); have HLL := Lib.hid (HL2.out (w2.alloc (.cells #[.int .i64 (t.c : Nat), .string (ofL t.n), .string (ofL t.a), .string (ofL t.p)] 74)) A' n' c' (done ++ es1) (HE2.out.below HA.out) HE2.out.an (by have h1 := HE2.out.an.len; have h2 := HA.out.len; have h3 := HLE.out; have h4 := HLN.out; rw [List.length_append] at h1; omega)); clear hE hQ; obtain ⟨s0', s1', s2', s3'⟩ := cells4 HP2.out.b0; obtain ⟨x0', x1', x2', x3', x4', x5', x6', x7'⟩ := cells8 HP2.out.b1))
          | (go_at_call 31; ((with_reducible refine (HLL.out).mono ?_); rintro e w4 ⟨t2, a2, k2, A2, n2, c2, es2', rfl, hE, hQ⟩; obtain ⟨rfl, rfl, rfl, rfl⟩ := hQ.out; have HP4 := Lib.hid ((HP2.out.keep HE2.out.an hE.out.only).later (Bel.alloc w4 (.cells #[.int .i64 (t2.c : Nat), .string (ofL t2.n), .string (ofL t2.a), .string (ofL t2.p)] 74))); have HE4 := Lib.hid ((HE2.out.then hE.out).bel (Bel.alloc w4 (.cells #[.int .i64 (t2.c : Nat), .string (ofL t2.n), .string (ofL t2.a), .string (ofL t2.p)] 74))); have H94 := Lib.hid ((HE2.out.an.keep hE.out.only H9.out (by decide) (by decide)).belh (Bel.alloc w4 (.cells #[.int .i64 (t2.c : Nat), .string (ofL t2.n), .string (ofL t2.a), .string (ofL t2.p)] 74))); have H12 := Lib.hid (Blk.new w4 74 (sC t2)); clear hE hQ; obtain ⟨p0, p1, p2, p3⟩ := cells4 H94.out; obtain ⟨k0, k1, k2, k3⟩ := cells4 HP4.out.b2; obtain ⟨y0, y1, y2, y3⟩ := frees4 HP4.out.b2)))
        refine pp_set rfl rfl rfl rfl HP4.out.b2 (by omega) HE4.out (t := t) rfl ?_
        exact ⟨rfl, rfl, rfl, by rw [List.append_assoc]⟩
      | false =>
        have hcmp : ∀ W, (binOp .neq 74 (.agg #[.int .i64 (s1.c : Nat), .string (ofL s1.n), .string (ofL s1.a), .string (ofL s1.p)]) (.agg #[.int .i64 (s2.c : Nat), .string (ofL s2.n), .string (ofL s2.a), .string (ofL s2.p)])).run Tryz.prog W = .ok (.bool true) W := fun W => by have h := pst_neq s1 s2 W; rw [hq] at h; exact h
        rw [if_neg (by decide)]
        clear hq
        go_enter Tryz.func86, Tryz.ntmps86
        go_wp2_with (first
          | (go_at_call 31; ((with_reducible refine (HL.out).mono ?_); rintro e w2 ⟨t, a, k, A', n', c', es, rfl, hE, hQ⟩; obtain ⟨rfl, rfl, rfl, rfl⟩ := hQ.out; have HP2 := Lib.hid ((HP0.out.keep HE0.out.an hE.out.only).later (Bel.alloc w2 (.cells #[.int .i64 (t.c : Nat), .string (ofL t.n), .string (ofL t.a), .string (ofL t.p)] 74))); have HE2 := Lib.hid ((HE0.out.then hE.out).bel (Bel.alloc w2 (.cells #[.int .i64 (t.c : Nat), .string (ofL t.n), .string (ofL t.a), .string (ofL t.p)] 74))); have H9 := Lib.hid (Blk.new w2 74 (sC t)); have HLL := Lib.hid (HL2.out (w2.alloc (.cells #[.int .i64 (t.c : Nat), .string (ofL t.n), .string (ofL t.a), .string (ofL t.p)] 74)) A' n' c' (done ++ es1) (HE2.out.below HA.out) HE2.out.an (by have h1 := HE2.out.an.len; have h2 := HA.out.len; have h3 := HLE.out; have h4 := HLN.out; rw [List.length_append] at h1; omega)); clear hE hQ; obtain ⟨s0', s1', s2', s3'⟩ := cells4 HP2.out.b0; obtain ⟨x0', x1', x2', x3', x4', x5', x6', x7'⟩ := cells8 HP2.out.b1))
          | (go_at_call 31; ((with_reducible refine (HLL.out).mono ?_); rintro e w4 ⟨t2, a2, k2, A2, n2, c2, es2', rfl, hE, hQ⟩; obtain ⟨rfl, rfl, rfl, rfl⟩ := hQ.out; have HP4 := Lib.hid ((HP2.out.keep HE2.out.an hE.out.only).later (Bel.alloc w4 (.cells #[.int .i64 (t2.c : Nat), .string (ofL t2.n), .string (ofL t2.a), .string (ofL t2.p)] 74))); have HE4 := Lib.hid ((HE2.out.then hE.out).bel (Bel.alloc w4 (.cells #[.int .i64 (t2.c : Nat), .string (ofL t2.n), .string (ofL t2.a), .string (ofL t2.p)] 74))); have H94 := Lib.hid ((HE2.out.an.keep hE.out.only H9.out (by decide) (by decide)).belh (Bel.alloc w4 (.cells #[.int .i64 (t2.c : Nat), .string (ofL t2.n), .string (ofL t2.a), .string (ofL t2.p)] 74))); have H12 := Lib.hid (Blk.new w4 74 (sC t2)); clear hE hQ; obtain ⟨p0, p1, p2, p3⟩ := cells4 H94.out; obtain ⟨z0', z1', z2', z3', z4', z5', z6', z7'⟩ := cells8 HP4.out.b1))
          | (go_at_call 107; ((with_reducible refine (fail_c x 16 _).mono ?_); rintro e w5 ⟨rfl, hb⟩; have HP5 := Lib.hid (HP4.out.later hb); have HE5 := Lib.hid (HE4.out.bel hb); clear hb; obtain ⟨k0, k1, k2, k3⟩ := cells4 HP5.out.b2; obtain ⟨y0, y1, y2, y3⟩ := frees4 HP5.out.b2)))
        refine pp_set rfl rfl rfl rfl HP5.out.b2 (by omega) HE5.out (t := s0 0) rfl ?_
        exact ⟨rfl, rfl, rfl, by decide⟩
end Go.Proofs.YtpcapmdfjmpdiaaGreatDoor

namespace Go.Proofs.YtpcapmdfjmpdiaaGreatDoor
open Go.RowKit Go.BigFrame NT
set_option linter.unusedVariables false
set_option linter.unusedSimpArgs false
set_option maxRecDepth 100000

/-- The call of list for a row of nodes. -/
abbrev PlC (Q : Nat → Prop) (rr : Nat) (W : World) (v : AV) (X : Option Addr) (c0 : Nat) (l : List NT) : Prop := Calls Tryz.prog 66 #[.pointer (some ⟨rr, 0, none⟩), .slice X l.length c0] W (NdP Q rr W v (listC Z0 v.L.length v.es l) (listK v.L.length l))
/-- Is it so for whatever assembler, from a world on? -/
def PlM (Q : Nat → Prop) (rr : Nat) (w : World) (v0 : AV) (X : Option Addr) (c0 : Nat) (l : List NT) : Prop :=
  ∀ W v, Ev17 Q rr w v0 W v → prns l ≤ v.es.length → v.L.length + sizs l ≤ 90000 → v.ks.length + sizs l ≤ 90000 → PlC Q rr W v X c0 l
/-- What a call leaves: all that is known of it. -/
theorem blk_kept {Q : Nat → Prop} {rr : Nat} {w W : World} {v0 v : AV} (h0 : As Q rr w v0) (h : Ev17 Q rr w v0 W v) {x : NT} {g : Nat} (hN : Blk w g 69 x.cs) : Blk W g 69 x.cs := h0.keep h hN (by decide) (by decide) (by decide)
theorem plc_at {Q : Nat → Prop} {rr : Nat} {W : World} {v : AV} {X : Option Addr} {c0 : Nat} {l : List NT} (h : PlC Q rr W v X c0 l) {n : Nat} {cb : CE} (hn : v.L.length = n) (hc : cb = listC Z0 n v.es l) :
    Calls Tryz.prog 66 #[.pointer (some ⟨rr, 0, none⟩), .slice X l.length c0] W (NdP Q rr W v cb (listK n l)) := by
  subst hn hc
  exact h
section
variable {Q : Nat → Prop} {rr : Nat} {w : World} {v : AV}
set_option maxHeartbeats 6400000 in
theorem loop_c (x : NT) (h : As Q rr w v) (hm : prns x.b ≤ v.es.length) (hle : v.L.length + 2 + sizs x.b ≤ 90000) (hkl : v.ks.length + sizs x.b ≤ 90000) (hl : PlM Q rr w v x.A x.c x.b) :
    Calls Tryz.prog 110 #[.pointer (some ⟨rr, 0, none⟩), nV17 x] w (NdP Q rr w v (rangeC v.L.length x.p (listC Z0 (v.L.length + 1) v.es x.b)) (listK (v.L.length + 1) x.b)) := by
  have HND := Lib.hid (show Blk (wN w x) w.heap.size 69 x.cs from Blk.new w 69 x.cs)
  obtain ⟨x0, x1, x2, x3, x4, x5, x6, x7⟩ := node_cells HND.out
  have HE0 := Lib.hid (ev_n h x)
  have HA0 := Lib.hid (as_n h x)
  have HL := Lib.hid hl
  obtain ⟨n, hn⟩ : ∃ n, n = v.L.length := ⟨_, rfl⟩
  have HN := Lib.hid hn
  have HAD := Lib.hid (show Calls Tryz.prog 67 #[.pointer (some ⟨rr, 0, none⟩), .agg #[.int .i64 4, .string ⟨#[]⟩, .string x.p, .bool false, .int .i64 0, .int .i64 0]] (wN w x) _ from add_c (as_n h x) ⟨4, eB, x.p, false, 0, 0⟩ (by omega))
  obtain ⟨cb, hcb⟩ : ∃ cb, cb = listC Z0 (v.L.length + 1) v.es x.b := ⟨_, rfl⟩
  have hlen := (listC_ok Z0 x.b (v.L.length + 1) v.es).len
  rw [← hcb] at hlen ⊢
  rw [← hn] at hcb
  have HCB := Lib.hid hcb
  have HLEN := Lib.hid hlen
  rw [← hn] at HAD hle ⊢
  obtain ⟨T1, hT1⟩ : ∃ T1, T1 = n + 1 := ⟨_, rfl⟩
  have hn1 : IntKind.i64.wrap ((n : Int) + 1) = (T1 : Int) := (IntWalk.i64_in _ (by omega)).trans (by omega)
  have hn2 : (n : Int) + 1 = (T1 : Int) := by omega
  have HT1 := Lib.hid hT1
  clear hT1
  have HA5 := Lib.hid (fun W v' (h' : As Q rr W v') (hle' : v'.L.length + 1 ≤ 100000) => show Calls Tryz.prog 67 #[.pointer (some ⟨rr, 0, none⟩), .agg #[.int .i64 5, .string ⟨#[]⟩, .string ⟨#[]⟩, .bool false, .int .i64 0, .int .i64 (T1 : Nat)]] W (AsP Q rr W v' (.int .i64 (v'.L.length : Nat)) (v'.L ++ [⟨5, eB, eB, false, 0, T1⟩]) v'.es v'.ks) from add_c h' ⟨5, eB, eB, false, 0, T1⟩ hle')
  have HM := Lib.hid hm
  have HLE := Lib.hid hle
  have HKL := Lib.hid hkl
  clear h hl hn hcb hlen hm hkl
  go_enter Tryz.func110, Tryz.ntmps110
  go_wp2_with (first
    | (go_at_call 67; ((with_reducible refine HAD.out.mono ?_); rintro e w2 ⟨rfl, v1, hE1, hS1⟩; have HE1 := Lib.hid (HE0.out.trans hE1.out); have hls1 : v1.L.length = n + 1 := (by rw [hS1.out.L, List.length_append, ← HN.out]; rfl); have HN1 := Lib.hid (blk_kept HA0.out hE1.out HND.out); obtain ⟨x0', x1', x2', x3', x4', x5', x6', x7'⟩ := node_cells HN1.out; have HLC : Hid (Calls Tryz.prog 66 #[.pointer (some ⟨rr, 0, none⟩), .slice x.A x.b.length x.c] w2 (NdP Q rr w2 v1 cb (listK (n + 1) x.b))) := Lib.hid (plc_at (HL.out w2 v1 HE1.out (by rw [hS1.out.es]; exact HM.out) (by rw [hls1]; have := HLE.out; omega) (by rw [hS1.out.ks]; exact HKL.out)) hls1 (by rw [hS1.out.es]; exact HCB.out))))
    | (go_at_call 66; ((with_reducible refine HLC.out.mono ?_); rintro e w3 ⟨rfl, v2, hE2, hS2⟩; have HE2 := Lib.hid (HE1.out.trans hE2.out); have hls2 : v2.L.length = n + 1 + cb.1.length := (by rw [hS2.out.L, List.length_append, hls1])))
    | (go_at_call 67; ((with_reducible refine (HA5.out w3 v2 hE2.out.st (by rw [hls2]; have := HLE.out; have := HLEN.out; omega)).mono ?_); rintro e w4 ⟨rfl, v3, hE3, hS3⟩; have HE3 := Lib.hid (HE2.out.trans hE3.out); have hls3 : v3.L.length = n + 2 + cb.1.length := (by rw [hS3.out.L, List.length_append, hls2]; show n + 1 + cb.1.length + 1 = _; omega)))
    | (go_at_call 124; ((with_reducible refine (aim_c hE3.out.st n (by omega) (by rw [hls3]; have := HLE.out; have := HLEN.out; omega)).mono ?_); rintro e w5 ⟨rfl, v4, hE4, hS4⟩)))
  go_end0
  refine ⟨rfl, v4, Lib.hid (HE3.out.trans hE4.out), Lib.hid ⟨?_, ?_, ?_, ?_⟩⟩
  · rw [hS4.out.L, hls3, hS3.out.L, hS2.out.L, hS1.out.L, List.append_assoc, List.append_assoc]
    refine (stT_at v.L (cb.1 ++ [⟨5, eB, eB, false, 0, T1⟩]) ⟨4, eB, x.p, false, 0, 0⟩ HN.out (n + 2 + cb.1.length)).trans ?_
    rw [HT1.out]
    rfl
  · rw [hS4.out.es, hS3.out.es, hS2.out.es]; rfl
  · rw [hS4.out.ks, hS3.out.ks, hS2.out.ks, hS1.out.ks]
  · rw [hS4.out.M, hS3.out.M, hS2.out.M, hS1.out.M]
end
end Go.Proofs.YtpcapmdfjmpdiaaGreatDoor

namespace Go.Proofs.YtpcapmdfjmpdiaaGreatDoor
open Go.Joins Go.ChangeShapes Go.WideShapes Go.Deep Go.RowKit

theorem mx_of_shaped {w : World} (h : w.ShapedOpen Tryz.prog) : MX w := by
  obtain ⟨m, hm⟩ := cell_of_shapedOpen_int (P := Tryz.prog) (g := 1) (t := 3) (zero := #[.int .i64 0]) (k := .i64) h (of_decide_eq_true (by kernel_rfl)) (by kernel_rfl) rfl (by kernel_rfl) (by kernel_rfl) Tryz.underlying3
  refine ⟨?_, m, hm⟩
  have : (w.cell? ⟨1, 0, none⟩).isSome := by rw [hm]; rfl
  simp only [World.cell?] at this
  split at this
  · rename_i hh; exact (Array.getElem?_eq_some_iff.1 hh).1
  · simp at this
/-- The row's step where the contract is told the world's shape besides what the row lists. -/
theorem returnsIn_listed_shaped {H : Type} {enc : TypeId × Value → H} {a : Assume} {C : Checked} {os : Os} {f : FuncId} {fn : Func} {s : ChangeSpec} {conds : List PathCond} {apart fresh handsOn again : Bool} {X : World → Array Value → Prop}
    (hX : ∀ (w w' : World) (args : Array Value), w.heap = w'.heap → X w args → X w' args)
    (own : ownKnob C.prog.godebug = none) (started : os.Started) (noInit : C.prog.inits.idxOf? f = none) (hfn : C.prog.funcs[f]? = some fn)
    (witness : ∃ (w : World) (tape : Tape) (i : Input), w.os = os ∧ (w.forCall tape i).Shaped C.prog ∧ i.vars = [] ∧ Input.okWide C.prog (w.forCall tape i) .any w.heap.size f i ∧
      ((s.pre enc C.prog fn conds apart (w.forCall tape i).memory i.args ∧ X (w.forCall tape i).memory i.args) ∧ sizedMet enc C.prog fn (OpenSpec.ofChange s) apart (w.forCall tape i).memory i.args) ∧ a.holds C.prog (lone (Frame.enter C.prog f i.args .normal) [] (w.forCall tape i)))
    (contract : ∀ (W : World) (base : Nat) (args : Array Value) (ds gs : List (DataW H)) (before : List MemPlace), W.ShapedOpen C.prog →
      (∀ (j : Nat) t v, fn.params[j]? = some t → args[j]? = some v → Value.okWide C.prog W .any base t v) →
      DataW.Whole enc C.prog fn.params.toList s.vars apart W args.toList ds gs before →
      conds.all (PathCond.test C.prog ⟨fn.params.toList, ds, s.plain.varTypes C.prog, gs⟩) = true →
      (DataW.weightsEach C.prog (fn.params.toList ++ s.plain.varTypes C.prog) (ds ++ gs)).all (· ≤ reachBytes) = true → X W args →
      a.holds C.prog (lone (Frame.enter C.prog f args .normal) [] W) →
      Calls C.prog f args W fun e W' => ∃ v, e = .returned v ∧ s.post enc C.prog fn apart fresh handsOn again W args v W') :
    ReturnsInHanded a C os f .any (fun w args => (s.pre enc C.prog fn conds apart w args ∧ X w args) ∧ sizedMet enc C.prog fn (OpenSpec.ofChange s) apart w args) (s.post enc C.prog fn apart fresh handsOn again) := by
  refine returnsInHanded_of_calls own started noInit witness ?_
  intro w tape i _ hsh _ hok hpre hholds
  obtain ⟨_, _, _, fn', hfn', _, _, _, _, hval⟩ := hok
  obtain rfl : fn' = fn := Option.some.inj (hfn'.symm.trans hfn)
  obtain ⟨⟨⟨ds, gs, before, hw, hc⟩, hx⟩, hz⟩ := hpre
  have hw' := DataW.Whole.of_heap (w' := w.forCall tape i) (by rfl) hw
  refine (contract (w.forCall tape i) w.heap.size i.args ds gs before hsh hval hw' hc (hz.weights hw) (hX _ _ _ (by rfl) hx) hholds).mono fun e W' ⟨v, he, hp⟩ => ?_
  subst he
  exact ChangeSpec.post_blind hp
end Go.Proofs.YtpcapmdfjmpdiaaGreatDoor
