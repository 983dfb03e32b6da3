/-
  Contract: the law's own offsets.
-/
import Derived.Test.YtgbppdgpengcoaaDoorNm
namespace Go.Proofs.YtgbppdgpengcoaaDoor
open Go.RowKit Go.BigFrame NT
set_option linter.unusedVariables false
set_option linter.unusedSimpArgs false

abbrev OsC (w : World) (A : Option Addr) (n c : Nat) (a r : Int) : Prop := Calls Tryd.prog 19 #[.slice A n c, .int .i64 a] w fun e w' => e = .returned (.tuple #[.int .i64 r, .int .i64 0]) ∧ Bel w w'
def OsM (x : NT) : Prop := ∀ (w : World) (a : Int), x.In w (Lt w) → (Asc (a :: pres x.b) → OsC w x.A x.b.length x.c a ((pres x.b).getLastD a)) ∧ (Asc (a :: pres x.l) → OsC w x.B x.l.length x.d a ((pres x.l).getLastD a))
set_option maxRecDepth 100000 in
set_option maxHeartbeats 3200000 in
theorem offs_row (l : List NT) (ih : ∀ x ∈ l, OsM x) (A : Option Addr) (c : Nat) (a : Int) (w : World) (hA : Row w (Lt w) A c l) (hs : Asc (a :: pres l)) : OsC w A l.length c a ((pres l).getLastD a) := by
  obtain ⟨n, hn⟩ : ∃ n, n = l.length := ⟨_, rfl⟩
  have hn5 := hA.len
  rw [← hn] at hn5 ⊢
  obtain ⟨R, hR⟩ : ∃ R, R = (pres l).getLastD a := ⟨_, rfl⟩
  rw [← hR]
  have HR := Lib.hid hR
  have HA := Lib.hid hA
  have HI := Lib.hid ih
  have HN := Lib.hid hn
  have HS := Lib.hid hs
  clear hA ih hn hs hR
  go_enter Tryd.func19, Tryd.ntmps19
  go_wp2_with fail
  go_loopw [1, 6, 13] (fun s1 s6 s13 wr => ∃ (k : Nat) (q : Int), k ≤ n ∧ s1 = .int .i64 q ∧ s6 = .int .i64 0 ∧ s13 = .int .i64 k ∧ Hid (Asc (q :: pres (l.drop k))) ∧ Hid ((pres (l.drop k)).getLastD q = R) ∧ Hid (Bel w wr)) (fun s1 s6 s13 _ => n - (intOf s13).toNat)
  case atStart => exact ⟨0, a, Nat.zero_le _, rfl, rfl, rfl, HS, Lib.hid HR.out.symm, Lib.hid (Bel.refl _)⟩
  case round =>
    obtain ⟨k, q, hk, rfl, rfl, rfl, HQ, HL, HBR⟩ := hrel
    by_cases hlt : k < n
    · have hxt := List.getElem?_eq_getElem (l := l) (i := k) (by have := HN.out; omega)
      generalize l[k]'(by have := HN.out; omega) = x at hxt
      have hpd := pres_drop hxt
      have hq := HQ.out
      have hl := HL.out
      rw [hpd] at hq hl
      obtain ⟨h1, h2⟩ := asc_tail hq
      have h3 := asc_first h2
      have h4 := asc_skip h2
      have h5 := asc_first h4
      have h6 := asc_skip h4
      rw [List.getLastD_cons, getLastD_append, getLastD_append] at hl
      have hn1 : ¬ x.a ≤ q := by omega
      obtain ⟨g, o, hAA, hg, ha⟩ := HA.out.cells hxt
      subst hAA
      have HXI := Lib.hid (HA.out.2 x (List.mem_of_getElem? hxt))
      have HMX := Lib.hid (fun W (hb : Bel w W) => HI.out x (List.mem_of_getElem? hxt) W)
      have HC1 := Lib.hid (fun W (hb : Bel w W) => (HI.out x (List.mem_of_getElem? hxt) W x.a (HXI.out.bel hb)).1 h3)
      generalize hq1 : (pres x.b).getLastD x.a = q1 at h4 h5 h6 hl HC1
      have HC2 := Lib.hid (fun W (hb : Bel w W) => (HI.out x (List.mem_of_getElem? hxt) W q1 (HXI.out.bel hb)).2 h5)
      generalize hq2 : (pres x.l).getLastD q1 = q2 at h6 hl HC2
      have HQ2 := Lib.hid h6
      have HL2 := Lib.hid hl
      obtain ⟨a0, a1, a2, a3, a4, a5, a6, a7⟩ := ha wr HBR.out
      have HBX := Lib.hid (Blk.new wr 36 [.int .i64 x.k, .int .i64 x.a, .string x.s, .string x.p, .bool x.h, .bool x.e, .slice x.A x.b.length x.c, .slice x.B x.l.length x.d])
      have HB0 := Lib.hid (fun ob => HBR.out.trans (Bel.alloc wr ob))
      clear hxt hpd hq hl h1 h2 h3 h4 h5 h6 hg ha hq1 hq2 HMX
      go_wp2_with (first | (go_at_call 19; ((with_reducible refine (HC1.out _ (HB0.out _)).mono ?_); rintro e w1 ⟨rfl, hb⟩; have HB1 := Lib.hid ((HB0.out _).trans hb); obtain ⟨x0, x1, x2, x3, x4, x5, x6, x7⟩ := cells8 (HBX.out.bel hb); clear hb)) | (go_at_call 19; ((with_reducible refine (HC2.out _ HB1.out).mono ?_); rintro e w2 ⟨rfl, hb⟩; have HB2 := Lib.hid (HB1.out.trans hb); clear hb)))
      go_roundw
      case rel => exact ⟨k + 1, q2, by omega, rfl, rfl, by go_num, HQ2, HL2, HB2⟩
      case measure => simp [intOf]; omega
    · obtain rfl : k = n := by omega
      have HE : Hid (q = R) := Lib.hid (by have := HL.out; rw [HN.out, List.drop_length, pres_nil] at this; exact this)
      go_wp2_with fail
      go_ret2
      exact ⟨by rw [← HE.out]; rfl, HBR.out⟩
theorem offs_all (x : NT) : OsM x := by
  refine NT.ind (M := OsM) (fun t h1 h2 => ?_) x
  intro w a ht
  exact ⟨fun h => offs_row t.b h1 _ _ a w ht.body h, fun h => offs_row t.l h2 _ _ a w ht.els h⟩
theorem offs_c {l : List NT} {A : Option Addr} {c : Nat} {a : Int} {w : World} (hA : Row w (Lt w) A c l) (hs : Asc (a :: pres l)) :
    Calls Tryd.prog 19 #[.slice A l.length c, .int .i64 a] w fun e w' => e = .returned (.tuple #[.int .i64 ((pres l).getLastD a), .int .i64 0]) ∧ Bel w w' := offs_row l (fun x _ => offs_all x) A c a w hA hs
end Go.Proofs.YtgbppdgpengcoaaDoor
