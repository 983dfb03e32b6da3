/-
  The law ParseManyNodes, walked.
-/
import Derived.Test.YtgbppdgpengcoaaDoorAl12
import Derived.Test.YtgbppdgpengcoaaDoorRe12
namespace Go.Proofs.YtgbppdgpengcoaaDoor
open Go.RowKit Go.BigFrame NT
set_option linter.unusedVariables false
set_option linter.unusedSimpArgs false

theorem u8_range {a : Int} (h : (Lit.int .u8 a).wf = true) : 0 ≤ a ∧ a ≤ 255 := by
  simp [Lit.wf, IntKind.min, IntKind.max, IntKind.signed, IntKind.bits] at h
  omega
theorem lexOf_of {l : List UInt8} {ts : List Tok} (h : Lx l 0 ts) (hl : l.length ≤ 65536) : LexOf (ofL l) (.ok ts) := by
  unfold LexOf
  rw [if_neg (by show ¬ 65536 < l.length; omega)]
  exact h
theorem parR_ok {ts : List Tok} {l : List NT} {r : List Tok} {c : Nat} (h : P ts 0 false 0 0 = .ok (l, r, c)) : parR (.ok ts) = .ok l := by unfold parR; dsimp only; rw [h]
theorem parR_err {ts : List Tok} {e : Nat × Nat} (h : P ts 0 false 0 0 = .error e) : parR (.ok ts) = .error e := by unfold parR; dsimp only; rw [h]
theorem par_ok {s : ByteArray} {l : List NT} {w : World} {e : Ending} {w' : World} (h : ParPost s (.ok l) w e w') : Bel w w' ∧ ∃ (A : Option Addr) (c : Nat) (m : List NT), ers m = l ∧ Row w' (Fr w w') A c m ∧ e = .returned (.tuple #[.slice A m.length c, .int .i64 s.size, .int .i64 0]) := h
theorem par_fault {s : ByteArray} {a k : Nat} {w : World} {e : Ending} {w' : World} (h : ParPost s (.error (a, k)) w e w') : Bel w w' ∧ e = .returned (.tuple #[.slice none 0 0, .int .i64 a, .int .i64 k]) := h
set_option maxRecDepth 100000 in
set_option maxHeartbeats 3200000 in
theorem manyLaw (a : Int) (w : World) (hT : MX w) (hw : (Lit.int .u8 a).wf = true) :
    Calls Tryd.prog 7 #[.int .u8 a] w fun e w' => e = .returned (.bool true) ∧ Below w.heap.size w w' := by
  obtain ⟨h0, h1⟩ := u8_range hw
  obtain ⟨r, hr⟩ : ∃ r : Nat, (r : Int) = a.tmod 5 := ⟨(a.tmod 5).toNat, by rw [Int.toNat_of_nonneg (Int.tmod_nonneg 5 h0)]⟩
  have hr5 : r < 5 := by have := Int.tmod_lt_of_pos a (b := 5) (by decide); omega
  have HT := Lib.hid hT
  have HA := Lib.hid (fun (W : World) (h : MX W) => alive_c W h)
  obtain ⟨k, hk⟩ : ∃ k, k = 4094 + r := ⟨_, rfl⟩
  have HRP : Hid (∀ W, Calls Tryd.prog 18 #[.string ⟨#[123, 123, 102, 108, 117, 115, 104, 125, 125]⟩, .int .i64 (4094 + (r : Int))] W fun e w' => e = .returned (.string (ofL (rp flL k))) ∧ Bel W w') := Lib.hid (fun W => by
    have h := repeat_c flL k W (by show 9 * k ≤ _; omega) (by omega)
    rw [show (k : Int) = 4094 + (r : Int) by omega] at h
    exact h)
  have hlen : (rp flL k).length = 9 * k := rp_len flL k
  have hlx := lexOf_of (lx_flushes k 0) (by rw [hlen]; omega)
  have HP := Lib.hid (fun (W : World) (h : MX W) => parse_c _ _ W h hlx)
  obtain ⟨X, hX⟩ : ∃ X, X = ofL (rp flL k) := ⟨_, rfl⟩
  rw [← hX] at HRP HP
  have hXs : X.size = 9 * k := by rw [hX]; exact hlen
  have e1 : IntKind.i64.wrap a = a := IntWalk.i64_in _ (by omega)
  have e2 : a.tmod 5 = (r : Int) := hr.symm
  have e3 : IntKind.i64.wrap (4094 + (r : Int)) = 4094 + (r : Int) := IntWalk.i64_in _ (by omega)
  have e4 : IntKind.i64.wrap (r : Int) = (r : Int) := IntWalk.i64_in _ (by omega)
  have HK := Lib.hid hk
  clear hw h0 h1 hr hT hlx hlen hX
  by_cases hc : k ≤ 4096
  · have hi : (4094 : Int) + (r : Int) ≤ 4096 := by omega
    have HF := Lib.hid (parR_ok (P_flushes k 0 0 false 0 0 (by omega)))
    rw [HF.out] at HP
    clear hc hXs hr5 hk
    go_enter Tryd.func7, Tryd.ntmps7
    go_wp2_with (first | (go_at_call 18; (with_reducible refine (HRP.out _).mono ?_); rintro e w1 ⟨rfl, hb⟩; have HB1 := Lib.hid hb; clear hb) | (go_at_call 10; ((with_reducible refine (HP.out _ (HT.out.bel HB1.out)).mono ?_); rintro e w2 hp; obtain ⟨hb, A, c, m, h1, hr1, rfl⟩ := par_ok hp; rw [show m.length = 4094 + r by rw [← ers_len, h1, flNs_len]; exact HK.out]; have HB2 := Lib.hid (HB1.out.trans hb); clear hp hb h1 hr1)) | (go_at_call 9; refine (HA.out _ (HT.out.bel HB2.out)).mono ?_; rintro e w3 ⟨rfl, hb⟩; have HB3 := Lib.hid (HB2.out.trans hb); clear hb))
    go_ret
    exact ⟨rfl, HB3.out⟩
  · have hi : ¬ (4094 : Int) + (r : Int) ≤ 4096 := by omega
    have hi2 : (4096 : Int) < 4094 + (r : Int) := by omega
    have HF := Lib.hid (parR_err (P_toomany k 0 0 false 0 0 (by decide) (by omega)))
    rw [HF.out] at HP
    clear hc hXs hr5 hk
    go_enter Tryd.func7, Tryd.ntmps7
    go_wp2_with (first | (go_at_call 18; (with_reducible refine (HRP.out _).mono ?_); rintro e w1 ⟨rfl, hb⟩; have HB1 := Lib.hid hb; clear hb) | (go_at_call 10; ((with_reducible refine (HP.out _ (HT.out.bel HB1.out)).mono ?_); rintro e w2 hp; obtain ⟨hb, rfl⟩ := par_fault hp; have HB2 := Lib.hid (HB1.out.trans hb); clear hp hb)) | (go_at_call 9; refine (HA.out _ (HT.out.bel HB2.out)).mono ?_; rintro e w3 ⟨rfl, hb⟩; have HB3 := Lib.hid (HB2.out.trans hb); clear hb))
    go_ret
    exact ⟨rfl, HB3.out⟩
end Go.Proofs.YtgbppdgpengcoaaDoor
