/-
  The law CompileErrorsInOrder, walked.
-/
import Derived.Test.YtpcapmdfjmpdiaaGreatDoorZJl17
namespace Go.Proofs.YtpcapmdfjmpdiaaGreatDoor
open Go.RowKit Go.BigFrame NT
set_option linter.unusedVariables false
set_option linter.unusedSimpArgs false
set_option maxRecDepth 100000

set_option maxHeartbeats 12800000 in
theorem jeLaw (s : ByteArray) (w : World) (hT : MX w) (hs : s.size ≤ maxLen) :
    Calls Tryz.prog 5 #[.string s] w fun e w' => e = .returned (.bool true) ∧ Below w.heap.size w w' := by
  have hs2 : (s.size : Int) ≤ 9223372036854775807 := by have := hs; unfold maxLen at this; omega
  have HT := Lib.hid hT
  have HAL := Lib.hid (fun (W : World) (hb : Bel w W) => alive_c W (hT.bel hb))
  by_cases hbig : 5000 < s.size
  · have hi : (5000 : Int) < (s.size : Int) := by omega
    clear hs hT
    go_enter Tryz.func5, Tryz.ntmps5
    go_wp2_with (go_at_call 9; ((with_reducible refine (HAL.out _ (Bel.refl _)).mono ?_); rintro e w1 ⟨rfl, hb⟩; have HB1 := Lib.hid hb; clear hb))
    go_ret
    exact ⟨rfl, HB1.out⟩
  have hi : ¬ (5000 : Int) < (s.size : Int) := by omega
  have hs5 : s.size ≤ 5000 := by omega
  obtain ⟨r, hlo, _⟩ := lexOf_total s
  obtain ⟨hne, hpa⟩ := par17 hs5 hlo
  have HCO := Lib.hid (pcompile_c s hs5 hlo w hT)
  have HPA := Lib.hid (fun W (hM : MX W) => parse_c s r W hM hlo)
  cases hq : parR r with
  | error ak =>
    obtain ⟨a, k⟩ := ak
    have hk0 := hne a k hq
    rw [hq] at HCO HPA
    have hk1 : ((k : Int) != 0) = true := bne_iff_ne.2 (by omega)
    have hk2 : ((k : Int) == 0) = false := by rw [beq_eq_false_iff_ne]; omega
    have HCO2 : Hid (Calls Tryz.prog 10 #[.string s] w (CdP ([], (a : Nat), k) w)) := HCO
    clear HCO hlo hne hpa hq hT hs hk0
    unfold CdP at HCO2
    dsimp only [List.length_nil] at HCO2
    go_enter Tryz.func5, Tryz.ntmps5
    go_wp2_with (first
      | (go_at_call 10; ((with_reducible refine (HCO2.out).mono ?_); rintro e w1 ⟨hb, A1, c1, rfl, hI⟩; have HB1 := Lib.hid hb; clear hb hI))
      | (go_at_call 15; ((with_reducible refine (HPA.out _ (HT.out.bel HB1.out)).mono ?_); rintro e w2 ⟨hb, rfl⟩; have HB2 := Lib.hid (HB1.out.trans hb); clear hb))
      | (go_at_call 9; ((with_reducible refine (HAL.out _ HB2.out).mono ?_); rintro e w3 ⟨rfl, hb⟩; have HB3 := Lib.hid (HB2.out.trans hb); clear hb)))
    go_ret
    exact ⟨rfl, HB3.out⟩
  | ok l =>
    have HPL := Lib.hid (hpa l hq)
    rw [hq] at HCO HPA
    have HCO2 : Hid (Calls Tryz.prog 10 #[.string s] w (CdP (codeN l) w)) := HCO
    clear HCO hlo hne hpa hq hT hs
    obtain ⟨ca, ck, hck⟩ : ∃ ca ck, checkN l = (ca, ck) := ⟨_, _, rfl⟩
    obtain ⟨es, ia, ik, hik⟩ : ∃ es ia ik, inferI l = (es, ia, ik) := ⟨_, _, _, rfl⟩
    have HCK := Lib.hid hck
    have HIK := Lib.hid hik
    have HDC := Lib.hid (fun (W : World) (A : Option Addr) (c : Nat) (m : List NT) (he : ers m = l) (h : Row W (Lt W) A c m) (ht : tots m ≤ 5000) => show Calls Tryz.prog 16 #[.slice A m.length c] W (fun e w' => Bel W w' ∧ e = .returned (.tuple #[.int .i64 ca, .int .i64 (ck : Nat)])) by
      have h1 := dcheckK_c h ht
      rw [← checkN_ers, he, HCK.out] at h1
      exact h1)
    have HDI := Lib.hid (fun (W : World) (A : Option Addr) (c : Nat) (m : List NT) (he : ers m = l) (h : Row W (Lt W) A c m) (ht : tots m ≤ 5000) => show Calls Tryz.prog 17 #[.slice A m.length c] W (InP (es, ia, ik) W) by
      have h1 := infer_c h (by omega)
      rw [← inferI_ers, he, HIK.out] at h1
      exact h1)
    by_cases hc0 : ck = 0
    · by_cases hi0 : ik = 0
      · have hcn : codeN l = (codeW l es, 0, 0) := by unfold codeN; rw [hck, hik, if_neg (by simpa using hc0), if_neg (by simpa using hi0)]
        rw [hcn] at HCO2
        obtain ⟨n, hn⟩ : ∃ n, n = (codeW l es).length := ⟨_, rfl⟩
        have hn0 : (0 : Int) < (n : Int) := by have := codeW_len l es; omega
        have hn1 : 0 < n := by omega
        unfold CdP at HCO2
        dsimp only at HCO2
        rw [← hn] at HCO2
        subst hc0 hi0
        clear hck hik hcn hn
        go_enter Tryz.func5, Tryz.ntmps5
        go_wp2_with (first
          | (go_at_call 10; ((with_reducible refine (HCO2.out).mono ?_); rintro e w1 ⟨hb, A1, c1, rfl, hI⟩; have HB1 := Lib.hid hb; clear hb hI))
          | (go_at_call 15; ((with_reducible refine (HPA.out _ (HT.out.bel HB1.out)).mono ?_); rintro e w2 hp; obtain ⟨hb, A2, c2, m, he, hrow, rfl, htm, _⟩ := hp.row17 HPL.out; have HB2 := Lib.hid (HB1.out.trans hb); have HROW := Lib.hid hrow; have HTM := Lib.hid htm; have HE := Lib.hid he; clear hp hb hrow htm he))
          | (go_at_call 16; ((with_reducible refine (HDC.out _ _ _ _ HE.out HROW.out HTM.out).mono ?_); rintro e w3 ⟨hb, rfl⟩; have HB3 := Lib.hid (HB2.out.trans hb); have HROW3 := Lib.hid (HROW.out.bel hb); clear hb))
          | (go_at_call 17; ((with_reducible refine (HDI.out _ _ _ _ HE.out HROW3.out HTM.out).mono ?_); rintro e w4 ⟨hb, A4, n4, c4, rfl, hE4⟩; have HB4 := Lib.hid (HB3.out.trans hb); clear hb hE4))
          | (go_at_call 9; ((with_reducible refine (HAL.out _ HB4.out).mono ?_); rintro e w5 ⟨rfl, hb⟩; have HB5 := Lib.hid (HB4.out.trans hb); clear hb)))
        go_ret
        exact ⟨rfl, HB5.out⟩
      · have hcn : codeN l = ([], ia, ik) := by unfold codeN; rw [hck, hik, if_neg (by simpa using hc0), if_pos hi0]
        rw [hcn] at HCO2
        have hk1 : ((ik : Int) != 0) = true := bne_iff_ne.2 (by omega)
        have hk2 : ((ik : Int) == 0) = false := by rw [beq_eq_false_iff_ne]; omega
        unfold CdP at HCO2
        dsimp only [List.length_nil] at HCO2
        subst hc0
        clear hck hik hcn hi0
        go_enter Tryz.func5, Tryz.ntmps5
        go_wp2_with (first
          | (go_at_call 10; ((with_reducible refine (HCO2.out).mono ?_); rintro e w1 ⟨hb, A1, c1, rfl, hI⟩; have HB1 := Lib.hid hb; clear hb hI))
          | (go_at_call 15; ((with_reducible refine (HPA.out _ (HT.out.bel HB1.out)).mono ?_); rintro e w2 hp; obtain ⟨hb, A2, c2, m, he, hrow, rfl, htm, _⟩ := hp.row17 HPL.out; have HB2 := Lib.hid (HB1.out.trans hb); have HROW := Lib.hid hrow; have HTM := Lib.hid htm; have HE := Lib.hid he; clear hp hb hrow htm he))
          | (go_at_call 16; ((with_reducible refine (HDC.out _ _ _ _ HE.out HROW.out HTM.out).mono ?_); rintro e w3 ⟨hb, rfl⟩; have HB3 := Lib.hid (HB2.out.trans hb); have HROW3 := Lib.hid (HROW.out.bel hb); clear hb))
          | (go_at_call 17; ((with_reducible refine (HDI.out _ _ _ _ HE.out HROW3.out HTM.out).mono ?_); rintro e w4 ⟨hb, A4, n4, c4, rfl, hE4⟩; have HB4 := Lib.hid (HB3.out.trans hb); clear hb hE4))
          | (go_at_call 9; ((with_reducible refine (HAL.out _ HB4.out).mono ?_); rintro e w5 ⟨rfl, hb⟩; have HB5 := Lib.hid (HB4.out.trans hb); clear hb)))
        go_ret
        exact ⟨rfl, HB5.out⟩
    · have hcn : codeN l = ([], ca, ck) := by unfold codeN; rw [hck, if_pos hc0]
      rw [hcn] at HCO2
      have hk1 : ((ck : Int) != 0) = true := bne_iff_ne.2 (by omega)
      have hk2 : ((ck : Int) == 0) = false := by rw [beq_eq_false_iff_ne]; omega
      unfold CdP at HCO2
      dsimp only [List.length_nil] at HCO2
      clear hck hik hcn hc0
      go_enter Tryz.func5, Tryz.ntmps5
      go_wp2_with (first
        | (go_at_call 10; ((with_reducible refine (HCO2.out).mono ?_); rintro e w1 ⟨hb, A1, c1, rfl, hI⟩; have HB1 := Lib.hid hb; clear hb hI))
        | (go_at_call 15; ((with_reducible refine (HPA.out _ (HT.out.bel HB1.out)).mono ?_); rintro e w2 hp; obtain ⟨hb, A2, c2, m, he, hrow, rfl, htm, _⟩ := hp.row17 HPL.out; have HB2 := Lib.hid (HB1.out.trans hb); have HROW := Lib.hid hrow; have HTM := Lib.hid htm; have HE := Lib.hid he; clear hp hb hrow htm he))
        | (go_at_call 16; ((with_reducible refine (HDC.out _ _ _ _ HE.out HROW.out HTM.out).mono ?_); rintro e w3 ⟨hb, rfl⟩; have HB3 := Lib.hid (HB2.out.trans hb); clear hb))
        | (go_at_call 9; ((with_reducible refine (HAL.out _ HB3.out).mono ?_); rintro e w4 ⟨rfl, hb⟩; have HB4 := Lib.hid (HB3.out.trans hb); clear hb)))
      go_ret
      exact ⟨rfl, HB4.out⟩
end Go.Proofs.YtpcapmdfjmpdiaaGreatDoor
