/-
  The laws PrinterEqualMatchesReference and PrinterEqualIsEquivalence, walked.
-/
import Derived.Test.YthbcjljkpnkakaaMa13
import Derived.Test.YthbcjljkpnkakaaSt13
import Derived.Test.YthbcjljkpnkakaaZe13
namespace Go.Proofs.Ythbcjljkpnkakaa
open Go.RowKit Go.BigFrame NT
set_option linter.unusedVariables false
set_option linter.unusedSimpArgs false

theorem sameN_fmt {l m : List NT} (hl : Parsed l) (hm : Parsed m) : sameN l m = true ↔ fmtNs l = fmtNs m := by
  rw [hl.inj hm, ← keys_false, ← keys_false]
  constructor
  · intro h
    apply Classical.byContradiction
    intro h2
    rw [sameN_no h2] at h; cases h
  · exact sameN_yes
theorem sameN_strip {l m ms : List NT} (h1 : ers m = l) (h2 : ers ms = strips m) : keys false m = keys false ms := by
  rw [keys_false, keys_false, ← strips_ers ms, h2, strips_strips]
theorem tots_strip_of : ∀ l : List NT, (∀ x, x ∈ l → tot x.strip = tot x) → tots (strips l) = tots l
  | [], _ => by simp [strips]
  | x :: l, h => by rw [strips_cons, tots_cons, tots_cons, h x (by simp), tots_strip_of l fun y hy => h y (by simp [hy])]
theorem tot_strip (t : NT) : tot t.strip = tot t := by
  refine NT.ind (M := fun t => tot t.strip = tot t) (fun t h1 h2 => ?_) t
  rw [tot_eq t, strip_mk, tot_eq]
  show 1 + tots (strips t.b) + tots (strips t.l) = _
  rw [tots_strip_of _ h1, tots_strip_of _ h2]
theorem tots_strips (l : List NT) : tots (strips l) = tots l := tots_strip_of l fun x _ => tot_strip x
theorem tots_le {l m ms : List NT} (h : ers ms = strips m) (h1 : ers m = l) (hp : Parsed l) : tots ms ≤ 100000 := by
  rw [← tots_ers, h, tots_strips, ← tots_ers, h1]
  have := hp.tots
  omega
theorem pres_strip_row {m ms : List NT} (h2 : ers ms = strips m) : ∀ a ∈ pres ms, a = 0 := by
  intro a ha
  rw [← pres_er, h2] at ha
  exact pres_strips m a ha
set_option maxRecDepth 100000 in
set_option maxHeartbeats 6400000 in
theorem emLaw (a b : ByteArray) (w : World) (ha : a.size ≤ maxLen) (hb : b.size ≤ maxLen) :
    Calls Try.prog 4 #[.string a, .string b] w fun e w' => e = .returned (.bool true) ∧ Below w.heap.size w w' := by
  obtain ⟨l1, hl1, hP1⟩ := parsed_ex a
  obtain ⟨l2, hl2, hP2⟩ := parsed_ex b
  have HPA := Lib.hid hP1
  have HPB := Lib.hid hP2
  have HLA := Lib.hid hl1
  have HLB := Lib.hid hl2
  have HAL := Lib.hid (fun W => alive_c W)
  have hqf := sameN_fmt hl1 hl2
  obtain ⟨q, hq⟩ : ∃ q, q = sameN l1 l2 := ⟨_, rfl⟩
  have HQ := Lib.hid hq.symm
  rw [← hq] at hqf
  clear hP1 hP2 hl1 hl2 ha hb hq
  obtain ⟨f1, hf1⟩ : ∃ f, f = ofL (fmtNs l1) := ⟨_, rfl⟩
  obtain ⟨f2, hf2⟩ : ∃ f, f = ofL (fmtNs l2) := ⟨_, rfl⟩
  have HF1 := Lib.hid hf1.symm
  have HF2 := Lib.hid hf2.symm
  cases q with
  | true =>
    have hff : f2 = f1 := by rw [hf1, hf2, hqf.1 rfl]
    subst hff
    clear hf1 hf2 hqf
    go_enter Try.func4, Try.ntmps4
    go_wp2_with (first | (go_at_call 7; ((with_reducible refine (HPA.out w).mono ?_); rintro e w1 hp; obtain ⟨hb, A1, c1, m1, rfl, hr, he⟩ := hp.row; have HB1 := Lib.hid (hb); have HE1 := Lib.hid he; clear hp he; have HX1 := Lib.hid hr; clear hr; clear hb)) | (go_at_call 7; ((with_reducible refine (HPB.out w1).mono ?_); rintro e w2 hp; obtain ⟨hb, A2, c2, m2, rfl, hr, he⟩ := hp.row; have HB2 := Lib.hid (HB1.out.trans hb); have HX2 := Lib.hid (HX1.out.bel hb); have HE2 := Lib.hid he; clear hp he; have HY2 := Lib.hid hr; clear hr; clear hb)) | (go_at_call 11; ((with_reducible refine (pstrip_c HX2.out (by have := HLA.out.tots; rw [← HE1.out, tots_ers] at this; omega)).mono ?_); rintro e w3 ⟨hb, B3, d3, ms, rfl, hr, he⟩; have HB3 := Lib.hid (HB2.out.trans hb); have HX3 := Lib.hid (HX2.out.bel hb); have HY3 := Lib.hid (HY2.out.bel hb); have HES := Lib.hid he; have HTS := Lib.hid (tots_le he HE1.out HLA.out); have hr := hr.lt; clear he; have HS3 := Lib.hid hr; clear hr; clear hb)) | (go_at_call 12; ((with_reducible refine (zero_c HS3.out (pres_strip_row HES.out)).mono ?_); rintro e w4 ⟨rfl, hb⟩; have HB4 := Lib.hid (HB3.out.trans hb); have HX4 := Lib.hid (HX3.out.bel hb); have HY4 := Lib.hid (HY3.out.bel hb); have HS4 := Lib.hid (HS3.out.bel hb); clear hb)) | (go_at_call 13; ((with_reducible refine (equal_c false HX4.out HS4.out (sameN_strip HE1.out HES.out)).mono ?_); rintro e w5 ⟨rfl, hb⟩; have HB5 := Lib.hid (HB4.out.trans hb); have HX5 := Lib.hid (HX4.out.bel hb); have HY5 := Lib.hid (HY4.out.bel hb); have HS5 := Lib.hid (HS4.out.bel hb); clear hb)) | (go_at_call 7; ((with_reducible refine (HPA.out w5).mono ?_); rintro e w6 hp; obtain ⟨hb, A6, c6, m6, rfl, hr, he⟩ := hp.row; have HB6 := Lib.hid (HB5.out.trans hb); have HX6 := Lib.hid (HX5.out.bel hb); have HY6 := Lib.hid (HY5.out.bel hb); have HS6 := Lib.hid (HS5.out.bel hb); have HE6 := Lib.hid he; clear hp he; have HZ6 := Lib.hid hr; clear hr; clear hb)) | (go_at_call 13; ((with_reducible refine (equal_c true HX6.out HZ6.out (by rw [keys_true, keys_true, HE1.out, HE6.out])).mono ?_); rintro e w7 ⟨rfl, hb⟩; have HB7 := Lib.hid (HB6.out.trans hb); have HX7 := Lib.hid (HX6.out.bel hb); have HY7 := Lib.hid (HY6.out.bel hb); have HS7 := Lib.hid (HS6.out.bel hb); have HZ7 := Lib.hid (HZ6.out.bel hb); clear hb)) | (go_at_call 8; ((with_reducible refine (HAL.out w7).mono ?_); rintro e w8 ⟨rfl, hb⟩; have HB8 := Lib.hid (HB7.out.trans hb); have HX8 := Lib.hid (HX7.out.bel hb); have HY8 := Lib.hid (HY7.out.bel hb); have HS8 := Lib.hid (HS7.out.bel hb); have HZ8 := Lib.hid (HZ7.out.bel hb); clear hb)) | (go_at_call 14; ((with_reducible refine (pe_c HE1.out HE2.out HLB.out HX8.out HY8.out).mono ?_); rintro e w9 ⟨rfl, hb⟩; rw [HQ.out]; have HB9 := Lib.hid (HB8.out.trans hb); have HX9 := Lib.hid (HX8.out.bel hb); have HY9 := Lib.hid (HY8.out.bel hb); have HS9 := Lib.hid (HS8.out.bel hb); have HZ9 := Lib.hid (HZ8.out.bel hb); clear hb)) | (go_at_call 13; ((with_reducible refine (re_c HE1.out HE2.out HX9.out HY9.out).mono ?_); rintro e w10 ⟨rfl, hb⟩; rw [HQ.out]; have HB10 := Lib.hid (HB9.out.trans hb); have HX10 := Lib.hid (HX9.out.bel hb); have HY10 := Lib.hid (HY9.out.bel hb); have HS10 := Lib.hid (HS9.out.bel hb); have HZ10 := Lib.hid (HZ9.out.bel hb); clear hb)) | (go_at_call 14; ((with_reducible refine (pequal_c HX10.out HS10.out HTS.out).mono ?_); rintro e w11 ⟨rfl, hb⟩; rw [sameN_yes (sameN_strip HE1.out HES.out)]; have HB11 := Lib.hid (HB10.out.trans hb); have HX11 := Lib.hid (HX10.out.bel hb); have HY11 := Lib.hid (HY10.out.bel hb); have HS11 := Lib.hid (HS10.out.bel hb); have HZ11 := Lib.hid (HZ10.out.bel hb); clear hb)) | (go_at_call 14; ((with_reducible refine (pe_c HE1.out HE2.out HLB.out HX11.out HY11.out).mono ?_); rintro e w12 ⟨rfl, hb⟩; rw [HQ.out]; have HB12 := Lib.hid (HB11.out.trans hb); have HX12 := Lib.hid (HX11.out.bel hb); have HY12 := Lib.hid (HY11.out.bel hb); have HS12 := Lib.hid (HS11.out.bel hb); have HZ12 := Lib.hid (HZ11.out.bel hb); clear hb)) | (go_at_call 9; ((with_reducible refine (pf_c HLA.out HE1.out HX12.out).mono ?_); rintro e w13 ⟨rfl, hb⟩; rw [HF1.out]; have HB13 := Lib.hid (HB12.out.trans hb); have HX13 := Lib.hid (HX12.out.bel hb); have HY13 := Lib.hid (HY12.out.bel hb); have HS13 := Lib.hid (HS12.out.bel hb); have HZ13 := Lib.hid (HZ12.out.bel hb); clear hb)) | (go_at_call 9; ((with_reducible refine (pf_c HLB.out HE2.out HY13.out).mono ?_); rintro e w14 ⟨rfl, hb⟩; rw [HF2.out]; have HB14 := Lib.hid (HB13.out.trans hb); have HX14 := Lib.hid (HX13.out.bel hb); have HY14 := Lib.hid (HY13.out.bel hb); have HS14 := Lib.hid (HS13.out.bel hb); have HZ14 := Lib.hid (HZ13.out.bel hb); clear hb)))
    go_ret
    exact ⟨rfl, HB14.out⟩
  | false =>
    have hff : ¬ f1 = f2 := by
      intro h
      have h2 : fmtNs l1 = fmtNs l2 := by rw [hf1, hf2] at h; exact ofL_inj h
      have := hqf.2 h2
      cases this
    have hne : (f1.toList == f2.toList) = false := by rw [toL_beq13]; simpa using hff
    have hnp : ¬ f1.toList = f2.toList := fun h => by rw [h] at hne; simp at hne
    clear hf1 hf2 hqf
    go_enter Try.func4, Try.ntmps4
    go_wp2_with (first | (go_at_call 7; ((with_reducible refine (HPA.out w).mono ?_); rintro e w1 hp; obtain ⟨hb, A1, c1, m1, rfl, hr, he⟩ := hp.row; have HB1 := Lib.hid (hb); have HE1 := Lib.hid he; clear hp he; have HX1 := Lib.hid hr; clear hr; clear hb)) | (go_at_call 7; ((with_reducible refine (HPB.out w1).mono ?_); rintro e w2 hp; obtain ⟨hb, A2, c2, m2, rfl, hr, he⟩ := hp.row; have HB2 := Lib.hid (HB1.out.trans hb); have HX2 := Lib.hid (HX1.out.bel hb); have HE2 := Lib.hid he; clear hp he; have HY2 := Lib.hid hr; clear hr; clear hb)) | (go_at_call 11; ((with_reducible refine (pstrip_c HX2.out (by have := HLA.out.tots; rw [← HE1.out, tots_ers] at this; omega)).mono ?_); rintro e w3 ⟨hb, B3, d3, ms, rfl, hr, he⟩; have HB3 := Lib.hid (HB2.out.trans hb); have HX3 := Lib.hid (HX2.out.bel hb); have HY3 := Lib.hid (HY2.out.bel hb); have HES := Lib.hid he; have HTS := Lib.hid (tots_le he HE1.out HLA.out); have hr := hr.lt; clear he; have HS3 := Lib.hid hr; clear hr; clear hb)) | (go_at_call 12; ((with_reducible refine (zero_c HS3.out (pres_strip_row HES.out)).mono ?_); rintro e w4 ⟨rfl, hb⟩; have HB4 := Lib.hid (HB3.out.trans hb); have HX4 := Lib.hid (HX3.out.bel hb); have HY4 := Lib.hid (HY3.out.bel hb); have HS4 := Lib.hid (HS3.out.bel hb); clear hb)) | (go_at_call 13; ((with_reducible refine (equal_c false HX4.out HS4.out (sameN_strip HE1.out HES.out)).mono ?_); rintro e w5 ⟨rfl, hb⟩; have HB5 := Lib.hid (HB4.out.trans hb); have HX5 := Lib.hid (HX4.out.bel hb); have HY5 := Lib.hid (HY4.out.bel hb); have HS5 := Lib.hid (HS4.out.bel hb); clear hb)) | (go_at_call 7; ((with_reducible refine (HPA.out w5).mono ?_); rintro e w6 hp; obtain ⟨hb, A6, c6, m6, rfl, hr, he⟩ := hp.row; have HB6 := Lib.hid (HB5.out.trans hb); have HX6 := Lib.hid (HX5.out.bel hb); have HY6 := Lib.hid (HY5.out.bel hb); have HS6 := Lib.hid (HS5.out.bel hb); have HE6 := Lib.hid he; clear hp he; have HZ6 := Lib.hid hr; clear hr; clear hb)) | (go_at_call 13; ((with_reducible refine (equal_c true HX6.out HZ6.out (by rw [keys_true, keys_true, HE1.out, HE6.out])).mono ?_); rintro e w7 ⟨rfl, hb⟩; have HB7 := Lib.hid (HB6.out.trans hb); have HX7 := Lib.hid (HX6.out.bel hb); have HY7 := Lib.hid (HY6.out.bel hb); have HS7 := Lib.hid (HS6.out.bel hb); have HZ7 := Lib.hid (HZ6.out.bel hb); clear hb)) | (go_at_call 8; ((with_reducible refine (HAL.out w7).mono ?_); rintro e w8 ⟨rfl, hb⟩; have HB8 := Lib.hid (HB7.out.trans hb); have HX8 := Lib.hid (HX7.out.bel hb); have HY8 := Lib.hid (HY7.out.bel hb); have HS8 := Lib.hid (HS7.out.bel hb); have HZ8 := Lib.hid (HZ7.out.bel hb); clear hb)) | (go_at_call 14; ((with_reducible refine (pe_c HE1.out HE2.out HLB.out HX8.out HY8.out).mono ?_); rintro e w9 ⟨rfl, hb⟩; rw [HQ.out]; have HB9 := Lib.hid (HB8.out.trans hb); have HX9 := Lib.hid (HX8.out.bel hb); have HY9 := Lib.hid (HY8.out.bel hb); have HS9 := Lib.hid (HS8.out.bel hb); have HZ9 := Lib.hid (HZ8.out.bel hb); clear hb)) | (go_at_call 13; ((with_reducible refine (re_c HE1.out HE2.out HX9.out HY9.out).mono ?_); rintro e w10 ⟨rfl, hb⟩; rw [HQ.out]; have HB10 := Lib.hid (HB9.out.trans hb); have HX10 := Lib.hid (HX9.out.bel hb); have HY10 := Lib.hid (HY9.out.bel hb); have HS10 := Lib.hid (HS9.out.bel hb); have HZ10 := Lib.hid (HZ9.out.bel hb); clear hb)) | (go_at_call 14; ((with_reducible refine (pequal_c HX10.out HS10.out HTS.out).mono ?_); rintro e w11 ⟨rfl, hb⟩; rw [sameN_yes (sameN_strip HE1.out HES.out)]; have HB11 := Lib.hid (HB10.out.trans hb); have HX11 := Lib.hid (HX10.out.bel hb); have HY11 := Lib.hid (HY10.out.bel hb); have HS11 := Lib.hid (HS10.out.bel hb); have HZ11 := Lib.hid (HZ10.out.bel hb); clear hb)) | (go_at_call 14; ((with_reducible refine (pe_c HE1.out HE2.out HLB.out HX11.out HY11.out).mono ?_); rintro e w12 ⟨rfl, hb⟩; rw [HQ.out]; have HB12 := Lib.hid (HB11.out.trans hb); have HX12 := Lib.hid (HX11.out.bel hb); have HY12 := Lib.hid (HY11.out.bel hb); have HS12 := Lib.hid (HS11.out.bel hb); have HZ12 := Lib.hid (HZ11.out.bel hb); clear hb)) | (go_at_call 9; ((with_reducible refine (pf_c HLA.out HE1.out HX12.out).mono ?_); rintro e w13 ⟨rfl, hb⟩; rw [HF1.out]; have HB13 := Lib.hid (HB12.out.trans hb); have HX13 := Lib.hid (HX12.out.bel hb); have HY13 := Lib.hid (HY12.out.bel hb); have HS13 := Lib.hid (HS12.out.bel hb); have HZ13 := Lib.hid (HZ12.out.bel hb); clear hb)) | (go_at_call 9; ((with_reducible refine (pf_c HLB.out HE2.out HY13.out).mono ?_); rintro e w14 ⟨rfl, hb⟩; rw [HF2.out]; have HB14 := Lib.hid (HB13.out.trans hb); have HX14 := Lib.hid (HX13.out.bel hb); have HY14 := Lib.hid (HY13.out.bel hb); have HS14 := Lib.hid (HS13.out.bel hb); have HZ14 := Lib.hid (HZ13.out.bel hb); clear hb)))
    go_ret
    exact ⟨rfl, HB14.out⟩
theorem sameN_true {l m : List NT} : sameN l m = true ↔ keys false l = keys false m := by
  constructor
  · intro h
    apply Classical.byContradiction
    intro h2
    rw [sameN_no h2] at h; cases h
  · exact sameN_yes
theorem sameN_comm (l m : List NT) : sameN m l = sameN l m := by
  rw [Bool.eq_iff_iff, sameN_true, sameN_true]
  exact ⟨fun h => h.symm, fun h => h.symm⟩
set_option maxRecDepth 100000 in
set_option maxHeartbeats 6400000 in
theorem eeLaw (a b c : ByteArray) (w : World) (ha : a.size ≤ maxLen) (hb : b.size ≤ maxLen) (hc : c.size ≤ maxLen) :
    Calls Try.prog 6 #[.string a, .string b, .string c] w fun e w' => e = .returned (.bool true) ∧ Below w.heap.size w w' := by
  obtain ⟨l1, hl1, hP1⟩ := parsed_ex a
  obtain ⟨l2, hl2, hP2⟩ := parsed_ex b
  obtain ⟨l3, hl3, hP3⟩ := parsed_ex c
  have HPA := Lib.hid hP1
  have HPB := Lib.hid hP2
  have HPC := Lib.hid hP3
  have HLA := Lib.hid hl1
  have HLB := Lib.hid hl2
  have HLC := Lib.hid hl3
  have HAL := Lib.hid (fun W => alive_c W)
  have hqf := sameN_fmt hl1 hl2
  obtain ⟨x, hx⟩ : ∃ q, q = sameN l1 l2 := ⟨_, rfl⟩
  obtain ⟨y, hy⟩ : ∃ q, q = sameN l2 l3 := ⟨_, rfl⟩
  obtain ⟨z, hz⟩ : ∃ q, q = sameN l1 l3 := ⟨_, rfl⟩
  have HQX := Lib.hid hx.symm
  have HQY := Lib.hid hy.symm
  have HQZ := Lib.hid hz.symm
  have HQS : Hid (sameN l1 l1 = true) := Lib.hid (sameN_yes rfl)
  have HQR : Hid (sameN l2 l1 = x) := Lib.hid (by rw [hx, sameN_comm])
  have htr : x = true → y = true → z = true := by
    intro h1 h2
    rw [hx, sameN_true] at h1
    rw [hy, sameN_true] at h2
    rw [hz, sameN_true, h1, h2]
  rw [← hx] at hqf
  clear hP1 hP2 hP3 hl1 hl2 hl3 ha hb hc hx hy hz
  obtain ⟨f1, hf1⟩ : ∃ f, f = ofL (fmtNs l1) := ⟨_, rfl⟩
  obtain ⟨f2, hf2⟩ : ∃ f, f = ofL (fmtNs l2) := ⟨_, rfl⟩
  have HF1 := Lib.hid hf1.symm
  have HF2 := Lib.hid hf2.symm
  cases x with
  | true =>
    have hff : f2 = f1 := by rw [hf1, hf2, hqf.1 rfl]
    subst hff
    clear hf1 hf2 hqf
    cases y with
    | true =>
      obtain rfl := htr rfl rfl
      clear htr
      go_enter Try.func6, Try.ntmps6
      go_wp2_with (first | (go_at_call 7; ((with_reducible refine (HPA.out w).mono ?_); rintro e w1 hp; obtain ⟨hb, A1, c1, m1, rfl, hr, he⟩ := hp.row; have HB1 := Lib.hid (hb); have HE1 := Lib.hid he; clear hp he; have HX1 := Lib.hid hr; clear hr; clear hb)) | (go_at_call 7; ((with_reducible refine (HPB.out w1).mono ?_); rintro e w2 hp; obtain ⟨hb, A2, c2, m2, rfl, hr, he⟩ := hp.row; have HB2 := Lib.hid (HB1.out.trans hb); have HX2 := Lib.hid (HX1.out.bel hb); have HE2 := Lib.hid he; clear hp he; have HY2 := Lib.hid hr; clear hr; clear hb)) | (go_at_call 7; ((with_reducible refine (HPC.out w2).mono ?_); rintro e w3 hp; obtain ⟨hb, A3, c3, m3, rfl, hr, he⟩ := hp.row; have HB3 := Lib.hid (HB2.out.trans hb); have HX3 := Lib.hid (HX2.out.bel hb); have HY3 := Lib.hid (HY2.out.bel hb); have HE3 := Lib.hid he; clear hp he; have HV3 := Lib.hid hr; clear hr; clear hb)) | (go_at_call 14; ((with_reducible refine (pe_c HE1.out HE2.out HLB.out HX3.out HY3.out).mono ?_); rintro e w4 ⟨rfl, hb⟩; rw [HQX.out]; have HB4 := Lib.hid (HB3.out.trans hb); have HX4 := Lib.hid (HX3.out.bel hb); have HY4 := Lib.hid (HY3.out.bel hb); have HV4 := Lib.hid (HV3.out.bel hb); clear hb)) | (go_at_call 14; ((with_reducible refine (pe_c HE2.out HE3.out HLC.out HY4.out HV4.out).mono ?_); rintro e w5 ⟨rfl, hb⟩; rw [HQY.out]; have HB5 := Lib.hid (HB4.out.trans hb); have HX5 := Lib.hid (HX4.out.bel hb); have HY5 := Lib.hid (HY4.out.bel hb); have HV5 := Lib.hid (HV4.out.bel hb); clear hb)) | (go_at_call 14; ((with_reducible refine (pe_c HE1.out HE3.out HLC.out HX5.out HV5.out).mono ?_); rintro e w6 ⟨rfl, hb⟩; rw [HQZ.out]; have HB6 := Lib.hid (HB5.out.trans hb); have HX6 := Lib.hid (HX5.out.bel hb); have HY6 := Lib.hid (HY5.out.bel hb); have HV6 := Lib.hid (HV5.out.bel hb); clear hb)) | (go_at_call 14; ((with_reducible refine (pe_c HE1.out HE1.out HLA.out HX6.out HX6.out).mono ?_); rintro e w7 ⟨rfl, hb⟩; rw [HQS.out]; have HB7 := Lib.hid (HB6.out.trans hb); have HX7 := Lib.hid (HX6.out.bel hb); have HY7 := Lib.hid (HY6.out.bel hb); have HV7 := Lib.hid (HV6.out.bel hb); clear hb)) | (go_at_call 14; ((with_reducible refine (pe_c HE2.out HE1.out HLA.out HY7.out HX7.out).mono ?_); rintro e w8 ⟨rfl, hb⟩; rw [HQR.out]; have HB8 := Lib.hid (HB7.out.trans hb); have HX8 := Lib.hid (HX7.out.bel hb); have HY8 := Lib.hid (HY7.out.bel hb); have HV8 := Lib.hid (HV7.out.bel hb); clear hb)) | (go_at_call 9; ((with_reducible refine (pf_c HLA.out HE1.out HX8.out).mono ?_); rintro e w9 ⟨rfl, hb⟩; rw [HF1.out]; have HB9 := Lib.hid (HB8.out.trans hb); have HX9 := Lib.hid (HX8.out.bel hb); have HY9 := Lib.hid (HY8.out.bel hb); have HV9 := Lib.hid (HV8.out.bel hb); clear hb)) | (go_at_call 9; ((with_reducible refine (pf_c HLB.out HE2.out HY9.out).mono ?_); rintro e w10 ⟨rfl, hb⟩; rw [HF2.out]; have HB10 := Lib.hid (HB9.out.trans hb); have HX10 := Lib.hid (HX9.out.bel hb); have HY10 := Lib.hid (HY9.out.bel hb); have HV10 := Lib.hid (HV9.out.bel hb); clear hb)) | (go_at_call 8; ((with_reducible refine (HAL.out w10).mono ?_); rintro e w11 ⟨rfl, hb⟩; have HB11 := Lib.hid (HB10.out.trans hb); have HX11 := Lib.hid (HX10.out.bel hb); have HY11 := Lib.hid (HY10.out.bel hb); have HV11 := Lib.hid (HV10.out.bel hb); clear hb)))
      go_ret
      exact ⟨rfl, HB11.out⟩
    | false =>
      clear htr
      go_enter Try.func6, Try.ntmps6
      go_wp2_with (first | (go_at_call 7; ((with_reducible refine (HPA.out w).mono ?_); rintro e w1 hp; obtain ⟨hb, A1, c1, m1, rfl, hr, he⟩ := hp.row; have HB1 := Lib.hid (hb); have HE1 := Lib.hid he; clear hp he; have HX1 := Lib.hid hr; clear hr; clear hb)) | (go_at_call 7; ((with_reducible refine (HPB.out w1).mono ?_); rintro e w2 hp; obtain ⟨hb, A2, c2, m2, rfl, hr, he⟩ := hp.row; have HB2 := Lib.hid (HB1.out.trans hb); have HX2 := Lib.hid (HX1.out.bel hb); have HE2 := Lib.hid he; clear hp he; have HY2 := Lib.hid hr; clear hr; clear hb)) | (go_at_call 7; ((with_reducible refine (HPC.out w2).mono ?_); rintro e w3 hp; obtain ⟨hb, A3, c3, m3, rfl, hr, he⟩ := hp.row; have HB3 := Lib.hid (HB2.out.trans hb); have HX3 := Lib.hid (HX2.out.bel hb); have HY3 := Lib.hid (HY2.out.bel hb); have HE3 := Lib.hid he; clear hp he; have HV3 := Lib.hid hr; clear hr; clear hb)) | (go_at_call 14; ((with_reducible refine (pe_c HE1.out HE2.out HLB.out HX3.out HY3.out).mono ?_); rintro e w4 ⟨rfl, hb⟩; rw [HQX.out]; have HB4 := Lib.hid (HB3.out.trans hb); have HX4 := Lib.hid (HX3.out.bel hb); have HY4 := Lib.hid (HY3.out.bel hb); have HV4 := Lib.hid (HV3.out.bel hb); clear hb)) | (go_at_call 14; ((with_reducible refine (pe_c HE2.out HE3.out HLC.out HY4.out HV4.out).mono ?_); rintro e w5 ⟨rfl, hb⟩; rw [HQY.out]; have HB5 := Lib.hid (HB4.out.trans hb); have HX5 := Lib.hid (HX4.out.bel hb); have HY5 := Lib.hid (HY4.out.bel hb); have HV5 := Lib.hid (HV4.out.bel hb); clear hb)) | (go_at_call 14; ((with_reducible refine (pe_c HE1.out HE3.out HLC.out HX5.out HV5.out).mono ?_); rintro e w6 ⟨rfl, hb⟩; rw [HQZ.out]; have HB6 := Lib.hid (HB5.out.trans hb); have HX6 := Lib.hid (HX5.out.bel hb); have HY6 := Lib.hid (HY5.out.bel hb); have HV6 := Lib.hid (HV5.out.bel hb); clear hb)) | (go_at_call 14; ((with_reducible refine (pe_c HE1.out HE1.out HLA.out HX6.out HX6.out).mono ?_); rintro e w7 ⟨rfl, hb⟩; rw [HQS.out]; have HB7 := Lib.hid (HB6.out.trans hb); have HX7 := Lib.hid (HX6.out.bel hb); have HY7 := Lib.hid (HY6.out.bel hb); have HV7 := Lib.hid (HV6.out.bel hb); clear hb)) | (go_at_call 14; ((with_reducible refine (pe_c HE2.out HE1.out HLA.out HY7.out HX7.out).mono ?_); rintro e w8 ⟨rfl, hb⟩; rw [HQR.out]; have HB8 := Lib.hid (HB7.out.trans hb); have HX8 := Lib.hid (HX7.out.bel hb); have HY8 := Lib.hid (HY7.out.bel hb); have HV8 := Lib.hid (HV7.out.bel hb); clear hb)) | (go_at_call 9; ((with_reducible refine (pf_c HLA.out HE1.out HX8.out).mono ?_); rintro e w9 ⟨rfl, hb⟩; rw [HF1.out]; have HB9 := Lib.hid (HB8.out.trans hb); have HX9 := Lib.hid (HX8.out.bel hb); have HY9 := Lib.hid (HY8.out.bel hb); have HV9 := Lib.hid (HV8.out.bel hb); clear hb)) | (go_at_call 9; ((with_reducible refine (pf_c HLB.out HE2.out HY9.out).mono ?_); rintro e w10 ⟨rfl, hb⟩; rw [HF2.out]; have HB10 := Lib.hid (HB9.out.trans hb); have HX10 := Lib.hid (HX9.out.bel hb); have HY10 := Lib.hid (HY9.out.bel hb); have HV10 := Lib.hid (HV9.out.bel hb); clear hb)) | (go_at_call 8; ((with_reducible refine (HAL.out w10).mono ?_); rintro e w11 ⟨rfl, hb⟩; have HB11 := Lib.hid (HB10.out.trans hb); have HX11 := Lib.hid (HX10.out.bel hb); have HY11 := Lib.hid (HY10.out.bel hb); have HV11 := Lib.hid (HV10.out.bel hb); clear hb)))
      go_ret
      exact ⟨rfl, HB11.out⟩
  | false =>
    clear hf1 hf2 hqf htr
    go_enter Try.func6, Try.ntmps6
    go_wp2_with (first | (go_at_call 7; ((with_reducible refine (HPA.out w).mono ?_); rintro e w1 hp; obtain ⟨hb, A1, c1, m1, rfl, hr, he⟩ := hp.row; have HB1 := Lib.hid (hb); have HE1 := Lib.hid he; clear hp he; have HX1 := Lib.hid hr; clear hr; clear hb)) | (go_at_call 7; ((with_reducible refine (HPB.out w1).mono ?_); rintro e w2 hp; obtain ⟨hb, A2, c2, m2, rfl, hr, he⟩ := hp.row; have HB2 := Lib.hid (HB1.out.trans hb); have HX2 := Lib.hid (HX1.out.bel hb); have HE2 := Lib.hid he; clear hp he; have HY2 := Lib.hid hr; clear hr; clear hb)) | (go_at_call 7; ((with_reducible refine (HPC.out w2).mono ?_); rintro e w3 hp; obtain ⟨hb, A3, c3, m3, rfl, hr, he⟩ := hp.row; have HB3 := Lib.hid (HB2.out.trans hb); have HX3 := Lib.hid (HX2.out.bel hb); have HY3 := Lib.hid (HY2.out.bel hb); have HE3 := Lib.hid he; clear hp he; have HV3 := Lib.hid hr; clear hr; clear hb)) | (go_at_call 14; ((with_reducible refine (pe_c HE1.out HE2.out HLB.out HX3.out HY3.out).mono ?_); rintro e w4 ⟨rfl, hb⟩; rw [HQX.out]; have HB4 := Lib.hid (HB3.out.trans hb); have HX4 := Lib.hid (HX3.out.bel hb); have HY4 := Lib.hid (HY3.out.bel hb); have HV4 := Lib.hid (HV3.out.bel hb); clear hb)) | (go_at_call 14; ((with_reducible refine (pe_c HE2.out HE3.out HLC.out HY4.out HV4.out).mono ?_); rintro e w5 ⟨rfl, hb⟩; rw [HQY.out]; have HB5 := Lib.hid (HB4.out.trans hb); have HX5 := Lib.hid (HX4.out.bel hb); have HY5 := Lib.hid (HY4.out.bel hb); have HV5 := Lib.hid (HV4.out.bel hb); clear hb)) | (go_at_call 14; ((with_reducible refine (pe_c HE1.out HE3.out HLC.out HX5.out HV5.out).mono ?_); rintro e w6 ⟨rfl, hb⟩; rw [HQZ.out]; have HB6 := Lib.hid (HB5.out.trans hb); have HX6 := Lib.hid (HX5.out.bel hb); have HY6 := Lib.hid (HY5.out.bel hb); have HV6 := Lib.hid (HV5.out.bel hb); clear hb)) | (go_at_call 14; ((with_reducible refine (pe_c HE1.out HE1.out HLA.out HX6.out HX6.out).mono ?_); rintro e w7 ⟨rfl, hb⟩; rw [HQS.out]; have HB7 := Lib.hid (HB6.out.trans hb); have HX7 := Lib.hid (HX6.out.bel hb); have HY7 := Lib.hid (HY6.out.bel hb); have HV7 := Lib.hid (HV6.out.bel hb); clear hb)) | (go_at_call 14; ((with_reducible refine (pe_c HE2.out HE1.out HLA.out HY7.out HX7.out).mono ?_); rintro e w8 ⟨rfl, hb⟩; rw [HQR.out]; have HB8 := Lib.hid (HB7.out.trans hb); have HX8 := Lib.hid (HX7.out.bel hb); have HY8 := Lib.hid (HY7.out.bel hb); have HV8 := Lib.hid (HV7.out.bel hb); clear hb)) | (go_at_call 8; ((with_reducible refine (HAL.out w8).mono ?_); rintro e w9 ⟨rfl, hb⟩; have HB9 := Lib.hid (HB8.out.trans hb); have HX9 := Lib.hid (HX8.out.bel hb); have HY9 := Lib.hid (HY8.out.bel hb); have HV9 := Lib.hid (HV8.out.bel hb); clear hb)))
    go_ret
    exact ⟨rfl, HB9.out⟩
end Go.Proofs.Ythbcjljkpnkakaa
