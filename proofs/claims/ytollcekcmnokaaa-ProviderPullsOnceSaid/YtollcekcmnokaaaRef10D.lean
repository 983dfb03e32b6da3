/-
  Contract: the reference's Get, walked.
-/
import Derived.Test.YtollcekcmnokaaaRef10C
import Derived.Test.YtollcekcmnokaaaGet10C
namespace Go.Proofs.Ytollcekcmnokaaa
open Go.RowKit Go.BigFrame
set_option linter.unusedVariables false
set_option linter.unusedSimpArgs false

theorem strs_bel {w w' : World} {A : Option Addr} {l : List ByteArray} (h : Strs w A l) (hb : Bel w w') : Strs w' A l := h.bel hb
theorem refGet_bad {F0 : Option Addr} {d0 : Nat} {ks : List ByteArray} {vs : List VT} {fail : List ByteArray} {r : Nat} {ps : List ByteArray} {lo : Nat} {T : List Nat} {w : World} (h : Rf ks vs fail r ps lo w T) (name : ByteArray) (hs : name.size ≤ maxLen) (hb : nameB name = false) :
    Calls Try.prog 12 #[.pointer (some ⟨r, 0, none⟩), .string name] w (RfGetR F0 d0 ks vs fail r ps lo name T w) := by
  have HNM := Lib.hid (fun W => refName_c name hs W)
  rw [hb] at HNM
  have hg : getA (mapT F0 d0 ks vs) fail name = (VT.zero.plain, 11) := by unfold getA; rw [hb]; rfl
  have hq : pullA ps name = ps := by unfold pullA; rw [hb]; rfl
  have HG := Lib.hid hg
  have HQ := Lib.hid hq
  have HH := Lib.hid h
  clear h hs hb hg hq
  go_enter Try.func12, Try.ntmps12
  go_wp2_with (go_at_call 23; refine (HNM.out _).mono ?_; rintro e w' ⟨rfl, rfl⟩)
  refine bodyPost_ret (done2 (u := VT.zero) rfl rfl rfl (Blk.new w 27 VT.zero.cs)) rfl ?_
  unfold RfGetR
  rw [HG.out, HQ.out]
  exact ⟨VT.zero, T, rfl, rfl, HH.out.bel (Bel.alloc _ _), fun k hk => .inl hk, (bel_only (Bel.alloc _ _)).more (by simp), zero_in _ _⟩
theorem ref_b2 {w w2 : World} {A2 : Option Addr} {o o' : Obj} (hO : Only (rowT (some ⟨w.heap.size + 1, 0, none⟩)) ((w.alloc o).alloc o') w2) (hK : ∀ k, k ∈ rowT A2 → k ∈ rowT (some ⟨w.heap.size + 1, 0, none⟩) ∨ k = ((w.alloc o).alloc o').heap.size) :
    Below (w.heap.size + 1) (w.alloc o) w2 ∧ w.heap.size + 1 ≤ w2.heap.size ∧ ∀ k, k ∈ rowT A2 → w.heap.size + 1 ≤ k := by
  have s1 : (w.alloc o).heap.size = w.heap.size + 1 := by simp
  have s2 : ((w.alloc o).alloc o').heap.size = w.heap.size + 2 := by simp
  have hz := hO.size
  have hb : Below (w.heap.size + 1) (w.alloc o) ((w.alloc o).alloc o') := by have h := Bel.alloc (w.alloc o) o'; unfold Bel at h; rw [s1] at h; exact h
  refine ⟨Only.below hb hO (by omega) (fun k hk => by simp [rowT] at hk; omega), by omega, fun k hk => ?_⟩
  rcases hK k hk with h | h
  · simp [rowT] at h; omega
  · omega
theorem ref_b3 {w w2 w3 : World} {A2 A3 : Option Addr} {o2 : Obj} (h : Below (w.heap.size + 1) (w.alloc (.cells VT.zero.cs.toArray 27)) w2 ∧ w.heap.size + 1 ≤ w2.heap.size ∧ ∀ k, k ∈ rowT A2 → w.heap.size + 1 ≤ k) (hO : Only (rowT A2) (w2.alloc o2) w3) (hK : ∀ k, k ∈ rowT A3 → k ∈ rowT A2 ∨ k = (w2.alloc o2).heap.size) :
    Bel w w3 ∧ (∀ k, k ∈ rowT A3 → w.heap.size + 1 ≤ k) ∧ Blk w3 w.heap.size 27 VT.zero.cs := by
  obtain ⟨h1, h2, h3⟩ := h
  have s2 : (w2.alloc o2).heap.size = w2.heap.size + 1 := by simp
  have hb : Below (w.heap.size + 1) (w.alloc (.cells VT.zero.cs.toArray 27)) w3 := Only.below (h1.alloc h2 o2) hO (by omega) h3
  refine ⟨(Bel.alloc w (.cells VT.zero.cs.toArray 27)).trans (show Below (w.alloc (.cells VT.zero.cs.toArray 27)).heap.size _ _ from by rw [show (w.alloc (.cells VT.zero.cs.toArray 27)).heap.size = w.heap.size + 1 by simp]; exact hb), fun k hk => ?_, (Blk.new w 27 VT.zero.cs).below hb (by omega)⟩
  rcases hK k hk with h | h
  · exact h3 k h
  · omega
theorem ref_at {ks : List ByteArray} {vs : List VT} {fail ps : List ByteArray} {r : Nat} {F : Option Addr} {fd : Nat} {L : Option Addr} {lc : Nat} {A A3 : Option Addr} {c c3 lo q : Nat} {w w3 : World} {name : ByteArray} (h : RfAt ks vs fail ps r F fd L lc A c lo w) (hq : ps.length = q) (hb : Bel w w3)
    (hR : KRow w3 9 1 fS A3 c3 ((([] : List ByteArray) ++ ps) ++ [name])) (hK : ∀ k, k ∈ rowT A3 → w.heap.size + 1 ≤ k) : RfAt ks vs fail (ps ++ [name]) r F fd L lc A3 c3 lo (w3.setCell ⟨r, 2, none⟩ (.slice A3 (q + 1) c3)) := by
  subst hq
  exact h.pulled hb hR (fun k hk => by have := hK k hk; omega)
theorem ref_end {ks : List ByteArray} {vs : List VT} {fail ps ps' : List ByteArray} {r : Nat} {F : Option Addr} {fd : Nat} {L : Option Addr} {lc : Nat} {A A3 : Option Addr} {c c3 lo : Nat} {w w3 w5 W : World} {v : Value} (h : RfAt ks vs fail ps r F fd L lc A c lo w) (hAT : RfAt ks vs fail ps' r F fd L lc A3 c3 lo (w3.setCell ⟨r, 2, none⟩ v))
    (hb : Bel w w3) (hK : ∀ k, k ∈ rowT A3 → w.heap.size + 1 ≤ k) (hb5 : Bel (w3.setCell ⟨r, 2, none⟩ v) w5) (ho : Only [w.heap.size] w5 W) :
    RfAt ks vs fail ps' r F fd L lc A3 c3 lo W ∧ (∀ k, k ∈ r :: (rowT F ++ rowT L ++ rowT A3) → k ∈ r :: (rowT F ++ rowT L ++ rowT A) ∨ w.heap.size ≤ k) ∧ Only (r :: (rowT F ++ rowT L ++ rowT A)) w W := by
  have hr := h.head.lt
  have htop := h.top
  have h1 : ∀ k, k ∈ r :: (rowT F ++ rowT L) → k < w.heap.size := fun k hk => by
    simp only [List.mem_cons, List.mem_append] at hk
    rcases hk with rfl | hk | hk
    · exact hr
    · exact h.fr.lt k hk
    · exact h.lr.lt k hk
  refine ⟨(hAT.bel hb5).only ho (fun k hk hm => ?_) (fun k hk => by simp at hk; omega), fun k hk => ?_, ?_⟩
  · simp only [List.mem_singleton] at hm
    subst hm
    simp only [List.mem_cons, List.mem_append] at hk
    rcases hk with e | (hk | hk) | hk
    · omega
    · have := h.fr.lt _ hk; omega
    · have := h.lr.lt _ hk; omega
    · have := hK _ hk; omega
  · simp only [List.mem_cons, List.mem_append] at hk ⊢
    rcases hk with e | (hk | hk) | hk
    · exact .inl (.inl e)
    · exact .inl (.inr (.inl (.inl hk)))
    · exact .inl (.inr (.inl (.inr hk)))
    · exact .inr (by have := hK k hk; omega)
  · have o1 : Only (r :: (rowT F ++ rowT L ++ rowT A)) w (w3.setCell ⟨r, 2, none⟩ v) := ((bel_only hb).more (by simp)).setCell (.inl (by simp)) v
    exact (o1.trans ((bel_only hb5).more (by simp))).join ho (fun i hi => .inr (by simp at hi; omega))
set_option maxRecDepth 100000 in
set_option maxHeartbeats 3200000 in
theorem refGet_of {F0 : Option Addr} {d0 : Nat} {ks : List ByteArray} {vs : List VT} {fail : List ByteArray} {r : Nat} {ps : List ByteArray} {lo : Nat} {T : List Nat} {w : World} (h : Rf ks vs fail r ps lo w T) (name : ByteArray) (hn : ps.length ≤ 1000000) (hfl : fail.length ≤ 4611686018427387904) (hb : nameB name = true) (hp : hasB ps name = true) (hf : hasB fail name = true) :
    Calls Try.prog 12 #[.pointer (some ⟨r, 0, none⟩), .string name] w (RfGetR F0 d0 ks vs fail r ps lo name T w) := by
  have hs : name.size ≤ maxLen := by have := name_size hb; unfold maxLen; omega
  have HNM := Lib.hid (fun W => refName_c name hs W)
  rw [hb] at HNM
  obtain ⟨F, fd, L, lc, A, c, h, hT⟩ := h
  have hq : pullA ps name = ps := by unfold pullA; rw [hb, hp]; rfl
  have HQ := Lib.hid hq
  have HH := Lib.hid h
  have hr := h.head.lt
  have HP1 := Lib.hid (fun (W : World) (hb : Bel w W) => by have h1 := has_c A c ps name W (h.pr.strs.bel hb) (by omega); rw [hp] at h1; exact h1)
  have HF1 := Lib.hid (fun (W : World) (hs : Strs W L fail) => by have h1 := has_c L lc fail name W hs hfl; rw [hf] at h1; exact h1)
  have hans : getA (mapT F0 d0 ks vs) fail name = (VT.zero.plain, 20) := by rw [getA_name hb, ansT_fail hf]
  have HANS := Lib.hid hans
  clear hans
  have p0 : ∀ o, (w.alloc o).cell? ⟨r, 0, none⟩ = some (.slice F vs.length fd) := fun o => (h.head.alloc o).cell 0
  have p1 : ∀ o, (w.alloc o).cell? ⟨r, 1, none⟩ = some (.slice L fail.length lc) := fun o => (h.head.alloc o).cell 1
  have p2 : ∀ o, (w.alloc o).cell? ⟨r, 2, none⟩ = some (.slice A ps.length c) := fun o => (h.head.alloc o).cell 2
  have HNB := Lib.hid hb
  clear h hs hb hp hf hq
  go_enter Try.func12, Try.ntmps12
  go_wp2_with (first | (go_at_call 23; refine (HNM.out _).mono ?_; rintro e w' ⟨rfl, rfl⟩) | (go_at_call 24; (with_reducible refine (HP1.out _ (Bel.alloc _ _)).mono ?_); rintro e w' ⟨rfl, rfl⟩) | (go_at_call 24; (with_reducible refine (HF1.out _ (HH.out.bel (Bel.alloc _ _)).lr.strs).mono ?_); rintro e w' ⟨rfl, rfl⟩))
  refine bodyPost_ret (done2 (u := VT.zero) rfl rfl rfl (Blk.new w 27 VT.zero.cs)) rfl ?_
  unfold RfGetR
  rw [HANS.out, HQ.out]
  exact ⟨VT.zero, T, rfl, rfl, ⟨F, fd, L, lc, A, c, HH.out.bel (Bel.alloc _ _), hT⟩, fun k hk => .inl hk, (bel_only (Bel.alloc _ _)).more (by simp), zero_in _ _⟩
set_option maxRecDepth 100000 in
set_option maxHeartbeats 3200000 in
theorem refGet_oo {F0 : Option Addr} {d0 : Nat} {ks : List ByteArray} {vs : List VT} {fail : List ByteArray} {r : Nat} {ps : List ByteArray} {lo : Nat} {T : List Nat} {w : World} (h : Rf ks vs fail r ps lo w T) (name : ByteArray) (hn : ps.length ≤ 1000000) (hfl : fail.length ≤ 4611686018427387904) (hb : nameB name = true) (hp : hasB ps name = true) (hf : hasB fail name = false) :
    Calls Try.prog 12 #[.pointer (some ⟨r, 0, none⟩), .string name] w (RfGetR F0 d0 ks vs fail r ps lo name T w) := by
  have hs : name.size ≤ maxLen := by have := name_size hb; unfold maxLen; omega
  have HNM := Lib.hid (fun W => refName_c name hs W)
  rw [hb] at HNM
  obtain ⟨F, fd, L, lc, A, c, h, hT⟩ := h
  have hq : pullA ps name = ps := by unfold pullA; rw [hb, hp]; rfl
  have HQ := Lib.hid hq
  have HH := Lib.hid h
  have hr := h.head.lt
  have HP1 := Lib.hid (fun (W : World) (hb : Bel w W) => by have h1 := has_c A c ps name W (h.pr.strs.bel hb) (by omega); rw [hp] at h1; exact h1)
  have HF1 := Lib.hid (fun (W : World) (hs : Strs W L fail) => by have h1 := has_c L lc fail name W hs hfl; rw [hf] at h1; exact h1)
  have hans : ∃ (x : VT) (c9 : Int), getA (mapT F0 d0 ks vs) fail name = (x.plain, c9) ∧ (∀ W : World, (∀ y, y ∈ vs → y.In W (· < lo)) → x.In W (· < lo)) ∧ ∀ W : World, (mapT F fd ks vs).In W (· < W.heap.size) → Calls Try.prog 25 #[.agg #[.int .i64 4, .string ByteArray.empty, .int .i64 0, .bool false, .slice none 0 0, .slice F vs.length fd], .string name] W fun e w' => e = .returned (.tuple #[.agg #[.int .i64 x.k, .string x.s, .int .i64 x.n, .bool x.b, .slice x.A x.xs.length x.c, .slice x.F x.vs.length x.d], .int .i64 c9]) ∧ Bel W w' := by
    rw [getA_name hb]
    rcases ans_fld (F := F) (d := fd) (F0 := F0) (d0 := d0) (ks := ks) (vs := vs) hf with ⟨u, h1, h2, h3⟩ | ⟨h1, h3⟩
    · refine ⟨u, 0, h3, fun W hW => hW u h2, fun W hW => (field_c (mapT F fd ks vs) name W hW).mono ?_⟩
      rintro e w' ⟨hb, h4⟩
      rw [h1] at h4
      exact ⟨h4, hb⟩
    · refine ⟨VT.zero, 17, h3, fun W hW => zero_in _ _, fun W hW => (field_c (mapT F fd ks vs) name W hW).mono ?_⟩
      rintro e w' ⟨hb, h4⟩
      rw [h1] at h4
      exact ⟨h4, hb⟩
  obtain ⟨x, c9, hans, hxin, hfld⟩ := hans
  have HANS := Lib.hid hans
  have HXIN := Lib.hid hxin
  have HFLD := Lib.hid hfld
  clear hans hxin hfld
  have p0 : ∀ o, (w.alloc o).cell? ⟨r, 0, none⟩ = some (.slice F vs.length fd) := fun o => (h.head.alloc o).cell 0
  have p1 : ∀ o, (w.alloc o).cell? ⟨r, 1, none⟩ = some (.slice L fail.length lc) := fun o => (h.head.alloc o).cell 1
  have p2 : ∀ o, (w.alloc o).cell? ⟨r, 2, none⟩ = some (.slice A ps.length c) := fun o => (h.head.alloc o).cell 2
  have HNB := Lib.hid hb
  clear h hs hb hp hf hq
  go_enter Try.func12, Try.ntmps12
  go_wp2_with (first | (go_at_call 23; refine (HNM.out _).mono ?_; rintro e w' ⟨rfl, rfl⟩) | (go_at_call 24; (with_reducible refine (HP1.out _ (Bel.alloc _ _)).mono ?_); rintro e w' ⟨rfl, rfl⟩) | (go_at_call 24; (with_reducible refine (HF1.out _ (HH.out.bel (Bel.alloc _ _)).lr.strs).mono ?_); rintro e w' ⟨rfl, rfl⟩) | (go_at_call 25; refine (HFLD.out _ (HH.out.bel (Bel.alloc _ _)).in_).mono ?_; rintro e w1 ⟨rfl, hb⟩; have HBZ1 := Lib.hid ((Blk.new w 27 VT.zero.cs).below hb (by simp)); have HB1 := Lib.hid ((Bel.alloc w (.cells VT.zero.cs.toArray 27)).trans hb); obtain ⟨z0, z1, z2, z3, z4, z5⟩ := cs_cells HBZ1.out; have f0 := HBZ1.out.free 0; have f1 := HBZ1.out.free 1; have f2 := HBZ1.out.free 2; have f3 := HBZ1.out.free 3; have f4 := HBZ1.out.free 4; have f5 := HBZ1.out.free 5; clear hb))
  refine bodyPost_ret (done2 (u := x) rfl rfl rfl (set6 HBZ1.out _ _ _ _ _ _)) rfl ?_
  have hbe := bel_on1 HB1.out (only6 w1 w.heap.size (.int .i64 x.k) (.string x.s) (.int .i64 x.n) (.bool x.b) (.slice x.A x.xs.length x.c) (.slice x.F x.vs.length x.d)) (Nat.le_refl _)
  unfold RfGetR
  rw [HANS.out, HQ.out]
  exact ⟨x, T, rfl, rfl, ⟨F, fd, L, lc, A, c, HH.out.bel hbe, hT⟩, fun k hk => .inl hk, (bel_only hbe).more (by simp), HXIN.out _ (HH.out.bel hbe).trees⟩
set_option maxRecDepth 100000 in
set_option maxHeartbeats 3200000 in
theorem refGet_nf {F0 : Option Addr} {d0 : Nat} {ks : List ByteArray} {vs : List VT} {fail : List ByteArray} {r : Nat} {ps : List ByteArray} {lo : Nat} {T : List Nat} {w : World} (h : Rf ks vs fail r ps lo w T) (name : ByteArray) (hn : ps.length ≤ 1000000) (hfl : fail.length ≤ 4611686018427387904) (hb : nameB name = true) (hp : hasB ps name = false) (hf : hasB fail name = true) :
    Calls Try.prog 12 #[.pointer (some ⟨r, 0, none⟩), .string name] w (RfGetR F0 d0 ks vs fail r ps lo name T w) := by
  have hs : name.size ≤ maxLen := by have := name_size hb; unfold maxLen; omega
  have HNM := Lib.hid (fun W => refName_c name hs W)
  rw [hb] at HNM
  obtain ⟨F, fd, L, lc, A, c, h, hT⟩ := h
  have hq : pullA ps name = ps ++ [name] := by unfold pullA; rw [hb, hp]; rfl
  have HQ := Lib.hid hq
  have HH := Lib.hid h
  have hr := h.head.lt
  have HP1 := Lib.hid (fun (W : World) (hb : Bel w W) => by have h1 := has_c A c ps name W (h.pr.strs.bel hb) (by omega); rw [hp] at h1; exact h1)
  have HF1 := Lib.hid (fun (W : World) (hs : Strs W L fail) => by have h1 := has_c L lc fail name W hs hfl; rw [hf] at h1; exact h1)
  have hans : getA (mapT F0 d0 ks vs) fail name = (VT.zero.plain, 20) := by rw [getA_name hb, ansT_fail hf]
  have HANS := Lib.hid hans
  clear hans
  have p0 : ∀ o, (w.alloc o).cell? ⟨r, 0, none⟩ = some (.slice F vs.length fd) := fun o => (h.head.alloc o).cell 0
  have p1 : ∀ o, (w.alloc o).cell? ⟨r, 1, none⟩ = some (.slice L fail.length lc) := fun o => (h.head.alloc o).cell 1
  have p2 : ∀ o, (w.alloc o).cell? ⟨r, 2, none⟩ = some (.slice A ps.length c) := fun o => (h.head.alloc o).cell 2
  have HNB := Lib.hid hb
  clear h hs hb hp hf hq
  have HR1 : Hid (KRow ((w.alloc (.cells #[.int .i64 0, .string ⟨#[]⟩, .int .i64 0, .bool false, .slice none 0 0, .slice none 0 0] 27)).alloc (.cells #[] 9)) 9 1 fS (some ⟨w.heap.size + 1, 0, none⟩) 0 ([] : List ByteArray)) := Lib.hid (KRow.of_room (two_new w (.cells #[.int .i64 0, .string ⟨#[]⟩, .int .i64 0, .bool false, .slice none 0 0, .slice none 0 0] 27) 9 []) 0 (by simp) (by simp))
  have HS1 : Hid (Src ((w.alloc (.cells #[.int .i64 0, .string ⟨#[]⟩, .int .i64 0, .bool false, .slice none 0 0, .slice none 0 0] 27)).alloc (.cells #[] 9)) 1 fS A ps) := Lib.hid ((HH.out.pr.src.alloc (.cells #[.int .i64 0, .string ⟨#[]⟩, .int .i64 0, .bool false, .slice none 0 0, .slice none 0 0] 27)).alloc _)
  have HM : Hid (0 + ps.length ≤ maxLen ∧ (0 + ps.length) * 16 ≤ 140737488355328 ∧ ps.length + 1 ≤ maxLen ∧ (ps.length + 1) * 16 ≤ 140737488355328) := Lib.hid (by unfold maxLen; omega)
  have p2b : ∀ o o', ((w.alloc o).alloc o').cell? ⟨r, 2, none⟩ = some (.slice A ps.length c) := fun o o' => ((HH.out.head.alloc o).alloc o').cell 2
  obtain ⟨q, hq⟩ : ∃ q, q = ps.length := ⟨_, rfl⟩
  rw [← hq] at HM p2 p2b
  have HQN := Lib.hid hq.symm
  have HP1' : Hid (∀ (W : World), Bel w W → Calls Try.prog 24 #[.slice A q c, .string name] W fun e w' => e = .returned (.bool false) ∧ W = w') := Lib.hid (by rw [hq]; exact HP1.out)
  clear HP1 hq
  go_enter Try.func12, Try.ntmps12
  go_wp2_with (first | (go_at_call 23; refine (HNM.out _).mono ?_; rintro e w' ⟨rfl, rfl⟩) | (go_at_call 24; (with_reducible refine (HP1'.out _ (Bel.alloc _ _)).mono ?_); rintro e w' ⟨rfl, rfl⟩) | ((with_reducible refine wp_kAppend rfl (.tmp 18) (.tmp 22) 23 rfl 9 _ 1 16 fS fS_len fS_one Try.underlying23 info_str cells_str (of_decide_eq_true rfl) (some ⟨w.heap.size + 1, 0, none⟩) 0 ([] : List ByteArray) 0 rfl rfl HR1.out A c ps q HQN.out rfl HS1.out HM.out.1 HM.out.2.1 q (Nat.zero_add q).symm ?_); intro A2 c2 w2 HR2 hO2 HK2; have HB2 := Lib.hid (ref_b2 hO2 HK2.out); have HR2A := Lib.hid (HR2.out.alloc (.cells #[.string name] 9)); have HSRC := Lib.hid (show Src (w2.alloc (.cells #[.string name] 9)) 1 fS (some ⟨w2.heap.size, 0, none⟩) [name] from src_blk (Blk.new w2 9 [.string name]) (flat_one (f := fS) name).symm); have HLN2 : Hid ((([] : List ByteArray) ++ ps).length = q) := Lib.hid (by rw [List.nil_append]; exact HQN.out); clear hO2) | ((with_reducible refine wp_kAppend rfl (.tmp 23) (.tmp 25) 23 rfl 9 _ 1 16 fS fS_len fS_one Try.underlying23 info_str cells_str (of_decide_eq_true rfl) A2 c2 (([] : List ByteArray) ++ ps) q HLN2.out rfl HR2A.out (some ⟨w2.heap.size, 0, none⟩) 1 [name] 1 rfl rfl HSRC.out HM.out.2.2.1 HM.out.2.2.2 (q + 1) rfl ?_); intro A3 c3 w3 HR3 hO3 HK3; have HB3 := Lib.hid (ref_b3 HB2.out hO3 HK3.out); have HAT := Lib.hid (ref_at HH.out HQN.out HB3.out.1 HR3.out HB3.out.2.1); have HBZ4 := Lib.hid (HB3.out.2.2.far (p := ⟨r, 2, none⟩) (Nat.ne_of_gt hr) (.slice A3 (q + 1) c3)); have d2 := (HH.out.bel HB3.out.1).head.cell 2; have g2 := (HH.out.bel HB3.out.1).head.free 2; have e0 := HAT.out.head.cell 0; have e1 := HAT.out.head.cell 1; obtain ⟨z0, z1, z2, z3, z4, z5⟩ := cs_cells HBZ4.out; have f0 := HBZ4.out.free 0; have f1 := HBZ4.out.free 1; have f2 := HBZ4.out.free 2; have f3 := HBZ4.out.free 3; have f4 := HBZ4.out.free 4; have f5 := HBZ4.out.free 5; clear hO3) | (go_at_call 24; (with_reducible refine (HF1.out _ HAT.out.lr.strs).mono ?_); rintro e w' ⟨rfl, rfl⟩))
  refine bodyPost_ret (done2 (u := VT.zero) rfl rfl rfl (set6 HBZ4.out _ _ _ _ _ _)) rfl ?_
  unfold RfGetR
  rw [HANS.out, HQ.out]
  obtain ⟨q1, q2, q3⟩ := ref_end HH.out HAT.out HB3.out.1 HB3.out.2.1 (Bel.refl _) (only6 _ w.heap.size (.int .i64 0) (.string ByteArray.empty) (.int .i64 0) (.bool false) (.slice none 0 0) (.slice none 0 0))
  exact ⟨VT.zero, _, rfl, rfl, ⟨F, fd, L, lc, A3, c3, q1, rfl⟩, by rw [hT]; exact q2, by rw [hT]; exact q3, zero_in _ _⟩
set_option maxRecDepth 100000 in
set_option maxHeartbeats 3200000 in
theorem refGet_no {F0 : Option Addr} {d0 : Nat} {ks : List ByteArray} {vs : List VT} {fail : List ByteArray} {r : Nat} {ps : List ByteArray} {lo : Nat} {T : List Nat} {w : World} (h : Rf ks vs fail r ps lo w T) (name : ByteArray) (hn : ps.length ≤ 1000000) (hfl : fail.length ≤ 4611686018427387904) (hb : nameB name = true) (hp : hasB ps name = false) (hf : hasB fail name = false) :
    Calls Try.prog 12 #[.pointer (some ⟨r, 0, none⟩), .string name] w (RfGetR F0 d0 ks vs fail r ps lo name T w) := by
  have hs : name.size ≤ maxLen := by have := name_size hb; unfold maxLen; omega
  have HNM := Lib.hid (fun W => refName_c name hs W)
  rw [hb] at HNM
  obtain ⟨F, fd, L, lc, A, c, h, hT⟩ := h
  have hq : pullA ps name = ps ++ [name] := by unfold pullA; rw [hb, hp]; rfl
  have HQ := Lib.hid hq
  have HH := Lib.hid h
  have hr := h.head.lt
  have HP1 := Lib.hid (fun (W : World) (hb : Bel w W) => by have h1 := has_c A c ps name W (h.pr.strs.bel hb) (by omega); rw [hp] at h1; exact h1)
  have HF1 := Lib.hid (fun (W : World) (hs : Strs W L fail) => by have h1 := has_c L lc fail name W hs hfl; rw [hf] at h1; exact h1)
  have hans : ∃ (x : VT) (c9 : Int), getA (mapT F0 d0 ks vs) fail name = (x.plain, c9) ∧ (∀ W : World, (∀ y, y ∈ vs → y.In W (· < lo)) → x.In W (· < lo)) ∧ ∀ W : World, (mapT F fd ks vs).In W (· < W.heap.size) → Calls Try.prog 25 #[.agg #[.int .i64 4, .string ByteArray.empty, .int .i64 0, .bool false, .slice none 0 0, .slice F vs.length fd], .string name] W fun e w' => e = .returned (.tuple #[.agg #[.int .i64 x.k, .string x.s, .int .i64 x.n, .bool x.b, .slice x.A x.xs.length x.c, .slice x.F x.vs.length x.d], .int .i64 c9]) ∧ Bel W w' := by
    rw [getA_name hb]
    rcases ans_fld (F := F) (d := fd) (F0 := F0) (d0 := d0) (ks := ks) (vs := vs) hf with ⟨u, h1, h2, h3⟩ | ⟨h1, h3⟩
    · refine ⟨u, 0, h3, fun W hW => hW u h2, fun W hW => (field_c (mapT F fd ks vs) name W hW).mono ?_⟩
      rintro e w' ⟨hb, h4⟩
      rw [h1] at h4
      exact ⟨h4, hb⟩
    · refine ⟨VT.zero, 17, h3, fun W hW => zero_in _ _, fun W hW => (field_c (mapT F fd ks vs) name W hW).mono ?_⟩
      rintro e w' ⟨hb, h4⟩
      rw [h1] at h4
      exact ⟨h4, hb⟩
  obtain ⟨x, c9, hans, hxin, hfld⟩ := hans
  have HANS := Lib.hid hans
  have HXIN := Lib.hid hxin
  have HFLD := Lib.hid hfld
  clear hans hxin hfld
  have p0 : ∀ o, (w.alloc o).cell? ⟨r, 0, none⟩ = some (.slice F vs.length fd) := fun o => (h.head.alloc o).cell 0
  have p1 : ∀ o, (w.alloc o).cell? ⟨r, 1, none⟩ = some (.slice L fail.length lc) := fun o => (h.head.alloc o).cell 1
  have p2 : ∀ o, (w.alloc o).cell? ⟨r, 2, none⟩ = some (.slice A ps.length c) := fun o => (h.head.alloc o).cell 2
  have HNB := Lib.hid hb
  clear h hs hb hp hf hq
  have HR1 : Hid (KRow ((w.alloc (.cells #[.int .i64 0, .string ⟨#[]⟩, .int .i64 0, .bool false, .slice none 0 0, .slice none 0 0] 27)).alloc (.cells #[] 9)) 9 1 fS (some ⟨w.heap.size + 1, 0, none⟩) 0 ([] : List ByteArray)) := Lib.hid (KRow.of_room (two_new w (.cells #[.int .i64 0, .string ⟨#[]⟩, .int .i64 0, .bool false, .slice none 0 0, .slice none 0 0] 27) 9 []) 0 (by simp) (by simp))
  have HS1 : Hid (Src ((w.alloc (.cells #[.int .i64 0, .string ⟨#[]⟩, .int .i64 0, .bool false, .slice none 0 0, .slice none 0 0] 27)).alloc (.cells #[] 9)) 1 fS A ps) := Lib.hid ((HH.out.pr.src.alloc (.cells #[.int .i64 0, .string ⟨#[]⟩, .int .i64 0, .bool false, .slice none 0 0, .slice none 0 0] 27)).alloc _)
  have HM : Hid (0 + ps.length ≤ maxLen ∧ (0 + ps.length) * 16 ≤ 140737488355328 ∧ ps.length + 1 ≤ maxLen ∧ (ps.length + 1) * 16 ≤ 140737488355328) := Lib.hid (by unfold maxLen; omega)
  have p2b : ∀ o o', ((w.alloc o).alloc o').cell? ⟨r, 2, none⟩ = some (.slice A ps.length c) := fun o o' => ((HH.out.head.alloc o).alloc o').cell 2
  obtain ⟨q, hq⟩ : ∃ q, q = ps.length := ⟨_, rfl⟩
  rw [← hq] at HM p2 p2b
  have HQN := Lib.hid hq.symm
  have HP1' : Hid (∀ (W : World), Bel w W → Calls Try.prog 24 #[.slice A q c, .string name] W fun e w' => e = .returned (.bool false) ∧ W = w') := Lib.hid (by rw [hq]; exact HP1.out)
  clear HP1 hq
  go_enter Try.func12, Try.ntmps12
  go_wp2_with (first | (go_at_call 23; refine (HNM.out _).mono ?_; rintro e w' ⟨rfl, rfl⟩) | (go_at_call 24; (with_reducible refine (HP1'.out _ (Bel.alloc _ _)).mono ?_); rintro e w' ⟨rfl, rfl⟩) | ((with_reducible refine wp_kAppend rfl (.tmp 18) (.tmp 22) 23 rfl 9 _ 1 16 fS fS_len fS_one Try.underlying23 info_str cells_str (of_decide_eq_true rfl) (some ⟨w.heap.size + 1, 0, none⟩) 0 ([] : List ByteArray) 0 rfl rfl HR1.out A c ps q HQN.out rfl HS1.out HM.out.1 HM.out.2.1 q (Nat.zero_add q).symm ?_); intro A2 c2 w2 HR2 hO2 HK2; have HB2 := Lib.hid (ref_b2 hO2 HK2.out); have HR2A := Lib.hid (HR2.out.alloc (.cells #[.string name] 9)); have HSRC := Lib.hid (show Src (w2.alloc (.cells #[.string name] 9)) 1 fS (some ⟨w2.heap.size, 0, none⟩) [name] from src_blk (Blk.new w2 9 [.string name]) (flat_one (f := fS) name).symm); have HLN2 : Hid ((([] : List ByteArray) ++ ps).length = q) := Lib.hid (by rw [List.nil_append]; exact HQN.out); clear hO2) | ((with_reducible refine wp_kAppend rfl (.tmp 23) (.tmp 25) 23 rfl 9 _ 1 16 fS fS_len fS_one Try.underlying23 info_str cells_str (of_decide_eq_true rfl) A2 c2 (([] : List ByteArray) ++ ps) q HLN2.out rfl HR2A.out (some ⟨w2.heap.size, 0, none⟩) 1 [name] 1 rfl rfl HSRC.out HM.out.2.2.1 HM.out.2.2.2 (q + 1) rfl ?_); intro A3 c3 w3 HR3 hO3 HK3; have HB3 := Lib.hid (ref_b3 HB2.out hO3 HK3.out); have HAT := Lib.hid (ref_at HH.out HQN.out HB3.out.1 HR3.out HB3.out.2.1); have HBZ4 := Lib.hid (HB3.out.2.2.far (p := ⟨r, 2, none⟩) (Nat.ne_of_gt hr) (.slice A3 (q + 1) c3)); have d2 := (HH.out.bel HB3.out.1).head.cell 2; have g2 := (HH.out.bel HB3.out.1).head.free 2; have e0 := HAT.out.head.cell 0; have e1 := HAT.out.head.cell 1; obtain ⟨z0, z1, z2, z3, z4, z5⟩ := cs_cells HBZ4.out; have f0 := HBZ4.out.free 0; have f1 := HBZ4.out.free 1; have f2 := HBZ4.out.free 2; have f3 := HBZ4.out.free 3; have f4 := HBZ4.out.free 4; have f5 := HBZ4.out.free 5; clear hO3) | (go_at_call 24; (with_reducible refine (HF1.out _ HAT.out.lr.strs).mono ?_); rintro e w' ⟨rfl, rfl⟩) | (go_at_call 25; refine (HFLD.out _ HAT.out.in_).mono ?_; rintro e w5 ⟨rfl, hb⟩; have HBZ5 := Lib.hid (HBZ4.out.below hb HBZ4.out.lt); have HB5 := Lib.hid hb; clear z0 z1 z2 z3 z4 z5 f0 f1 f2 f3 f4 f5; obtain ⟨z0, z1, z2, z3, z4, z5⟩ := cs_cells HBZ5.out; have f0 := HBZ5.out.free 0; have f1 := HBZ5.out.free 1; have f2 := HBZ5.out.free 2; have f3 := HBZ5.out.free 3; have f4 := HBZ5.out.free 4; have f5 := HBZ5.out.free 5; clear hb))
  refine bodyPost_ret (done2 (u := x) rfl rfl rfl (set6 HBZ5.out _ _ _ _ _ _)) rfl ?_
  unfold RfGetR
  rw [HANS.out, HQ.out]
  obtain ⟨q1, q2, q3⟩ := ref_end HH.out HAT.out HB3.out.1 HB3.out.2.1 HB5.out (only6 w5 w.heap.size (.int .i64 x.k) (.string x.s) (.int .i64 x.n) (.bool x.b) (.slice x.A x.xs.length x.c) (.slice x.F x.vs.length x.d))
  exact ⟨x, _, rfl, rfl, ⟨F, fd, L, lc, A3, c3, q1, rfl⟩, by rw [hT]; exact q2, by rw [hT]; exact q3, HXIN.out _ q1.trees⟩
/-- The reference's Get. -/
theorem refGet_c {F0 : Option Addr} {d0 : Nat} {ks : List ByteArray} {vs : List VT} {fail : List ByteArray} {r : Nat} {ps : List ByteArray} {lo : Nat} {T : List Nat} {w : World} (h : Rf ks vs fail r ps lo w T) (name : ByteArray) (hs : name.size ≤ maxLen) (hn : ps.length ≤ 1000000) (hfl : fail.length ≤ 4611686018427387904) :
    Calls Try.prog 12 #[.pointer (some ⟨r, 0, none⟩), .string name] w (RfGetR F0 d0 ks vs fail r ps lo name T w) := by
  cases hb : nameB name with
  | false => exact refGet_bad h name hs hb
  | true =>
    cases hp : hasB ps name with
    | true =>
      cases hf : hasB fail name with
      | true => exact refGet_of h name hn hfl hb hp hf
      | false => exact refGet_oo h name hn hfl hb hp hf
    | false =>
      cases hf : hasB fail name with
      | true => exact refGet_nf h name hn hfl hb hp hf
      | false => exact refGet_no h name hn hfl hb hp hf
end Go.Proofs.Ytollcekcmnokaaa
