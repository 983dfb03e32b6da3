/-
  Contract: value.Lookup.
-/
import Derived.Test.YtmgnomahnndeaaaDoorLook
namespace Go.Proofs.YtmgnomahnndeaaaDoor
open Go.RowKit Go.BigFrame
set_option linter.unusedVariables false
set_option linter.unusedSimpArgs false

/-- What Lookup gives. -/
def LookPost (t : VT) (s : ByteArray) (w : World) (e : Ending) (w' : World) : Prop :=
  Bel w w' ∧ match pathOf s with
    | none => e = .returned (.tuple #[VT.zero.val, .int .i64 11])
    | some l => match t.look l with
      | .ok u => e = .returned (.tuple #[u.val, .int .i64 0])
      | .error c => e = .returned (.tuple #[VT.zero.val, .int .i64 c])
theorem lookPost_path {t : VT} {s : ByteArray} {w w' : World} {e : Ending} (hb : Bel w w') (h : pathOf s = none) (he : e = .returned (.tuple #[VT.zero.val, .int .i64 11])) : LookPost t s w e w' := by
  unfold LookPost; rw [h]; exact ⟨hb, he⟩
theorem lookPost_err {t : VT} {s : ByteArray} {w w' : World} {e : Ending} {l : List ByteArray} {c : Int} (hb : Bel w w') (h : pathOf s = some l) (hl : t.look l = .error c) (he : e = .returned (.tuple #[VT.zero.val, .int .i64 c])) : LookPost t s w e w' := by
  unfold LookPost; simp only [h, hl]; exact ⟨hb, he⟩
theorem lookPost_ok {t u : VT} {s : ByteArray} {w w' : World} {e : Ending} {l : List ByteArray} (hb : Bel w w') (h : pathOf s = some l) (hl : t.look l = .ok u) (he : e = .returned (.tuple #[u.val, .int .i64 0])) : LookPost t s w e w' := by
  unfold LookPost; simp only [h, hl]; exact ⟨hb, he⟩
theorem ix_some {t : VT} {nm : ByteArray} {w w' : World} {e : Ending} {i : Nat} (h : IxPost t nm w e w') (hi : t.findI nm = some i) : e = .returned (.int .i64 i) ∧ i < t.vs.length ∧ Bel w w' := by
  obtain ⟨hb, ⟨h1, _⟩ | ⟨j, h1, h2, h3⟩⟩ := h
  · rw [h1] at hi; cases hi
  · rw [h1] at hi; cases hi; exact ⟨h3, h2, hb⟩
theorem ix_none {t : VT} {nm : ByteArray} {w w' : World} {e : Ending} (h : IxPost t nm w e w') (hi : t.findI nm = none) : e = .returned (.int .i64 (-1)) ∧ Bel w w' := by
  obtain ⟨hb, ⟨_, h1⟩ | ⟨j, h1, _⟩⟩ := h
  · exact ⟨h1, hb⟩
  · rw [h1] at hi; cases hi
theorem only_cell {S : List Nat} {w w' : World} (h : Only S w w') {b o : Nat} (hb : b < w.heap.size) (hS : b ∉ S) : w'.cell? ⟨b, o, none⟩ = w.cell? ⟨b, o, none⟩ := by
  have := h.block b hb hS
  simp only [World.cell?, this]
theorem bel_only {w w' : World} (h : Bel w w') : Only [] w w' := Only.of_below h fun _ hk _ => hk
/-- The two blocks that Lookup lays: the value it holds, its result. -/
theorem two_blocks (w : World) (t : VT) : Blk ((w.alloc (.cells #[.int .i64 t.k, .string t.s, .int .i64 t.n, .bool t.b, .slice t.A t.xs.length t.c, .slice t.F t.vs.length t.d] 34)).alloc
      (.cells #[.int .i64 0, .string ByteArray.empty, .int .i64 0, .bool false, .slice none 0 0, .slice none 0 0] 34)) w.heap.size 34 t.cs ∧
    Blk ((w.alloc (.cells #[.int .i64 t.k, .string t.s, .int .i64 t.n, .bool t.b, .slice t.A t.xs.length t.c, .slice t.F t.vs.length t.d] 34)).alloc
      (.cells #[.int .i64 0, .string ByteArray.empty, .int .i64 0, .bool false, .slice none 0 0, .slice none 0 0] 34)) (w.heap.size + 1) 34 VT.zero.cs := by
  refine ⟨(Blk.new w 34 t.cs).alloc _, ?_⟩
  have := Blk.new (w.alloc (.cells t.cs.toArray 34)) 34 VT.zero.cs
  have e : (w.alloc (.cells t.cs.toArray 34)).heap.size = w.heap.size + 1 := by simp
  rw [e] at this
  exact this
theorem bel_on {S : List Nat} {w w1 w2 : World} (hb : Bel w w1) (h : Only S w1 w2) (hS : ∀ k, k ∈ S → w.heap.size ≤ k) : Bel w w2 := Only.below hb h hb.size hS
theorem bel_on1 {g : Nat} {w w1 w2 : World} (hb : Bel w w1) (h : Only [g] w1 w2) (hS : w.heap.size ≤ g) : Bel w w2 := bel_on hb h (by simpa using hS)

set_option maxRecDepth 100000 in
set_option maxHeartbeats 1600000 in
theorem lookup_c (t : VT) (s : ByteArray) (w : World) (hT : MX w) (hs : s.size < 4294967281) (hI : t.In w (· < w.heap.size)) :
    Calls Tryd.prog 22 #[t.val, .string s] w (LookPost t s w) := by
  rw [VT.val_eq]
  have HC := Lib.hid (fun (W : World) (h : MX W) => split_c s W h hs)
  have HT := Lib.hid hT
  have HI := Lib.hid hI
  have HTB := Lib.hid (two_blocks w t)
  have HW0 : Hid (Bel w _) := Lib.hid ((Bel.alloc w (.cells #[.int .i64 t.k, .string t.s, .int .i64 t.n, .bool t.b, .slice t.A t.xs.length t.c, .slice t.F t.vs.length t.d] 34)).trans (Bel.alloc _ (.cells #[.int .i64 0, .string ByteArray.empty, .int .i64 0, .bool false, .slice none 0 0, .slice none 0 0] 34)))
  clear hT hI
  cases hp : pathOf s with
  | none =>
    have HP := Lib.hid hp
    clear hp hs
    go_enter Tryd.func22, Tryd.ntmps22
    go_wp2_with (go_at_call 10; refine (HC.out _ (HT.out.bel HW0.out)).mono ?_; rintro e w1 hS; obtain ⟨rfl, hb⟩ := split_none HP.out hS; have HB := Lib.hid hb; have hB1 := HTB.out.2.below hb (by simp); obtain ⟨c0, c1, c2, c3, c4, c5⟩ := cs_cells hB1; have f0 := hB1.free 0; have f1 := hB1.free 1; have f2 := hB1.free 2; have f3 := hB1.free 3; have f4 := hB1.free 4; have f5 := hB1.free 5; have HB1 := Lib.hid hB1; clear hB1 hb hS)
    refine bodyPost_ret (done2 (u := VT.zero) rfl rfl rfl (set6 HB1.out _ _ _ _ _ _)) rfl ?_
    exact lookPost_path (bel_on1 (HW0.out.trans HB.out) (only6 _ _ _ _ _ _ _ _) (by omega)) HP.out rfl
  | some l =>
    have HP := Lib.hid hp
    clear hp hs
    go_enter Tryd.func22, Tryd.ntmps22
    go_wp2_with (go_at_call 10; refine (HC.out _ (HT.out.bel HW0.out)).mono ?_; rintro e w1 hS; obtain ⟨A, c, rfl, hstr, hfar, hl8, _, hb⟩ := split_some HP.out hS; have HB := Lib.hid hb; have HR0 := Lib.hid (HTB.out.1.below hb (by simp; omega)); have HR1 := Lib.hid (HTB.out.2.below hb (by simp)); have HSTR := Lib.hid hstr; have HFAR := Lib.hid hfar; clear hb hS hstr hfar)
    have HSZ : Hid (w.heap.size + 2 ≤ w1.heap.size) := Lib.hid (by have := HB.out.size; simp at this; omega)
    have HBW : Hid (Bel w w1) := Lib.hid (HW0.out.trans HB.out)
    have HFF : Hid (∀ g o, A = some ⟨g, o, none⟩ → w.heap.size + 2 ≤ g) := Lib.hid (fun g o e => by have := HFAR.out _ e; simpa using this)
    clear HB HFAR HTB HW0
    go_loopw [22] (fun v wr => ∃ (k : Nat) (u : VT), k ≤ l.length ∧ v = .int .i64 k ∧ Hid (Only [w.heap.size] w1 wr) ∧ Hid (Blk wr w.heap.size 34 u.cs) ∧ Hid (u.In w (· < w.heap.size)) ∧ Hid (t.look l = u.look (l.drop k))) (fun v _ => l.length - (intOf v).toNat)
    case atStart => exact ⟨0, t, Nat.zero_le _, rfl, Lib.hid (Only.refl _ _), HR0, HI, Lib.hid (by simp)⟩
    case round =>
      obtain ⟨k, u, hk, rfl, HO, HU, HUI, HL⟩ := hrel
      have HBWR : Hid (Bel w wr) := Lib.hid (bel_on1 HBW.out HO.out (Nat.le_refl _))
      have HRR1 : Hid (Blk wr (w.heap.size + 1) 34 VT.zero.cs) := Lib.hid (HR1.out.only HO.out (by simp))
      have hsz : w.heap.size + 2 ≤ wr.heap.size := by have := HSZ.out; have := HO.out.size; omega
      have hlt0 : w.heap.size < wr.heap.size := by omega
      have hlt1 : w.heap.size + 1 < wr.heap.size := by omega
      obtain ⟨c0, c1, c2, c3, c4, c5⟩ := cs_cells HU.out
      have f0 := HU.out.free 0; have f1 := HU.out.free 1; have f2 := HU.out.free 2; have f3 := HU.out.free 3; have f4 := HU.out.free 4; have f5 := HU.out.free 5
      obtain ⟨d0, d1, d2, d3, d4, d5⟩ := cs_cells HRR1.out
      have e0 := HRR1.out.free 0; have e1 := HRR1.out.free 1; have e2 := HRR1.out.free 2; have e3 := HRR1.out.free 3; have e4 := HRR1.out.free 4; have e5 := HRR1.out.free 5
      by_cases hlt : k < l.length
      · rcases HSTR.out with hl0 | ⟨g, o, rfl, hg, hi⟩
        · rw [hl0] at hlt; simp at hlt
        have hgg := HFF.out g o rfl
        have cn := (only_cell HO.out (o := o + k) hg (by simp; omega)).trans (hi k hlt)
        have hdrop : l.drop k = l.getD k ByteArray.empty :: l.drop (k + 1) := by
          rw [List.drop_eq_getElem_cons hlt, List.getD_eq_getElem?_getD, List.getElem?_eq_getElem hlt]
          rfl
        have HLN : Hid (t.look l = u.look (l.getD k ByteArray.empty :: l.drop (k + 1))) := Lib.hid (by rw [HL.out, hdrop])
        clear hdrop hi HL
        generalize l.getD k ByteArray.empty = nm at cn HLN
        have HG := Lib.hid hg
        clear hg
        by_cases h4 : u.k = 4
        · have HK := Lib.hid h4
          have hk4 : (u.k == 4) = true := by rw [h4]; rfl
          have hk4' : (u.k != 4) = false := by rw [h4]; rfl
          clear h4
          cases hf : u.findI nm with
          | none =>
            have HF := Lib.hid hf
            have HERR : Hid (t.look l = .error 17) := Lib.hid (by rw [HLN.out, VT.look_cons, fld_miss HK.out hf])
            clear hf
            go_wp2_with (go_at_call 40; refine (indexFunc_c u nm _ (HUI.out.bel (HBWR.out.trans (Bel.alloc _ _))) wr.heap.size (by simp) (by simp)).mono ?_; rintro e w3 hP; obtain ⟨rfl, hb3⟩ := ix_none hP HF.out; have HB3 := Lib.hid hb3; have HR3 := Lib.hid ((HRR1.out.alloc (.cells #[.string nm] 9)).below hb3 (by simp; omega)); clear hP hb3; obtain ⟨g0, g1, g2, g3, g4, g5⟩ := cs_cells HR3.out; have p0 := HR3.out.free 0; have p1 := HR3.out.free 1; have p2 := HR3.out.free 2; have p3 := HR3.out.free 3; have p4 := HR3.out.free 4; have p5 := HR3.out.free 5)
            refine bodyPost_ret (done2 (u := VT.zero) rfl rfl rfl (set6 HR3.out _ _ _ _ _ _)) rfl ?_
            exact lookPost_err (bel_on1 (HBWR.out.trans ((Bel.alloc _ _).trans HB3.out)) (only6 _ _ _ _ _ _ _ _) (by omega)) HP.out HERR.out rfl
          | some i =>
            have HF := Lib.hid hf
            have HSTEP : Hid (t.look l = (u.value i).look (l.drop (k + 1))) := Lib.hid (by rw [HLN.out, VT.look_cons, fld_hit HK.out hf])
            clear hf
            go_wp2_with (go_at_call 40; refine (indexFunc_c u nm _ (HUI.out.bel (HBWR.out.trans (Bel.alloc _ _))) wr.heap.size (by simp) (by simp)).mono ?_; rintro e w3 hP; obtain ⟨rfl, hil, hb3⟩ := ix_some hP HF.out; have HB3 := Lib.hid hb3; have HU3 := Lib.hid ((HU.out.alloc (.cells #[.string nm] 9)).below hb3 (by simp; omega)); clear hP hb3; obtain ⟨g0, g1, g2, g3, g4, g5⟩ := cs_cells HU3.out; have p0 := HU3.out.free 0; have p1 := HU3.out.free 1; have p2 := HU3.out.free 2; have p3 := HU3.out.free 3; have p4 := HU3.out.free 4; have p5 := HU3.out.free 5; have HBW3 := Lib.hid (HBWR.out.trans ((Bel.alloc _ (.cells #[.string nm] 9)).trans HB3.out)); obtain ⟨gf, of, hF, hgf, hfi⟩ := HUI.out.fields (by omega); obtain ⟨_, m0, m1, m2, m3, m4, m5⟩ := hfi i hil; rw [hF] at g5; have q0 := (HBW3.out.cell hgf).trans m0; have q1 := (HBW3.out.cell hgf).trans m1; have q2 := (HBW3.out.cell hgf).trans m2; have q3 := (HBW3.out.cell hgf).trans m3; have q4 := (HBW3.out.cell hgf).trans m4; have q5 := (HBW3.out.cell hgf).trans m5; have hub := HUI.out.bounds; have hd1 := hub.2.2.2.2.2.1; have hd2 := hub.2.2.2.2.2.2.1; have HIV := Lib.hid (HUI.out.value hil); have HGF := Lib.hid hgf; have HHF := Lib.hid hF; clear m0 m1 m2 m3 m4 m5 hfi hub hgf hF; clear c0 c1 c2 c3 c4 c5 d0 d1 d2 d3 d4 d5)
            go_roundw
            case rel =>
              exact ⟨k + 1, u.value i, by omega, by go_num, Lib.hid ((HO.out.trans ((bel_only ((Bel.alloc wr _).trans HB3.out)).more (by simp))).trans (only6 _ _ _ _ _ _ _ _)), Lib.hid (set6 HU3.out _ _ _ _ _ _), HIV, HSTEP⟩
            case measure => simp [intOf]; omega
        · have HERR : Hid (t.look l = .error 18) := Lib.hid (by rw [HLN.out, VT.look_cons, fld_kind h4])
          have hk4 : (u.k == 4) = false := by simpa using h4
          have hk4' : (u.k != 4) = true := by simpa using h4
          clear h4
          go_wp2_with fail
          refine bodyPost_ret (done2 (u := VT.zero) rfl rfl rfl ((set6 HRR1.out _ _ _ _ _ _).alloc _)) rfl ?_
          exact lookPost_err ((bel_on1 HBWR.out (only6 _ _ _ _ _ _ _ _) (by omega)).trans (Bel.alloc _ _)) HP.out HERR.out rfl
      · obtain rfl : l.length = k := by omega
        have HOK : Hid (t.look l = .ok u) := Lib.hid (by rw [HL.out, List.drop_length]; rfl)
        go_wp2_with fail
        refine bodyPost_ret (done2 (u := u) rfl rfl rfl (set6 HRR1.out _ _ _ _ _ _)) rfl ?_
        exact lookPost_ok (bel_on1 HBWR.out (only6 _ _ _ _ _ _ _ _) (by omega)) HP.out HOK.out rfl
end Go.Proofs.YtmgnomahnndeaaaDoor
