/-
  Contract: the reference's list.
  Contract: the reference's list, walked.
  Contract: the reference's Parse.
-/
import Derived.Test.YtpcapmdfjmpdiaaGreatDoorZRblock
import Derived.Test.YtpcapmdfjmpdiaaGreatDoorZNpure
namespace Go.Proofs.YtpcapmdfjmpdiaaGreatDoor
open Go.RowKit Go.BigFrame NT
set_option linter.unusedVariables false
set_option linter.unusedSimpArgs false

theorem info_node : (Tryz.prog.info? 69).map (fun i => (i.zero, i.size, i.bytes)) = some (some (.agg #[.int .i64 0, .int .i64 0, .string ByteArray.empty, .string ByteArray.empty, .bool false, .bool false, .slice none 0 0, .slice none 0 0]), 8, 104) := by kernel_rfl
theorem cells_node : (Value.agg #[.int .i64 0, .int .i64 0, .string ByteArray.empty, .string ByteArray.empty, .bool false, .bool false, .slice none 0 0, .slice none 0 0]).cells.size = 8 := by kernel_rfl
section
variable {w : World} {ops : Array Oper} {rest : List Oper} {o : Oper} {a : Act} {Q : Exit → Act → World → Prop}
theorem wp_ndL (hgd : o.guard = none) (s x : Operand) (ho : o.op = .call { callee := .builtin .append, args := #[s, x], argTypes := #[38, 38] })
    (A : Option Addr) (n c : Nat) (l : List NT) (hn : l.length = n) (hs : a.eval s = .slice A n c) (hA : KRow w 69 8 NT.cs A c l) (g : Nat) (cs : List Value) (t : NT) (ht : cs = t.cs) (hx : a.eval x = .slice (some ⟨g, 0, none⟩) 1 1) (hb : Blk w g 69 cs) (hle : n ≤ 100000)
    (h : ∀ A' c' w', Hid (KRow w' 69 8 NT.cs A' c' (l ++ [t])) → Hid (Only (rowT A) w w') → Hid (∀ k, k ∈ rowT A' → k ∈ rowT A ∨ k = w.heap.size) → wpList Tryz.prog ops Q rest (a.put o.dst (.slice A' (n + 1) c')) w') :
    wpList Tryz.prog ops Q (o :: rest) a w :=
  wp_kAppend hgd s x 38 ho 69 _ 8 104 NT.cs NT.cs_len NT.cs_one Tryz.underlying38 info_node cells_node (by decide) A c l n hn hs hA (some ⟨g, 0, none⟩) 1 [t] 1 rfl hx (src_blk hb (by rw [ht, flat_one])) (by unfold maxLen; omega) (by omega) (n + 1) rfl
    (fun A' c' w' h1 h2 h3 => h A' c' w' h1 (Lib.hid h2) h3)
end
/-- A row of nodes of the call's own, and what it leads to: Q holds of the blocks. -/
theorem NT.row_of {w : World} {A : Option Addr} {c : Nat} {l : List NT} {Q : Nat → Prop} (h : KRow w 69 8 NT.cs A c l) (hl : l.length ≤ 100000) (hA : ∀ b, b ∈ rowT A → Q b) (hx : ∀ x, x ∈ l → x.In w Q) : Row w Q A c l := by
  refine ⟨⟨⟨h.le, h.max, by unfold reachBytes; omega⟩, fun h0 => ?_⟩, hx⟩
  obtain ⟨g, o, hA0, hg, _⟩ := h.at_ NT.cs_len (List.getElem?_eq_getElem h0) (by decide)
  refine ⟨g, o, hA0, hA g (by rw [hA0]; simp [rowT]), fun i x hi => ?_⟩
  obtain ⟨g', o', hA1, hg', hc⟩ := h.at_ NT.cs_len hi (by decide)
  rw [hA0] at hA1
  injection hA1 with hA1
  injection hA1 with e1 e2
  subst e1 e2
  exact hc
/-- How many tokens are left, as the parser's cell says it. -/
def leftN (n g : Nat) (w : World) : Nat := n - (intOf ((w.cell? ⟨g, 1, none⟩).getD undef)).toNat
theorem leftN_eq {n g j : Nat} {w : World} (h : w.cell? ⟨g, 1, none⟩ = some (.int .i64 (j : Int))) : leftN n g w = n - j := by
  unfold leftN; rw [h]; simp [intOf]
/-- The state of the loop. -/
structure LiAt (g : Nat) (L : Option Addr) (cL : Nat) (ts : List Tok) (w : World) (i op : Nat) (ie : Bool) (d c : Nat) (wr : World) (A : Option Addr) (q cA : Nat) (done : List NT) (j cj : Nat) : Prop where
  ps : Ps wr g L cL ts j cj
  row : KRow wr 69 8 NT.cs A cA done
  len : done.length = q
  few : q + i ≤ j
  fresh : ∀ b, b ∈ rowT A → w.heap.size ≤ b
  deep : ∀ x, x ∈ done → x.In wr (fun b => w.heap.size ≤ b ∧ b < wr.heap.size ∧ b ∉ rowT A)
  only : Only [g] w wr
  val : P (ts.drop i) op ie d c = PR.pre (ers done) (P (ts.drop j) op ie d cj)
theorem LiAt.row_ {g : Nat} {L : Option Addr} {cL : Nat} {ts : List Tok} {w : World} {i op : Nat} {ie : Bool} {d c : Nat} {wr : World} {A : Option Addr} {q cA : Nat} {done : List NT} {j cj : Nat} (h : LiAt g L cL ts w i op ie d c wr A q cA done j cj) (hj : j ≤ 100000) : Row wr (Fr w wr) A cA done :=
  NT.row_of h.row (by have := h.len; have := h.few; omega) (fun b hb => ⟨h.fresh b hb, h.row.lt b hb⟩) (fun x hx => (h.deep x hx).same (fun b hb => ⟨hb.1, hb.2.1⟩) (fun _ _ _ => rfl))
theorem LiAt.bel {g : Nat} {L : Option Addr} {cL : Nat} {ts : List Tok} {w : World} {i op : Nat} {ie : Bool} {d c : Nat} {wr w2 : World} {A : Option Addr} {q cA : Nat} {done : List NT} {j cj : Nat} (h : LiAt g L cL ts w i op ie d c wr A q cA done j cj) (hb : Bel wr w2) : LiAt g L cL ts w i op ie d c w2 A q cA done j cj :=
  ⟨h.ps.bel hb, h.row.only (bel_only hb) (by simp), h.len, h.few, h.fresh, fun x hx => (h.deep x hx).onlyS (bel_only hb) (fun b hb => ⟨by simp, hb.2.1⟩) (fun b hb2 => ⟨hb2.1, Nat.lt_of_lt_of_le hb2.2.1 hb.size, hb2.2.2⟩), h.only.trans ((bel_only hb).more (by simp)), h.val⟩
theorem nd_good {t : Tok} {r : List Tok} {d c : Nat} {x : NT} {r' : List Tok} {c' : Nat} (h : ND t r d c = .ok (x, r', c')) (hc : c ≤ 4096) (hd : d ≤ 32) : r'.length ≤ r.length ∧ c' ≤ 4096 := by
  unfold ND at h
  split at h
  · cases h
  rename_i hn
  split at h
  · cases h
  rename_i hc4
  split at h
  · simp at h; obtain ⟨_, rfl, rfl⟩ := h; exact ⟨Nat.le_refl _, by omega⟩
  rename_i hb
  have hb : blk t.k = true := by simpa using hb
  have hd32 : d + 1 ≤ 32 := by
    rcases Nat.lt_or_ge d 32 with h1 | h1
    · omega
    · exact absurd (.inr ⟨hb, h1⟩) hn
  split at h
  · cases h
  · cases h
  · rename_i b u r2 c1 hp
    have h1 := P_rest hp
    have h2 := P_good hp (by omega) hd32
    simp only [List.length_cons] at h1
    split at h
    · split at h
      · cases h
      · cases h
      · rename_i b2 v r4 c2 hp2
        have h3 := P_rest hp2
        have h4 := P_good hp2 h2.2.1 hd32
        simp only [List.length_cons] at h3
        simp at h; obtain ⟨_, rfl, rfl⟩ := h
        exact ⟨by omega, h4.2.1⟩
    · simp at h; obtain ⟨_, rfl, rfl⟩ := h
      exact ⟨by omega, h2.2.1⟩
theorem pre_cons (l : List NT) (x : NT) (r : PR) : PR.pre l (r.cons x) = PR.pre (l ++ [x]) r := by cases r <;> simp [PR.pre, PR.cons]
theorem ers_snoc (l : List NT) (y : NT) : ers (l ++ [y]) = ers l ++ [y.er] := by rw [ers_map, ers_map, List.map_append]; rfl
theorem LiAt.push {g : Nat} {L : Option Addr} {cL : Nat} {ts : List Tok} {w : World} {i op : Nat} {ie : Bool} {d c : Nat} {V w1 w4 : World} {A A2 : Option Addr} {q cA c2 : Nat} {done : List NT} {j cj i' c' : Nat} {t : Tok} {x y : NT} {o1 o2 : Obj}
    (h : LiAt g L cL ts w i op ie d c V A q cA done j cj) (ht : ts[j]? = some t) (h7 : t.k ≠ 7) (h8 : t.k ≠ 8) (hd : d ≤ 32) (hcj : cj ≤ 4096) (hg : g < w.heap.size) (hO : Only [g] V w1) (he : y.er = x) (hy : y.In w1 (Fr V w1)) (hP : Ps w1 g L cL ts i' c') (hi' : i' ≤ ts.length) (hND : ND t (ts.drop (j + 1)) d cj = .ok (x, ts.drop i', c'))
    (hR : KRow w4 69 8 NT.cs A2 c2 (done ++ [y])) (hO4 : Only (rowT A) ((w1.alloc o1).alloc o2) w4) (hK : ∀ k, k ∈ rowT A2 → k ∈ rowT A ∨ k = ((w1.alloc o1).alloc o2).heap.size) (hL : ∀ k, k ∈ rowT L → k < w.heap.size) :
    LiAt g L cL ts w i op ie d c w4 A2 (q + 1) c2 (done ++ [y]) i' c' ∧ c' ≤ 4096 ∧ j < i' := by
  have hj := (List.getElem?_eq_some_iff.1 ht).1
  have hgd := nd_good hND hcj hd
  have hlen := hgd.1
  rw [List.length_drop, List.length_drop] at hlen
  have hVw : w.heap.size ≤ V.heap.size := h.only.size
  have hV1 : V.heap.size ≤ w1.heap.size := hO.size
  have hsz2 : ((w1.alloc o1).alloc o2).heap.size = w1.heap.size + 2 := by simp
  have h4s : w1.heap.size + 2 ≤ w4.heap.size := by have := hO4.size; omega
  have hAf := h.fresh
  have hAl := h.row.lt
  have hO2 : Only [g] V ((w1.alloc o1).alloc o2) := (hO.alloc o1).alloc o2
  have hO3 : Only (rowT A) w1 w4 := (((Only.refl (rowT A) w1).alloc o1).alloc o2).trans hO4
  have key : ∀ b, w.heap.size ≤ b → b < w1.heap.size → b ∉ rowT A → b ∉ rowT A2 := by
    intro b h1 h2 h3 h4
    rcases hK b h4 with h5 | h5
    · exact h3 h5
    · omega
  refine ⟨⟨?_, hR, by rw [List.length_append, h.len]; rfl, by have := h.few; omega, ?_, ?_, ?_, ?_⟩, hgd.2, by omega⟩
  · refine hP.only hO3 (fun hk => by have := hAf g hk; omega) (fun k hk hk2 => by have := hL k hk; have := hAf k hk2; omega)
  · intro b hb
    rcases hK b hb with h5 | h5
    · exact hAf b h5
    · omega
  · intro z hz
    rcases List.mem_append.1 hz with hz | hz
    · have h1 := (h.deep z hz).onlyS (Q' := fun b => w.heap.size ≤ b ∧ b < V.heap.size ∧ b ∉ rowT A) hO (fun b hb => ⟨by simp; omega, hb.2.1⟩) (fun b hb => hb)
      exact h1.onlyS hO3 (fun b hb => ⟨hb.2.2, by omega⟩) (fun b hb => ⟨hb.1, by omega, key b hb.1 (by omega) hb.2.2⟩)
    · simp at hz; subst hz
      refine hy.onlyS hO3 (fun b hb => ⟨fun hk => by have := hAl b hk; have := hb.1; omega, hb.2⟩) (fun b hb => ⟨by have := hb.1; omega, by have := hb.2; omega, key b (by have := hb.1; omega) hb.2 (fun hk => by have := hAl b hk; have := hb.1; omega)⟩)
  · exact (h.only.trans hO2).join hO4 (fun k hk => .inr (hAf k hk))
  · rw [h.val, drop_at ht, P_nd h7 h8, hND]
    dsimp only
    rw [pre_cons, ers_snoc, he]
theorem LiAt.done_ {g : Nat} {L : Option Addr} {cL : Nat} {ts : List Tok} {w : World} {i op : Nat} {ie : Bool} {d c : Nat} {W : World} {A : Option Addr} {q cA : Nat} {done : List NT} {j cj : Nat} (h : LiAt g L cL ts w i op ie d c W A q cA done j cj) (hr : P (ts.drop j) op ie d cj = .ok ([], ts.drop j, cj)) (hj : j ≤ ts.length) (hj1 : j ≤ 100000) :
    ListP g L cL ts w (P (ts.drop i) op ie d c) (.returned (.tuple #[.slice A q cA, .int .i64 0, .int .i64 0])) W := by
  rw [h.val, hr]
  refine ⟨h.only, A, cA, done, by simp, h.row_ hj1, by rw [h.len], j, h.ps, hj, rfl⟩
theorem LiAt.fault {g : Nat} {L : Option Addr} {cL : Nat} {ts : List Tok} {w : World} {i op : Nat} {ie : Bool} {d c : Nat} {W W2 : World} {A : Option Addr} {q cA : Nat} {done : List NT} {j cj a k : Nat} (h : LiAt g L cL ts w i op ie d c W A q cA done j cj) (hr : P (ts.drop j) op ie d cj = .error (a, k)) (hO : Only [g] w W2) :
    ListP g L cL ts w (P (ts.drop i) op ie d c) (.returned (.tuple #[.slice none 0 0, .int .i64 a, .int .i64 k])) W2 := by
  rw [h.val, hr]
  exact ⟨hO, rfl⟩
theorem opI_two {op : Nat} {oI : Int} (h : oI = opI op) : oI = 2 ↔ op = 2 := by subst h; unfold opI; split <;> omega
theorem opI_neg {op : Nat} {oI : Int} (h : oI = opI op) : oI < 0 ↔ op = 0 := by subst h; unfold opI; split <;> omega
theorem nd_code {t : Tok} {r : List Tok} {d c a k : Nat} (h : ND t r d c = .error (a, k)) : k ≠ 0 := by
  unfold ND at h
  split at h
  · injection h with h; injection h with _ h; omega
  split at h
  · injection h with h; injection h with _ h; omega
  split at h
  · cases h
  split at h
  · rename_i e he; injection h with h; subst h; exact P_code he
  · injection h with h; injection h with _ h; omega
  · split at h
    · split at h
      · rename_i e he; injection h with h; subst h; exact P_code he
      · injection h with h; injection h with _ h; omega
      · cases h
    · cases h
end Go.Proofs.YtpcapmdfjmpdiaaGreatDoor

namespace Go.Proofs.YtpcapmdfjmpdiaaGreatDoor
open Go.RowKit Go.BigFrame NT
set_option linter.unusedVariables false
set_option linter.unusedSimpArgs false

set_option maxRecDepth 100000 in
set_option maxHeartbeats 6400000 in
theorem list_of {g : Nat} {L : Option Addr} {cL : Nat} {ts : List Tok} (hG : TsOk ts) {n : Nat} (IN : NodeM g L cL ts n) : ListM g L cL ts n := by
  intro i op ie d c w hP hi hn hd hc hop
  obtain ⟨N, hN⟩ : ∃ N, N = ts.length := ⟨_, rfl⟩
  obtain ⟨oI, hoI⟩ : ∃ oI, oI = opI op := ⟨_, rfl⟩
  rw [← hoI]
  have hgl := hP.blk.lt
  have HRT : Hid (∀ k, k ∈ rowT L → k < w.heap.size) := Lib.hid (fun k hk => hP.row.lt k hk)
  have HIN := Lib.hid (fun (j cj : Nat) (t : Tok) (W : World) (h1 : Ps W g L cL ts j cj) (h2 : ts[j]? = some t) (h3 : i ≤ j) (h4 : cj ≤ 4096) => IN j d cj t W h1 h2 (by omega) hd h4)
  have HST : Hid (LiAt g L cL ts w i op ie d c w none 0 0 [] i c) := Lib.hid ⟨hP, KRow.nil _ _ _ _, rfl, by omega, by simp [rowT], (fun x hx => by cases hx), Only.refl _ _, by simp [ers, pre_nil]⟩
  have HGT := Lib.hid hG
  have hN7 : N ≤ 70000 := by rw [hN]; exact hG.1
  have hiN : i ≤ N := by omega
  have HN := Lib.hid hN
  have HOI := Lib.hid hoI
  clear hP IN hG hN hoI hi hn
  go_enter Tryz.func33, Tryz.ntmps33
  go_wp2_with fail
  go_loopw [11] (fun s11 wr => ∃ (A : Option Addr) (q cA : Nat) (done : List NT) (j cj : Nat), s11 = .slice A q cA ∧ j ≤ N ∧ cj ≤ 4096 ∧ Hid (LiAt g L cL ts w i op ie d c wr A q cA done j cj)) (fun _ wr => leftN N g wr)
  case atStart => exact ⟨none, 0, 0, [], i, c, rfl, hiN, hc, HST⟩
  case round =>
    obtain ⟨A, q, cA, done, j, cj, rfl, hj, hcj, HLI⟩ := hrel
    have HLF : Hid (leftN N g wr = N - j) := Lib.hid (leftN_eq HLI.out.ps.cells.2.1)
    obtain ⟨q0, q1, q2⟩ := HLI.out.ps.cells
    rw [← HN.out] at q0
    by_cases hlt : j < N
    · have hjt := List.getElem?_eq_getElem (l := ts) (i := j) (by have := HN.out; omega)
      generalize ts[j]'(by have := HN.out; omega) = t at hjt
      have htk := HGT.out.2 t (List.mem_of_getElem? hjt)
      obtain ⟨g1, o1, hL, ha⟩ := tok_at HLI.out.ps.row hjt
      subst hL
      have HTA := Lib.hid ha
      have HJT := Lib.hid hjt
      have hij : i ≤ j := by have := HLI.out.few; omega
      clear hjt ha
      go_wp2_with fail
      go_quiet (fail)
      have HLI2 := Lib.hid (HLI.out.bel (Bel.draw wr nq))
      have HTA2 := Lib.hid (fun W (hb : Bel (wr.drewN nq) W) => HTA.out W ((Bel.draw wr nq).trans hb))
      clear q0 q1 q2
      generalize wr.drewN nq = w0 at HLI2 HTA2 ⊢
      go_wp2_with fail
      refine region_begin (T := [w0.heap.size]) (by kernel_rfl) ?_
      have HLW := Lib.hid (HLI2.out.bel (Bel.drew w0))
      have HTW := Lib.hid (fun W (hb : Bel w0.drew W) => HTA2.out W ((Bel.drew w0).trans hb))
      have HWS : Hid (w0.drew.heap.size = w0.heap.size) := Lib.hid rfl
      generalize w0.drew = W at HLW HTW HWS ⊢
      rw [← HWS.out]
      have HBL0 := Lib.hid (fun (X : Later [W.heap.size] W) => bel_on1 (Bel.refl W) X.h (Nat.le_refl _))
      have HPX := Lib.hid (fun (X : Later [W.heap.size] W) => (HLW.out.ps.bel (HBL0.out X)).cells)
      have p0 : ∀ X : Later [W.heap.size] W, X.w.cell? ⟨g, 0, none⟩ = some (.slice (some ⟨g1, o1, none⟩) N cL) := fun X => by have := (HPX.out X).1; rw [← HN.out] at this; exact this
      have p1 : ∀ X : Later [W.heap.size] W, X.w.cell? ⟨g, 1, none⟩ = some (.int .i64 j) := fun X => (HPX.out X).2.1
      have t0 : ∀ X : Later [W.heap.size] W, X.w.cell? ⟨g1, o1 + j * 5, none⟩ = some (.int .i64 t.k) := fun X => (HTW.out X.w (HBL0.out X)).1
      have t1 : ∀ X : Later [W.heap.size] W, X.w.cell? ⟨g1, o1 + j * 5 + 1, none⟩ = some (.int .i64 t.a) := fun X => (HTW.out X.w (HBL0.out X)).2.1
      have t2 : ∀ X : Later [W.heap.size] W, X.w.cell? ⟨g1, o1 + j * 5 + 2, none⟩ = some (.string (ofL t.s)) := fun X => (HTW.out X.w (HBL0.out X)).2.2.1
      have t3 : ∀ X : Later [W.heap.size] W, X.w.cell? ⟨g1, o1 + j * 5 + 3, none⟩ = some (.string (ofL t.p)) := fun X => (HTW.out X.w (HBL0.out X)).2.2.2.1
      have t4 : ∀ X : Later [W.heap.size] W, X.w.cell? ⟨g1, o1 + j * 5 + 4, none⟩ = some (.bool t.h) := fun X => (HTW.out X.w (HBL0.out X)).2.2.2.2
      refine region_seg [true, true, true, true, true, true, true, true, true, true] 2 (by kernel_rfl) (by kernel_rfl) (by kernel_rfl) rfl (fun _ _ d _ _ h => by cases d <;> exact h) ?_
      repeat (first | with_reducible refine wpMask_pass ?_ | (refine wpMask_want (by rfl) (fun K hK => ?_); go_big_quiet_op; refine hK _ ?_; clear hK K))
      with_reducible refine wpMask_nil ?_
      clear p0 p1 t0 t1 t2 t3 t4
      refine region_make 10 (v := .pointer (some ⟨W.heap.size, 0, none⟩)) (w1 := W.alloc (.cells #[.int .i64 0, .int .i64 0, .string ⟨#[]⟩, .string ⟨#[]⟩, .bool false] 138)) (by kernel_rfl) rfl (by rfl) (by go_simp) ((Only.refl _ _).alloc _) ?_
      simp only [List.getElem_toArray, List.getElem_cons_zero, List.getElem_cons_succ, Act.put, List.setIfInBounds_toArray, List.set_cons_zero, List.set_cons_succ]
      have hk0 := Blk.new W 138 [.int .i64 0, .int .i64 0, .string ⟨#[]⟩, .string ⟨#[]⟩, .bool false]
      have hk1 := set5 hk0 (.int .i64 t.k) (.int .i64 t.a) (.string (ofL t.s)) (.string (ofL t.p)) (.bool t.h)
      have ho1 := only5 (W.alloc (.cells #[.int .i64 0, .int .i64 0, .string ⟨#[]⟩, .string ⟨#[]⟩, .bool false] 138)) W.heap.size (.int .i64 t.k) (.int .i64 t.a) (.string (ofL t.s)) (.string (ofL t.p)) (.bool t.h)
      have ho2 : Only [W.heap.size] W _ := ((Only.refl [W.heap.size] W).alloc _).trans ho1
      obtain ⟨z0, z1, z2, z3, z4⟩ := cells5 hk0
      obtain ⟨f0, f1, f2, f3, f4⟩ := frees5 hk0
      refine region_store (w1 := (((((W.alloc (.cells #[.int .i64 0, .int .i64 0, .string ⟨#[]⟩, .string ⟨#[]⟩, .bool false] 138)).setCell ⟨W.heap.size, 0, none⟩ (.int .i64 t.k)).setCell ⟨W.heap.size, 1, none⟩ (.int .i64 t.a)).setCell ⟨W.heap.size, 2, none⟩ (.string (ofL t.s))).setCell ⟨W.heap.size, 3, none⟩ (.string (ofL t.p))).setCell ⟨W.heap.size, 4, none⟩ (.bool t.h)) 11 (by kernel_rfl) rfl (by rfl) (by go_simp) ho1 ?_
      have HBT := Lib.hid hk1
      have HLV := Lib.hid (HLW.out.bel (bel_on1 (Bel.refl W) ho2 (Nat.le_refl _)))
      clear hk0 hk1 ho1 ho2 z0 z1 z2 z3 z4 f0 f1 f2 f3 f4
      generalize (((((W.alloc (.cells #[.int .i64 0, .int .i64 0, .string ⟨#[]⟩, .string ⟨#[]⟩, .bool false] 138)).setCell ⟨W.heap.size, 0, none⟩ (.int .i64 t.k)).setCell ⟨W.heap.size, 1, none⟩ (.int .i64 t.a)).setCell ⟨W.heap.size, 2, none⟩ (.string (ofL t.s))).setCell ⟨W.heap.size, 3, none⟩ (.string (ofL t.p))).setCell ⟨W.heap.size, 4, none⟩ (.bool t.h) = V at HBT HLV ⊢
      simp only [List.getElem_toArray, List.getElem_cons_zero, List.getElem_cons_succ, Act.put, List.setIfInBounds_toArray, List.set_cons_zero, List.set_cons_succ]
      refine region_end (by kernel_rfl) ?_
      obtain ⟨k0, k1, k2, k3, k4⟩ := cells5 HBT.out
      generalize W.heap.size = tb at HBT k0 k1 k2 k3 k4 ⊢
      by_cases h7 : t.k = 7
      · have h7b : ((t.k : Int) == 7) = true := by rw [h7]; rfl
        have HK7 := Lib.hid h7
        by_cases hop2 : op = 2
        · have ho2 := (opI_two HOI.out).2 hop2
          subst ho2
          cases ie with
          | false =>
            clear h7
            go_wp2_with fail
            go_ret3
            exact HLV.out.done_ (by rw [drop_at HJT.out, P_else HK7.out, if_pos ⟨hop2, rfl⟩]) (by rw [← HN.out]; omega) (by omega)
          | true =>
            clear h7
            go_wp2_with fail
            go_quiet (fail)
            go_wp2_with fail
            go_ret3
            exact HLV.out.fault (by rw [drop_at HJT.out, P_else HK7.out, if_neg (fun h => by cases h.2)]) (HLV.out.only.drewN _)
        · have ho2 : ¬ oI = 2 := fun h => hop2 ((opI_two HOI.out).1 h)
          have ho3 : (oI != 2) = true := bne_iff_ne.2 ho2
          clear h7
          go_wp2_with fail
          go_quiet (fail)
          go_wp2_with fail
          go_ret3
          exact HLV.out.fault (by rw [drop_at HJT.out, P_else HK7.out, if_neg (fun h => hop2 h.1)]) (HLV.out.only.drewN _)
      by_cases h8 : t.k = 8
      · have h7b : ((t.k : Int) == 7) = false := by rw [beq_eq_false_iff_ne]; omega
        have h8b : ((t.k : Int) == 8) = true := by rw [h8]; rfl
        have HK8 := Lib.hid h8
        by_cases hop0 : op = 0
        · have ho2 : oI < 0 := (opI_neg HOI.out).2 hop0
          clear h8 h7
          go_wp2_with fail
          go_quiet (fail)
          go_wp2_with fail
          go_ret3
          exact HLV.out.fault (by rw [drop_at HJT.out, P_end HK8.out, if_pos hop0]) (HLV.out.only.drewN _)
        · have ho2 : ¬ oI < 0 := fun h => hop0 ((opI_neg HOI.out).1 h)
          clear h8 h7
          go_wp2_with fail
          go_ret3
          exact HLV.out.done_ (by rw [drop_at HJT.out, P_end HK8.out, if_neg hop0]) (by rw [← HN.out]; omega) (by omega)
      have h7b : ((t.k : Int) == 7) = false := by rw [beq_eq_false_iff_ne]; omega
      have h8b : ((t.k : Int) == 8) = false := by rw [beq_eq_false_iff_ne]; omega
      go_wp2_with fail
      refine (HIN.out j cj t V HLV.out.ps HJT.out hij hcj).mono ?_
      rintro e w1 ⟨hO, hp⟩
      have HO1 := Lib.hid hO
      cases hnd : ND t (ts.drop (j + 1)) d cj with
      | error ak =>
        obtain ⟨a, k⟩ := ak
        rw [hnd] at hp
        dsimp only at hp
        subst hp
        have hk0 : ((k : Int) != 0) = true := bne_iff_ne.2 (by have := nd_code hnd; omega)
        have hk1 : ¬ (k : Int) = 0 := by have := nd_code hnd; omega
        have HND := Lib.hid hnd
        clear hnd hO
        unfold nzero
        go_wp2_with fail
        go_ret3
        exact HLV.out.fault (by rw [drop_at HJT.out, P_nd h7 h8, HND.out]) ((HLV.out.only.trans HO1.out).alloc _)
      | ok x =>
        obtain ⟨x, r', c'⟩ := x
        rw [hnd] at hp
        obtain ⟨y, he, hy, rfl, i', hPs, hi', hdr⟩ := hp
        rw [← hdr] at hnd
        have HND := Lib.hid hnd
        have HE := Lib.hid he
        have HY := Lib.hid hy
        have HPS := Lib.hid hPs
        have HI' := Lib.hid hi'
        have HQL := Lib.hid HLV.out.len
        have hq5 : q ≤ 70000 := by have := HLV.out.few; omega
        have HAL := Lib.hid (((HLV.out.row.only hO (fun k hk => by have := HLV.out.fresh k hk; simp; omega)).alloc (.cells #[.int .i64 y.k, .int .i64 y.a, .string y.s, .string y.p, .bool y.h, .bool y.e, .slice y.A y.b.length y.c, .slice y.B y.l.length y.d] 69)).alloc (.cells #[.int .i64 y.k, .int .i64 y.a, .string y.s, .string y.p, .bool y.h, .bool y.e, .slice y.A y.b.length y.c, .slice y.B y.l.length y.d] 69))
        have HTX : Hid ([.int .i64 y.k, .int .i64 y.a, .string y.s, .string y.p, .bool y.h, .bool y.e, .slice y.A y.b.length y.c, .slice y.B y.l.length y.d] = y.cs) := Lib.hid rfl
        have HBK := Lib.hid (blk_at1 w1 (.cells #[.int .i64 y.k, .int .i64 y.a, .string y.s, .string y.p, .bool y.h, .bool y.e, .slice y.A y.b.length y.c, .slice y.B y.l.length y.d] 69) 69 [.int .i64 y.k, .int .i64 y.a, .string y.s, .string y.p, .bool y.h, .bool y.e, .slice y.A y.b.length y.c, .slice y.B y.l.length y.d])
        clear hnd he hy hPs hi' hdr hO
        go_wp2_with ((with_reducible refine wp_ndL rfl (.tmp 68) (.tmp 70) rfl A q cA done HQL.out rfl HAL.out (w1.heap.size + 1) _ _ HTX.out rfl HBK.out (by omega) ?_); intro A2 c2 w4 HR4 HO4 HK4; have HPU := Lib.hid (HLV.out.push HJT.out h7 h8 hd hcj hgl HO1.out HE.out HY.out HPS.out HI'.out HND.out HR4.out HO4.out HK4.out HRT.out); clear HR4 HO4 HK4)
        have HLN : Hid (leftN N g w4 = N - i') := Lib.hid (leftN_eq HPU.out.1.ps.cells.2.1)
        have hji := HPU.out.2.2
        have hc'4 := HPU.out.2.1
        have hi'N : i' ≤ N := by rw [HN.out]; exact HI'.out
        have HPL := Lib.hid HPU.out.1
        go_roundw
        case rel => exact ⟨A2, q + 1, c2, _, i', c', by go_num, hi'N, hc'4, HPL⟩
        case measure => rw [HLN.out, HLF.out]; omega
    · obtain rfl : j = N := by omega
      go_wp2_with fail
      go_quiet (fail)
      go_wp2_with fail
      go_ret3
      have hdr : ts.drop j = [] := by rw [HN.out]; exact List.drop_length
      exact (HLI.out.bel (Bel.draw wr nq)).done_ (by rw [hdr]; rfl) (by rw [← HN.out]; exact Nat.le_refl _) (by omega)
end Go.Proofs.YtpcapmdfjmpdiaaGreatDoor

namespace Go.Proofs.YtpcapmdfjmpdiaaGreatDoor
open Go.RowKit Go.BigFrame NT
set_option linter.unusedVariables false
set_option linter.unusedSimpArgs false

theorem list_all {g : Nat} {L : Option Addr} {cL : Nat} {ts : List Tok} (hG : TsOk ts) : ∀ n, ListM g L cL ts n
  | 0 => list_of hG (fun i d c t w hP ht hn hd hc => by have := (List.getElem?_eq_some_iff.1 ht).1; omega)
  | n + 1 => list_of hG (node_of hG (list_all hG n) (Nat.le_refl _))
/-- What Parse gives: where the first fault is and which, or the nodes. -/
abbrev ParR := Except (Nat × Nat) (List NT)
def parR (r : LexR) : ParR := match r with
  | .error e => .error e
  | .ok ts => match P ts 0 false 0 0 with
    | .error e => .error e
    | .ok (l, _, _) => .ok l
def ParPost (s : ByteArray) (r : ParR) (w : World) (e : Ending) (w' : World) : Prop := Bel w w' ∧ match r with
  | .error (a, k) => e = .returned (.tuple #[.slice none 0 0, .int .i64 a, .int .i64 k])
  | .ok l => ∃ (A : Option Addr) (cA : Nat) (m : List NT), ers m = l ∧ Row w' (Fr w w') A cA m ∧ e = .returned (.tuple #[.slice A m.length cA, .int .i64 s.size, .int .i64 0])
theorem tsOk_of {s : ByteArray} {ts : List Tok} (h : LexOf s (.ok ts)) : TsOk ts := by
  unfold LexOf at h
  split at h
  · cases h
  rename_i hs
  have hx : Lx (toL s) 0 ts := h
  have hc := lx_count hx
  rw [toL_len] at hc
  refine ⟨by omega, fun t ht => ?_⟩
  obtain ⟨h1, h2, h3, h4⟩ := lx_good hx t ht
  rw [toL_len] at h2 h3 h4
  refine ⟨?_, by omega, by omega, by omega⟩
  by_cases h0 : t.k = 0
  · omega
  · exact (h1.2.1 h0).1
theorem lex_code {s : ByteArray} {b c : Nat} (h : LexOf s (.error (b, c))) : c ≠ 0 := by
  unfold LexOf at h
  split at h
  · injection h with h; injection h with _ h; omega
  · exact (er_bound h).2
set_option maxRecDepth 100000 in
set_option maxHeartbeats 3200000 in
theorem refParse_c (s : ByteArray) (r : LexR) (w : World) (hr : LexOf s r) : Calls Tryz.prog 18 #[.string s] w (ParPost s (parR r) w) := by
  have HR := Lib.hid (fun (W : World) => refLex_c s r W hr)
  cases r with
  | error bc =>
    obtain ⟨b, c⟩ := bc
    have hc0 := lex_code hr
    have hc1 : ((c : Int) != 0) = true := bne_iff_ne.2 (by omega)
    have hc2 : ¬ (c : Int) = 0 := by omega
    clear hr hc0
    go_enter Tryz.func18, Tryz.ntmps18
    go_wp2_with (go_at_call 32; ((with_reducible refine (HR.out _).mono ?_); rintro e w1 hp; obtain ⟨hb, rfl⟩ := lex_err hp; have HB1 := Lib.hid hb; clear hp hb))
    go_ret3
    exact ⟨HB1.out, rfl⟩
  | ok ts =>
    have hG := tsOk_of hr
    have hn := hG.1
    have HIL := Lib.hid (fun (g : Nat) (L : Option Addr) (cL : Nat) (W : World) (hP : Ps W g L cL ts 0 0) => (list_all hG ts.length) 0 0 false 0 0 W hP (Nat.zero_le _) (Nat.sub_le _ _) (by decide) (by decide) (by decide))
    clear hr hG
    go_enter Tryz.func18, Tryz.ntmps18
    go_wp2_with (go_at_call 32; ((with_reducible refine (HR.out _).mono ?_); rintro e w1 hp; obtain ⟨hb, L, cL, rfl, hrow, hfr⟩ := lex_ok hp; have HB1 := Lib.hid hb; have HR1 := Lib.hid hrow; clear hp hb hrow))
    have hP : Ps (w1.alloc (.cells #[.slice L ts.length cL, .int .i64 0, .int .i64 0] 82)) w1.heap.size L cL ts 0 0 := ⟨Blk.new w1 82 [.slice L ts.length cL, .int .i64 0, .int .i64 0], HR1.out.alloc _, fun h => by have := HR1.out.lt _ h; omega⟩
    refine (HIL.out _ L cL _ hP).mono ?_
    rintro e w2 ⟨hO, hp⟩
    rw [List.drop_zero] at hp
    have HB2 := Lib.hid (bel_on1 (HB1.out.trans (Bel.alloc w1 (.cells #[.slice L ts.length cL, .int .i64 0, .int .i64 0] 82))) hO HB1.out.size)
    clear hO
    cases hpp : P ts 0 false 0 0 with
    | error ak =>
      obtain ⟨a, k⟩ := ak
      rw [hpp] at hp
      dsimp only at hp
      subst hp
      have hk0 : ((k : Int) != 0) = true := bne_iff_ne.2 (by have := P_code hpp; omega)
      have hk1 : ¬ (k : Int) = 0 := by have := P_code hpp; omega
      have HPP := Lib.hid hpp
      clear hpp
      go_wp2_with fail
      go_ret3
      unfold parR
      dsimp only
      rw [HPP.out]
      exact ⟨HB2.out, rfl⟩
    | ok x =>
      obtain ⟨l, r', c'⟩ := x
      rw [hpp] at hp
      obtain ⟨A, cA, m, hers, hrow, rfl, _⟩ := hp
      have HPP := Lib.hid hpp
      have HE := Lib.hid hers
      have HW := Lib.hid hrow
      clear hpp hers hrow
      go_wp2_with fail
      go_ret3
      unfold parR
      dsimp only
      rw [HPP.out]
      refine ⟨HB2.out, A, cA, m, HE.out, HW.out.same (fun b hb => ⟨?_, hb.2⟩) (fun _ _ _ => rfl), rfl⟩
      have h1 := hb.1
      have h2 := HB1.out.size
      simp at h1
      omega
end Go.Proofs.YtpcapmdfjmpdiaaGreatDoor
