/-
  Contracts: kindsByForm, formOf.
-/
import Derived.Test.YthbcjljkpnkakaaDoorMap11
import Derived.Test.YthbcjljkpnkakaaDoorLxy
import Derived.Test.YthbcjljkpnkakaaDoorWo11
namespace Go.Proofs.YthbcjljkpnkakaaDoor
open Go.RowKit Go.BigFrame Go.Maps Go.WideMaps
set_option linter.unusedVariables false
set_option linter.unusedSimpArgs false

theorem bel_grown {w w1 w2 : World} (h : Bel w w1) (hg : w1.grownBy w2 (some w.heap.size)) : Bel w w2 := Below.grown h hg h.size (fun j hj => by cases hj; exact Nat.le_refl _)
section
variable {w : World} {ops : Array Oper} {rest : List Oper} {o : Oper} {a : Act} {Q : Exit → Act → World → Prop}
/-- An entry of a map literal. -/
theorem wp_insert {w0 : World} (hg : o.guard = none) (m : Operand) (t : TypeId) (key : ByteArray) (u : Value) (hop : o.op = Op.insert t m (.const (.string key)) (.const u)) (e : TypeId) (ht : Tryd.prog.underlying t = some (.map 9 e))
    (n : Nat) (f : ByteArray → Option Value) (hm : a.eval m = .map (some w0.heap.size)) (h : SMap w w0.heap.size n f) (hb : Bel w0 w) (hn : n < maxLen) (hk : key.size ≤ maxLen)
    (hK : ∀ w', Hid (SMap w' w0.heap.size (n + 1) (fun k => if k = key then some u else f k)) → Hid (Bel w0 w') → wpList Tryd.prog ops Q rest (a.put o.dst undef) w') : wpList Tryd.prog ops Q (o :: rest) a w := by
  refine wpList_plain hg fun K' hK' => ?_
  obtain ⟨w', hrun, h1, h2⟩ := h.push ht hn hk u
  unfold Oper.wp
  simp [execOp, hop, hm, show a.eval (.const (.string key)) = .string key from rfl, show a.eval (.const u) = u from rfl, hrun, Result.andThen]
  exact hK' _ _ (hK w' (Lib.hid h1) (Lib.hid (bel_grown hb h2)))
end
/-- What the map of forms holds. -/
def kindF (k : ByteArray) : Option Value := (kindN k).map fun n : Nat => .int .i64 (n : Int)
theorem kindF_eq (k : ByteArray) : (if k = ⟨#[102, 108, 117, 115, 104]⟩ then some (Value.int .i64 5) else if k = ⟨#[99, 97, 108, 108, 32, 110, 97, 109, 101, 32, 46]⟩ then some (.int .i64 4) else if k = ⟨#[99, 97, 108, 108, 32, 110, 97, 109, 101]⟩ then some (.int .i64 4) else
    if k = ⟨#[100, 101, 102, 105, 110, 101, 32, 110, 97, 109, 101]⟩ then some (.int .i64 6) else if k = ⟨#[101, 110, 100]⟩ then some (.int .i64 8) else if k = ⟨#[114, 97, 110, 103, 101, 32, 46]⟩ then some (.int .i64 3) else
    if k = ⟨#[101, 108, 115, 101]⟩ then some (.int .i64 7) else if k = ⟨#[105, 102, 32, 46]⟩ then some (.int .i64 2) else if k = ⟨#[46]⟩ then some (.int .i64 1) else none) = kindF k := by
  simp only [kindF, kindN, apply_ite (Option.map fun n : Nat => Value.int .i64 (n : Int)), Option.map_some, Option.map_none]
  rfl
set_option maxRecDepth 100000 in
set_option maxHeartbeats 1600000 in
theorem kinds_c (w : World) : Calls Tryd.prog 29 #[] w fun e w' => e = .returned (.map (some w.heap.size)) ∧ SMap w' w.heap.size 9 kindF ∧ Bel w w' := by
  have HSM := Lib.hid (SMap.made w)
  have hmm := @run_makeMap Tryd.prog
  have HB : Hid (Bel w (w.alloc (.map #[] 0))) := Lib.hid (Bel.alloc _ _)
  go_enter Tryd.func29, Tryd.ntmps29
  go_wp2_with (with_reducible refine wp_insert (w0 := w) rfl _ 81 _ _ rfl 3 Tryd.underlying81 _ _ rfl HSM.out HB.out (by unfold maxLen; omega) (by decide) ?_; intro w1 HSM HB)
  go_ret
  exact ⟨rfl, HSM.out.congr kindF_eq, HB.out⟩

/-- 'make' lays a block of so many cells. -/
theorem make_cells {t e : TypeId} {z : Value} {size bytes : Nat} (ht : Tryd.prog.underlying t = some (.slice e)) (hinfo : (Tryd.prog.info? e).map (fun i => (i.zero, i.size, i.bytes)) = some (some z, size, bytes)) (m n : Nat) (hm : m ≤ n) (hb : bytes * n ≤ 281474976710656) (hn : n ≤ 9223372036854775807) :
    ∃ L : List Value, L.length = n * size ∧ ∀ W, (Instr.makeSlice t (.int .i64 (m : Int)) (.int .i64 (n : Int))).run Tryd.prog W = .ok (.slice (some ⟨W.heap.size, 0, none⟩) m n) (W.alloc (.cells L.toArray e)) := by
  obtain ⟨i0, hi, hz0, hz1, hz2⟩ := info_parts hinfo
  refine ⟨(madeCells z.cells (n * size)).toList, by rw [Array.length_toList, size_madeCells], fun W => ?_⟩
  have hr := run_make (P := Tryd.prog) W t e i0 _ ht hi hz0 .i64 .i64 m n (by omega) (by omega) (by rw [hz2, ← Int.natCast_mul]; omega) (by omega)
  rw [hr, hz1, Int.toNat_natCast, Int.toNat_natCast, Array.toArray_toList]
/-- What strings.Builder asks besides. -/
theorem jnExtra : Builder.Extra Tryd.prog Tryd.laysJN_ren where
  sizeBuilder := by kernel_rfl
  liesBuilder := by kernel_rfl
  t5 := Tryd.underlying5
  a5 := Tryd.isAgg5
  z5 := Tryd.sizeOf5
  v5 := Tryd.zeroValue5
  infoByte := by kernel_rfl
  cellsByte := by kernel_rfl
  sizeByte := by kernel_rfl
  neB5 := by decide
/-- The word at a place. -/
theorem strs_at {w : World} {A : Option Addr} {ws : List ByteArray} {i : Nat} (h : Strs w A ws) (hi : i < ws.length) : ∃ g o, A = some ⟨g, o, none⟩ ∧ g < w.heap.size ∧ w.cell? ⟨g, o + i, none⟩ = some (.string (ws.getD i ByteArray.empty)) := by
  rcases h with h | ⟨g, o, h1, h2, h3⟩
  · subst h; exact absurd hi (Nat.not_lt_zero _)
  · exact ⟨g, o, h1, h2, h3 i hi⟩
theorem getD_toL {ws : List ByteArray} {i : Nat} (hi : i < ws.length) : (ws.map toL)[i]? = some (toL (ws.getD i ByteArray.empty)) := by
  rw [List.getElem?_map, List.getD_eq_getElem?_getD, List.getElem?_eq_getElem hi]
  rfl
theorem bel_on1 {w w1 w2 : World} {B : Nat} (h : Bel w w1) (ho : Only [B] w1 w2) (hB : w.heap.size ≤ B) : Bel w w2 :=
  Below.trans h (ho.to_below h.size (by intro k hk; simp at hk; omega))
/-- The first k words of the form lie in the row. -/
def FoRow (w : World) (B : Nat) (L : List Value) (fs : List (List UInt8)) (k : Nat) : Prop := Blk w B 9 L ∧ L.length = fs.length ∧ ∀ i x, i < k → fs[i]? = some x → L[i]? = some (.string (ofL x))
theorem FoRow.set_ {w : World} {B k : Nat} {L : List Value} {fs : List (List UInt8)} {x : List UInt8} (h : FoRow w B L fs k) (hx : fs[k]? = some x) : FoRow (w.setCell ⟨B, k, none⟩ (.string (ofL x))) B (L.set k (.string (ofL x))) fs (k + 1) := by
  obtain ⟨h1, h2, h3⟩ := h
  refine ⟨h1.set_ k _, by rw [List.length_set]; exact h2, fun i y hi hy => ?_⟩
  have hk := (List.getElem?_eq_some_iff.1 hx).1
  by_cases e : i = k
  · subst e
    rw [hx] at hy; injection hy with hy; subst hy
    rw [List.getElem?_set_self (by omega)]
  · rw [List.getElem?_set_ne (by omega)]
    exact h3 i y (by omega) hy
set_option maxRecDepth 100000 in
set_option maxHeartbeats 3200000 in
theorem formOf_c (A : Option Addr) (c : Nat) (ws : List ByteArray) (w : World) (hS : Strs w A ws) (hw : ∀ x ∈ ws, Wd (toL x) ∧ x.size ≤ 70000) (hn : ws.length ≤ 70000) :
    Calls Tryd.prog 45 #[.slice A ws.length c] w fun e w' => e = .returned (.string (ofL (jn (formL (ws.map toL))))) ∧ Bel w w' := by
  obtain ⟨n, hN⟩ : ∃ n, n = ws.length := ⟨_, rfl⟩
  obtain ⟨L0, hL0, hmk⟩ := make_cells (t := 77) Tryd.underlying77 info_str n n (Nat.le_refl _) (by omega) (by omega)
  have hfl : (formL (ws.map toL)).length = n := by rw [formL_len, List.length_map, hN]
  have hle : (jn (formL (ws.map toL))).length ≤ 140737488355328 := by
    have h1 := jn_le (formL_le (ws := ws.map toL) (B := 70000) (fun x hx => by obtain ⟨y, hy, rfl⟩ := List.mem_map.1 hx; exact (hw y hy).2))
    rw [hfl] at h1
    have h2 : n * (70000 + 4 + 1) ≤ 70000 * (70000 + 4 + 1) := Nat.mul_le_mul_right _ (by omega)
    omega
  have HBL := Lib.hid (show FoRow (w.alloc (.cells L0.toArray 9)) w.heap.size L0 (formL (ws.map toL)) 0 from ⟨Blk.new w 9 L0, by rw [hfl, hL0, Nat.mul_one], fun i x hi => absurd hi (Nat.not_lt_zero _)⟩)
  have HB0 : Hid (Bel w (w.alloc (.cells L0.toArray 9))) := Lib.hid (Bel.alloc _ _)
  have HSZ : Hid (w.heap.size < (w.alloc (.cells L0.toArray 9)).heap.size) := Lib.hid (by simp)
  have HS := Lib.hid hS
  have HW := Lib.hid hw
  have HLE := Lib.hid hle
  have HFL := Lib.hid hfl
  have HNN := Lib.hid hN
  rw [← hN]
  have hnn : n ≤ 70000 := by omega
  clear hS hw hle hfl hL0 hN hn
  go_enter Tryd.func45, Tryd.ntmps45
  go_wp2_with fail
  go_loopw [11] (fun s11 wr => ∃ (k : Nat) (L : List Value), k ≤ n ∧ s11 = .int .i64 k ∧ Hid (FoRow wr w.heap.size L (formL (ws.map toL)) k) ∧ Hid (Bel w wr) ∧ Hid (w.heap.size < wr.heap.size)) (fun s11 _ => n - (intOf s11).toNat)
  case atStart => exact ⟨0, L0, Nat.zero_le _, rfl, HBL, HB0, HSZ⟩
  case round =>
    clear HBL HB0 HSZ
    obtain ⟨k, L, hk, rfl, HR, HB, HZ⟩ := hrel
    by_cases hlt : k < n
    · have hkw : k < ws.length := by have := HNN.out; omega
      obtain ⟨g, o, hA, hg, hcell⟩ := strs_at HS.out hkw
      have c0 := (HB.out.cell hg).trans hcell
      subst hA
      have hmem : ws.getD k ByteArray.empty ∈ ws := by rw [List.getD_eq_getElem?_getD, List.getElem?_eq_getElem hkw]; exact List.getElem_mem hkw
      have hwd := (HW.out _ hmem).1
      have hfx := formL_at (getD_toL hkw)
      have HX := Lib.hid hfx
      clear hfx hmem hcell
      generalize ws.getD k ByteArray.empty = x at *
      have hxs : 0 < x.size := by
        rw [← toL_len]; exact List.length_pos_iff.2 hwd.1
      have HP := Lib.hid (isPath_c x wr hxs)
      have hll : L.length = n := by rw [HR.out.2.1, HFL.out]
      obtain ⟨v0, m0⟩ : ∃ v, wr.cell? ⟨w.heap.size, k, none⟩ = some v := ⟨_, (HR.out.1.cell k).trans (List.getElem?_eq_getElem (by omega))⟩
      have u0 := HR.out.1.free k
      clear hwd hxs
      cases hp : isP (toL x) with
      | true =>
        have HST := Lib.hid (HR.out.set_ (x := [46]) (by rw [HX.out]; simp [fw, hp]))
        rw [hp] at HP
        clear hp hll
        go_wp2_with (go_at_call 46; refine HP.out.mono ?_; rintro e w2 ⟨rfl, rfl⟩)
        go_roundw
        case rel => exact ⟨k + 1, _, by omega, by go_num, HST, Lib.hid (bel_on1 HB.out ((Only.refl [w.heap.size] _).setCell (.inl (by simp)) _) (Nat.le_refl _)), Lib.hid (by have := HZ.out; simpa using this)⟩
        case measure => simp [intOf]; omega
      | false =>
        rw [hp] at HP
        by_cases h0 : k = 0
        · have HST := Lib.hid (HR.out.set_ (x := toL x) (by rw [HX.out]; simp [fw, hp, h0]))
          rw [ofL_toL] at HST
          have h0' : ((k : Int) == 0) = true := by subst h0; rfl
          clear hp hll h0
          go_wp2_with (go_at_call 46; refine HP.out.mono ?_; rintro e w2 ⟨rfl, rfl⟩)
          go_roundw
          case rel => exact ⟨k + 1, _, by omega, by go_num, HST, Lib.hid (bel_on1 HB.out ((Only.refl [w.heap.size] _).setCell (.inl (by simp)) _) (Nat.le_refl _)), Lib.hid (by have := HZ.out; simpa using this)⟩
          case measure => simp [intOf]; omega
        · have HST := Lib.hid (HR.out.set_ (x := [110, 97, 109, 101]) (by rw [HX.out]; simp [fw, hp, h0]))
          have h0' : ¬ k = 0 := h0
          clear hp hll h0
          go_wp2_with (go_at_call 46; refine HP.out.mono ?_; rintro e w2 ⟨rfl, rfl⟩)
          go_roundw
          case rel => exact ⟨k + 1, _, by omega, by go_num, HST, Lib.hid (bel_on1 HB.out ((Only.refl [w.heap.size] _).setCell (.inl (by simp)) _) (Nat.le_refl _)), Lib.hid (by have := HZ.out; simpa using this)⟩
          case measure => simp [intOf]; omega
    · obtain rfl : k = n := by omega
      have hlen := HFL.out
      have hcells : ∀ (j : Nat) x, ((formL (ws.map toL)).map ofL)[j]? = some x → wr.cell? ⟨w.heap.size, 0 + j, none⟩ = some (.string x) := by
        intro j x hx
        rw [List.getElem?_map] at hx
        obtain ⟨y, hy, rfl⟩ := Option.map_eq_some_iff.1 hx
        rw [Nat.zero_add, HR.out.1.cell]
        exact HR.out.2.2 j y (by rw [← hlen]; exact (List.getElem?_eq_some_iff.1 hy).1) hy
      have hj : Lib.join (((formL (ws.map toL)).map ofL).map (fun x => x.data.toList)) (⟨#[32]⟩ : ByteArray).data.toList = jn (formL (ws.map toL)) := by
        rw [List.map_map]
        have e1 : (fun x : ByteArray => x.data.toList) ∘ ofL = id := rfl
        rw [e1, List.map_id]
        exact join_jn _
      have hl2 : ((formL (ws.map toL)).map ofL).length = k := by rw [List.length_map]; exact hlen
      have HJ := Lib.hid (Any.strings_Join Tryd.laysJN jnExtra w.heap.size 0 k ((formL (ws.map toL)).map ofL) ⟨#[32]⟩ wr hcells HZ.out (by omega) (by omega) (by rw [hj]; exact HLE.out))
      rw [hj, hl2] at HJ
      clear hcells hj hl2 hlen
      go_wp2_with (go_at_call 28; refine HJ.out.mono ?_; rintro e w2 ⟨rfl, hb⟩; have HB2 := Lib.hid (HB.out.trans hb); clear hb)
      go_ret
      exact ⟨rfl, HB2.out⟩
end Go.Proofs.YthbcjljkpnkakaaDoor
