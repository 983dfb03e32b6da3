/-
  Contract: provider.New.
-/
import Derived.Test.YtollcekcmnokaaaPr10
namespace Go.Proofs.Ytollcekcmnokaaa
open Go.RowKit Go.BigFrame
set_option linter.unusedVariables false
set_option linter.unusedSimpArgs false

/-- The map with these fields. -/
def mapT (F : Option Addr) (d : Nat) (ks : List ByteArray) (vs : List VT) : VT := .mk 4 ByteArray.empty 0 false none 0 [] F d ks vs
/-- New's error. -/
noncomputable def newE (t : VT) (fail : List ByteArray) : Int := if VT.chk (SizeOf.sizeOf t + 1) t 1 ≠ 0 then VT.chk (SizeOf.sizeOf t + 1) t 1 else if fail.all nameB then 0 else 11
def NewR (t : VT) (fail : List ByteArray) (w : World) (e : Ending) (w' : World) : Prop :=
  (newE t fail = 0 ∧ ∃ r T, e = .returned (.tuple #[.pointer (some ⟨r, 0, none⟩), .int .i64 0]) ∧ Bel w w' ∧ Pr t fail r [] w' T ∧ ∀ k, k ∈ T → w.heap.size ≤ k) ∨
  (newE t fail ≠ 0 ∧ e = .returned (.tuple #[.pointer none, .int .i64 (newE t fail)]) ∧ Bel w w')
theorem newE_chk {t : VT} {fail : List ByteArray} (h : VT.chk (SizeOf.sizeOf t + 1) t 1 ≠ 0) : newE t fail = VT.chk (SizeOf.sizeOf t + 1) t 1 := by unfold newE; rw [if_pos h]
theorem newE_bad {t : VT} {fail : List ByteArray} (h : VT.chk (SizeOf.sizeOf t + 1) t 1 = 0) (hf : fail.all nameB = false) : newE t fail = 11 := by unfold newE; rw [if_neg (by rw [h]; decide), hf]; rfl
theorem newE_ok {t : VT} {fail : List ByteArray} (h : VT.chk (SizeOf.sizeOf t + 1) t 1 = 0) (hf : fail.all nameB = true) : newE t fail = 0 := by unfold newE; rw [if_neg (by rw [h]; decide), if_pos hf]
theorem newE_zero {t : VT} {fail : List ByteArray} (h : newE t fail = 0) : VT.chk (SizeOf.sizeOf t + 1) t 1 = 0 ∧ fail.all nameB = true := by
  unfold newE at h
  split at h
  · contradiction
  · rename_i h1
    split at h
    · rename_i h2; exact ⟨by simpa using h1, h2⟩
    · cases h
theorem name_size {s : ByteArray} (h : nameB s = true) : s.size ≤ 32 := by
  rcases Nat.lt_or_ge 32 s.size with h1 | h1
  · rw [name_long h1] at h; cases h
  · exact h1
theorem not_all_name {l : List ByteArray} {k : Nat} {s : ByteArray} (h : l[k]? = some s) (hs : nameB s = false) : l.all nameB = false := by
  rw [Bool.eq_false_iff]
  intro h2
  have := List.all_eq_true.1 h2 s (List.mem_of_getElem? h)
  rw [hs] at this
  cases this
theorem all_take_name {l : List ByteArray} {k : Nat} {s : ByteArray} (h : l[k]? = some s) (hs : nameB s = true) (hk : (l.take k).all nameB = true) : (l.take (k + 1)).all nameB = true := by
  rw [List.take_add_one, h, List.all_append, hk]
  simp [hs]
theorem zeroVal (w : World) : (zeroValue 27).run Try.prog w = .ok (.agg #[.int .i64 0, .string ByteArray.empty, .int .i64 0, .bool false, .slice none 0 0, .slice none 0 0]) w := by kernel_rfl
theorem zeroRes (w : World) : (zeroValue 52).run Try.prog w = .ok (.agg #[.int .i64 0, .string ByteArray.empty, .int .i64 0, .bool false, .slice none 0 0, .slice none 0 0, .int .i64 0]) w := by kernel_rfl
theorem run_mapUpdate_op10 {a : Act} {o : Oper} {T : TypeId} {m x v : Operand} (hop : o.op = .mapUpdate T m x v) {M : Nat} {key val : Value} {w w1 : World} (hm : a.eval m = .map (some M)) (hx : a.eval x = key) (hv : a.eval v = val)
    (h : (Instr.mapUpdate T (.map (some M)) key val).run Try.prog w = .ok () w1) : (execOp a.eval o).run Try.prog w = .ok .skip w1 := by
  simp [execOp, hop, hm, hx, hv, h, Result.andThen]
/-- A string of a list. -/
theorem Strs.at_ {w : World} {A : Option Addr} {l : List ByteArray} (h : Strs w A l) {k : Nat} {s : ByteArray} (hk : l[k]? = some s) : ∃ g o, A = some ⟨g, o, none⟩ ∧ g < w.heap.size ∧ w.cell? ⟨g, o + k, none⟩ = some (.string s) := by
  obtain ⟨hkl, hs⟩ := List.getElem?_eq_some_iff.1 hk
  rcases h with h | ⟨g, o, e, hg, hc⟩
  · subst h; exact absurd hkl (Nat.not_lt_zero _)
  · refine ⟨g, o, e, hg, ?_⟩
    rw [hc k hkl, List.getD_eq_getElem?_getD, hk]
    rfl
/-- The three maps and the provider, as New has made them, with the first failing names. -/
structure Made (w1 w : World) (fail : List ByteArray) (k : Nat) (f : ByteArray → Option Value) (j : Nat) : Prop where
  bel : Bel w1 w
  size : w1.heap.size + 4 ≤ w.heap.size
  head : Blk w (w1.heap.size + 3) 58 [.map (some w1.heap.size), .map (some (w1.heap.size + 1)), .map (some (w1.heap.size + 2)), .slice none 0 0]
  mf : SMap w w1.heap.size j f
  ml : SMap w (w1.heap.size + 1) k (fun key => if hasB (fail.take k) key then some (.bool true) else none)
  mr : SMap w (w1.heap.size + 2) 0 (fun _ => none)
theorem Made.start (w1 : World) (fail : List ByteArray) :
    Made w1 ((((w1.alloc (.map #[] 0)).alloc (.map #[] 0)).alloc (.map #[] 0)).alloc (.cells #[.map (some w1.heap.size), .map (some (w1.heap.size + 1)), .map (some (w1.heap.size + 2)), .slice none 0 0] 58)) fail 0 (fun _ => none) 0 := by
  have s1 : (w1.alloc (.map #[] 0)).heap.size = w1.heap.size + 1 := by simp
  have s2 : ((w1.alloc (.map #[] 0)).alloc (.map #[] 0)).heap.size = w1.heap.size + 2 := by simp
  have s3 : (((w1.alloc (.map #[] 0)).alloc (.map #[] 0)).alloc (.map #[] 0)).heap.size = w1.heap.size + 3 := by simp
  refine ⟨(((Bel.alloc _ _).trans (Bel.alloc _ _)).trans (Bel.alloc _ _)).trans (Bel.alloc _ _), by simp, ?_, (((SMap.made w1).alloc _).alloc _).alloc _, ?_, ?_⟩
  · have h := Blk.new (((w1.alloc (.map #[] 0)).alloc (.map #[] 0)).alloc (.map #[] 0)) 58 [.map (some w1.heap.size), .map (some (w1.heap.size + 1)), .map (some (w1.heap.size + 2)), .slice none 0 0]
    rw [s3] at h
    exact h
  · have h := ((SMap.made (w1.alloc (.map #[] 0))).alloc (.map #[] 0)).alloc (.cells #[.map (some w1.heap.size), .map (some (w1.heap.size + 1)), .map (some (w1.heap.size + 2)), .slice none 0 0] 58)
    rw [s1] at h
    exact h
  · have h := (SMap.made ((w1.alloc (.map #[] 0)).alloc (.map #[] 0))).alloc (.cells #[.map (some w1.heap.size), .map (some (w1.heap.size + 1)), .map (some (w1.heap.size + 2)), .slice none 0 0] 58)
    rw [s2] at h
    exact h
theorem only_of_grown {w w' : World} {M : Nat} (h : w.grownBy w' (some M)) : Only [M] w w' := (Only.refl [M] w).grown h (fun k hk => by injection hk with hk; subst hk; exact .inl (by simp))
theorem Made.bel_ {w1 w w' : World} {fail : List ByteArray} {k j : Nat} {f : ByteArray → Option Value} (h : Made w1 w fail k f j) (hb : Bel w w') : Made w1 w' fail k f j :=
  ⟨h.bel.trans hb, Nat.le_trans h.size hb.size, h.head.below hb h.head.lt, h.mf.bel hb, h.ml.bel hb, h.mr.bel hb⟩
/-- One more failing name. -/
theorem Made.fail_ {w1 w w' : World} {fail : List ByteArray} {k j : Nat} {f : ByteArray → Option Value} {name : ByteArray} (h : Made w1 w fail k f j) (hk : fail[k]? = some name)
    (hm : SMap w' (w1.heap.size + 1) (k + 1) (fun key => if key = name then some (.bool true) else if hasB (fail.take k) key then some (.bool true) else none)) (hg : w.grownBy w' (some (w1.heap.size + 1))) : Made w1 w' fail (k + 1) f j := by
  have ho := only_of_grown hg
  refine ⟨bel_on1 h.bel ho (by omega), Nat.le_trans h.size ho.size, h.head.only ho (by simp), h.mf.only ho (by simp), hm.congr fun key => ?_, h.mr.only ho (by simp)⟩
  rw [List.take_add_one, hk]
  show _ = if hasB (fail.take k ++ [name]) key then _ else _
  rw [hasB_push]
  by_cases e : key = name
  · rw [if_pos e, if_pos e]; rfl
  · rw [if_neg e, if_neg e]
/-- The fields' map so far. -/
structure Filled (w1 w : World) (t : VT) (fail : List ByteArray) (us : List VT) (j : Nat) : Prop where
  made : Made w1 w fail fail.length (fun key => (flOf ((t.ks.take j).zip us) key).map VT.val) j
  len : us.length = j
  ins : ∀ u, u ∈ us → u.In w (fun g => w1.heap.size + 4 ≤ g ∧ g < w.heap.size)
  eq : ∀ (i : Nat) (u : VT), us[i]? = some u → some u.plain = (t.vs[i]?).map VT.plain
theorem Filled.start {w1 w : World} {t : VT} {fail : List ByteArray} (h : Made w1 w fail fail.length (fun _ => none) 0) : Filled w1 w t fail [] 0 :=
  ⟨h, rfl, (by intro u hu; cases hu), (by intro i u hu; simp at hu)⟩
/-- One more field. -/
theorem Filled.push {w1 w w2 : World} {t : VT} {fail : List ByteArray} {us : List VT} {j : Nat} {key : ByteArray} {x y : VT} (h : Filled w1 w t fail us j) (hb : Bel w w2) (hnd : t.ks.Nodup) (hk : t.ks[j]? = some key) (hx : t.vs[j]? = some x) (hsz : key.size ≤ maxLen) (hj : j < maxLen)
    (hy : y.In w2 (fun g => w.heap.size ≤ g ∧ g < w2.heap.size)) (hp : y.plain = x.plain) :
    ∃ w', (Instr.mapUpdate 54 (.map (some w1.heap.size)) (.string key) y.val).run Try.prog w2 = .ok () w' ∧ Filled w1 w' t fail (us ++ [y]) (j + 1) ∧ Only [w1.heap.size] w2 w' := by
  have h2 := h.made.bel_ hb
  obtain ⟨w', hrun, hs, hg⟩ := h2.mf.push Try.underlying54 hj hsz y.val
  have ho := only_of_grown hg
  refine ⟨w', hrun, ⟨⟨bel_on1 h2.bel ho (Nat.le_refl _), Nat.le_trans h2.size ho.size, h2.head.only ho (by simp), hs.congr fun k => ?_, h2.ml.only ho (by simp), h2.mr.only ho (by simp)⟩, by rw [List.length_append, h.len]; rfl, fun u hu => ?_, push_eq h.len hx hp h.eq⟩, ho⟩
  · have e : (t.ks.take (j + 1)).zip (us ++ [y]) = (t.ks.take j).zip us ++ [(key, y)] := by
      have hkl := (List.getElem?_eq_some_iff.1 hk).1
      rw [List.take_add_one, hk]
      show (t.ks.take j ++ [key]).zip (us ++ [y]) = _
      rw [List.zip_append (by rw [List.length_take, h.len]; omega)]
      rfl
    rw [e, flOf_push]
    · by_cases e2 : k = key
      · rw [if_pos e2, if_pos e2]; rfl
      · rw [if_neg e2, if_neg e2]
    · intro p hp e3
      obtain ⟨i, hi, rfl⟩ := List.getElem_of_mem hp
      rw [List.length_zip, List.length_take] at hi
      rw [List.getElem_zip, List.getElem_take] at e3
      have h9 : t.ks[i]? = some key := by rw [List.getElem?_eq_getElem (by omega)]; exact congrArg some e3
      have := (List.getElem?_inj (by omega) hnd).1 (h9.trans hk.symm)
      omega
  · have hs4 := h.made.size
    rcases List.mem_append.1 hu with hu | hu
    · exact ((h.ins u hu).only (bel_only hb) (fun g hg => ⟨by simp, hg.2⟩) (Q' := fun g => w1.heap.size + 4 ≤ g ∧ g < w2.heap.size) (fun g hg => ⟨hg.1, Nat.lt_of_lt_of_le hg.2 hb.size⟩)).only ho (fun g hg => ⟨by simp; omega, hg.2⟩) (fun g hg => ⟨hg.1, Nat.lt_of_lt_of_le hg.2 ho.size⟩)
    · simp at hu
      subst hu
      exact hy.only ho (fun g hg => ⟨by simp; omega, hg.2⟩) (fun g hg => ⟨by omega, Nat.lt_of_lt_of_le hg.2 ho.size⟩)
/-- The provider. -/
theorem Filled.pr {w1 w : World} {t : VT} {fail : List ByteArray} {us : List VT} {j : Nat} (h : Filled w1 w t fail us j) (hj : j = t.vs.length) (hkl : t.ks.length = t.vs.length) :
    Pr t fail (w1.heap.size + 3) [] w (List.range' w1.heap.size (w.heap.size - w1.heap.size) ++ rowT none) := by
  have hs := h.made.size
  have e1 : t.ks.take j = t.ks := List.take_of_length_le (by omega)
  have hmf := h.made.mf
  have hml := h.made.ml
  rw [e1] at hmf
  rw [List.take_length] at hml
  refine ⟨w1.heap.size, w1.heap.size + 1, w1.heap.size + 2, j, fail.length, w1.heap.size, w.heap.size, none, 0, t.ks.zip us, ⟨h.made.head, hmf, hml, h.made.mr, KRow.nil _ _ _ _, fun k u hu => ?_, fun k => flOf_fld hkl (by rw [h.len, hj]) h.eq k, ⟨⟨by omega, by omega⟩, ⟨by omega, by omega⟩, ⟨by omega, by omega⟩, ⟨by omega, by omega⟩⟩, ⟨by omega, by omega, by omega, by omega, by omega⟩, Nat.le_refl _, by simp [rowT], by intro k hk; cases hk⟩, rfl⟩
  obtain ⟨p, hp, rfl⟩ := flOf_mem hu
  exact (h.ins p.2 (List.of_mem_zip hp).2).only (Only.refl [] _) (fun g hg => ⟨by simp, hg.2⟩) (fun g hg => ⟨by omega, hg.2, by omega, by omega⟩)
end Go.Proofs.Ytollcekcmnokaaa
