/-
  The reference of layer 17: the compiler ads it lies in memory; addr.
  Contracts: what the program of layer 14 does with a list of nodes: calls, split, Find, Names, Main.
  Contracts: maps.Keys of a map[string]bool, slices.Sorted of it; the map of the names that were met.
-/
import Derived.Test.YtpcapmdfjmpdiaaGreatDoorZCt12
import Derived.Test.YtpcapmdfjmpdiaaGreatDoorZRegion2
import Derived.Test.YtpcapmdfjmpdiaaGreatDoorZPure12
import Derived.Test.YtpcapmdfjmpdiaaGreatDoorZIq16
import Derived.Test.YtpcapmdfjmpdiaaGreatDoorZSs14
import Derived.Sort.KeysCollected
namespace Go.Proofs.YtpcapmdfjmpdiaaGreatDoor
open Go.RowKit Go.BigFrame NT
set_option linter.unusedVariables false
set_option linter.unusedSimpArgs false
set_option maxRecDepth 100000

/-- Strings ads cells. -/
def vst (ns : List ByteArray) : List Value := ns.map .string
def vin17 (es : List Nat) : List Value := es.map fun k => .int .i64 (k : Nat)
theorem vin17_drop (es : List Nat) (k : Nat) : vin17 (es.drop k) = (vin17 es).drop k := by simp [vin17]
theorem toL_beq17 (a b : ByteArray) : (a.toList == b.toList) = decide (a = b) := by
  rw [ByteArray.toList_eq, ByteArray.toList_eq, Bool.eq_iff_iff, beq_iff_eq, decide_eq_true_iff]
  exact ⟨fun h => toL_inj h, fun h => by rw [h]⟩
/-- The compiler: its names, its addresses, the escapers that are left. -/
structure Cm (r : Nat) (w : World) (N : Option Addr) (cn : Nat) (D : Option Addr) (cd : Nat) (E : Option Addr) (m ce : Nat) (ns : List ByteArray) (ads es : List Nat) : Prop where
  blk : Blk w r 114 [.slice N ns.length cn, .slice D ads.length cd, .slice E m ce]
  rn : RowAt w 9 N ns.length cn (vst ns)
  ra : RowAt w 3 D ads.length cd (vin17 ads)
  re : RowAt w 3 E m ce (vin17 es)
  rm : m = es.length
theorem Cm.bel {r : Nat} {w w' : World} {N : Option Addr} {cn : Nat} {D : Option Addr} {cd : Nat} {E : Option Addr} {m ce : Nat} {ns : List ByteArray} {ads es : List Nat} (h : Cm r w N cn D cd E m ce ns ads es) (hb : Bel w w') : Cm r w' N cn D cd E m ce ns ads es :=
  ⟨h.blk.bel hb, h.rn.only (S := []) (bel_only hb) (fun _ _ h => by cases h), h.ra.only (S := []) (bel_only hb) (fun _ _ h => by cases h), h.re.only (S := []) (bel_only hb) (fun _ _ h => by cases h), h.rm⟩
end Go.Proofs.YtpcapmdfjmpdiaaGreatDoor

namespace Go.Proofs.YtpcapmdfjmpdiaaGreatDoor
open Go.RowKit Go.BigFrame NT
set_option linter.unusedVariables false
set_option linter.unusedSimpArgs false

section
variable {w : World} {ops : Array Oper} {rest : List Oper} {o : Oper} {a : Act} {Q : Exit → Act → World → Prop}
theorem wp_rkMore (hgd : o.guard = none) (s x : Operand) (ho : o.op = .call { callee := .builtin .append, args := #[s, x], argTypes := #[38, 38] })
    {w0 : World} {A : Option Addr} {n c : Nat} {l : List NT} (hA : RkAt w0 w A n c l) (hs : a.eval s = .slice A n c) (X : Option Addr) (d : Nat) (m : List NT) (k : Nat) (hk : m.length = k) (hx : a.eval x = .slice X k d) (hX : Src w 8 NT.cs X m) (hle : n + m.length ≤ 100000) (N : Nat) (hN : N = n + k)
    (h : ∀ A' c' w', Hid (RkAt w0 w' A' N c' (l ++ m)) → Hid (Only (rowT A) w w') → Hid (∀ k, k ∈ rowT A' → k ∈ rowT A ∨ k = w.heap.size) → wpList Tryz.prog ops Q rest (a.put o.dst (.slice A' N c')) w') :
    wpList Tryz.prog ops Q (o :: rest) a w :=
  wp_kAppend hgd s x 38 ho 69 _ 8 104 NT.cs NT.cs_len NT.cs_one Tryz.underlying38 info_node14 cells_node14 (by decide) A c l n hA.len hs hA.row X d m k hk hx hX (by unfold maxLen; omega) (by omega) N hN
    (fun A' c' w' h1 h2 h3 => h A' c' w' (Lib.hid (by have := hA.push h1.out h2 h3.out; rwa [hk, ← hN] at this)) (Lib.hid h2) h3)
end
/-- The loop's node stands as it was while a row of the call's own grows. -/
theorem nd_kept {w0 wr wz : World} {A : Option Addr} {q c : Nat} {done : List NT} {o : Obj} {T : TypeId} {L : List Value} (h : RkAt w0 wr A q c done) (hN : Blk (wr.alloc o) wr.heap.size T L) (o2 : Obj) (hO : Only (rowT A) ((wr.alloc o).alloc o2) wz) : Blk wz wr.heap.size T L :=
  (hN.alloc o2).only hO (fun hk => absurd (h.row.lt _ hk) (Nat.lt_irrefl _))
theorem nd_kept1 {w2 wz : World} {A : Option Addr} {g : Nat} {T : TypeId} {L : List Value} (hg : g ∉ rowT A) (hN : Blk w2 g T L) (hO : Only (rowT A) w2 wz) : Blk wz g T L := hN.only hO hg
abbrev DcC (w : World) (A : Option Addr) (n c : Nat) (l : List NT) : Prop := Calls Tryz.prog 30 #[.slice A n c] w (RcP l w)
def DcM (x : NT) : Prop := ∀ (w : World), x.In w (Lt w) → x.tot ≤ 100000 → DcC w x.A x.b.length x.c x.b ∧ DcC w x.B x.l.length x.d x.l
theorem not_in_new {w0 wr w1 : World} {A A' : Option Addr} {q c : Nat} {done : List NT} {n : Nat} (h : RkAt w0 wr A q c done) (hn : n = wr.heap.size) (h2 : ∀ k, k ∈ rowT A' → k ∈ rowT A ∨ k = w1.heap.size) (hlt : n < w1.heap.size) : n ∉ rowT A' := fun hk => by
  rcases h2 _ hk with h3 | h3
  · have := h.row.lt _ h3; omega
  · omega
set_option maxRecDepth 100000 in
set_option maxHeartbeats 3200000 in
theorem dcalls_row (l : List NT) (ih : ∀ x ∈ l, DcM x) (A : Option Addr) (c : Nat) (w : World) (hA : Row w (Lt w) A c l) (ht : tots l ≤ 100000) : DcC w A l.length c l := by
  obtain ⟨n, hn⟩ : ∃ n, n = l.length := ⟨_, rfl⟩
  have hn5 := hA.len
  rw [← hn] at hn5 ⊢
  have HA := Lib.hid hA
  have HI := Lib.hid ih
  have HN := Lib.hid hn
  have HT := Lib.hid ht
  clear hA ih hn ht
  go_enter Tryz.func30, Tryz.ntmps30
  go_wp2_with fail
  go_loopw [3, 8] (fun s3 s8 wr => ∃ (i : Nat) (A' : Option Addr) (q c' : Nat), i ≤ n ∧ s8 = .int .i64 i ∧ s3 = .slice A' q c' ∧ Hid (RkAt w wr A' q c' (callNs (l.take i)))) (fun _ s8 _ => n - (intOf s8).toNat)
  case atStart => exact ⟨0, none, 0, 0, Nat.zero_le _, rfl, rfl, Lib.hid ⟨KRow.nil _ _ _ _, rfl, by simp [rowT], Bel.refl _⟩⟩
  case round =>
    obtain ⟨i, A', q, c', hi, rfl, rfl, HRK⟩ := hrel
    by_cases hlt : i < n
    · have hxt := List.getElem?_eq_getElem (l := l) (i := i) (by have := HN.out; omega)
      generalize l[i]'(by have := HN.out; omega) = x at hxt
      have hxm := List.mem_of_getElem? hxt
      obtain ⟨g, o, hAA, hg, ha⟩ := HA.out.cells hxt
      subst hAA
      have HXI := Lib.hid (HA.out.2 x hxm)
      have hst := tots_step hxt
      have hle1 : tots (l.take (i + 1)) ≤ 100000 := by have h1 := HT.out; rw [← List.take_append_drop (i + 1) l, tots_append] at h1; omega
      have hte := tot_eq x
      have hx1 : x.tot ≤ 100000 := by omega
      have HMX := Lib.hid (fun W (hb : Bel w W) => HI.out x hxm W (HXI.out.bel hb) hx1)
      have HCB := Lib.hid (fun W (hb : Bel w W) => (HMX.out W hb).1)
      have HCE := Lib.hid (fun W (hb : Bel w W) => (HMX.out W hb).2)
      have hq : q ≤ tots (l.take i) := by have := callNs_len (l.take i); have := HRK.out.len; omega
      have hbl := callNs_len x.b
      have hll := callNs_len x.l
      have hcs := callNs_step hxt
      rw [callN_eq] at hcs
      obtain ⟨a0, a1, a2, a3, a4, a5, a6, a7⟩ := ha wr HRK.out.bel
      have HBN := Lib.hid (HRK.out.bel.trans (Bel.alloc wr (.cells #[.int .i64 x.k, .int .i64 x.a, .string x.s, .string x.p, .bool x.h, .bool x.e, .slice x.A x.b.length x.c, .slice x.B x.l.length x.d] 69)))
      have HNB := Lib.hid (Blk.new wr 69 [.int .i64 x.k, .int .i64 x.a, .string x.s, .string x.p, .bool x.h, .bool x.e, .slice x.A x.b.length x.c, .slice x.B x.l.length x.d])
      have HM2 := Lib.hid (show q + (callN x).length ≤ 100000 by rw [callN_eq, List.length_append, List.length_append]; have : (if x.k = 4 then [x] else []).length ≤ 1 := (by split <;> simp); omega)
      rw [callN_eq] at HM2
      by_cases hk : x.k = 4
      · have k4 : (x.k == 4) = true := by rw [hk]; rfl
        rw [if_pos hk] at hcs HM2
        have HCS := Lib.hid hcs
        have HM0 := Lib.hid (show q + [x].length ≤ 100000 by have := HM2.out; simp at this ⊢; omega)
        have HM1 := Lib.hid (show q + 1 + (callNs x.b).length ≤ 100000 by have := HM2.out; simp at this ⊢; omega)
        have HM3 := Lib.hid (show q + 1 + (callNs x.b).length + (callNs x.l).length ≤ 100000 by have := HM2.out; simp at this ⊢; omega)
        have HR0 := Lib.hid ((HRK.out.later (Bel.alloc wr (.cells #[.int .i64 x.k, .int .i64 x.a, .string x.s, .string x.p, .bool x.h, .bool x.e, .slice x.A x.b.length x.c, .slice x.B x.l.length x.d] 69))).later (Bel.alloc (wr.alloc (.cells #[.int .i64 x.k, .int .i64 x.a, .string x.s, .string x.p, .bool x.h, .bool x.e, .slice x.A x.b.length x.c, .slice x.B x.l.length x.d] 69)) (.cells #[.int .i64 x.k, .int .i64 x.a, .string x.s, .string x.p, .bool x.h, .bool x.e, .slice x.A x.b.length x.c, .slice x.B x.l.length x.d] 69)))
        have HS0 := Lib.hid (src_blk (f := NT.cs) (z := 8) (m := [x]) (blk_at1 wr (.cells #[.int .i64 x.k, .int .i64 x.a, .string x.s, .string x.p, .bool x.h, .bool x.e, .slice x.A x.b.length x.c, .slice x.B x.l.length x.d] 69) 69 [.int .i64 x.k, .int .i64 x.a, .string x.s, .string x.p, .bool x.h, .bool x.e, .slice x.A x.b.length x.c, .slice x.B x.l.length x.d]) (by rw [flat_one]; rfl))
        clear hxt hxm hg ha hst hle1 hte hx1 hq hbl hll hcs hk HXI HM2
        go_wp2_with (first
        | ((with_reducible refine wp_rkMore rfl (.tmp 15) (.tmp 17) rfl HR0.out rfl (some ⟨wr.heap.size + 1, 0, none⟩) 1 [x] 1 rfl rfl HS0.out HM0.out (q + 1) rfl ?_); intro Az cz wz HRZ HOZ HKZ; have HNZ := Lib.hid (nd_kept HRK.out HNB.out (.cells #[.int .i64 x.k, .int .i64 x.a, .string x.s, .string x.p, .bool x.h, .bool x.e, .slice x.A x.b.length x.c, .slice x.B x.l.length x.d] 69) HOZ.out); have HGZ := Lib.hid (not_in_new HRK.out rfl HKZ.out (by simp; omega)); have n6 := HNZ.out.cell 6; simp only [List.getElem?_cons_zero, List.getElem?_cons_succ] at n6; have HBZ := Lib.hid HRZ.out.bel)
        | (go_at_call 30; ((with_reducible refine (HCB.out _ HBZ.out).mono ?_); rintro e w1 ⟨X1, d1, rfl, HX1, HF1, HB1⟩; have HR1 := Lib.hid (HRZ.out.later HB1.out); have HS1 := Lib.hid HX1.out.src; have HN1 := Lib.hid (HNZ.out.bel HB1.out); clear HB1))
        | ((with_reducible refine wp_rkMore rfl (.tmp 19) (.tmp 22) rfl HR1.out rfl X1 d1 (callNs x.b) _ rfl rfl HS1.out HM1.out _ rfl ?_); intro A2 c2 w2 HR2 HO2 HK2; have HN2 := Lib.hid (nd_kept1 HGZ.out HN1.out HO2.out); have n7 := HN2.out.cell 7; simp only [List.getElem?_cons_zero, List.getElem?_cons_succ] at n7; have HBL2 := Lib.hid HR2.out.bel)
        | (go_at_call 30; ((with_reducible refine (HCE.out _ HBL2.out).mono ?_); rintro e w3 ⟨X3, d3, rfl, HX3, HF3, HB3⟩; have HR3 := Lib.hid (HR2.out.later HB3.out); have HS3 := Lib.hid HX3.out.src; clear HB3))
        | ((with_reducible refine wp_rkMore rfl (.tmp 24) (.tmp 27) rfl HR3.out rfl X3 d3 (callNs x.l) _ rfl rfl HS3.out HM3.out _ rfl ?_); intro A4 c4 w4 HR4 HO4 HK4))
        go_roundw
        case rel => exact ⟨i + 1, A4, _, c4, by omega, by go_num, rfl, Lib.hid (by rw [HCS.out, ← List.append_assoc, ← List.append_assoc]; exact HR4.out)⟩
        case measure => simp [intOf]; omega
      · have k4 : (x.k == 4) = false := by simpa using hk
        rw [if_neg hk, List.nil_append] at hcs HM2
        have HCS := Lib.hid hcs
        have HM1 := Lib.hid (show q + (callNs x.b).length ≤ 100000 by have := HM2.out; simp at this ⊢; omega)
        have HM3 := Lib.hid (show q + (callNs x.b).length + (callNs x.l).length ≤ 100000 by have := HM2.out; simp at this ⊢; omega)
        have HRZ := Lib.hid (HRK.out.later (Bel.alloc wr (.cells #[.int .i64 x.k, .int .i64 x.a, .string x.s, .string x.p, .bool x.h, .bool x.e, .slice x.A x.b.length x.c, .slice x.B x.l.length x.d] 69)))
        have HGZ := Lib.hid (fun hk => absurd (HRK.out.row.lt _ hk) (Nat.lt_irrefl _) : wr.heap.size ∉ rowT A')
        clear hxt hxm hg ha hst hle1 hte hx1 hq hbl hll hcs hk HXI HM2
        go_wp2_with (first
        | (go_at_call 30; ((with_reducible refine (HCB.out _ HBN.out).mono ?_); rintro e w1 ⟨X1, d1, rfl, HX1, HF1, HB1⟩; have HR1 := Lib.hid (HRZ.out.later HB1.out); have HS1 := Lib.hid HX1.out.src; have HN1 := Lib.hid (HNB.out.bel HB1.out); clear HB1))
        | ((with_reducible refine wp_rkMore rfl (.tmp 19) (.tmp 22) rfl HR1.out rfl X1 d1 (callNs x.b) _ rfl rfl HS1.out HM1.out _ rfl ?_); intro A2 c2 w2 HR2 HO2 HK2; have HN2 := Lib.hid (nd_kept1 HGZ.out HN1.out HO2.out); have n7 := HN2.out.cell 7; simp only [List.getElem?_cons_zero, List.getElem?_cons_succ] at n7; have HBL2 := Lib.hid HR2.out.bel)
        | (go_at_call 30; ((with_reducible refine (HCE.out _ HBL2.out).mono ?_); rintro e w3 ⟨X3, d3, rfl, HX3, HF3, HB3⟩; have HR3 := Lib.hid (HR2.out.later HB3.out); have HS3 := Lib.hid HX3.out.src; clear HB3))
        | ((with_reducible refine wp_rkMore rfl (.tmp 24) (.tmp 27) rfl HR3.out rfl X3 d3 (callNs x.l) _ rfl rfl HS3.out HM3.out _ rfl ?_); intro A4 c4 w4 HR4 HO4 HK4))
        go_roundw
        case rel => exact ⟨i + 1, A4, _, c4, by omega, by go_num, rfl, Lib.hid (by rw [HCS.out, ← List.append_assoc]; exact HR4.out)⟩
        case measure => simp [intOf]; omega
    · obtain rfl : i = n := by omega
      have HRF := Lib.hid (show RkAt w wr A' q c' (callNs l) by have h := HRK.out; rwa [HN.out, List.take_length] at h)
      go_wp2_with fail
      go_ret
      exact ⟨A', c', by rw [HRF.out.len]; rfl, Lib.hid HRF.out.row, Lib.hid HRF.out.fresh, Lib.hid HRF.out.bel⟩
theorem dcalls_all (x : NT) : DcM x := by
  refine NT.ind (M := DcM) (fun t h1 h2 => ?_) x
  intro w ht hz
  rw [tot_eq] at hz
  exact ⟨dcalls_row t.b h1 _ _ w ht.body (by omega), dcalls_row t.l h2 _ _ w ht.els (by omega)⟩
theorem dcalls_c {l : List NT} {A : Option Addr} {c : Nat} {w : World} (hA : Row w (Lt w) A c l) (ht : tots l ≤ 100000) : DcC w A l.length c l := dcalls_row l (fun x _ => dcalls_all x) A c w hA ht
/-! ### split -/
/-- Two rows of the call's own, side by side. -/
structure Sp2 (w wr : World) (A : Option Addr) (q c : Nat) (D : List NT) (B : Option Addr) (p d : Nat) (M : List NT) : Prop where
  a : RkAt w wr A q c D
  b : RkAt w wr B p d M
  apart : ∀ k, k ∈ rowT A → k ∉ rowT B
theorem Sp2.swap {w wr : World} {A B : Option Addr} {q c p d : Nat} {D M : List NT} (h : Sp2 w wr A q c D B p d M) : Sp2 w wr B p d M A q c D := ⟨h.b, h.a, fun k h1 h2 => h.apart k h2 h1⟩
theorem Sp2.later {w wr w2 : World} {A B : Option Addr} {q c p d : Nat} {D M : List NT} (h : Sp2 w wr A q c D B p d M) (hb : Bel wr w2) : Sp2 w w2 A q c D B p d M := ⟨h.a.later hb, h.b.later hb, h.apart⟩
theorem Sp2.push {w wr w2 : World} {A A' B : Option Addr} {q c c' p d N : Nat} {D D' M : List NT} (h : Sp2 w wr A q c D B p d M) (hR : RkAt w w2 A' N c' D') (hO : Only (rowT A) wr w2) (hK : ∀ k, k ∈ rowT A' → k ∈ rowT A ∨ k = wr.heap.size) : Sp2 w w2 A' N c' D' B p d M := by
  refine ⟨hR, ⟨h.b.row.only hO (fun k hk hk2 => h.apart k hk2 hk), h.b.len, h.b.fresh, hR.bel⟩, fun k hk hk2 => ?_⟩
  rcases hK k hk with h1 | h1
  · exact h.apart k h1 hk2
  · have := h.b.row.lt k hk2; omega
theorem defs_step {l : List NT} {i : Nat} {x : NT} (h : l[i]? = some x) : (x.k = 6 → defsN (l.take (i + 1)) = defsN (l.take i) ++ [x] ∧ mainN (l.take (i + 1)) = mainN (l.take i)) ∧ (x.k ≠ 6 → defsN (l.take (i + 1)) = defsN (l.take i) ∧ mainN (l.take (i + 1)) = mainN (l.take i) ++ [x]) := by
  rw [NT.take_step h]
  unfold defsN mainN
  rw [List.filter_append, List.filter_append]
  constructor
  · intro hk
    have e : isDef x = true := by unfold isDef; rw [hk]; rfl
    simp [List.filter_cons, e]
  · intro hk
    have e : isDef x = false := by unfold isDef; simpa using hk
    simp [List.filter_cons, e]
theorem defs_len (l : List NT) : (defsN l).length ≤ l.length := List.length_filter_le _ _
theorem main_len (l : List NT) : (mainN l).length ≤ l.length := List.length_filter_le _ _
/-- What split answers. -/
def SplitP (l : List NT) (w : World) (e : Ending) (w' : World) : Prop := ∃ A c B d, e = .returned (.tuple #[.slice A (defsN l).length c, .slice B (mainN l).length d]) ∧ Hid (Sp2 w w' A (defsN l).length c (defsN l) B (mainN l).length d (mainN l))
theorem ndS (wr : World) (x : NT) : Src ((wr.alloc (.cells #[.int .i64 x.k, .int .i64 x.a, .string x.s, .string x.p, .bool x.h, .bool x.e, .slice x.A x.b.length x.c, .slice x.B x.l.length x.d] 69)).alloc (.cells #[.int .i64 x.k, .int .i64 x.a, .string x.s, .string x.p, .bool x.h, .bool x.e, .slice x.A x.b.length x.c, .slice x.B x.l.length x.d] 69)) 8 NT.cs (some ⟨wr.heap.size + 1, 0, none⟩) [x] := src_blk (f := NT.cs) (z := 8) (m := [x]) (blk_at1 wr (.cells #[.int .i64 x.k, .int .i64 x.a, .string x.s, .string x.p, .bool x.h, .bool x.e, .slice x.A x.b.length x.c, .slice x.B x.l.length x.d] 69) 69 [.int .i64 x.k, .int .i64 x.a, .string x.s, .string x.p, .bool x.h, .bool x.e, .slice x.A x.b.length x.c, .slice x.B x.l.length x.d]) (by rw [flat_one]; rfl)
set_option maxRecDepth 100000 in
set_option maxHeartbeats 3200000 in
theorem dsplit_c {l : List NT} {A : Option Addr} {c : Nat} {w : World} (hA : Row w (Lt w) A c l) (ht : l.length ≤ 100000) : Calls Tryz.prog 29 #[.slice A l.length c] w (SplitP l w) := by
  obtain ⟨n, hn⟩ : ∃ n, n = l.length := ⟨_, rfl⟩
  rw [← hn] at ht ⊢
  have HA := Lib.hid hA
  have HN := Lib.hid hn
  clear hA hn
  go_enter Tryz.func29, Tryz.ntmps29
  go_wp2_with fail
  go_loopw [2, 3, 8] (fun s2 s3 s8 wr => ∃ (i : Nat) (A' : Option Addr) (q c' : Nat) (B : Option Addr) (p d : Nat), i ≤ n ∧ s8 = .int .i64 i ∧ s2 = .slice A' q c' ∧ s3 = .slice B p d ∧ Hid (Sp2 w wr A' q c' (defsN (l.take i)) B p d (mainN (l.take i)))) (fun _ _ s8 _ => n - (intOf s8).toNat)
  case atStart => exact ⟨0, none, 0, 0, none, 0, 0, Nat.zero_le _, rfl, rfl, rfl, Lib.hid ⟨⟨KRow.nil _ _ _ _, rfl, by simp [rowT], Bel.refl _⟩, ⟨KRow.nil _ _ _ _, rfl, by simp [rowT], Bel.refl _⟩, by simp [rowT]⟩⟩
  case round =>
    obtain ⟨i, A', q, c', B, p, d, hi, rfl, rfl, rfl, HSP⟩ := hrel
    by_cases hlt : i < n
    · have hxt := List.getElem?_eq_getElem (l := l) (i := i) (by have := HN.out; omega)
      generalize l[i]'(by have := HN.out; omega) = x at hxt
      obtain ⟨g, o, hAA, hg, ha⟩ := HA.out.cells hxt
      subst hAA
      obtain ⟨a0, a1, a2, a3, a4, a5, a6, a7⟩ := ha wr HSP.out.a.bel
      have HDS := Lib.hid (defs_step hxt)
      have hq : q ≤ i := by have h1 := HSP.out.a.len; have h2 := defs_len (l.take i); rw [List.length_take] at h2; omega
      have hp : p ≤ i := by have h1 := HSP.out.b.len; have h2 := main_len (l.take i); rw [List.length_take] at h2; omega
      have HM1 := Lib.hid (show q + [x].length ≤ 100000 by simp; omega)
      have HM2 := Lib.hid (show p + [x].length ≤ 100000 by simp; omega)
      have HS0 := Lib.hid (ndS wr x)
      have HP0 := Lib.hid ((HSP.out.later (Bel.alloc wr (.cells #[.int .i64 x.k, .int .i64 x.a, .string x.s, .string x.p, .bool x.h, .bool x.e, .slice x.A x.b.length x.c, .slice x.B x.l.length x.d] 69))).later (Bel.alloc (wr.alloc (.cells #[.int .i64 x.k, .int .i64 x.a, .string x.s, .string x.p, .bool x.h, .bool x.e, .slice x.A x.b.length x.c, .slice x.B x.l.length x.d] 69)) (.cells #[.int .i64 x.k, .int .i64 x.a, .string x.s, .string x.p, .bool x.h, .bool x.e, .slice x.A x.b.length x.c, .slice x.B x.l.length x.d] 69)))
      clear hxt hg ha hq hp
      by_cases hk : x.k = 6
      · have k6 : (x.k == 6) = true := by rw [hk]; rfl
        have HE := Lib.hid (HDS.out.1 hk)
        clear hk
        go_wp2_with ((with_reducible refine wp_rkMore rfl (.tmp 15) (.tmp 17) rfl HP0.out.a rfl (some ⟨wr.heap.size + 1, 0, none⟩) 1 [x] 1 rfl rfl HS0.out HM1.out (q + 1) rfl ?_); intro Az cz wz HRZ HOZ HKZ)
        go_roundw
        case rel => exact ⟨i + 1, Az, q + 1, cz, B, p, d, by omega, by go_num, rfl, rfl, Lib.hid (by rw [HE.out.1, HE.out.2]; exact HP0.out.push HRZ.out HOZ.out HKZ.out)⟩
        case measure => simp [intOf]; omega
      · have k6 : (x.k == 6) = false := by simpa using hk
        have HE := Lib.hid (HDS.out.2 hk)
        clear hk
        go_wp2_with ((with_reducible refine wp_rkMore rfl (.tmp 19) (.tmp 21) rfl HP0.out.b rfl (some ⟨wr.heap.size + 1, 0, none⟩) 1 [x] 1 rfl rfl HS0.out HM2.out (p + 1) rfl ?_); intro Az cz wz HRZ HOZ HKZ)
        go_roundw
        case rel => exact ⟨i + 1, A', q, c', Az, p + 1, cz, by omega, by go_num, rfl, rfl, Lib.hid (by rw [HE.out.1, HE.out.2]; exact (HP0.out.swap.push HRZ.out HOZ.out HKZ.out).swap)⟩
        case measure => simp [intOf]; omega
    · obtain rfl : i = n := by omega
      have HRF := Lib.hid (show Sp2 w wr A' q c' (defsN l) B p d (mainN l) by have h := HSP.out; rwa [HN.out, List.take_length] at h)
      go_wp2_with fail
      go_ret2
      exact ⟨A', c', B, d, by rw [HRF.out.a.len, HRF.out.b.len]; rfl, Lib.hid (by rw [HRF.out.a.len, HRF.out.b.len]; exact HRF.out)⟩
theorem defs_mem {l : List NT} {x : NT} (h : x ∈ defsN l) : x ∈ l ∧ x.k = 6 := by
  unfold defsN isDef at h
  simpa using List.mem_filter.1 h
set_option maxRecDepth 100000 in
set_option maxHeartbeats 3200000 in
/-- Main: the main nodes, as they lie, in a row of their own. -/
theorem mainK_c {l : List NT} {A : Option Addr} {c : Nat} {w : World} (hA : Row w (Lt w) A c l) (ht : l.length ≤ 100000) :
    Calls Tryz.prog 41 #[.slice A l.length c] w fun e w' => ∃ B d, e = .returned (.slice B (mainN l).length d) ∧ RkAt w w' B (mainN l).length d (mainN l) := by
  have HSP := Lib.hid (dsplit_c hA ht)
  clear hA
  go_enter Tryz.func41, Tryz.ntmps41
  go_wp2_with (go_at_call 29; ((with_reducible refine HSP.out.mono ?_); rintro e w1 ⟨A1, c1, B1, d1, rfl, HS1⟩))
  go_ret
  exact ⟨B1, d1, rfl, HS1.out.b⟩
end Go.Proofs.YtpcapmdfjmpdiaaGreatDoor

namespace Go.Proofs.YtpcapmdfjmpdiaaGreatDoor
open Go.RowKit Go.BigFrame Go.Maps Go.Sort Go.Shelf NT
set_option linter.unusedVariables false
set_option linter.unusedSimpArgs false

/-- The map holds just the names F; each leads to true. -/
def fF (F : List ByteArray) (k : ByteArray) : Option Value := if hasN F k = true then some (.bool true) else none
theorem fF_in {F : List ByteArray} {k : ByteArray} (h : k ∈ F) : fF F k = some (.bool true) := if_pos (hasN_iff.2 h)
theorem fF_out {F : List ByteArray} {k : ByteArray} (h : k ∉ F) : fF F k = none := if_neg (fun e => h (hasN_iff.1 e))
theorem fF_nil (k : ByteArray) : (none : Option Value) = fF [] k := (fF_out (by simp)).symm
theorem fF_push (F : List ByteArray) (x k : ByteArray) : (if k = x then some (.bool true) else fF F k) = fF (F ++ [x]) k := by
  by_cases h : k = x
  · subst h; rw [if_pos rfl, fF_in (by simp)]
  · rw [if_neg h]
    by_cases h2 : k ∈ F
    · rw [fF_in h2, fF_in (by simp [h2])]
    · rw [fF_out h2, fF_out (by simp [h, h2])]
theorem SMap.perm {w : World} {M n : Nat} {F : List ByteArray} (h : SMap w M n (fF F)) (hn : F.Nodup) : ∃ D : DataW Value, w.ownsMap Tryz.prog 9 RVal M n D ∧ (strKeys D).Perm (F.map kL) := by
  obtain ⟨D, h1, h2⟩ := h
  refine ⟨D, h1, List.Perm.symm ?_⟩
  have hC : Collected D (fun _ => false) (F.map kL) := by
    refine ⟨?_, fun x => ?_⟩
    · rw [List.nodup_iff_pairwise_ne, List.pairwise_map]
      exact (List.nodup_iff_pairwise_ne.1 hn).imp fun hne e => hne (kL_inj e)
    · rw [List.mem_map]
      have e : x = kL ⟨x.toArray⟩ := by simp [kL]
      constructor
      · rintro ⟨k, hk, rfl⟩
        exact ⟨((h2 k).2 _ (fF_in hk)).1, rfl⟩
      · rintro ⟨hx, _⟩
        refine ⟨⟨x.toArray⟩, ?_, e.symm⟩
        by_cases hm : (⟨x.toArray⟩ : ByteArray) ∈ F
        · exact hm
        · have := (h2 _).1 (fF_out hm)
          rw [← e, hx] at this
          cases this
  exact hC.perm h1 keyLaw Tryz.underlying9 (fun _ => rfl)
theorem size_strKeys {H : Type} {D : DataW H} : Maps.size D = (strKeys D).length := by
  cases D <;> simp [Maps.size, strKeys]
end Go.Proofs.YtpcapmdfjmpdiaaGreatDoor
