/-
  Contract: the reference's Calls of layer 14.
-/
import Derived.Test.YtkipmaoeejdncaaLa11
import Derived.Test.YtkipmaoeejdncaaNm
import Derived.Test.YtkipmaoeejdncaaKRow
import Derived.Test.YtkipmaoeejdncaaDn14
namespace Go.Proofs.Ytkipmaoeejdncaa
open Go.RowKit Go.BigFrame NT
set_option linter.unusedVariables false
set_option linter.unusedSimpArgs false

theorem callN_len (t : NT) : (callN t).length ≤ t.tot := by
  refine NT.ind (M := fun t => (callN t).length ≤ t.tot) (fun t h1 h2 => ?_) t
  have key : ∀ l : List NT, (∀ x, x ∈ l → (callN x).length ≤ x.tot) → (callNs l).length ≤ tots l := by
    intro l
    induction l with
    | nil => intro _; simp [callNs_nil, tots_nil]
    | cons x l ih =>
      intro h
      rw [callNs_cons, tots_cons, List.length_append]
      have := h x (by simp)
      have := ih fun y hy => h y (by simp [hy])
      omega
  have := key _ h1
  have := key _ h2
  rw [callN_eq, tot_eq, List.length_append, List.length_append]
  split <;> simp <;> omega
theorem callNs_len : ∀ l : List NT, (callNs l).length ≤ tots l
  | [] => by simp [callNs_nil, tots_nil]
  | x :: l => by
    rw [callNs_cons, tots_cons, List.length_append]
    have := callN_len x
    have := callNs_len l
    omega
theorem callNs_step {l : List NT} {i : Nat} {x : NT} (h : l[i]? = some x) : callNs (l.take (i + 1)) = callNs (l.take i) ++ callN x := by rw [NT.take_step h, callNs_append, callNs_cons, callNs_nil, List.append_nil]
/-- What the reference's Calls answers: the calls themselves, as they lie, in a row of its own. -/
def RcP (l : List NT) (w : World) (e : Ending) (w' : World) : Prop := ∃ A c, e = .returned (.slice A (callNs l).length c) ∧ Hid (KRow w' 25 8 NT.cs A c (callNs l)) ∧ Hid (∀ k, k ∈ rowT A → w.heap.size ≤ k) ∧ Hid (Bel w w')
abbrev RcC (w : World) (A : Option Addr) (n c : Nat) (l : List NT) : Prop := Calls Try.prog 14 #[.slice A n c] w (RcP l w)
def RcM (x : NT) : Prop := ∀ (w : World), x.In w (Lt w) → x.tot ≤ 100000 → RcC w x.A x.b.length x.c x.b ∧ RcC w x.B x.l.length x.d x.l
theorem bel_onK14 {S : List Nat} {w w1 w2 : World} (h : Bel w w1) (ho : Only S w1 w2) (hS : ∀ k, k ∈ S → w.heap.size ≤ k) : Bel w w2 := bel_of_only ((bel_only h).join ho (fun k hk => .inr (hS k hk)))
/-- The state of the row of calls. -/
structure RkAt (w wr : World) (A : Option Addr) (q c : Nat) (done : List NT) : Prop where
  row : KRow wr 25 8 NT.cs A c done
  len : done.length = q
  fresh : ∀ k, k ∈ rowT A → w.heap.size ≤ k
  bel : Bel w wr
theorem RkAt.later {w wr w2 : World} {A : Option Addr} {q c : Nat} {done : List NT} (h : RkAt w wr A q c done) (hb : Bel wr w2) : RkAt w w2 A q c done :=
  ⟨h.row.only (bel_only hb) (by simp), h.len, h.fresh, h.bel.trans hb⟩
theorem RkAt.push {w wr w2 : World} {A A' : Option Addr} {q c c' : Nat} {done m : List NT} (h : RkAt w wr A q c done) (hR : KRow w2 25 8 NT.cs A' c' (done ++ m)) (hO : Only (rowT A) wr w2) (hK : ∀ k, k ∈ rowT A' → k ∈ rowT A ∨ k = wr.heap.size) : RkAt w w2 A' (q + m.length) c' (done ++ m) := by
  refine ⟨hR, by rw [List.length_append, h.len], fun k hk => ?_, bel_onK14 h.bel hO h.fresh⟩
  rcases hK k hk with h1 | h1
  · exact h.fresh k h1
  · have := h.bel.size; omega
theorem info_node14 : (Try.prog.info? 25).map (fun i => (i.zero, i.size, i.bytes)) = some (some (.agg #[.int .i64 0, .int .i64 0, .string ByteArray.empty, .string ByteArray.empty, .bool false, .bool false, .slice none 0 0, .slice none 0 0]), 8, 104) := by kernel_rfl
theorem cells_node14 : (Value.agg #[.int .i64 0, .int .i64 0, .string ByteArray.empty, .string ByteArray.empty, .bool false, .bool false, .slice none 0 0, .slice none 0 0]).cells.size = 8 := by kernel_rfl
section
variable {w : World} {ops : Array Oper} {rest : List Oper} {o : Oper} {a : Act} {Q : Exit → Act → World → Prop}
theorem wp_rkMany (hgd : o.guard = none) (s x : Operand) (ho : o.op = .call { callee := .builtin .append, args := #[s, x], argTypes := #[22, 22] })
    {w0 : World} {A : Option Addr} {n c : Nat} {l : List NT} (hA : RkAt w0 w A n c l) (hs : a.eval s = .slice A n c) (X : Option Addr) (d : Nat) (m : List NT) (k : Nat) (hk : m.length = k) (hx : a.eval x = .slice X k d) (hX : Src w 8 NT.cs X m) (hle : n + m.length ≤ 100000) (N : Nat) (hN : N = n + k)
    (h : ∀ A' c' w', Hid (RkAt w0 w' A' N c' (l ++ m)) → wpList Try.prog ops Q rest (a.put o.dst (.slice A' N c')) w') :
    wpList Try.prog ops Q (o :: rest) a w :=
  wp_kAppend hgd s x 22 ho 25 _ 8 104 NT.cs NT.cs_len NT.cs_one Try.underlying22 info_node14 cells_node14 (by decide) A c l n hA.len hs hA.row X d m k hk hx hX (by unfold maxLen; omega) (by omega) N hN
    (fun A' c' w' h1 h2 h3 => h A' c' w' (Lib.hid (by have := hA.push h1.out h2 h3.out; rwa [hk, ← hN] at this)))
end
set_option maxRecDepth 100000 in
set_option maxHeartbeats 3200000 in
theorem rcalls_row (l : List NT) (ih : ∀ x ∈ l, RcM x) (A : Option Addr) (c : Nat) (w : World) (hA : Row w (Lt w) A c l) (ht : tots l ≤ 100000) : RcC w A l.length c l := by
  obtain ⟨n, hn⟩ : ∃ n, n = l.length := ⟨_, rfl⟩
  have hn5 := hA.len
  rw [← hn] at hn5 ⊢
  have HA := Lib.hid hA
  have HI := Lib.hid ih
  have HN := Lib.hid hn
  have HT := Lib.hid ht
  clear hA ih hn ht
  go_enter Try.func14, Try.ntmps14
  go_wp2_with fail
  go_loopw [3, 4] (fun s3 s4 wr => ∃ (i : Nat) (A' : Option Addr) (q c' : Nat), i ≤ n ∧ s4 = .int .i64 i ∧ s3 = .slice A' q c' ∧ Hid (RkAt w wr A' q c' (callNs (l.take i)))) (fun _ s4 _ => n - (intOf s4).toNat)
  case atStart => exact ⟨0, none, 0, 0, Nat.zero_le _, rfl, rfl, Lib.hid ⟨KRow.nil _ _ _ _, rfl, by simp [rowT], Bel.refl _⟩⟩
  case round =>
    obtain ⟨i, A', q, c', hi, rfl, rfl, HRK⟩ := hrel
    by_cases hlt : i < n
    · have hxt := List.getElem?_eq_getElem (l := l) (i := i) (by have := HN.out; omega)
      generalize l[i]'(by have := HN.out; omega) = x at hxt
      have hxm := List.mem_of_getElem? hxt
      obtain ⟨g, o, hAA, hg, ha⟩ := HA.out.cells hxt
      subst hAA
      have HXI := Lib.hid (HA.out.2 x hxm)
      have hst := tots_step hxt
      have hle1 : tots (l.take (i + 1)) ≤ 100000 := by have h1 := HT.out; rw [← List.take_append_drop (i + 1) l, tots_append] at h1; omega
      have hte := tot_eq x
      have hx1 : x.tot ≤ 100000 := by omega
      have HMX := Lib.hid (fun W (hb : Bel w W) => HI.out x hxm W (HXI.out.bel hb) hx1)
      have HCB := Lib.hid (fun W (hb : Bel w W) => (HMX.out W hb).1)
      have HCE := Lib.hid (fun W (hb : Bel w W) => (HMX.out W hb).2)
      have hq : q ≤ tots (l.take i) := by have := callNs_len (l.take i); have := HRK.out.len; omega
      have hbl := callNs_len x.b
      have hll := callNs_len x.l
      have hcs := callNs_step hxt
      rw [callN_eq] at hcs
      have HAA := Lib.hid ha
      have HRS := HRK
      have HBL := Lib.hid HRK.out.bel
      obtain ⟨a0, a1, a2, a3, a4, a5, a6, a7⟩ := ha wr HRK.out.bel
      by_cases hk : x.k = 4
      · have k4 : (x.k == 4) = true := by rw [hk]; rfl
        rw [if_pos hk] at hcs
        have HCS := Lib.hid hcs
        have HM0 := Lib.hid (show q + [x].length ≤ 100000 by simp; omega)
        have HM1 := Lib.hid (show q + 1 + (callNs x.b).length ≤ 100000 by omega)
        have HM2 := Lib.hid (show q + 1 + (callNs x.b).length + (callNs x.l).length ≤ 100000 by omega)
        have HR0 := Lib.hid (HRK.out.later (Bel.alloc wr (.cells #[.int .i64 x.k, .int .i64 x.a, .string x.s, .string x.p, .bool x.h, .bool x.e, .slice x.A x.b.length x.c, .slice x.B x.l.length x.d] 25)))
        have HS0 := Lib.hid (src_blk (f := NT.cs) (z := 8) (m := [x]) (Blk.new wr 25 [.int .i64 x.k, .int .i64 x.a, .string x.s, .string x.p, .bool x.h, .bool x.e, .slice x.A x.b.length x.c, .slice x.B x.l.length x.d]) (by rw [flat_one]; rfl))
        clear hxt hxm hg ha hst hle1 hte hx1 hq hbl hll hcs hk HXI HBL HRK
        go_wp2_with (first
        | ((with_reducible refine wp_rkMany rfl (.tmp 17) (.tmp 22) rfl HR0.out rfl (some ⟨wr.heap.size, 0, none⟩) 1 [x] 1 rfl rfl HS0.out HM0.out (q + 1) rfl ?_); intro Az cz wz HRZ; have HCZ := Lib.hid (HAA.out _ HRZ.out.bel).2.2.2.2.2.2.1; have hcz := HCZ.out; have HBZ := Lib.hid HRZ.out.bel)
        | (go_at_call 14; ((with_reducible refine (HCB.out _ HBZ.out).mono ?_); rintro e w1 ⟨X1, d1, rfl, HX1, HF1, HB1⟩; have HR1 := Lib.hid (HRZ.out.later HB1.out); have HS1 := Lib.hid HX1.out.src; clear HB1))
        | ((with_reducible refine wp_rkMany rfl (.tmp 24) (.tmp 30) rfl HR1.out rfl X1 d1 (callNs x.b) _ rfl rfl HS1.out HM1.out _ rfl ?_); intro A2 c2 w2 HR2; have HC2 := Lib.hid (HAA.out _ HR2.out.bel).2.2.2.2.2.2.2; have hc2 := HC2.out; have HBL2 := Lib.hid HR2.out.bel)
        | (go_at_call 14; ((with_reducible refine (HCE.out _ HBL2.out).mono ?_); rintro e w3 ⟨X3, d3, rfl, HX3, HF3, HB3⟩; have HR3 := Lib.hid (HR2.out.later HB3.out); have HS3 := Lib.hid HX3.out.src; clear HB3))
        | ((with_reducible refine wp_rkMany rfl (.tmp 32) (.tmp 38) rfl HR3.out rfl X3 d3 (callNs x.l) _ rfl rfl HS3.out HM2.out _ rfl ?_); intro A4 c4 w4 HR4))
        go_roundw
        case rel => exact ⟨i + 1, A4, _, c4, by omega, by go_num, rfl, Lib.hid (by rw [HCS.out, ← List.append_assoc, ← List.append_assoc]; exact HR4.out)⟩
        case measure => simp [intOf]; omega
      · have k4 : (x.k == 4) = false := by simpa using hk
        rw [if_neg hk, List.nil_append] at hcs
        have HCS := Lib.hid hcs
        have HM1 := Lib.hid (show q + (callNs x.b).length ≤ 100000 by omega)
        have HM2 := Lib.hid (show q + (callNs x.b).length + (callNs x.l).length ≤ 100000 by omega)
        clear hxt hxm hg ha hst hle1 hte hx1 hq hbl hll hcs hk HXI HRS
        go_wp2_with (first
        | (go_at_call 14; ((with_reducible refine (HCB.out _ HBL.out).mono ?_); rintro e w1 ⟨X1, d1, rfl, HX1, HF1, HB1⟩; have HR1 := Lib.hid (HRK.out.later HB1.out); have HS1 := Lib.hid HX1.out.src; clear HB1))
        | ((with_reducible refine wp_rkMany rfl (.tmp 24) (.tmp 30) rfl HR1.out rfl X1 d1 (callNs x.b) _ rfl rfl HS1.out HM1.out _ rfl ?_); intro A2 c2 w2 HR2; have HC2 := Lib.hid (HAA.out _ HR2.out.bel).2.2.2.2.2.2.2; have hc2 := HC2.out; have HBL2 := Lib.hid HR2.out.bel)
        | (go_at_call 14; ((with_reducible refine (HCE.out _ HBL2.out).mono ?_); rintro e w3 ⟨X3, d3, rfl, HX3, HF3, HB3⟩; have HR3 := Lib.hid (HR2.out.later HB3.out); have HS3 := Lib.hid HX3.out.src; clear HB3))
        | ((with_reducible refine wp_rkMany rfl (.tmp 32) (.tmp 38) rfl HR3.out rfl X3 d3 (callNs x.l) _ rfl rfl HS3.out HM2.out _ rfl ?_); intro A4 c4 w4 HR4))
        go_roundw
        case rel => exact ⟨i + 1, A4, _, c4, by omega, by go_num, rfl, Lib.hid (by rw [HCS.out, ← List.append_assoc]; exact HR4.out)⟩
        case measure => simp [intOf]; omega
    · obtain rfl : i = n := by omega
      have HRF := Lib.hid (show RkAt w wr A' q c' (callNs l) by have h := HRK.out; rwa [HN.out, List.take_length] at h)
      go_wp2_with fail
      go_ret
      exact ⟨A', c', by rw [HRF.out.len]; rfl, Lib.hid HRF.out.row, Lib.hid HRF.out.fresh, Lib.hid HRF.out.bel⟩
theorem rcalls_all (x : NT) : RcM x := by
  refine NT.ind (M := RcM) (fun t h1 h2 => ?_) x
  intro w ht hz
  rw [tot_eq] at hz
  exact ⟨rcalls_row t.b h1 _ _ w ht.body (by omega), rcalls_row t.l h2 _ _ w ht.els (by omega)⟩
theorem rcalls_c {l : List NT} {A : Option Addr} {c : Nat} {w : World} (hA : Row w (Lt w) A c l) (ht : tots l ≤ 100000) : Calls Try.prog 14 #[.slice A l.length c] w (RcP l w) := rcalls_row l (fun x _ => rcalls_all x) A c w hA ht
end Go.Proofs.Ytkipmaoeejdncaa
