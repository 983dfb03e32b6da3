/-
  Contracts for the law ValueFromRejects: maps written by literals, bytes of a string; the values that From refuses.
-/
import Derived.Test.YtmgnomahnndeaaaDoorFrom9
import Derived.Test.YtmgnomahnndeaaaDoorLookLaw
import Derived.Lib.ConvBytes
namespace Go
open Go.Maps (Keyed)
/-- An entry of a map literal: the map has that entry too. -/
theorem wpList_insert_own {H : Type} {P : Program} (w : World) {ops : Array Oper} {rest : List Oper} {o : Oper} {a : Act} {Q : Exit → Act → World → Prop}
    (hg : o.guard = none) (m x v : Operand) (t : TypeId) (hop : o.op = Op.insert t m x v)
    (k e : TypeId) (K : Keyed P k) (ht : P.underlying t = some (.map k e)) (R : Value → Option (DataW H × List MemPlace)) (b n : Nat) (D : DataW H)
    (hm : a.eval m = .map (some b)) (hown : w.ownsMap P k R b n D) (hn : n < maxLen) (key val : Value) (kl : Lit) (hx : a.eval x = key) (hv : a.eval v = val) (hkey : keyOf P k key = some kl)
    (d : DataW H) (ps : List MemPlace) (hval : R val = some (d, ps))
    (hK : ∀ w', w'.ownsMap P k R b (n + 1) (D.put kl d) → w.grownBy w' (some b) → wpList P ops Q rest (a.put o.dst undef) w') :
    wpList P ops Q (o :: rest) a w := by
  refine wpList_plain hg fun K' hK' => ?_
  obtain ⟨w', hrun, r1, r2⟩ := hown.update K ht hn hkey hval
  unfold Oper.wp
  simp [execOp, hop, hm, hx, hv, hrun, Result.andThen]
  exact hK' _ _ (hK w' r1 r2)
end Go
namespace Go.Proofs.YtmgnomahnndeaaaDoor
open Go.RowKit Go.BigFrame Go.Maps Go.WideMaps
set_option linter.unusedVariables false
set_option linter.unusedSimpArgs false
/-- '[]byte(s)': a block of its own. -/
theorem bytes_at (w : World) (s : ByteArray) :
    ∃ c w', (convert 9 52 (.string s)).run Tryd.prog w = .ok (.slice (some ⟨w.heap.size, 0, none⟩) s.size c) w' ∧ Bel w w' ∧ w'.heap.size = w.heap.size + 1 :=
  ⟨_, _, Lib.run_convert_string_bytes w 9 52 5 s Tryd.underlying9 Tryd.underlying52 Tryd.underlying5,
    bel_of_only ⟨rfl, rfl, rfl, by rw [Lib.bytesWorld_size]; exact Nat.le_succ _, fun k hk _ => Lib.bytesWorld_at_old _ _ _ _ hk⟩, by rw [Lib.bytesWorld_size]⟩
/-- A map of one entry. -/
theorem holds_one {w : World} {B n : Nat} {k : ByteArray} {v : AT} (h : w.ownsMap Tryd.prog 9 AT.RV B n ((DataW.map []).put (.string (kL k)) (.held v.val))) : AT.Holds w B [k] [v] := by
  refine ⟨n, _, h, ?_, fun i k' v' hk hv z => ?_⟩
  · exact List.Perm.refl _
  · cases i with
    | zero =>
      simp at hk hv
      subst hk hv
      have hm : IsMap (DataW.map [] : DataW Value) := ⟨_, rfl⟩
      rw [atKey_put_same hm (by simp [WideAt.IsKeyLit])]
    | succ i => simp at hk
theorem bad_nil : AT.Bad .nilIface := ⟨fun w => by kernel_rfl, fun w => by kernel_rfl, fun w => by kernel_rfl, fun w => by kernel_rfl, fun w => by kernel_rfl, fun w => by kernel_rfl⟩
theorem bad_i32 (v : Value) : AT.Bad (.iface 21 v) := ⟨fun w => by kernel_rfl, fun w => by kernel_rfl, fun w => by kernel_rfl, fun w => by kernel_rfl, fun w => by kernel_rfl, fun w => by kernel_rfl⟩
theorem bad_bytes (v : Value) : AT.Bad (.iface 52 v) := ⟨fun w => by kernel_rfl, fun w => by kernel_rfl, fun w => by kernel_rfl, fun w => by kernel_rfl, fun w => by kernel_rfl, fun w => by kernel_rfl⟩
theorem bad_strs (v : Value) : AT.Bad (.iface 23 v) := ⟨fun w => by kernel_rfl, fun w => by kernel_rfl, fun w => by kernel_rfl, fun w => by kernel_rfl, fun w => by kernel_rfl, fun w => by kernel_rfl⟩
theorem bad_ints (v : Value) : AT.Bad (.iface 55 v) := ⟨fun w => by kernel_rfl, fun w => by kernel_rfl, fun w => by kernel_rfl, fun w => by kernel_rfl, fun w => by kernel_rfl, fun w => by kernel_rfl⟩
/-- From of a value with an element of another type. -/
theorem from_none (a : AT) (n : Nat) (hn : n ≤ 50000) (hh : a.hle n) (w : World) (hI : a.In w (· < w.heap.size)) (hc : a.conv = none) :
    Calls Tryd.prog 24 #[a.val] w fun e w' => e = .returned (.tuple #[.agg #[.int .i64 0, .string ByteArray.empty, .int .i64 0, .bool false, .slice none 0 0, .slice none 0 0], .int .i64 18]) ∧ Bel w w' :=
  (From_c a n hn hh w hI).mono fun e w' h => by
    obtain ⟨t, E, rfl, hb, _, h1 | ⟨u, _, h1, _⟩⟩ := h
    · obtain ⟨_, rfl, rfl⟩ := h1
      exact ⟨rfl, hb⟩
    · rw [hc] at h1; cases h1
/-- From of a value that converts to a valid one. -/
theorem from_ok (a : AT) (n : Nat) (hn : n ≤ 50000) (hh : a.hle n) (w : World) (hI : a.In w (· < w.heap.size)) (p : PV) (hc : a.conv = some p) (hp : p.ok 1) :
    Calls Tryd.prog 24 #[a.val] w fun e w' => ∃ t : VT, e = .returned (.tuple #[.agg #[.int .i64 t.k, .string t.s, .int .i64 t.n, .bool t.b, .slice t.A t.xs.length t.c, .slice t.F t.vs.length t.d], .int .i64 0]) ∧ Bel w w' ∧ t.In w' (fun g => w.heap.size ≤ g ∧ g < w'.heap.size) ∧ t.plain = p := by
  refine (From_c a n hn hh w hI).mono fun e w' h => ?_
  obtain ⟨t, E, rfl, hb, ht, ⟨h1, _⟩ | ⟨u, ⟨W, Q, hu⟩, h1, h2, h3, h4⟩⟩ := h
  · rw [hc] at h1; cases h1
  · rw [hc] at h1
    injection h1 with h1
    subst h1
    by_cases h0 : E = 0
    · obtain rfl := h4 h0
      subst h0
      exact ⟨t, rfl, hb, ht, rfl⟩
    · exact absurd (h2.trans ((chk_zero _ u 1 W Q (by omega) hu).2 hp)) h0
/-- The fields of a value, out of what it has without addresses. -/
theorem plain_parts {t : VT} {k : Int} {s : ByteArray} {n : Int} {b : Bool} {xs : List PV} {ks : List ByteArray} {vs : List PV} (h : t.plain = .mk k s n b xs ks vs) :
    t.k = k ∧ t.s = s ∧ t.n = n ∧ t.b = b ∧ t.xs.map VT.plain = xs ∧ t.ks = ks ∧ t.vs.map VT.plain = vs := by
  rw [VT.plain_eq] at h
  injection h with h1 h2 h3 h4 h5 h6 h7
  exact ⟨h1, h2, h3, h4, h5, h6, h7⟩
/-- From of an int. -/
theorem from_int (n : Int) (hn : -9223372036854775808 ≤ n ∧ n ≤ 9223372036854775807) (w : World) :
    Calls Tryd.prog 24 #[.iface 3 (.int .i64 n)] w fun e w' => ∃ (A : Option Addr) (c : Nat) (F : Option Addr) (d : Nat), e = .returned (.tuple #[.agg #[.int .i64 1, .string ByteArray.empty, .int .i64 n, .bool false, .slice A 0 c, .slice F 0 d], .int .i64 0]) ∧ Bel w w' := by
  refine (from_ok (.int n) 1 (by omega) trivial w (.int n hn) _ (by rw [AT.conv]) ?_).mono fun e w' h => ?_
  · rw [PV.ok]; simp [PV.okL]
  · obtain ⟨t, rfl, hb, ht, hp⟩ := h
    obtain ⟨h1, h2, h3, h4, h5, h6, h7⟩ := plain_parts hp
    have l5 := congrArg List.length h5
    have l7 := congrArg List.length h7
    simp only [List.length_map, List.length_nil] at l5 l7
    exact ⟨t.A, t.c, t.F, t.d, by rw [h1, h2, h3, h4, l5, l7], hb⟩
/-- From of a list of an int64, a string and true. -/
theorem from_list (n : Int) (hn : -9223372036854775808 ≤ n ∧ n ≤ 9223372036854775807) (s : ByteArray) (hs : s.size ≤ 1000) (B : Nat) (w : World)
    (hB : Blk w B 20 [.iface 2 (.int .i64 n), .iface 9 (.string s), .iface 4 (.bool true)]) :
    Calls Tryd.prog 24 #[.iface 53 (.slice (some ⟨B, 0, none⟩) 3 3)] w fun e w' => ∃ (g o c : Nat) (F : Option Addr) (d : Nat),
      e = .returned (.tuple #[.agg #[.int .i64 3, .string ByteArray.empty, .int .i64 0, .bool false, .slice (some ⟨g, o, none⟩) 3 c, .slice F 0 d], .int .i64 0]) ∧ Bel w w' ∧ g < w'.heap.size ∧
      w'.cell? ⟨g, o + 2, none⟩ = some (.int .i64 n) ∧ w'.cell? ⟨g, o + 6 + 1, none⟩ = some (.string s) ∧ w'.cell? ⟨g, o + 12 + 3, none⟩ = some (.bool true) := by
  have hI : (AT.list (some ⟨B, 0, none⟩) 3 [.i64 n, .str s, .bool true]).In w (· < w.heap.size) := by
    refine .list _ _ _ (by simp) (fun _ => ⟨B, 0, rfl, hB.lt, fun j x hx => ?_⟩) (fun x hx => ?_)
    · rw [Nat.zero_add, hB.cell]
      rcases j with _ | _ | _ | j
      · simp at hx; subst hx; rfl
      · simp at hx; subst hx; rfl
      · simp at hx; subst hx; rfl
      · simp at hx
    · simp at hx
      rcases hx with rfl | rfl | rfl
      · exact .i64 _ hn
      · exact .str _ (by omega)
      · exact .bool _
  refine (from_ok (.list (some ⟨B, 0, none⟩) 3 [.i64 n, .str s, .bool true]) 2 (by omega) (fun x hx => ?_) w hI (.mk 3 ByteArray.empty 0 false [.mk 1 ByteArray.empty n false [] [] [], .mk 0 s 0 false [] [] [], .mk 2 ByteArray.empty 0 true [] [] []] [] []) ?_ ?_).mono fun e w' h => ?_
  · simp at hx
    rcases hx with rfl | rfl | rfl <;> trivial
  · rw [AT.conv]; simp [AT.convL, AT.conv]
  · simp [PV.ok, PV.okL]
  · obtain ⟨t, rfl, hb, ht, hp⟩ := h
    obtain ⟨h1, h2, h3, h4, h5, h6, h7⟩ := plain_parts hp
    have l5 := congrArg List.length h5
    have l7 := congrArg List.length h7
    simp only [List.length_map, List.length_nil, List.length_cons] at l5 l7
    have hA : ∃ g o, t.A = some ⟨g, o, none⟩ ∧ (w.heap.size ≤ g ∧ g < w'.heap.size) ∧ ∀ i (x : VT), t.xs[i]? = some x → x.Cells w' g (o + i * 6) := by
      cases ht with | mk _ _ _ _ _ _ _ hA _ _ _ _ => exact hA (by omega)
    obtain ⟨g, o, hA, hg, hcell⟩ := hA
    have hx0 := List.getElem?_eq_getElem (show 0 < t.xs.length by omega)
    have hx1 := List.getElem?_eq_getElem (show 1 < t.xs.length by omega)
    have hx2 := List.getElem?_eq_getElem (show 2 < t.xs.length by omega)
    have p0 := congrArg (fun l => l[0]?) h5
    have p1 := congrArg (fun l => l[1]?) h5
    have p2 := congrArg (fun l => l[2]?) h5
    simp only [List.getElem?_map, hx0, hx1, hx2] at p0 p1 p2
    simp at p0 p1 p2
    obtain ⟨_, _, q0, _⟩ := plain_parts p0
    obtain ⟨_, q1, _⟩ := plain_parts p1
    obtain ⟨_, _, _, q2, _⟩ := plain_parts p2
    obtain ⟨_, _, r0, _⟩ := hcell 0 _ hx0
    obtain ⟨_, r1, _⟩ := hcell 1 _ hx1
    obtain ⟨_, _, _, r2, _⟩ := hcell 2 _ hx2
    rw [q0] at r0
    rw [q1] at r1
    rw [q2] at r2
    exact ⟨g, o, t.c, t.F, t.d, by rw [h1, h2, h3, h4, l5, l7, hA], hb, hg.2, by simpa using r0, r1, r2⟩
/-- From of a map of one entry. -/
theorem from_map (s key : ByteArray) (hs : s.size ≤ 1000) (hk : key.size ≤ 1000) (B n : Nat) (w : World) (hB : w.ownsMap Tryd.prog 9 AT.RV B n ((DataW.map []).put (.string (kL key)) (.held (.iface 9 (.string s))))) :
    Calls Tryd.prog 24 #[.iface 54 (.map (some B))] w fun e w' => Bel w w' ∧
      ((nameB key = false ∧ e = .returned (.tuple #[.agg #[.int .i64 0, .string ByteArray.empty, .int .i64 0, .bool false, .slice none 0 0, .slice none 0 0], .int .i64 11])) ∨
       (nameB key = true ∧ ∃ (A : Option Addr) (c g o d : Nat), e = .returned (.tuple #[.agg #[.int .i64 4, .string ByteArray.empty, .int .i64 0, .bool false, .slice A 0 c, .slice (some ⟨g, o, none⟩) 1 d], .int .i64 0]) ∧ g < w'.heap.size ∧
         w'.cell? ⟨g, o, none⟩ = some (.string key) ∧ w'.cell? ⟨g, o + 1 + 1, none⟩ = some (.string s))) := by
  have hI : (AT.map B [key] [.str s]).In w (· < w.heap.size) :=
    .map _ _ _ hB.lt rfl (by simp) (by simp) (holds_one (v := .str s) hB) (fun k hk => by simp at hk; subst hk; omega) (fun x hx => by simp at hx; subst hx; exact .str _ (by omega))
  have hsk : sortK [key] = [key] := List.perm_singleton.1 (sortK_perm [key])
  have hc : (AT.map B [key] [.str s]).conv = some (.mk 4 ByteArray.empty 0 false [] [key] [.mk 0 s 0 false [] [] []]) := by
    have h := conv_map_some (B := B) (ks := [key]) (vs := [.str s]) (us := [VT.mk 0 s 0 false none 0 [] none 0 [] []]) (by simp) rfl (by rw [hsk]; rfl) (fun i u hu => by
      rcases i with _ | i
      · simp at hu; subst hu
        exact ⟨0, .str s, by rw [hsk], rfl, by rw [AT.conv, plain_flat]⟩
      · simp at hu)
    rw [hsk] at h
    simpa [plain_flat] using h
  have hh : (AT.map B [key] [.str s]).hle 2 := fun x hx => by simp at hx; subst hx; trivial
  have key_of : ∀ u : VT, u.ks = [key] → u.key 0 = key := fun u h => by unfold VT.key; rw [h]; rfl
  cases hnm : nameB key with
  | false =>
    refine (From_c _ 2 (by omega) hh w hI).mono fun e w' h => ?_
    obtain ⟨t, E, rfl, hb, ht, ⟨h1, _⟩ | ⟨u, ⟨W, Q, hu⟩, h1, h2, h3, h4⟩⟩ := h
    · rw [hc] at h1; cases h1
    · rw [hc] at h1
      injection h1 with h1
      obtain ⟨a1, a2, a3, a4, a5, a6, a7⟩ := plain_parts h1.symm
      have l5 := congrArg List.length a5
      have l7 := congrArg List.length a7
      simp only [List.length_map, List.length_nil, List.length_cons] at l5 l7
      have hE : E = 11 := by
        rw [h2, VT.chk_fields (by decide) (by rw [a1]; decide) (foreign_no.2 ⟨fun _ => by rw [a2]; rfl, fun _ => a3, fun _ => a4, fun _ => a5, fun h => absurd a1 h⟩) (by rw [l5]; rfl), l7]
        have e := fieldN_name (g := fun i => VT.chk (SizeOf.sizeOf u) (u.value i) (1 + 1)) (show nameB (u.key 0) = false by rw [key_of u a6]; exact hnm)
        exact (first_hit (g := fieldN u (fun i => VT.chk (SizeOf.sizeOf u) (u.value i) (1 + 1))) (i := 0) (n := 0 + 1) rfl (by rw [e]; decide) (by omega)).trans e
      obtain rfl := h3 (by rw [hE]; decide)
      exact ⟨hb, .inl ⟨rfl, by rw [hE]; rfl⟩⟩
  | true =>
    refine (from_ok _ 2 (by omega) hh w hI _ hc ?_).mono fun e w' h => ?_
    · simp [PV.ok, PV.okL, hnm]
    · obtain ⟨t, rfl, hb, ht, hp⟩ := h
      obtain ⟨h1, h2, h3, h4, h5, h6, h7⟩ := plain_parts hp
      have l5 := congrArg List.length h5
      have l7 := congrArg List.length h7
      simp only [List.length_map, List.length_nil, List.length_cons] at l5 l7
      have hF : ∃ g o, t.F = some ⟨g, o, none⟩ ∧ (w.heap.size ≤ g ∧ g < w'.heap.size) ∧ ∀ i (x : VT) key, t.ks[i]? = some key → t.vs[i]? = some x → w'.cell? ⟨g, o + i * 7, none⟩ = some (.string key) ∧ x.Cells w' g (o + i * 7 + 1) := by
        cases ht with | mk _ _ _ _ _ _ _ _ hF _ _ _ => exact hF (by omega)
      obtain ⟨g, o, hF, hg, hcell⟩ := hF
      have hx0 := List.getElem?_eq_getElem (show 0 < t.vs.length by omega)
      have p0 := congrArg (fun l => l[0]?) h7
      simp only [List.getElem?_map, hx0] at p0
      simp at p0
      obtain ⟨_, q0, _⟩ := plain_parts p0
      obtain ⟨r0, _, r1, _⟩ := hcell 0 _ key (by rw [h6]; rfl) hx0
      rw [q0] at r1
      exact ⟨hb, .inr ⟨rfl, t.A, t.c, g, o, t.d, by rw [h1, h2, h3, h4, l5, l7, hF], hg.2, by simpa using r0, by simpa using r1⟩⟩
end Go.Proofs.YtmgnomahnndeaaaDoor
