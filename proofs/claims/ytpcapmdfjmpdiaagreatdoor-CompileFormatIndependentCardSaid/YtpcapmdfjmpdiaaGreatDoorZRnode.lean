/-
  One node of a list of tokens; the reference's parser as it lies in memory.
  Contract: the reference's node.
  The arms of the reference's node that end in a fault at once.
-/
import Derived.Test.YtpcapmdfjmpdiaaGreatDoorZRl11
import Derived.Test.YtpcapmdfjmpdiaaGreatDoorZPure12
import Derived.Test.YtpcapmdfjmpdiaaGreatDoorZCt12
namespace Go.Proofs.YtpcapmdfjmpdiaaGreatDoor
open Go.RowKit Go.BigFrame NT
set_option linter.unusedVariables false
set_option linter.unusedSimpArgs false

abbrev NR := Except (Nat × Nat) (NT × List Tok × Nat)
def ND (t : Tok) (r : List Tok) (d c : Nat) : NR :=
  if t.k = 6 ∧ 0 < d ∨ blk t.k = true ∧ 32 ≤ d then .error (t.a, 13)
  else if 4096 ≤ c then .error (t.a, 14)
  else if blk t.k = false then .ok (nd t false [] [], r, c + 1)
  else match P r t.k false (d + 1) (c + 1) with
    | .error e => .error e
    | .ok (b, [], _) => .error (t.a, 7)
    | .ok (b, u :: r2, c1) => if u.k = 7 then (match P r2 t.k true (d + 1) c1 with
        | .error e => .error e
        | .ok (b2, [], _) => .error (t.a, 7)
        | .ok (b2, _ :: r4, c2) => .ok (nd t true b b2, r4, c2)) else .ok (nd t false b [], r2, c1)
theorem P_nd {t : Tok} {r : List Tok} {op : Nat} {ie : Bool} {d c : Nat} (h7 : t.k ≠ 7) (h8 : t.k ≠ 8) : P (t :: r) op ie d c = match ND t r d c with
    | .error e => .error e
    | .ok (x, r', c') => (P r' op ie d c').cons x := by
  unfold ND
  by_cases hn : t.k = 6 ∧ 0 < d ∨ blk t.k = true ∧ 32 ≤ d
  · rw [if_pos hn, P_nest h7 h8 hn]
  rw [if_neg hn]
  by_cases hc : 4096 ≤ c
  · rw [if_pos hc, P_many h7 h8 hn hc]
  rw [if_neg hc]
  cases hb : blk t.k with
  | false => rw [if_pos rfl, P_leaf h7 h8 (by omega) hb]
  | true =>
    rw [if_neg (by decide), P_step_block hn (by omega) hb]
    cases hp : P r t.k false (d + 1) (c + 1) with
    | error e => rfl
    | ok x =>
      obtain ⟨b, r1, c1⟩ := x
      cases r1 with
      | nil => rfl
      | cons u r2 =>
        dsimp only
        by_cases hu : u.k = 7
        · rw [if_pos hu, if_pos hu]
          cases hp2 : P r2 t.k true (d + 1) c1 with
          | error e => rfl
          | ok x =>
            obtain ⟨b2, r3, c2⟩ := x
            cases r3 <;> rfl
        · rw [if_neg hu, if_neg hu]
/-! ### The reference's parser -/
structure Ps (w : World) (g : Nat) (L : Option Addr) (cL : Nat) (ts : List Tok) (i c : Nat) : Prop where
  blk : Blk w g 82 [.slice L ts.length cL, .int .i64 i, .int .i64 c]
  row : KRow w 138 5 Tok.cs L cL ts
  ne : g ∉ rowT L
def Fr (w w' : World) : Nat → Prop := fun b => w.heap.size ≤ b ∧ b < w'.heap.size
theorem Ps.bel {w w' : World} {g : Nat} {L : Option Addr} {cL : Nat} {ts : List Tok} {i c : Nat} (h : Ps w g L cL ts i c) (hb : Bel w w') : Ps w' g L cL ts i c :=
  ⟨h.blk.bel hb, h.row.only (Only.of_below (S := []) hb fun _ hk _ => hk) (by simp), h.ne⟩
theorem Ps.set_ {w : World} {g : Nat} {L : Option Addr} {cL : Nat} {ts : List Tok} {i c : Nat} (h : Ps w g L cL ts i c) (j : Nat) : Ps (w.setCell ⟨g, 1, none⟩ (.int .i64 (j : Int))) g L cL ts j c :=
  ⟨h.blk.set_ 1 _, h.row.only (S := [g]) ((Only.refl [g] w).setCell (.inl (by simp)) _) (fun k hk h1 => by simp at h1; subst h1; exact h.ne hk), h.ne⟩
theorem Ps.setc {w : World} {g : Nat} {L : Option Addr} {cL : Nat} {ts : List Tok} {i c : Nat} (h : Ps w g L cL ts i c) (j : Nat) : Ps (w.setCell ⟨g, 2, none⟩ (.int .i64 (j : Int))) g L cL ts i j :=
  ⟨h.blk.set_ 2 _, h.row.only (S := [g]) ((Only.refl [g] w).setCell (.inl (by simp)) _) (fun k hk h1 => by simp at h1; subst h1; exact h.ne hk), h.ne⟩
theorem Ps.cells {w : World} {g : Nat} {L : Option Addr} {cL : Nat} {ts : List Tok} {i c : Nat} (h : Ps w g L cL ts i c) :
    w.cell? ⟨g, 0, none⟩ = some (.slice L ts.length cL) ∧ w.cell? ⟨g, 1, none⟩ = some (.int .i64 i) ∧ w.cell? ⟨g, 2, none⟩ = some (.int .i64 c) := ⟨h.blk.cell 0, h.blk.cell 1, h.blk.cell 2⟩
theorem Ps.frees {w : World} {g : Nat} {L : Option Addr} {cL : Nat} {ts : List Tok} {i c : Nat} (h : Ps w g L cL ts i c) :
    w.frozen? ⟨g, 1, none⟩ = false ∧ w.frozen? ⟨g, 2, none⟩ = false := ⟨h.blk.free 1, h.blk.free 2⟩
/-- What the tokens are like. -/
def TsOk (ts : List Tok) : Prop := ts.length ≤ 70000 ∧ ∀ t ∈ ts, t.k ≤ 8 ∧ t.a ≤ 70000 ∧ t.s.length ≤ 70000 ∧ t.p.length ≤ 70000
def nzero : Value := .agg #[.int .i64 0, .int .i64 0, .string ByteArray.empty, .string ByteArray.empty, .bool false, .bool false, .slice none 0 0, .slice none 0 0]
def NodeP (g : Nat) (L : Option Addr) (cL : Nat) (ts : List Tok) (w : World) (res : NR) (e : Ending) (w' : World) : Prop := Only [g] w w' ∧ match res with
  | .error (a, k) => e = .returned (.tuple #[nzero, .int .i64 a, .int .i64 k])
  | .ok (x, r, c) => ∃ y : NT, y.er = x ∧ y.In w' (Fr w w') ∧ e = .returned (.tuple #[.agg #[.int .i64 y.k, .int .i64 y.a, .string y.s, .string y.p, .bool y.h, .bool y.e, .slice y.A y.b.length y.c, .slice y.B y.l.length y.d], .int .i64 0, .int .i64 0]) ∧ ∃ i, Ps w' g L cL ts i c ∧ i ≤ ts.length ∧ ts.drop i = r
def ListP (g : Nat) (L : Option Addr) (cL : Nat) (ts : List Tok) (w : World) (res : PR) (e : Ending) (w' : World) : Prop := Only [g] w w' ∧ match res with
  | .error (a, k) => e = .returned (.tuple #[.slice none 0 0, .int .i64 a, .int .i64 k])
  | .ok (l, r, c) => ∃ (A : Option Addr) (cA : Nat) (m : List NT), ers m = l ∧ Row w' (Fr w w') A cA m ∧ e = .returned (.tuple #[.slice A m.length cA, .int .i64 0, .int .i64 0]) ∧ ∃ i, Ps w' g L cL ts i c ∧ i ≤ ts.length ∧ ts.drop i = r
def NodeM (g : Nat) (L : Option Addr) (cL : Nat) (ts : List Tok) (n : Nat) : Prop := ∀ (i d c : Nat) (t : Tok) (w : World), Ps w g L cL ts i c → ts[i]? = some t → ts.length - i ≤ n → d ≤ 32 → c ≤ 4096 →
  Calls Tryz.prog 60 #[.pointer (some ⟨g, 0, none⟩), .int .i64 d] w (NodeP g L cL ts w (ND t (ts.drop (i + 1)) d c))
def opI (op : Nat) : Int := if op = 0 then -1 else op
def ListM (g : Nat) (L : Option Addr) (cL : Nat) (ts : List Tok) (n : Nat) : Prop := ∀ (i op : Nat) (ie : Bool) (d c : Nat) (w : World), Ps w g L cL ts i c → i ≤ ts.length → ts.length - i ≤ n → d ≤ 32 → c ≤ 4096 → op ≤ 8 →
  Calls Tryz.prog 33 #[.pointer (some ⟨g, 0, none⟩), .int .i64 (opI op), .bool ie, .int .i64 d] w (ListP g L cL ts w (P (ts.drop i) op ie d c))
theorem drop_at {ts : List Tok} {i : Nat} {t : Tok} (h : ts[i]? = some t) : ts.drop i = t :: ts.drop (i + 1) := by
  obtain ⟨hi, e⟩ := List.getElem?_eq_some_iff.1 h
  rw [List.drop_eq_getElem_cons hi, e]
/-! ### The end of node -/
abbrev st8 (X : World) (b : Nat) (v0 v1 v2 v3 v4 v5 v6 v7 : Value) : World := (((((((X.setCell ⟨b, 0, none⟩ v0).setCell ⟨b, 1, none⟩ v1).setCell ⟨b, 2, none⟩ v2).setCell ⟨b, 3, none⟩ v3).setCell ⟨b, 4, none⟩ v4).setCell ⟨b, 5, none⟩ v5).setCell ⟨b, 6, none⟩ v6).setCell ⟨b, 7, none⟩ v7
theorem only8 (X : World) (b : Nat) (v0 v1 v2 v3 v4 v5 v6 v7 : Value) : Only [b] X (st8 X b v0 v1 v2 v3 v4 v5 v6 v7) :=
  ((((((((Only.refl [b] X).setCell (.inl (by simp)) _).setCell (.inl (by simp)) _).setCell (.inl (by simp)) _).setCell (.inl (by simp)) _).setCell (.inl (by simp)) _).setCell (.inl (by simp)) _).setCell (.inl (by simp)) _).setCell (.inl (by simp)) _
theorem set8 {X : World} {b : Nat} {T : TypeId} {a0 a1 a2 a3 a4 a5 a6 a7 : Value} (h : Blk X b T [a0, a1, a2, a3, a4, a5, a6, a7]) (v0 v1 v2 v3 v4 v5 v6 v7 : Value) : Blk (st8 X b v0 v1 v2 v3 v4 v5 v6 v7) b T [v0, v1, v2, v3, v4, v5, v6, v7] :=
  (((((((h.set_ 0 v0).set_ 1 v1).set_ 2 v2).set_ 3 v3).set_ 4 v4).set_ 5 v5).set_ 6 v6).set_ 7 v7
theorem done8 {f : Func} (hf : f.results = #[.cell 4 69, .tmp 5, .tmp 6]) {tmps : Array Value} {b : Nat} {x y : Value} {v0 v1 v2 v3 v4 v5 v6 v7 : Value} {W : World} (hp : tmps.getD 4 undef = .pointer (some ⟨b, 0, none⟩)) (h5 : tmps.getD 5 undef = x) (h6 : tmps.getD 6 undef = y)
    (h1 : v0.oneCell' = true ∧ v1.oneCell' = true ∧ v2.oneCell' = true ∧ v3.oneCell' = true ∧ v4.oneCell' = true ∧ v5.oneCell' = true ∧ v6.oneCell' = true ∧ v7.oneCell' = true)
    (hB : Blk W b 69 [v0, v1, v2, v3, v4, v5, v6, v7]) : (results f tmps).run Tryz.prog W = .ok (.tuple #[.agg #[v0, v1, v2, v3, v4, v5, v6, v7], x, y]) W := by
  have hp' : tmps[4]?.getD undef = .pointer (some ⟨b, 0, none⟩) := by simpa using hp
  have h5' : tmps[5]?.getD undef = x := by simpa using h5
  have h6' : tmps[6]?.getD undef = y := by simpa using h6
  have hl := run_loadVar_row W b 69 #[v0, v1, v2, v3, v4, v5, v6, v7] (0, 0) _ (P := Tryz.prog) (ty := 69) hB Tryz.underlying69 rfl (by kernel_rfl)
  simp [results, hf, hp', h5', h6', asAddr, hl]
theorem Ps.only {w w' : World} {g : Nat} {L : Option Addr} {cL : Nat} {ts : List Tok} {i c : Nat} {S : List Nat} (h : Ps w g L cL ts i c) (ho : Only S w w') (hg : g ∉ S) (hL : ∀ k, k ∈ rowT L → k ∉ S) : Ps w' g L cL ts i c :=
  ⟨h.blk.only ho hg, h.row.only ho hL, h.ne⟩
theorem NT.In.onlyS {w w' : World} {Q Q' : Nat → Prop} {S : List Nat} {t : NT} (h : t.In w Q) (ho : Only S w w') (hS : ∀ b, Q b → b ∉ S ∧ b < w.heap.size) (hq : ∀ b, Q b → Q' b) : t.In w' Q' :=
  h.same hq fun b p hb => by
    have := ho.block b (hS b hb).2 (hS b hb).1
    simp only [World.cell?, this]
theorem NT.Row.onlyS {w w' : World} {Q Q' : Nat → Prop} {S : List Nat} {A : Option Addr} {c : Nat} {l : List NT} (h : Row w Q A c l) (ho : Only S w w') (hS : ∀ b, Q b → b ∉ S ∧ b < w.heap.size) (hq : ∀ b, Q b → Q' b) : Row w' Q' A c l :=
  h.same hq fun b p hb => by
    have := ho.block b (hS b hb).2 (hS b hb).1
    simp only [World.cell?, this]
theorem node_ok {w X : World} {g : Nat} {L : Option Addr} {cL : Nat} {ts : List Tok} {i c : Nat} {x y : NT} {tmps : Array Value} {a0 a1 a2 a3 a4 a5 a6 a7 : Value} (h4 : tmps.getD 4 undef = .pointer (some ⟨w.heap.size, 0, none⟩)) (h5 : tmps.getD 5 undef = .int .i64 0) (h6 : tmps.getD 6 undef = .int .i64 0)
    (hZ : Blk X w.heap.size 69 [a0, a1, a2, a3, a4, a5, a6, a7]) (hP : Ps X g L cL ts i c) (hi : i ≤ ts.length) (hO : Only [g] w X) (hg : g < w.heap.size) (hL : ∀ k, k ∈ rowT L → k < w.heap.size) (he : y.er = x) (hy : y.In X (fun b => w.heap.size < b ∧ b < X.heap.size)) :
    bodyPost Tryz.prog Tryz.f60 (NodeP g L cL ts w (.ok (x, ts.drop i, c))) Exit.ret { tmps := tmps, defers := [] } (st8 X w.heap.size (.int .i64 y.k) (.int .i64 y.a) (.string y.s) (.string y.p) (.bool y.h) (.bool y.e) (.slice y.A y.b.length y.c) (.slice y.B y.l.length y.d)) := by
  refine bodyPost_ret (done8 rfl h4 h5 h6 ⟨rfl, rfl, rfl, rfl, rfl, rfl, rfl, rfl⟩ (set8 hZ _ _ _ _ _ _ _ _)) rfl ?_
  have ho := only8 X w.heap.size (.int .i64 y.k) (.int .i64 y.a) (.string y.s) (.string y.p) (.bool y.h) (.bool y.e) (.slice y.A y.b.length y.c) (.slice y.B y.l.length y.d)
  have hsz := ho.size
  refine ⟨((hO.more (T := [g, w.heap.size]) (by simp)).trans (ho.more (by simp))).shed (fun k hk => by simp at hk; rcases hk with rfl | rfl; exact .inl (by simp); exact .inr (Nat.le_refl _)), y, he, ?_, rfl, i, ?_, hi, rfl⟩
  · exact hy.onlyS ho (fun b hb => ⟨by simp; omega, hb.2⟩) (fun b hb => ⟨by omega, by omega⟩)
  · exact hP.only ho (by simp; omega) (fun k hk => by have := hL k hk; simp; omega)
theorem node_err {w X : World} {g : Nat} {L : Option Addr} {cL : Nat} {ts : List Tok} {a k : Nat} {tmps : Array Value} {a0 a1 a2 a3 a4 a5 a6 a7 : Value} (h4 : tmps.getD 4 undef = .pointer (some ⟨w.heap.size, 0, none⟩)) (h5 : tmps.getD 5 undef = .int .i64 a) (h6 : tmps.getD 6 undef = .int .i64 k)
    (hZ : Blk X w.heap.size 69 [a0, a1, a2, a3, a4, a5, a6, a7]) (hO : Only [g] w X) :
    bodyPost Tryz.prog Tryz.f60 (NodeP g L cL ts w (.error (a, k))) Exit.ret { tmps := tmps, defers := [] } (st8 X w.heap.size (.int .i64 0) (.int .i64 0) (.string ByteArray.empty) (.string ByteArray.empty) (.bool false) (.bool false) (.slice none 0 0) (.slice none 0 0)) := by
  refine bodyPost_ret (done8 rfl h4 h5 h6 ⟨rfl, rfl, rfl, rfl, rfl, rfl, rfl, rfl⟩ (set8 hZ _ _ _ _ _ _ _ _)) rfl ?_
  have ho := only8 X w.heap.size (.int .i64 0) (.int .i64 0) (.string ByteArray.empty) (.string ByteArray.empty) (.bool false) (.bool false) (.slice none 0 0) (.slice none 0 0)
  exact ⟨((hO.more (T := [g, w.heap.size]) (by simp)).trans (ho.more (by simp))).shed (fun k hk => by simp at hk; rcases hk with rfl | rfl; exact .inl (by simp); exact .inr (Nat.le_refl _)), rfl⟩
end Go.Proofs.YtpcapmdfjmpdiaaGreatDoor

namespace Go.Proofs.YtpcapmdfjmpdiaaGreatDoor
open Go.RowKit Go.BigFrame NT
set_option linter.unusedVariables false
set_option linter.unusedSimpArgs false

set_option maxRecDepth 100000 in
set_option maxHeartbeats 3200000 in
theorem node_leaf (g : Nat) (L : Option Addr) (cL : Nat) (ts : List Tok) (hG : TsOk ts) (i d c : Nat) (t : Tok) (w : World) (hP : Ps w g L cL ts i c) (ht : ts[i]? = some t) (hd : d ≤ 32) (hc : c < 4096) (hb : blk t.k = false) :
    Calls Tryz.prog 60 #[.pointer (some ⟨g, 0, none⟩), .int .i64 d] w (NodeP g L cL ts w (.ok (nd t false [] [], ts.drop (i + 1), c + 1))) := by
  have HP := Lib.hid hP
  have HT := Lib.hid ht
  have HBL := Lib.hid block_c
  have hi := (List.getElem?_eq_some_iff.1 ht).1
  have hn := hG.1
  have htk := hG.2 t (List.mem_of_getElem? ht)
  obtain ⟨g1, o1, hL, hga, ha⟩ : ∃ g1 o1, L = some ⟨g1, o1, none⟩ ∧ g1 < w.heap.size ∧ ∀ W, Bel w W → W.cell? ⟨g1, o1 + i * 5, none⟩ = some (.int .i64 t.k) ∧ W.cell? ⟨g1, o1 + i * 5 + 1, none⟩ = some (.int .i64 t.a) ∧ W.cell? ⟨g1, o1 + i * 5 + 2, none⟩ = some (.string (ofL t.s)) ∧ W.cell? ⟨g1, o1 + i * 5 + 3, none⟩ = some (.string (ofL t.p)) ∧ W.cell? ⟨g1, o1 + i * 5 + 4, none⟩ = some (.bool t.h) := by
    obtain ⟨g1, o1, e, h⟩ := tok_at hP.row ht
    exact ⟨g1, o1, e, hP.row.lt g1 (by rw [e]; simp [rowT]), h⟩
  subst hL
  have HTA := Lib.hid ha
  have hgl := hP.blk.lt
  have hsz1 : (ofL t.s).size ≤ reachBytes := by have := htk.2.2.1; show t.s.length ≤ reachBytes; unfold reachBytes; omega
  have hsz2 : (ofL t.p).size ≤ reachBytes := by have := htk.2.2.2; show t.p.length ≤ reachBytes; unfold reachBytes; omega
  have hg1 : ¬ w.heap.size + 1 = g := by omega
  have hg2 : ¬ w.heap.size = g := by omega
  have hg3 : ¬ g = w.heap.size + 1 := by omega
  have hg4 : ¬ g = w.heap.size := by omega
  have HPB := Lib.hid (fun (W : World) (hb : Bel w W) => (HP.out.bel hb).cells)
  obtain ⟨n, hN⟩ : ∃ n, n = ts.length := ⟨_, rfl⟩
  rw [← hN] at hi hn HPB
  have HN := Lib.hid hN
  clear hP ht ha hN hG
  go_enter Tryz.func60, Tryz.ntmps60
  go_wp2_with fail
  refine region_begin (T := [w.heap.size + 1]) (by kernel_rfl) ?_
  have HZ := Lib.hid (Blk.new w 69 [.int .i64 0, .int .i64 0, .string ⟨#[]⟩, .string ⟨#[]⟩, .bool false, .bool false, .slice none 0 0, .slice none 0 0]).drew
  have HBW : Hid (Bel w (w.alloc (.cells #[.int .i64 0, .int .i64 0, .string ⟨#[]⟩, .string ⟨#[]⟩, .bool false, .bool false, .slice none 0 0, .slice none 0 0] 69)).drew) := Lib.hid ((Bel.alloc _ _).trans (Bel.drew _))
  have HWS : Hid (((w.alloc (.cells #[.int .i64 0, .int .i64 0, .string ⟨#[]⟩, .string ⟨#[]⟩, .bool false, .bool false, .slice none 0 0, .slice none 0 0] 69)).drew).heap.size = w.heap.size + 1) := Lib.hid (by simp [World.drew])
  generalize (w.alloc (.cells #[.int .i64 0, .int .i64 0, .string ⟨#[]⟩, .string ⟨#[]⟩, .bool false, .bool false, .slice none 0 0, .slice none 0 0] 69)).drew = W at HZ HBW HWS ⊢
  have HBL0 := Lib.hid (fun (X : Later [w.heap.size + 1] W) => bel_on1 HBW.out X.h (Nat.le_succ _))
  have p0 : ∀ X : Later [w.heap.size + 1] W, X.w.cell? ⟨g, 0, none⟩ = some (.slice (some ⟨g1, o1, none⟩) n cL) := fun X => (HPB.out X.w (HBL0.out X)).1
  have p1 : ∀ X : Later [w.heap.size + 1] W, X.w.cell? ⟨g, 1, none⟩ = some (.int .i64 i) := fun X => (HPB.out X.w (HBL0.out X)).2.1
  have t0 : ∀ X : Later [w.heap.size + 1] W, X.w.cell? ⟨g1, o1 + i * 5, none⟩ = some (.int .i64 t.k) := fun X => (HTA.out X.w (HBL0.out X)).1
  have t1 : ∀ X : Later [w.heap.size + 1] W, X.w.cell? ⟨g1, o1 + i * 5 + 1, none⟩ = some (.int .i64 t.a) := fun X => (HTA.out X.w (HBL0.out X)).2.1
  have t2 : ∀ X : Later [w.heap.size + 1] W, X.w.cell? ⟨g1, o1 + i * 5 + 2, none⟩ = some (.string (ofL t.s)) := fun X => (HTA.out X.w (HBL0.out X)).2.2.1
  have t3 : ∀ X : Later [w.heap.size + 1] W, X.w.cell? ⟨g1, o1 + i * 5 + 3, none⟩ = some (.string (ofL t.p)) := fun X => (HTA.out X.w (HBL0.out X)).2.2.2.1
  have t4 : ∀ X : Later [w.heap.size + 1] W, X.w.cell? ⟨g1, o1 + i * 5 + 4, none⟩ = some (.bool t.h) := fun X => (HTA.out X.w (HBL0.out X)).2.2.2.2
  refine region_seg [true, true, true, true, true, true, true, true, true, true] 2 (by kernel_rfl) (by kernel_rfl) (by kernel_rfl) rfl (fun _ _ d _ _ h => by cases d <;> exact h) ?_
  repeat (first | with_reducible refine wpMask_pass ?_ | (refine wpMask_want (by rfl) (fun K hK => ?_); go_big_quiet_op; refine hK _ ?_; clear hK K))
  with_reducible refine wpMask_nil ?_
  clear p0 p1 t0 t1 t2 t3 t4
  refine region_make 10 (v := .pointer (some ⟨W.heap.size, 0, none⟩)) (w1 := W.alloc (.cells #[.int .i64 0, .int .i64 0, .string ⟨#[]⟩, .string ⟨#[]⟩, .bool false] 138)) (by kernel_rfl) rfl (by rfl) (by go_simp) ((Only.refl _ _).alloc _) ?_
  simp only [List.getElem_toArray, List.getElem_cons_zero, List.getElem_cons_succ, Act.put, List.setIfInBounds_toArray, List.set_cons_zero, List.set_cons_succ]
  have hk0 := Blk.new W 138 [.int .i64 0, .int .i64 0, .string ⟨#[]⟩, .string ⟨#[]⟩, .bool false]
  have hk1 := set5 hk0 (.int .i64 t.k) (.int .i64 t.a) (.string (ofL t.s)) (.string (ofL t.p)) (.bool t.h)
  have ho1 := only5 (W.alloc (.cells #[.int .i64 0, .int .i64 0, .string ⟨#[]⟩, .string ⟨#[]⟩, .bool false] 138)) W.heap.size (.int .i64 t.k) (.int .i64 t.a) (.string (ofL t.s)) (.string (ofL t.p)) (.bool t.h)
  rw [HWS.out] at hk1 ho1
  have ho2 : Only [w.heap.size + 1] W _ := ((Only.refl [w.heap.size + 1] W).alloc _).trans ho1
  obtain ⟨z0, z1, z2, z3, z4⟩ := cells5 hk0
  obtain ⟨f0, f1, f2, f3, f4⟩ := frees5 hk0
  rw [HWS.out] at z0 z1 z2 z3 z4 f0 f1 f2 f3 f4 ⊢
  refine region_store (w1 := (((((W.alloc (.cells #[.int .i64 0, .int .i64 0, .string ⟨#[]⟩, .string ⟨#[]⟩, .bool false] 138)).setCell ⟨w.heap.size + 1, 0, none⟩ (.int .i64 t.k)).setCell ⟨w.heap.size + 1, 1, none⟩ (.int .i64 t.a)).setCell ⟨w.heap.size + 1, 2, none⟩ (.string (ofL t.s))).setCell ⟨w.heap.size + 1, 3, none⟩ (.string (ofL t.p))).setCell ⟨w.heap.size + 1, 4, none⟩ (.bool t.h)) 11 (by kernel_rfl) rfl (by rfl) (by go_simp) ho1 ?_
  have HBT := Lib.hid hk1
  have HBV := Lib.hid (bel_on1 HBW.out ho2 (Nat.le_succ _))
  have HZV := Lib.hid (HZ.out.only ho2 (by simp))
  have HVS : Hid (w.heap.size + 2 ≤ _) := Lib.hid hk1.lt
  clear hk0 hk1 ho1 ho2 z0 z1 z2 z3 z4 f0 f1 f2 f3 f4
  generalize (((((W.alloc (.cells #[.int .i64 0, .int .i64 0, .string ⟨#[]⟩, .string ⟨#[]⟩, .bool false] 138)).setCell ⟨w.heap.size + 1, 0, none⟩ (.int .i64 t.k)).setCell ⟨w.heap.size + 1, 1, none⟩ (.int .i64 t.a)).setCell ⟨w.heap.size + 1, 2, none⟩ (.string (ofL t.s))).setCell ⟨w.heap.size + 1, 3, none⟩ (.string (ofL t.p))).setCell ⟨w.heap.size + 1, 4, none⟩ (.bool t.h) = V at HBT HBV HZV HVS ⊢
  simp only [List.getElem_toArray, List.getElem_cons_zero, List.getElem_cons_succ, Act.put, List.setIfInBounds_toArray, List.set_cons_zero, List.set_cons_succ]
  refine region_end (by kernel_rfl) ?_
  obtain ⟨k0, k1, k2, k3, k4⟩ := cells5 HBT.out
  obtain ⟨q0, q1, q2⟩ := HPB.out V HBV.out
  have HPV := Lib.hid (HP.out.bel HBV.out)
  obtain ⟨q4, q5⟩ := HPV.out.frees
  obtain ⟨y0, y1, y2, y3, y4, y5, y6, y7⟩ := cells8 HZV.out
  have h6 : ((t.k : Int) == 6) = false := by
    rw [beq_eq_false_iff_ne]; intro h
    have : t.k = 6 := by omega
    rw [this] at hb; cases hb
  have HBF : Hid (blkI (t.k : Int) = false) := Lib.hid (by rw [blkI_nat]; exact hb)
  have hc1 : ¬ (4096 : Int) ≤ (c : Int) := by omega
  clear hb
  have HV3 := Lib.hid (fun ob => ((HBT.out.far (p := ⟨g, 2, none⟩) hg1 (.int .i64 ((c : Int) + 1))).far (p := ⟨g, 1, none⟩) hg1 (.int .i64 ((i : Int) + 1))).alloc ob)
  have HZ3 := Lib.hid (fun ob => ((HZV.out.far (p := ⟨g, 2, none⟩) hg2 (.int .i64 ((c : Int) + 1))).far (p := ⟨g, 1, none⟩) hg2 (.int .i64 ((i : Int) + 1))).alloc ob)
  have m0 := fun ob => (HV3.out ob).cell 0
  have l0 := fun ob => (HZ3.out ob).cell 0
  have l1 := fun ob => (HZ3.out ob).cell 1
  have l2 := fun ob => (HZ3.out ob).cell 2
  have l3 := fun ob => (HZ3.out ob).cell 3
  have l4 := fun ob => (HZ3.out ob).cell 4
  have l5 := fun ob => (HZ3.out ob).cell 5
  have l6 := fun ob => (HZ3.out ob).cell 6
  have l7 := fun ob => (HZ3.out ob).cell 7
  have r0 := fun ob => (HZ3.out ob).free 0
  have r1 := fun ob => (HZ3.out ob).free 1
  have r2 := fun ob => (HZ3.out ob).free 2
  have r3 := fun ob => (HZ3.out ob).free 3
  have r4 := fun ob => (HZ3.out ob).free 4
  have r5 := fun ob => (HZ3.out ob).free 5
  have r6 := fun ob => (HZ3.out ob).free 6
  have r7 := fun ob => (HZ3.out ob).free 7
  simp only [List.getElem?_cons_zero, List.getElem?_cons_succ] at m0 l0 l1 l2 l3 l4 l5 l6 l7
  go_wp2_with (go_at_call 89; ((with_reducible refine (HBL.out _ _).mono ?_); rintro e w1 ⟨rfl, hw⟩; obtain rfl := hw.symm; rw [HBF.out]))
  have hP2 : Ps (V.setCell ⟨g, 2, none⟩ (.int .i64 ((c : Int) + 1))) g (some ⟨g1, o1, none⟩) cL ts i (c + 1) := HPV.out.setc (c + 1)
  have hP3 : Ps ((V.setCell ⟨g, 2, none⟩ (.int .i64 ((c : Int) + 1))).setCell ⟨g, 1, none⟩ (.int .i64 ((i : Int) + 1))) g (some ⟨g1, o1, none⟩) cL ts (i + 1) (c + 1) := hP2.set_ (i + 1)
  have hO3 : Only [g] w ((V.setCell ⟨g, 2, none⟩ (.int .i64 ((c : Int) + 1))).setCell ⟨g, 1, none⟩ (.int .i64 ((i : Int) + 1))) := (((bel_only HBV.out).more (by simp)).setCell (.inl (by simp)) _).setCell (.inl (by simp)) _
  exact node_ok (y := .mk t.k t.a (ofL t.s) (ofL t.p) t.h false none 0 [] none 0 []) (x := nd t false [] []) rfl rfl rfl (HZ3.out _) (hP3.bel (Bel.alloc _ _)) (by rw [← HN.out]; omega) (hO3.alloc _) hgl (fun k hk => by rw [rowT_some] at hk; simp at hk; omega) (by simp [NT.er, NT.ers, nd])
    (.mk _ (by constructor <;> (simp only [NT.k]; omega)) (by constructor <;> (simp only [NT.a]; omega)) (by simp only [NT.s]; exact hsz1) (by simp only [NT.p]; exact hsz2) (Row.nil _ _).1 (Row.nil _ _).1 (fun x hx => by cases hx) (fun x hx => by cases hx))
end Go.Proofs.YtpcapmdfjmpdiaaGreatDoor

namespace Go.Proofs.YtpcapmdfjmpdiaaGreatDoor
open Go.RowKit Go.BigFrame NT
set_option linter.unusedVariables false
set_option linter.unusedSimpArgs false

set_option maxRecDepth 100000 in
set_option maxHeartbeats 3200000 in
theorem node_define (g : Nat) (L : Option Addr) (cL : Nat) (ts : List Tok) (hG : TsOk ts) (i d c : Nat) (t : Tok) (w : World) (hP : Ps w g L cL ts i c) (ht : ts[i]? = some t) (hd : d ≤ 32) (hk : t.k = 6) (h0 : 0 < d) :
    Calls Tryz.prog 60 #[.pointer (some ⟨g, 0, none⟩), .int .i64 d] w (NodeP g L cL ts w ((.error (t.a, 13)))) := by
  have HP := Lib.hid hP
  have HT := Lib.hid ht
  have HBL := Lib.hid block_c
  have hi := (List.getElem?_eq_some_iff.1 ht).1
  have hn := hG.1
  have htk := hG.2 t (List.mem_of_getElem? ht)
  obtain ⟨g1, o1, hL, hga, ha⟩ : ∃ g1 o1, L = some ⟨g1, o1, none⟩ ∧ g1 < w.heap.size ∧ ∀ W, Bel w W → W.cell? ⟨g1, o1 + i * 5, none⟩ = some (.int .i64 t.k) ∧ W.cell? ⟨g1, o1 + i * 5 + 1, none⟩ = some (.int .i64 t.a) ∧ W.cell? ⟨g1, o1 + i * 5 + 2, none⟩ = some (.string (ofL t.s)) ∧ W.cell? ⟨g1, o1 + i * 5 + 3, none⟩ = some (.string (ofL t.p)) ∧ W.cell? ⟨g1, o1 + i * 5 + 4, none⟩ = some (.bool t.h) := by
    obtain ⟨g1, o1, e, h⟩ := tok_at hP.row ht
    exact ⟨g1, o1, e, hP.row.lt g1 (by rw [e]; simp [rowT]), h⟩
  subst hL
  have HTA := Lib.hid ha
  have hgl := hP.blk.lt
  have hsz1 : (ofL t.s).size ≤ reachBytes := by have := htk.2.2.1; show t.s.length ≤ reachBytes; unfold reachBytes; omega
  have hsz2 : (ofL t.p).size ≤ reachBytes := by have := htk.2.2.2; show t.p.length ≤ reachBytes; unfold reachBytes; omega
  have hg1 : ¬ w.heap.size + 1 = g := by omega
  have hg2 : ¬ w.heap.size = g := by omega
  have hg3 : ¬ g = w.heap.size + 1 := by omega
  have hg4 : ¬ g = w.heap.size := by omega
  have HPB := Lib.hid (fun (W : World) (hb : Bel w W) => (HP.out.bel hb).cells)
  obtain ⟨n, hN⟩ : ∃ n, n = ts.length := ⟨_, rfl⟩
  rw [← hN] at hi hn HPB
  have HN := Lib.hid hN
  clear hP ht ha hN hG
  go_enter Tryz.func60, Tryz.ntmps60
  go_wp2_with fail
  refine region_begin (T := [w.heap.size + 1]) (by kernel_rfl) ?_
  have HZ := Lib.hid (Blk.new w 69 [.int .i64 0, .int .i64 0, .string ⟨#[]⟩, .string ⟨#[]⟩, .bool false, .bool false, .slice none 0 0, .slice none 0 0]).drew
  have HBW : Hid (Bel w (w.alloc (.cells #[.int .i64 0, .int .i64 0, .string ⟨#[]⟩, .string ⟨#[]⟩, .bool false, .bool false, .slice none 0 0, .slice none 0 0] 69)).drew) := Lib.hid ((Bel.alloc _ _).trans (Bel.drew _))
  have HWS : Hid (((w.alloc (.cells #[.int .i64 0, .int .i64 0, .string ⟨#[]⟩, .string ⟨#[]⟩, .bool false, .bool false, .slice none 0 0, .slice none 0 0] 69)).drew).heap.size = w.heap.size + 1) := Lib.hid (by simp [World.drew])
  generalize (w.alloc (.cells #[.int .i64 0, .int .i64 0, .string ⟨#[]⟩, .string ⟨#[]⟩, .bool false, .bool false, .slice none 0 0, .slice none 0 0] 69)).drew = W at HZ HBW HWS ⊢
  have HBL0 := Lib.hid (fun (X : Later [w.heap.size + 1] W) => bel_on1 HBW.out X.h (Nat.le_succ _))
  have p0 : ∀ X : Later [w.heap.size + 1] W, X.w.cell? ⟨g, 0, none⟩ = some (.slice (some ⟨g1, o1, none⟩) n cL) := fun X => (HPB.out X.w (HBL0.out X)).1
  have p1 : ∀ X : Later [w.heap.size + 1] W, X.w.cell? ⟨g, 1, none⟩ = some (.int .i64 i) := fun X => (HPB.out X.w (HBL0.out X)).2.1
  have t0 : ∀ X : Later [w.heap.size + 1] W, X.w.cell? ⟨g1, o1 + i * 5, none⟩ = some (.int .i64 t.k) := fun X => (HTA.out X.w (HBL0.out X)).1
  have t1 : ∀ X : Later [w.heap.size + 1] W, X.w.cell? ⟨g1, o1 + i * 5 + 1, none⟩ = some (.int .i64 t.a) := fun X => (HTA.out X.w (HBL0.out X)).2.1
  have t2 : ∀ X : Later [w.heap.size + 1] W, X.w.cell? ⟨g1, o1 + i * 5 + 2, none⟩ = some (.string (ofL t.s)) := fun X => (HTA.out X.w (HBL0.out X)).2.2.1
  have t3 : ∀ X : Later [w.heap.size + 1] W, X.w.cell? ⟨g1, o1 + i * 5 + 3, none⟩ = some (.string (ofL t.p)) := fun X => (HTA.out X.w (HBL0.out X)).2.2.2.1
  have t4 : ∀ X : Later [w.heap.size + 1] W, X.w.cell? ⟨g1, o1 + i * 5 + 4, none⟩ = some (.bool t.h) := fun X => (HTA.out X.w (HBL0.out X)).2.2.2.2
  refine region_seg [true, true, true, true, true, true, true, true, true, true] 2 (by kernel_rfl) (by kernel_rfl) (by kernel_rfl) rfl (fun _ _ d _ _ h => by cases d <;> exact h) ?_
  repeat (first | with_reducible refine wpMask_pass ?_ | (refine wpMask_want (by rfl) (fun K hK => ?_); go_big_quiet_op; refine hK _ ?_; clear hK K))
  with_reducible refine wpMask_nil ?_
  clear p0 p1 t0 t1 t2 t3 t4
  refine region_make 10 (v := .pointer (some ⟨W.heap.size, 0, none⟩)) (w1 := W.alloc (.cells #[.int .i64 0, .int .i64 0, .string ⟨#[]⟩, .string ⟨#[]⟩, .bool false] 138)) (by kernel_rfl) rfl (by rfl) (by go_simp) ((Only.refl _ _).alloc _) ?_
  simp only [List.getElem_toArray, List.getElem_cons_zero, List.getElem_cons_succ, Act.put, List.setIfInBounds_toArray, List.set_cons_zero, List.set_cons_succ]
  have hk0 := Blk.new W 138 [.int .i64 0, .int .i64 0, .string ⟨#[]⟩, .string ⟨#[]⟩, .bool false]
  have hk1 := set5 hk0 (.int .i64 t.k) (.int .i64 t.a) (.string (ofL t.s)) (.string (ofL t.p)) (.bool t.h)
  have ho1 := only5 (W.alloc (.cells #[.int .i64 0, .int .i64 0, .string ⟨#[]⟩, .string ⟨#[]⟩, .bool false] 138)) W.heap.size (.int .i64 t.k) (.int .i64 t.a) (.string (ofL t.s)) (.string (ofL t.p)) (.bool t.h)
  rw [HWS.out] at hk1 ho1
  have ho2 : Only [w.heap.size + 1] W _ := ((Only.refl [w.heap.size + 1] W).alloc _).trans ho1
  obtain ⟨z0, z1, z2, z3, z4⟩ := cells5 hk0
  obtain ⟨f0, f1, f2, f3, f4⟩ := frees5 hk0
  rw [HWS.out] at z0 z1 z2 z3 z4 f0 f1 f2 f3 f4 ⊢
  refine region_store (w1 := (((((W.alloc (.cells #[.int .i64 0, .int .i64 0, .string ⟨#[]⟩, .string ⟨#[]⟩, .bool false] 138)).setCell ⟨w.heap.size + 1, 0, none⟩ (.int .i64 t.k)).setCell ⟨w.heap.size + 1, 1, none⟩ (.int .i64 t.a)).setCell ⟨w.heap.size + 1, 2, none⟩ (.string (ofL t.s))).setCell ⟨w.heap.size + 1, 3, none⟩ (.string (ofL t.p))).setCell ⟨w.heap.size + 1, 4, none⟩ (.bool t.h)) 11 (by kernel_rfl) rfl (by rfl) (by go_simp) ho1 ?_
  have HBT := Lib.hid hk1
  have HBV := Lib.hid (bel_on1 HBW.out ho2 (Nat.le_succ _))
  have HZV := Lib.hid (HZ.out.only ho2 (by simp))
  have HVS : Hid (w.heap.size + 2 ≤ _) := Lib.hid hk1.lt
  clear hk0 hk1 ho1 ho2 z0 z1 z2 z3 z4 f0 f1 f2 f3 f4
  generalize (((((W.alloc (.cells #[.int .i64 0, .int .i64 0, .string ⟨#[]⟩, .string ⟨#[]⟩, .bool false] 138)).setCell ⟨w.heap.size + 1, 0, none⟩ (.int .i64 t.k)).setCell ⟨w.heap.size + 1, 1, none⟩ (.int .i64 t.a)).setCell ⟨w.heap.size + 1, 2, none⟩ (.string (ofL t.s))).setCell ⟨w.heap.size + 1, 3, none⟩ (.string (ofL t.p))).setCell ⟨w.heap.size + 1, 4, none⟩ (.bool t.h) = V at HBT HBV HZV HVS ⊢
  simp only [List.getElem_toArray, List.getElem_cons_zero, List.getElem_cons_succ, Act.put, List.setIfInBounds_toArray, List.set_cons_zero, List.set_cons_succ]
  refine region_end (by kernel_rfl) ?_
  obtain ⟨k0, k1, k2, k3, k4⟩ := cells5 HBT.out
  obtain ⟨q0, q1, q2⟩ := HPB.out V HBV.out
  have HPV := Lib.hid (HP.out.bel HBV.out)
  obtain ⟨q4, q5⟩ := HPV.out.frees
  obtain ⟨y0, y1, y2, y3, y4, y5, y6, y7⟩ := cells8 HZV.out
  have h6 : ((t.k : Int) == 6) = true := by rw [hk]; rfl
  have hd0 : (0 : Int) < (d : Int) := by omega
  clear hk
  go_wp2_with fail
  refine region_begin (T := [w.heap.size]) (by kernel_rfl) ?_
  have HZD := Lib.hid HZV.out.drew
  have HTD := Lib.hid HBT.out.drew
  have HOD := Lib.hid ((bel_only HBV.out).more (T := [g]) (by simp)).drew
  clear k0 k1 k2 k3 k4 q0 q1 q2 q4 q5 y0 y1 y2 y3 y4 y5 y6 y7
  generalize V.drew = D at HZD HTD HOD ⊢
  have k1 : ∀ X : Later [w.heap.size] D, X.w.cell? ⟨w.heap.size + 1, 1, none⟩ = some (.int .i64 t.a) := fun X => (HTD.out.only X.h (by simp)).cell 1
  refine region_seg [false, true, true] 4 (by kernel_rfl) (by kernel_rfl) (by kernel_rfl) rfl (fun _ _ d _ _ h => by cases d <;> exact h) ?_
  repeat (first | with_reducible refine wpMask_pass ?_ | (refine wpMask_want (by rfl) (fun K hK => ?_); go_big_quiet_op; refine hK _ ?_; clear hK K))
  with_reducible refine wpMask_nil ?_
  clear k1
  refine region_make 0 (v := .agg #[.int .i64 0, .int .i64 0, .string ByteArray.empty, .string ByteArray.empty, .bool false, .bool false, .slice none 0 0, .slice none 0 0]) (w1 := D) (by kernel_rfl) rfl (by rfl) (by go_simp; rfl) (Only.refl _ _) ?_
  simp only [List.getElem_toArray, List.getElem_cons_zero, List.getElem_cons_succ, Act.put, List.setIfInBounds_toArray, List.set_cons_zero, List.set_cons_succ]
  obtain ⟨y0, y1, y2, y3, y4, y5, y6, y7⟩ := cells8 HZD.out
  have r0 := HZD.out.free 0
  have r1 := HZD.out.free 1
  have r2 := HZD.out.free 2
  have r3 := HZD.out.free 3
  have r4 := HZD.out.free 4
  have r5 := HZD.out.free 5
  have r6 := HZD.out.free 6
  have r7 := HZD.out.free 7
  refine region_store (w1 := st8 D w.heap.size (.int .i64 0) (.int .i64 0) (.string ByteArray.empty) (.string ByteArray.empty) (.bool false) (.bool false) (.slice none 0 0) (.slice none 0 0)) 3 (by kernel_rfl) rfl (by rfl) (by go_simp) (only8 _ _ _ _ _ _ _ _ _ _) ?_
  simp only [List.getElem_toArray, List.getElem_cons_zero, List.getElem_cons_succ, Act.put, List.setIfInBounds_toArray, List.set_cons_zero, List.set_cons_succ]
  clear y0 y1 y2 y3 y4 y5 y6 y7 r0 r1 r2 r3 r4 r5 r6 r7
  refine region_seg [false, false, false, false, true, true] 0 (by kernel_rfl) (by kernel_rfl) (by kernel_rfl) rfl (fun _ _ d _ _ h => by cases d <;> exact h) ?_
  repeat (first | with_reducible refine wpMask_pass ?_ | (refine wpMask_want (by rfl) (fun K hK => ?_); go_big_quiet_op; refine hK _ ?_; clear hK K))
  with_reducible refine wpMask_nil ?_
  refine region_end (by kernel_rfl) ?_
  go_wp2_with fail
  exact node_err rfl rfl rfl HZD.out HOD.out
set_option maxRecDepth 100000 in
set_option maxHeartbeats 3200000 in
theorem node_deep (g : Nat) (L : Option Addr) (cL : Nat) (ts : List Tok) (hG : TsOk ts) (i d c : Nat) (t : Tok) (w : World) (hP : Ps w g L cL ts i c) (ht : ts[i]? = some t) (hd : d ≤ 32) (hk : t.k ≠ 6) (hb : blk t.k = true) (h0 : 32 ≤ d) :
    Calls Tryz.prog 60 #[.pointer (some ⟨g, 0, none⟩), .int .i64 d] w (NodeP g L cL ts w ((.error (t.a, 13)))) := by
  have HP := Lib.hid hP
  have HT := Lib.hid ht
  have HBL := Lib.hid block_c
  have hi := (List.getElem?_eq_some_iff.1 ht).1
  have hn := hG.1
  have htk := hG.2 t (List.mem_of_getElem? ht)
  obtain ⟨g1, o1, hL, hga, ha⟩ : ∃ g1 o1, L = some ⟨g1, o1, none⟩ ∧ g1 < w.heap.size ∧ ∀ W, Bel w W → W.cell? ⟨g1, o1 + i * 5, none⟩ = some (.int .i64 t.k) ∧ W.cell? ⟨g1, o1 + i * 5 + 1, none⟩ = some (.int .i64 t.a) ∧ W.cell? ⟨g1, o1 + i * 5 + 2, none⟩ = some (.string (ofL t.s)) ∧ W.cell? ⟨g1, o1 + i * 5 + 3, none⟩ = some (.string (ofL t.p)) ∧ W.cell? ⟨g1, o1 + i * 5 + 4, none⟩ = some (.bool t.h) := by
    obtain ⟨g1, o1, e, h⟩ := tok_at hP.row ht
    exact ⟨g1, o1, e, hP.row.lt g1 (by rw [e]; simp [rowT]), h⟩
  subst hL
  have HTA := Lib.hid ha
  have hgl := hP.blk.lt
  have hsz1 : (ofL t.s).size ≤ reachBytes := by have := htk.2.2.1; show t.s.length ≤ reachBytes; unfold reachBytes; omega
  have hsz2 : (ofL t.p).size ≤ reachBytes := by have := htk.2.2.2; show t.p.length ≤ reachBytes; unfold reachBytes; omega
  have hg1 : ¬ w.heap.size + 1 = g := by omega
  have hg2 : ¬ w.heap.size = g := by omega
  have hg3 : ¬ g = w.heap.size + 1 := by omega
  have hg4 : ¬ g = w.heap.size := by omega
  have HPB := Lib.hid (fun (W : World) (hb : Bel w W) => (HP.out.bel hb).cells)
  obtain ⟨n, hN⟩ : ∃ n, n = ts.length := ⟨_, rfl⟩
  rw [← hN] at hi hn HPB
  have HN := Lib.hid hN
  clear hP ht ha hN hG
  go_enter Tryz.func60, Tryz.ntmps60
  go_wp2_with fail
  refine region_begin (T := [w.heap.size + 1]) (by kernel_rfl) ?_
  have HZ := Lib.hid (Blk.new w 69 [.int .i64 0, .int .i64 0, .string ⟨#[]⟩, .string ⟨#[]⟩, .bool false, .bool false, .slice none 0 0, .slice none 0 0]).drew
  have HBW : Hid (Bel w (w.alloc (.cells #[.int .i64 0, .int .i64 0, .string ⟨#[]⟩, .string ⟨#[]⟩, .bool false, .bool false, .slice none 0 0, .slice none 0 0] 69)).drew) := Lib.hid ((Bel.alloc _ _).trans (Bel.drew _))
  have HWS : Hid (((w.alloc (.cells #[.int .i64 0, .int .i64 0, .string ⟨#[]⟩, .string ⟨#[]⟩, .bool false, .bool false, .slice none 0 0, .slice none 0 0] 69)).drew).heap.size = w.heap.size + 1) := Lib.hid (by simp [World.drew])
  generalize (w.alloc (.cells #[.int .i64 0, .int .i64 0, .string ⟨#[]⟩, .string ⟨#[]⟩, .bool false, .bool false, .slice none 0 0, .slice none 0 0] 69)).drew = W at HZ HBW HWS ⊢
  have HBL0 := Lib.hid (fun (X : Later [w.heap.size + 1] W) => bel_on1 HBW.out X.h (Nat.le_succ _))
  have p0 : ∀ X : Later [w.heap.size + 1] W, X.w.cell? ⟨g, 0, none⟩ = some (.slice (some ⟨g1, o1, none⟩) n cL) := fun X => (HPB.out X.w (HBL0.out X)).1
  have p1 : ∀ X : Later [w.heap.size + 1] W, X.w.cell? ⟨g, 1, none⟩ = some (.int .i64 i) := fun X => (HPB.out X.w (HBL0.out X)).2.1
  have t0 : ∀ X : Later [w.heap.size + 1] W, X.w.cell? ⟨g1, o1 + i * 5, none⟩ = some (.int .i64 t.k) := fun X => (HTA.out X.w (HBL0.out X)).1
  have t1 : ∀ X : Later [w.heap.size + 1] W, X.w.cell? ⟨g1, o1 + i * 5 + 1, none⟩ = some (.int .i64 t.a) := fun X => (HTA.out X.w (HBL0.out X)).2.1
  have t2 : ∀ X : Later [w.heap.size + 1] W, X.w.cell? ⟨g1, o1 + i * 5 + 2, none⟩ = some (.string (ofL t.s)) := fun X => (HTA.out X.w (HBL0.out X)).2.2.1
  have t3 : ∀ X : Later [w.heap.size + 1] W, X.w.cell? ⟨g1, o1 + i * 5 + 3, none⟩ = some (.string (ofL t.p)) := fun X => (HTA.out X.w (HBL0.out X)).2.2.2.1
  have t4 : ∀ X : Later [w.heap.size + 1] W, X.w.cell? ⟨g1, o1 + i * 5 + 4, none⟩ = some (.bool t.h) := fun X => (HTA.out X.w (HBL0.out X)).2.2.2.2
  refine region_seg [true, true, true, true, true, true, true, true, true, true] 2 (by kernel_rfl) (by kernel_rfl) (by kernel_rfl) rfl (fun _ _ d _ _ h => by cases d <;> exact h) ?_
  repeat (first | with_reducible refine wpMask_pass ?_ | (refine wpMask_want (by rfl) (fun K hK => ?_); go_big_quiet_op; refine hK _ ?_; clear hK K))
  with_reducible refine wpMask_nil ?_
  clear p0 p1 t0 t1 t2 t3 t4
  refine region_make 10 (v := .pointer (some ⟨W.heap.size, 0, none⟩)) (w1 := W.alloc (.cells #[.int .i64 0, .int .i64 0, .string ⟨#[]⟩, .string ⟨#[]⟩, .bool false] 138)) (by kernel_rfl) rfl (by rfl) (by go_simp) ((Only.refl _ _).alloc _) ?_
  simp only [List.getElem_toArray, List.getElem_cons_zero, List.getElem_cons_succ, Act.put, List.setIfInBounds_toArray, List.set_cons_zero, List.set_cons_succ]
  have hk0 := Blk.new W 138 [.int .i64 0, .int .i64 0, .string ⟨#[]⟩, .string ⟨#[]⟩, .bool false]
  have hk1 := set5 hk0 (.int .i64 t.k) (.int .i64 t.a) (.string (ofL t.s)) (.string (ofL t.p)) (.bool t.h)
  have ho1 := only5 (W.alloc (.cells #[.int .i64 0, .int .i64 0, .string ⟨#[]⟩, .string ⟨#[]⟩, .bool false] 138)) W.heap.size (.int .i64 t.k) (.int .i64 t.a) (.string (ofL t.s)) (.string (ofL t.p)) (.bool t.h)
  rw [HWS.out] at hk1 ho1
  have ho2 : Only [w.heap.size + 1] W _ := ((Only.refl [w.heap.size + 1] W).alloc _).trans ho1
  obtain ⟨z0, z1, z2, z3, z4⟩ := cells5 hk0
  obtain ⟨f0, f1, f2, f3, f4⟩ := frees5 hk0
  rw [HWS.out] at z0 z1 z2 z3 z4 f0 f1 f2 f3 f4 ⊢
  refine region_store (w1 := (((((W.alloc (.cells #[.int .i64 0, .int .i64 0, .string ⟨#[]⟩, .string ⟨#[]⟩, .bool false] 138)).setCell ⟨w.heap.size + 1, 0, none⟩ (.int .i64 t.k)).setCell ⟨w.heap.size + 1, 1, none⟩ (.int .i64 t.a)).setCell ⟨w.heap.size + 1, 2, none⟩ (.string (ofL t.s))).setCell ⟨w.heap.size + 1, 3, none⟩ (.string (ofL t.p))).setCell ⟨w.heap.size + 1, 4, none⟩ (.bool t.h)) 11 (by kernel_rfl) rfl (by rfl) (by go_simp) ho1 ?_
  have HBT := Lib.hid hk1
  have HBV := Lib.hid (bel_on1 HBW.out ho2 (Nat.le_succ _))
  have HZV := Lib.hid (HZ.out.only ho2 (by simp))
  have HVS : Hid (w.heap.size + 2 ≤ _) := Lib.hid hk1.lt
  clear hk0 hk1 ho1 ho2 z0 z1 z2 z3 z4 f0 f1 f2 f3 f4
  generalize (((((W.alloc (.cells #[.int .i64 0, .int .i64 0, .string ⟨#[]⟩, .string ⟨#[]⟩, .bool false] 138)).setCell ⟨w.heap.size + 1, 0, none⟩ (.int .i64 t.k)).setCell ⟨w.heap.size + 1, 1, none⟩ (.int .i64 t.a)).setCell ⟨w.heap.size + 1, 2, none⟩ (.string (ofL t.s))).setCell ⟨w.heap.size + 1, 3, none⟩ (.string (ofL t.p))).setCell ⟨w.heap.size + 1, 4, none⟩ (.bool t.h) = V at HBT HBV HZV HVS ⊢
  simp only [List.getElem_toArray, List.getElem_cons_zero, List.getElem_cons_succ, Act.put, List.setIfInBounds_toArray, List.set_cons_zero, List.set_cons_succ]
  refine region_end (by kernel_rfl) ?_
  obtain ⟨k0, k1, k2, k3, k4⟩ := cells5 HBT.out
  obtain ⟨q0, q1, q2⟩ := HPB.out V HBV.out
  have HPV := Lib.hid (HP.out.bel HBV.out)
  obtain ⟨q4, q5⟩ := HPV.out.frees
  obtain ⟨y0, y1, y2, y3, y4, y5, y6, y7⟩ := cells8 HZV.out
  have h6 : ((t.k : Int) == 6) = false := by rw [beq_eq_false_iff_ne]; omega
  have HBF : Hid (blkI (t.k : Int) = true) := Lib.hid (by rw [blkI_nat]; exact hb)
  have hd0 : (32 : Int) ≤ (d : Int) := by omega
  clear hk hb
  go_wp2_with (go_at_call 89; ((with_reducible refine (HBL.out _ _).mono ?_); rintro e w1 ⟨rfl, hw⟩; obtain rfl := hw.symm; rw [HBF.out]))
  refine region_begin (T := [w.heap.size]) (by kernel_rfl) ?_
  have HZD := Lib.hid HZV.out.drew
  have HTD := Lib.hid HBT.out.drew
  have HOD := Lib.hid ((bel_only HBV.out).more (T := [g]) (by simp)).drew
  clear k0 k1 k2 k3 k4 q0 q1 q2 q4 q5 y0 y1 y2 y3 y4 y5 y6 y7
  generalize V.drew = D at HZD HTD HOD ⊢
  have k1 : ∀ X : Later [w.heap.size] D, X.w.cell? ⟨w.heap.size + 1, 1, none⟩ = some (.int .i64 t.a) := fun X => (HTD.out.only X.h (by simp)).cell 1
  refine region_seg [false, true, true] 4 (by kernel_rfl) (by kernel_rfl) (by kernel_rfl) rfl (fun _ _ d _ _ h => by cases d <;> exact h) ?_
  repeat (first | with_reducible refine wpMask_pass ?_ | (refine wpMask_want (by rfl) (fun K hK => ?_); go_big_quiet_op; refine hK _ ?_; clear hK K))
  with_reducible refine wpMask_nil ?_
  clear k1
  refine region_make 0 (v := .agg #[.int .i64 0, .int .i64 0, .string ByteArray.empty, .string ByteArray.empty, .bool false, .bool false, .slice none 0 0, .slice none 0 0]) (w1 := D) (by kernel_rfl) rfl (by rfl) (by go_simp; rfl) (Only.refl _ _) ?_
  simp only [List.getElem_toArray, List.getElem_cons_zero, List.getElem_cons_succ, Act.put, List.setIfInBounds_toArray, List.set_cons_zero, List.set_cons_succ]
  obtain ⟨y0, y1, y2, y3, y4, y5, y6, y7⟩ := cells8 HZD.out
  have r0 := HZD.out.free 0
  have r1 := HZD.out.free 1
  have r2 := HZD.out.free 2
  have r3 := HZD.out.free 3
  have r4 := HZD.out.free 4
  have r5 := HZD.out.free 5
  have r6 := HZD.out.free 6
  have r7 := HZD.out.free 7
  refine region_store (w1 := st8 D w.heap.size (.int .i64 0) (.int .i64 0) (.string ByteArray.empty) (.string ByteArray.empty) (.bool false) (.bool false) (.slice none 0 0) (.slice none 0 0)) 3 (by kernel_rfl) rfl (by rfl) (by go_simp) (only8 _ _ _ _ _ _ _ _ _ _) ?_
  simp only [List.getElem_toArray, List.getElem_cons_zero, List.getElem_cons_succ, Act.put, List.setIfInBounds_toArray, List.set_cons_zero, List.set_cons_succ]
  clear y0 y1 y2 y3 y4 y5 y6 y7 r0 r1 r2 r3 r4 r5 r6 r7
  refine region_seg [false, false, false, false, true, true] 0 (by kernel_rfl) (by kernel_rfl) (by kernel_rfl) rfl (fun _ _ d _ _ h => by cases d <;> exact h) ?_
  repeat (first | with_reducible refine wpMask_pass ?_ | (refine wpMask_want (by rfl) (fun K hK => ?_); go_big_quiet_op; refine hK _ ?_; clear hK K))
  with_reducible refine wpMask_nil ?_
  refine region_end (by kernel_rfl) ?_
  go_wp2_with fail
  exact node_err rfl rfl rfl HZD.out HOD.out
set_option maxRecDepth 100000 in
set_option maxHeartbeats 3200000 in
theorem node_many (g : Nat) (L : Option Addr) (cL : Nat) (ts : List Tok) (hG : TsOk ts) (i d c : Nat) (t : Tok) (w : World) (hP : Ps w g L cL ts i c) (ht : ts[i]? = some t) (hd : d ≤ 32) (hnest : ¬ (t.k = 6 ∧ 0 < d ∨ blk t.k = true ∧ 32 ≤ d)) (h0 : 4096 ≤ c) (hc9 : c ≤ 4096) :
    Calls Tryz.prog 60 #[.pointer (some ⟨g, 0, none⟩), .int .i64 d] w (NodeP g L cL ts w ((.error (t.a, 14)))) := by
  have HP := Lib.hid hP
  have HT := Lib.hid ht
  have HBL := Lib.hid block_c
  have hi := (List.getElem?_eq_some_iff.1 ht).1
  have hn := hG.1
  have htk := hG.2 t (List.mem_of_getElem? ht)
  obtain ⟨g1, o1, hL, hga, ha⟩ : ∃ g1 o1, L = some ⟨g1, o1, none⟩ ∧ g1 < w.heap.size ∧ ∀ W, Bel w W → W.cell? ⟨g1, o1 + i * 5, none⟩ = some (.int .i64 t.k) ∧ W.cell? ⟨g1, o1 + i * 5 + 1, none⟩ = some (.int .i64 t.a) ∧ W.cell? ⟨g1, o1 + i * 5 + 2, none⟩ = some (.string (ofL t.s)) ∧ W.cell? ⟨g1, o1 + i * 5 + 3, none⟩ = some (.string (ofL t.p)) ∧ W.cell? ⟨g1, o1 + i * 5 + 4, none⟩ = some (.bool t.h) := by
    obtain ⟨g1, o1, e, h⟩ := tok_at hP.row ht
    exact ⟨g1, o1, e, hP.row.lt g1 (by rw [e]; simp [rowT]), h⟩
  subst hL
  have HTA := Lib.hid ha
  have hgl := hP.blk.lt
  have hsz1 : (ofL t.s).size ≤ reachBytes := by have := htk.2.2.1; show t.s.length ≤ reachBytes; unfold reachBytes; omega
  have hsz2 : (ofL t.p).size ≤ reachBytes := by have := htk.2.2.2; show t.p.length ≤ reachBytes; unfold reachBytes; omega
  have hg1 : ¬ w.heap.size + 1 = g := by omega
  have hg2 : ¬ w.heap.size = g := by omega
  have hg3 : ¬ g = w.heap.size + 1 := by omega
  have hg4 : ¬ g = w.heap.size := by omega
  have HPB := Lib.hid (fun (W : World) (hb : Bel w W) => (HP.out.bel hb).cells)
  obtain ⟨n, hN⟩ : ∃ n, n = ts.length := ⟨_, rfl⟩
  rw [← hN] at hi hn HPB
  have HN := Lib.hid hN
  clear hP ht ha hN hG
  go_enter Tryz.func60, Tryz.ntmps60
  go_wp2_with fail
  refine region_begin (T := [w.heap.size + 1]) (by kernel_rfl) ?_
  have HZ := Lib.hid (Blk.new w 69 [.int .i64 0, .int .i64 0, .string ⟨#[]⟩, .string ⟨#[]⟩, .bool false, .bool false, .slice none 0 0, .slice none 0 0]).drew
  have HBW : Hid (Bel w (w.alloc (.cells #[.int .i64 0, .int .i64 0, .string ⟨#[]⟩, .string ⟨#[]⟩, .bool false, .bool false, .slice none 0 0, .slice none 0 0] 69)).drew) := Lib.hid ((Bel.alloc _ _).trans (Bel.drew _))
  have HWS : Hid (((w.alloc (.cells #[.int .i64 0, .int .i64 0, .string ⟨#[]⟩, .string ⟨#[]⟩, .bool false, .bool false, .slice none 0 0, .slice none 0 0] 69)).drew).heap.size = w.heap.size + 1) := Lib.hid (by simp [World.drew])
  generalize (w.alloc (.cells #[.int .i64 0, .int .i64 0, .string ⟨#[]⟩, .string ⟨#[]⟩, .bool false, .bool false, .slice none 0 0, .slice none 0 0] 69)).drew = W at HZ HBW HWS ⊢
  have HBL0 := Lib.hid (fun (X : Later [w.heap.size + 1] W) => bel_on1 HBW.out X.h (Nat.le_succ _))
  have p0 : ∀ X : Later [w.heap.size + 1] W, X.w.cell? ⟨g, 0, none⟩ = some (.slice (some ⟨g1, o1, none⟩) n cL) := fun X => (HPB.out X.w (HBL0.out X)).1
  have p1 : ∀ X : Later [w.heap.size + 1] W, X.w.cell? ⟨g, 1, none⟩ = some (.int .i64 i) := fun X => (HPB.out X.w (HBL0.out X)).2.1
  have t0 : ∀ X : Later [w.heap.size + 1] W, X.w.cell? ⟨g1, o1 + i * 5, none⟩ = some (.int .i64 t.k) := fun X => (HTA.out X.w (HBL0.out X)).1
  have t1 : ∀ X : Later [w.heap.size + 1] W, X.w.cell? ⟨g1, o1 + i * 5 + 1, none⟩ = some (.int .i64 t.a) := fun X => (HTA.out X.w (HBL0.out X)).2.1
  have t2 : ∀ X : Later [w.heap.size + 1] W, X.w.cell? ⟨g1, o1 + i * 5 + 2, none⟩ = some (.string (ofL t.s)) := fun X => (HTA.out X.w (HBL0.out X)).2.2.1
  have t3 : ∀ X : Later [w.heap.size + 1] W, X.w.cell? ⟨g1, o1 + i * 5 + 3, none⟩ = some (.string (ofL t.p)) := fun X => (HTA.out X.w (HBL0.out X)).2.2.2.1
  have t4 : ∀ X : Later [w.heap.size + 1] W, X.w.cell? ⟨g1, o1 + i * 5 + 4, none⟩ = some (.bool t.h) := fun X => (HTA.out X.w (HBL0.out X)).2.2.2.2
  refine region_seg [true, true, true, true, true, true, true, true, true, true] 2 (by kernel_rfl) (by kernel_rfl) (by kernel_rfl) rfl (fun _ _ d _ _ h => by cases d <;> exact h) ?_
  repeat (first | with_reducible refine wpMask_pass ?_ | (refine wpMask_want (by rfl) (fun K hK => ?_); go_big_quiet_op; refine hK _ ?_; clear hK K))
  with_reducible refine wpMask_nil ?_
  clear p0 p1 t0 t1 t2 t3 t4
  refine region_make 10 (v := .pointer (some ⟨W.heap.size, 0, none⟩)) (w1 := W.alloc (.cells #[.int .i64 0, .int .i64 0, .string ⟨#[]⟩, .string ⟨#[]⟩, .bool false] 138)) (by kernel_rfl) rfl (by rfl) (by go_simp) ((Only.refl _ _).alloc _) ?_
  simp only [List.getElem_toArray, List.getElem_cons_zero, List.getElem_cons_succ, Act.put, List.setIfInBounds_toArray, List.set_cons_zero, List.set_cons_succ]
  have hk0 := Blk.new W 138 [.int .i64 0, .int .i64 0, .string ⟨#[]⟩, .string ⟨#[]⟩, .bool false]
  have hk1 := set5 hk0 (.int .i64 t.k) (.int .i64 t.a) (.string (ofL t.s)) (.string (ofL t.p)) (.bool t.h)
  have ho1 := only5 (W.alloc (.cells #[.int .i64 0, .int .i64 0, .string ⟨#[]⟩, .string ⟨#[]⟩, .bool false] 138)) W.heap.size (.int .i64 t.k) (.int .i64 t.a) (.string (ofL t.s)) (.string (ofL t.p)) (.bool t.h)
  rw [HWS.out] at hk1 ho1
  have ho2 : Only [w.heap.size + 1] W _ := ((Only.refl [w.heap.size + 1] W).alloc _).trans ho1
  obtain ⟨z0, z1, z2, z3, z4⟩ := cells5 hk0
  obtain ⟨f0, f1, f2, f3, f4⟩ := frees5 hk0
  rw [HWS.out] at z0 z1 z2 z3 z4 f0 f1 f2 f3 f4 ⊢
  refine region_store (w1 := (((((W.alloc (.cells #[.int .i64 0, .int .i64 0, .string ⟨#[]⟩, .string ⟨#[]⟩, .bool false] 138)).setCell ⟨w.heap.size + 1, 0, none⟩ (.int .i64 t.k)).setCell ⟨w.heap.size + 1, 1, none⟩ (.int .i64 t.a)).setCell ⟨w.heap.size + 1, 2, none⟩ (.string (ofL t.s))).setCell ⟨w.heap.size + 1, 3, none⟩ (.string (ofL t.p))).setCell ⟨w.heap.size + 1, 4, none⟩ (.bool t.h)) 11 (by kernel_rfl) rfl (by rfl) (by go_simp) ho1 ?_
  have HBT := Lib.hid hk1
  have HBV := Lib.hid (bel_on1 HBW.out ho2 (Nat.le_succ _))
  have HZV := Lib.hid (HZ.out.only ho2 (by simp))
  have HVS : Hid (w.heap.size + 2 ≤ _) := Lib.hid hk1.lt
  clear hk0 hk1 ho1 ho2 z0 z1 z2 z3 z4 f0 f1 f2 f3 f4
  generalize (((((W.alloc (.cells #[.int .i64 0, .int .i64 0, .string ⟨#[]⟩, .string ⟨#[]⟩, .bool false] 138)).setCell ⟨w.heap.size + 1, 0, none⟩ (.int .i64 t.k)).setCell ⟨w.heap.size + 1, 1, none⟩ (.int .i64 t.a)).setCell ⟨w.heap.size + 1, 2, none⟩ (.string (ofL t.s))).setCell ⟨w.heap.size + 1, 3, none⟩ (.string (ofL t.p))).setCell ⟨w.heap.size + 1, 4, none⟩ (.bool t.h) = V at HBT HBV HZV HVS ⊢
  simp only [List.getElem_toArray, List.getElem_cons_zero, List.getElem_cons_succ, Act.put, List.setIfInBounds_toArray, List.set_cons_zero, List.set_cons_succ]
  refine region_end (by kernel_rfl) ?_
  obtain ⟨k0, k1, k2, k3, k4⟩ := cells5 HBT.out
  obtain ⟨q0, q1, q2⟩ := HPB.out V HBV.out
  have HPV := Lib.hid (HP.out.bel HBV.out)
  obtain ⟨q4, q5⟩ := HPV.out.frees
  obtain ⟨y0, y1, y2, y3, y4, y5, y6, y7⟩ := cells8 HZV.out
  have hd0 : (4096 : Int) ≤ (c : Int) := by omega
  by_cases hk : t.k = 6
  · have h6 : ((t.k : Int) == 6) = true := by rw [hk]; rfl
    have HBF : Hid (blkI (t.k : Int) = true) := Lib.hid (by rw [hk]; rfl)
    have hd1 : ¬ (0 : Int) < (d : Int) := by intro h; exact hnest (.inl ⟨hk, by omega⟩)
    have hd2 : ¬ (32 : Int) ≤ (d : Int) := by intro h; exact hnest (.inr ⟨by rw [hk]; rfl, by omega⟩)
    clear hk hnest
    go_wp2_with (go_at_call 89; ((with_reducible refine (HBL.out _ _).mono ?_); rintro e w1 ⟨rfl, hw⟩; obtain rfl := hw.symm; rw [HBF.out]))
    refine region_begin (T := [w.heap.size]) (by kernel_rfl) ?_
    have HZD := Lib.hid HZV.out.drew
    have HTD := Lib.hid HBT.out.drew
    have HOD := Lib.hid ((bel_only HBV.out).more (T := [g]) (by simp)).drew
    clear k0 k1 k2 k3 k4 q0 q1 q2 q4 q5 y0 y1 y2 y3 y4 y5 y6 y7
    generalize V.drew = D at HZD HTD HOD ⊢
    have k1 : ∀ X : Later [w.heap.size] D, X.w.cell? ⟨w.heap.size + 1, 1, none⟩ = some (.int .i64 t.a) := fun X => (HTD.out.only X.h (by simp)).cell 1
    refine region_seg [false, true, true] 4 (by kernel_rfl) (by kernel_rfl) (by kernel_rfl) rfl (fun _ _ d _ _ h => by cases d <;> exact h) ?_
    repeat (first | with_reducible refine wpMask_pass ?_ | (refine wpMask_want (by rfl) (fun K hK => ?_); go_big_quiet_op; refine hK _ ?_; clear hK K))
    with_reducible refine wpMask_nil ?_
    clear k1
    refine region_make 0 (v := .agg #[.int .i64 0, .int .i64 0, .string ByteArray.empty, .string ByteArray.empty, .bool false, .bool false, .slice none 0 0, .slice none 0 0]) (w1 := D) (by kernel_rfl) rfl (by rfl) (by go_simp; rfl) (Only.refl _ _) ?_
    simp only [List.getElem_toArray, List.getElem_cons_zero, List.getElem_cons_succ, Act.put, List.setIfInBounds_toArray, List.set_cons_zero, List.set_cons_succ]
    obtain ⟨y0, y1, y2, y3, y4, y5, y6, y7⟩ := cells8 HZD.out
    have r0 := HZD.out.free 0
    have r1 := HZD.out.free 1
    have r2 := HZD.out.free 2
    have r3 := HZD.out.free 3
    have r4 := HZD.out.free 4
    have r5 := HZD.out.free 5
    have r6 := HZD.out.free 6
    have r7 := HZD.out.free 7
    refine region_store (w1 := st8 D w.heap.size (.int .i64 0) (.int .i64 0) (.string ByteArray.empty) (.string ByteArray.empty) (.bool false) (.bool false) (.slice none 0 0) (.slice none 0 0)) 3 (by kernel_rfl) rfl (by rfl) (by go_simp) (only8 _ _ _ _ _ _ _ _ _ _) ?_
    simp only [List.getElem_toArray, List.getElem_cons_zero, List.getElem_cons_succ, Act.put, List.setIfInBounds_toArray, List.set_cons_zero, List.set_cons_succ]
    clear y0 y1 y2 y3 y4 y5 y6 y7 r0 r1 r2 r3 r4 r5 r6 r7
    refine region_seg [false, false, false, false, true, true] 0 (by kernel_rfl) (by kernel_rfl) (by kernel_rfl) rfl (fun _ _ d _ _ h => by cases d <;> exact h) ?_
    repeat (first | with_reducible refine wpMask_pass ?_ | (refine wpMask_want (by rfl) (fun K hK => ?_); go_big_quiet_op; refine hK _ ?_; clear hK K))
    with_reducible refine wpMask_nil ?_
    refine region_end (by kernel_rfl) ?_
    go_wp2_with fail
    exact node_err rfl rfl rfl HZD.out HOD.out
  · have h6 : ((t.k : Int) == 6) = false := by rw [beq_eq_false_iff_ne]; omega
    cases hb : blk t.k with
    | true =>
      have HBF : Hid (blkI (t.k : Int) = true) := Lib.hid (by rw [blkI_nat]; exact hb)
      have hd2 : ¬ (32 : Int) ≤ (d : Int) := by intro h; exact hnest (.inr ⟨hb, by omega⟩)
      clear hk hnest hb
      go_wp2_with (go_at_call 89; ((with_reducible refine (HBL.out _ _).mono ?_); rintro e w1 ⟨rfl, hw⟩; obtain rfl := hw.symm; rw [HBF.out]))
      refine region_begin (T := [w.heap.size]) (by kernel_rfl) ?_
      have HZD := Lib.hid HZV.out.drew
      have HTD := Lib.hid HBT.out.drew
      have HOD := Lib.hid ((bel_only HBV.out).more (T := [g]) (by simp)).drew
      clear k0 k1 k2 k3 k4 q0 q1 q2 q4 q5 y0 y1 y2 y3 y4 y5 y6 y7
      generalize V.drew = D at HZD HTD HOD ⊢
      have k1 : ∀ X : Later [w.heap.size] D, X.w.cell? ⟨w.heap.size + 1, 1, none⟩ = some (.int .i64 t.a) := fun X => (HTD.out.only X.h (by simp)).cell 1
      refine region_seg [false, true, true] 4 (by kernel_rfl) (by kernel_rfl) (by kernel_rfl) rfl (fun _ _ d _ _ h => by cases d <;> exact h) ?_
      repeat (first | with_reducible refine wpMask_pass ?_ | (refine wpMask_want (by rfl) (fun K hK => ?_); go_big_quiet_op; refine hK _ ?_; clear hK K))
      with_reducible refine wpMask_nil ?_
      clear k1
      refine region_make 0 (v := .agg #[.int .i64 0, .int .i64 0, .string ByteArray.empty, .string ByteArray.empty, .bool false, .bool false, .slice none 0 0, .slice none 0 0]) (w1 := D) (by kernel_rfl) rfl (by rfl) (by go_simp; rfl) (Only.refl _ _) ?_
      simp only [List.getElem_toArray, List.getElem_cons_zero, List.getElem_cons_succ, Act.put, List.setIfInBounds_toArray, List.set_cons_zero, List.set_cons_succ]
      obtain ⟨y0, y1, y2, y3, y4, y5, y6, y7⟩ := cells8 HZD.out
      have r0 := HZD.out.free 0
      have r1 := HZD.out.free 1
      have r2 := HZD.out.free 2
      have r3 := HZD.out.free 3
      have r4 := HZD.out.free 4
      have r5 := HZD.out.free 5
      have r6 := HZD.out.free 6
      have r7 := HZD.out.free 7
      refine region_store (w1 := st8 D w.heap.size (.int .i64 0) (.int .i64 0) (.string ByteArray.empty) (.string ByteArray.empty) (.bool false) (.bool false) (.slice none 0 0) (.slice none 0 0)) 3 (by kernel_rfl) rfl (by rfl) (by go_simp) (only8 _ _ _ _ _ _ _ _ _ _) ?_
      simp only [List.getElem_toArray, List.getElem_cons_zero, List.getElem_cons_succ, Act.put, List.setIfInBounds_toArray, List.set_cons_zero, List.set_cons_succ]
      clear y0 y1 y2 y3 y4 y5 y6 y7 r0 r1 r2 r3 r4 r5 r6 r7
      refine region_seg [false, false, false, false, true, true] 0 (by kernel_rfl) (by kernel_rfl) (by kernel_rfl) rfl (fun _ _ d _ _ h => by cases d <;> exact h) ?_
      repeat (first | with_reducible refine wpMask_pass ?_ | (refine wpMask_want (by rfl) (fun K hK => ?_); go_big_quiet_op; refine hK _ ?_; clear hK K))
      with_reducible refine wpMask_nil ?_
      refine region_end (by kernel_rfl) ?_
      go_wp2_with fail
      exact node_err rfl rfl rfl HZD.out HOD.out
    | false =>
      have HBF : Hid (blkI (t.k : Int) = false) := Lib.hid (by rw [blkI_nat]; exact hb)
      clear hk hnest hb
      go_wp2_with (go_at_call 89; ((with_reducible refine (HBL.out _ _).mono ?_); rintro e w1 ⟨rfl, hw⟩; obtain rfl := hw.symm; rw [HBF.out]))
      refine region_begin (T := [w.heap.size]) (by kernel_rfl) ?_
      have HZD := Lib.hid HZV.out.drew
      have HTD := Lib.hid HBT.out.drew
      have HOD := Lib.hid ((bel_only HBV.out).more (T := [g]) (by simp)).drew
      clear k0 k1 k2 k3 k4 q0 q1 q2 q4 q5 y0 y1 y2 y3 y4 y5 y6 y7
      generalize V.drew = D at HZD HTD HOD ⊢
      have k1 : ∀ X : Later [w.heap.size] D, X.w.cell? ⟨w.heap.size + 1, 1, none⟩ = some (.int .i64 t.a) := fun X => (HTD.out.only X.h (by simp)).cell 1
      refine region_seg [false, true, true] 4 (by kernel_rfl) (by kernel_rfl) (by kernel_rfl) rfl (fun _ _ d _ _ h => by cases d <;> exact h) ?_
      repeat (first | with_reducible refine wpMask_pass ?_ | (refine wpMask_want (by rfl) (fun K hK => ?_); go_big_quiet_op; refine hK _ ?_; clear hK K))
      with_reducible refine wpMask_nil ?_
      clear k1
      refine region_make 0 (v := .agg #[.int .i64 0, .int .i64 0, .string ByteArray.empty, .string ByteArray.empty, .bool false, .bool false, .slice none 0 0, .slice none 0 0]) (w1 := D) (by kernel_rfl) rfl (by rfl) (by go_simp; rfl) (Only.refl _ _) ?_
      simp only [List.getElem_toArray, List.getElem_cons_zero, List.getElem_cons_succ, Act.put, List.setIfInBounds_toArray, List.set_cons_zero, List.set_cons_succ]
      obtain ⟨y0, y1, y2, y3, y4, y5, y6, y7⟩ := cells8 HZD.out
      have r0 := HZD.out.free 0
      have r1 := HZD.out.free 1
      have r2 := HZD.out.free 2
      have r3 := HZD.out.free 3
      have r4 := HZD.out.free 4
      have r5 := HZD.out.free 5
      have r6 := HZD.out.free 6
      have r7 := HZD.out.free 7
      refine region_store (w1 := st8 D w.heap.size (.int .i64 0) (.int .i64 0) (.string ByteArray.empty) (.string ByteArray.empty) (.bool false) (.bool false) (.slice none 0 0) (.slice none 0 0)) 3 (by kernel_rfl) rfl (by rfl) (by go_simp) (only8 _ _ _ _ _ _ _ _ _ _) ?_
      simp only [List.getElem_toArray, List.getElem_cons_zero, List.getElem_cons_succ, Act.put, List.setIfInBounds_toArray, List.set_cons_zero, List.set_cons_succ]
      clear y0 y1 y2 y3 y4 y5 y6 y7 r0 r1 r2 r3 r4 r5 r6 r7
      refine region_seg [false, false, false, false, true, true] 0 (by kernel_rfl) (by kernel_rfl) (by kernel_rfl) rfl (fun _ _ d _ _ h => by cases d <;> exact h) ?_
      repeat (first | with_reducible refine wpMask_pass ?_ | (refine wpMask_want (by rfl) (fun K hK => ?_); go_big_quiet_op; refine hK _ ?_; clear hK K))
      with_reducible refine wpMask_nil ?_
      refine region_end (by kernel_rfl) ?_
      go_wp2_with fail
      exact node_err rfl rfl rfl HZD.out HOD.out
end Go.Proofs.YtpcapmdfjmpdiaaGreatDoor
