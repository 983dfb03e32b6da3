/-
  What is left of a source and what it gives; rows of tokens; appending a token.
-/
import Derived.Test.YteclclidibmajaaDi11
namespace Go.Proofs.Yteclclidibmajaa
open Go.RowKit Go.BigFrame Go.Maps Go.WideMaps
set_option linter.unusedVariables false
set_option linter.unusedSimpArgs false

/-- What a source gives: its tokens, or where its first fault is and which. -/
abbrev LexR := Except (Nat × Nat) (List Tok)
def Rs (l : List UInt8) (a : Nat) (r : LexR) : Prop := match r with | .ok ts => Lx l a ts | .error (b, c) => Er l a b c
def comb (done : List Tok) (r : LexR) : LexR := match r with | .ok ts => .ok (done ++ ts) | .error e => .error e
theorem comb_nil (r : LexR) : comb [] r = r := by cases r <;> rfl
theorem comb_snoc (done : List Tok) (t : Tok) (r : LexR) : comb done (comb [t] r) = comb (done ++ [t]) r := by cases r <;> simp [comb]
theorem rs_total (l : List UInt8) (a : Nat) : ∃ r, Rs l a r := by
  rcases lx_total l.length l a (Nat.le_refl _) with ⟨ts, h⟩ | ⟨b, c, h⟩
  · exact ⟨.ok ts, h⟩
  · exact ⟨.error (b, c), h⟩
theorem rs_fun {l : List UInt8} {a : Nat} {r r2 : LexR} (h : Rs l a r) (h2 : Rs l a r2) : r = r2 := by
  match r, r2, h, h2 with
  | .ok ts, .ok us, h, h2 => rw [lx_fun h h2]
  | .ok ts, .error (b, c), h, h2 => exact absurd h (er_not h2)
  | .error (b, c), .ok us, h, h2 => exact absurd h2 (er_not h)
  | .error (b, c), .error (b2, c2), h, h2 => obtain ⟨rfl, rfl⟩ := er_fun h h2; rfl
theorem rs_nil {a : Nat} {r : LexR} (h : Rs [] a r) : r = .ok [] := rs_fun h (Lx.nil a)
theorem rs_all {l : List UInt8} {a : Nat} {r : LexR} (h : Rs l a r) (hl : l ≠ []) (hf : find2 123 l = none) : r = comb [text a l] (.ok []) := rs_fun h (Lx.all l a hl hf)
theorem rs_text {l : List UInt8} {a k : Nat} {r : LexR} (h : Rs l a r) (hf : find2 123 l = some (k + 1)) : ∃ r2, Rs (l.drop (k + 1)) (a + (k + 1)) r2 ∧ r = comb [text a (l.take (k + 1))] r2 := by
  obtain ⟨r2, h2⟩ := rs_total (l.drop (k + 1)) (a + (k + 1))
  refine ⟨r2, h2, rs_fun h ?_⟩
  match r2, h2 with
  | .ok ts, h2 => exact Lx.text l a k ts hf h2
  | .error (b, c), h2 => exact Er.text l a k b c hf h2
theorem rs_trunc {l : List UInt8} {a : Nat} {r : LexR} (h : Rs l a r) (hf : find2 123 l = some 0) (hc : find2 125 (l.drop 2) = none) : r = .error (a, 7) := rs_fun h (Er.trunc l a hf hc)
theorem rs_bad {l : List UInt8} {a e c : Nat} {r : LexR} (h : Rs l a r) (hf : find2 123 l = some 0) (hc : find2 125 (l.drop 2) = some e) (hd : dirOf (words ((l.drop 2).take e)) = .error c) : r = .error (a, c) := rs_fun h (Er.bad l a e c hf hc hd)
theorem rs_dir {l : List UInt8} {a e : Nat} {t : Tok} {r : LexR} (h : Rs l a r) (hf : find2 123 l = some 0) (hc : find2 125 (l.drop 2) = some e) (hd : dirOf (words ((l.drop 2).take e)) = .ok t) :
    ∃ r2, Rs (l.drop (e + 4)) (a + (e + 4)) r2 ∧ r = comb [{ t with a := a }] r2 := by
  obtain ⟨r2, h2⟩ := rs_total (l.drop (e + 4)) (a + (e + 4))
  refine ⟨r2, h2, rs_fun h ?_⟩
  match r2, h2 with
  | .ok ts, h2 => exact Lx.dir l a e t ts hf hc hd h2
  | .error (b, c), h2 => exact Er.dir l a e t b c hf hc hd h2

/-! ### Rows of tokens -/
theorem info_rtok : (Try.prog.info? 71).map (fun i => (i.zero, i.size, i.bytes)) = some (some (.agg #[.int .i64 0, .int .i64 0, .string ByteArray.empty, .string ByteArray.empty, .bool false]), 5, 56) := by kernel_rfl
theorem cells_tok : (Value.agg #[.int .i64 0, .int .i64 0, .string ByteArray.empty, .string ByteArray.empty, .bool false]).cells.size = 5 := by kernel_rfl
section
variable {w : World} {ops : Array Oper} {rest : List Oper} {o : Oper} {a : Act} {Q : Exit → Act → World → Prop}
theorem wp_tokR (hgd : o.guard = none) (s x : Operand) (ho : o.op = .call { callee := .builtin .append, args := #[s, x], argTypes := #[56, 56] })
    (A : Option Addr) (n c : Nat) (l : List Tok) (hn : l.length = n) (hs : a.eval s = .slice A n c) (hA : KRow w 71 5 Tok.cs A c l) (g : Nat) (cs : List Value) (t : Tok) (ht : cs = t.cs) (hx : a.eval x = .slice (some ⟨g, 0, none⟩) 1 1) (hb : Blk w g 71 cs) (hle : n ≤ 100000)
    (h : ∀ A' c' w', Hid (KRow w' 71 5 Tok.cs A' c' (l ++ [t])) → Hid (Only (rowT A) w w') → Hid (∀ k, k ∈ rowT A' → k ∈ rowT A ∨ k = w.heap.size) → wpList Try.prog ops Q rest (a.put o.dst (.slice A' (n + 1) c')) w') :
    wpList Try.prog ops Q (o :: rest) a w :=
  wp_kAppend hgd s x 56 ho 71 _ 5 56 Tok.cs tok_len tok_one Try.underlying56 info_rtok cells_tok (by decide) A c l n hn hs hA (some ⟨g, 0, none⟩) 1 [t] 1 rfl hx (src_blk hb (by rw [ht, flat_one])) (by unfold maxLen; omega) (by omega) (n + 1) rfl
    (fun A' c' w' h1 h2 h3 => h A' c' w' h1 (Lib.hid h2) h3)
end
/-- The state of a row of tokens in a loop that began in world W. -/
structure TkAt (T : TypeId) (W wr : World) (A : Option Addr) (n c : Nat) (done : List Tok) : Prop where
  row : KRow wr T 5 Tok.cs A c done
  len : done.length = n
  fresh : ∀ k, k ∈ rowT A → W.heap.size ≤ k
  bel : Bel W wr
theorem TkAt.start (T : TypeId) (W : World) : TkAt T W W none 0 0 [] := ⟨KRow.nil _ _ _ _, rfl, by simp [rowT], Bel.refl _⟩
theorem TkAt.later {T : TypeId} {W wr w2 : World} {A : Option Addr} {n c : Nat} {done : List Tok} (h : TkAt T W wr A n c done) (hb : Bel wr w2) : TkAt T W w2 A n c done :=
  ⟨h.row.only (Only.of_below (S := []) hb fun _ hk _ => hk) (by simp), h.len, h.fresh, h.bel.trans hb⟩
theorem TkAt.push {T : TypeId} {W wr w2 : World} {A A' : Option Addr} {n c c' : Nat} {done : List Tok} {t : Tok} (h : TkAt T W wr A n c done) (o : Obj) (hR : KRow w2 T 5 Tok.cs A' c' (done ++ [t])) (hO : Only (rowT A) (wr.alloc o) w2) (hK : ∀ k, k ∈ rowT A' → k ∈ rowT A ∨ k = (wr.alloc o).heap.size) :
    TkAt T W w2 A' (n + 1) c' (done ++ [t]) := by
  refine ⟨hR, by rw [List.length_append, h.len]; rfl, fun k hk => ?_, ?_⟩
  · rcases hK k hk with h1 | h1
    · exact h.fresh k h1
    · have := h.bel.size; simp at h1; omega
  · exact Below.trans (h.bel.trans (Bel.alloc wr o)) (hO.to_below ((h.bel.trans (Bel.alloc wr o)).size) (fun k hk => h.fresh k hk))
/-- What Lex gives. -/
def LexPost (T : TypeId) (s : ByteArray) (r : LexR) (w : World) (e : Ending) (w' : World) : Prop :=
  Bel w w' ∧ match r with
    | .ok ts => ∃ A c, e = .returned (.tuple #[.slice A ts.length c, .int .i64 s.size, .int .i64 0]) ∧ KRow w' T 5 Tok.cs A c ts ∧ ∀ k, k ∈ rowT A → w.heap.size ≤ k
    | .error (b, c) => e = .returned (.tuple #[.slice none 0 0, .int .i64 b, .int .i64 c])
/-- The result of Lex as a whole. -/
def LexOf (s : ByteArray) (r : LexR) : Prop := if 65536 < s.size then r = .error (0, 6) else Rs (toL s) 0 r
theorem toL_from (s : ByteArray) (a : Nat) : toL (s.extract a s.size) = (toL s).drop a := by rw [toL_extract, List.take_of_length_le (Nat.le_of_eq (toL_len s))]
theorem extract_take (s : ByteArray) (a k : Nat) : s.extract a (a + k) = ofL (((toL s).drop a).take k) := by
  apply toL_inj
  rw [toL_ofL, toL_extract, List.take_drop]
end Go.Proofs.Yteclclidibmajaa
