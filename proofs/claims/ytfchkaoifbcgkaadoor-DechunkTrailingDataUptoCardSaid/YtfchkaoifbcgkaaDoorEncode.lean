/-
  The contract of framer.Encode.
-/
import Derived.Test.YtfchkaoifbcgkaaDoorFramer
import Derived.Test.YtfchkaoifbcgkaaDoorChunkIt
import Derived.Laws.EntriesVeiled
namespace Go.Proofs.YtfchkaoifbcgkaaDoor
open Go.RowKit Go.BigFrame Go.Shelf
set_option linter.unusedVariables false
set_option linter.unusedSimpArgs false
attribute [local go_sem ↓] sliced_cut run_min2 run_max2
attribute [local go_sem] cutA_zero
attribute [local go_sem] Oper.semAt_some

set_option maxRecDepth 100000 in
set_option maxHeartbeats 400000 in
theorem encode_bad (w : World) {n : Int} (h : n < 1 ∨ 65536 < n) (x : Value) :
    Calls Tryd.prog 21 #[x, .int .i64 n] w fun e w' => e = .returned (.tuple #[.slice none 0 0, .int .i64 3]) ∧ Only [] w w' := by
  have HN := Lib.hid (new_bad w h)
  clear h
  go_enter Tryd.func21, Tryd.ntmps21
  go_wp2_with (go_at_call 26; refine HN.out.mono ?_; rintro e w1 ⟨rfl, rfl⟩)
  go_ret2
  exact ⟨rfl, (Only.refl [] w).alloc _⟩

/-! ### What lies between two rounds -/
/-- The framer at r between two chunks, in the boxes bf, bt; the body so far in box bb. -/
structure EncAt (w : World) (r bf bb bt k : Nat) (out : List UInt8) (W : World) : Prop where
  fr : Fr 70 r ⟨k, [], false⟩ W [r]
  f : Blk W bf 60 [.pointer (some ⟨r, 0, none⟩)]
  t : Blk W bt 27 [.func (.func 27) #[.pointer (some ⟨r, 0, none⟩)] #[]]
  b : ∃ A n c, Blk W bb 26 [.slice A n c] ∧ RowAt W 5 A n c (vbs out) ∧ n = out.length ∧ ∀ j, j ∈ rowT A → w.heap.size ≤ j
  s : ∃ cs, Blk W (bt + 1) 26 cs
  n : ∃ cs, Blk W (bt + 2) 3 cs
  lo : w.heap.size ≤ r ∧ w.heap.size ≤ bb ∧ bb + 1 = bt
  below : Below w.heap.size w W
theorem encAt_own {w w0 : World} {r bf bb bt k m : Nat} (l : List UInt8) (hw : w.heap.size ≤ w0.heap.size) : OwnFrom w0.heap.size (fun (pre : List (Cut m k)) W => EncAt w r bf bb bt k (chunksAt l pre) W) := by
  intro pre X Y row h hg hr
  obtain ⟨S, hO, hS⟩ := only_of_grown hg hr
  have hS2 := fun k hk => (hS k hk).2
  obtain ⟨A, n, c, hb, hrow, hn, hlo⟩ := h.b
  obtain ⟨fA, fc, hfr⟩ := h.fr
  refine ⟨(fr_thing _ _ _).only h.fr hO (fun j hj => ?_), h.f.only hO (h.f.notin hS2), h.t.only hO (h.t.notin hS2), ⟨A, n, c, hb.only hO (hb.notin hS2), hrow.only hO (hrow.notin hS2), hn, hlo⟩, h.s.imp fun cs hc => hc.only hO (hc.notin hS2), h.n.imp fun cs hc => hc.only hO (hc.notin hS2), h.lo, Only.below h.below hO h.below.size (fun k hk => Nat.le_trans hw (hS k hk).1)⟩
  obtain rfl : j = r := by simpa using hj
  exact hfr.head.notin hS2

/-- Where the loop begins. -/
theorem enc_start {w w1 : World} {k m d : Nat} {X : Option Addr} (hF : Fr 70 w.heap.size ⟨k, [], false⟩ w1 [w.heap.size]) (hO : Only [] w w1) :
    ∃ W, W = (((((w1.alloc (.cells #[.pointer (some ⟨w.heap.size, 0, none⟩)] 60)).alloc (.cells #[.slice none 0 0] 26)).alloc (.cells #[.func (.func 27) #[.pointer (some ⟨w.heap.size, 0, none⟩)] #[]] 27)).alloc
      (.cells #[.slice X m d] 26)).alloc (.cells #[.int .i64 k] 3)) ∧ W.heap.size = w1.heap.size + 5 ∧ EncAt w w.heap.size w1.heap.size (w1.heap.size + 1) (w1.heap.size + 2) k [] W ∧
      W.cell? ⟨w1.heap.size + 3, 0, none⟩ = some (.slice X m d) ∧ W.cell? ⟨w1.heap.size + 4, 0, none⟩ = some (.int .i64 k) ∧ Only [] w W := by
  have h4 := (Blk.new (((w1.alloc (.cells #[.pointer (some ⟨w.heap.size, 0, none⟩)] 60)).alloc (.cells #[.slice none 0 0] 26)).alloc (.cells #[.func (.func 27) #[.pointer (some ⟨w.heap.size, 0, none⟩)] #[]] 27)) 26 [.slice X m d]).alloc (.cells #[.int .i64 k] 3)
  have h5 := Blk.new ((((w1.alloc (.cells #[.pointer (some ⟨w.heap.size, 0, none⟩)] 60)).alloc (.cells #[.slice none 0 0] 26)).alloc (.cells #[.func (.func 27) #[.pointer (some ⟨w.heap.size, 0, none⟩)] #[]] 27)).alloc (.cells #[.slice X m d] 26)) 3 [.int .i64 k]
  simp only [World.size_alloc] at h4 h5
  refine ⟨_, rfl, by simp, ?_, ?_⟩
  · have h1 := ((((Blk.new w1 60 [.pointer (some ⟨w.heap.size, 0, none⟩)]).alloc (.cells #[.slice none 0 0] 26)).alloc (.cells #[.func (.func 27) #[.pointer (some ⟨w.heap.size, 0, none⟩)] #[]] 27)).alloc (.cells #[.slice X m d] 26)).alloc (.cells #[.int .i64 k] 3)
    have h2 := (((Blk.new (w1.alloc (.cells #[.pointer (some ⟨w.heap.size, 0, none⟩)] 60)) 26 [.slice none 0 0]).alloc (.cells #[.func (.func 27) #[.pointer (some ⟨w.heap.size, 0, none⟩)] #[]] 27)).alloc (.cells #[.slice X m d] 26)).alloc (.cells #[.int .i64 k] 3)
    have h3 := ((Blk.new ((w1.alloc (.cells #[.pointer (some ⟨w.heap.size, 0, none⟩)] 60)).alloc (.cells #[.slice none 0 0] 26)) 27 [.func (.func 27) #[.pointer (some ⟨w.heap.size, 0, none⟩)] #[]]).alloc (.cells #[.slice X m d] 26)).alloc (.cells #[.int .i64 k] 3)
    rw [World.size_alloc] at h2
    rw [World.size_alloc, World.size_alloc] at h3
    have hOO : Only [] w1 (((((w1.alloc (.cells #[.pointer (some ⟨w.heap.size, 0, none⟩)] 60)).alloc (.cells #[.slice none 0 0] 26)).alloc (.cells #[.func (.func 27) #[.pointer (some ⟨w.heap.size, 0, none⟩)] #[]] 27)).alloc
      (.cells #[.slice X m d] 26)).alloc (.cells #[.int .i64 k] 3)) := (((((Only.refl [] w1).alloc _).alloc _).alloc _).alloc _).alloc _
    exact ⟨(fr_thing _ _ _).only hF hOO (by simp), h1, h3, ⟨none, 0, 0, h2, RowAt.nil _ _, rfl, by simp [rowT]⟩, ⟨_, h4⟩, ⟨_, h5⟩, ⟨Nat.le_refl _, by have := hO.size; omega, rfl⟩, (hO.trans hOO).to_below (Nat.le_refl _) (by simp)⟩
  · exact ⟨h4.cell 0, h5.cell 0, hO.trans ((((((Only.refl [] w1).alloc _).alloc _).alloc _).alloc _).alloc _)⟩

theorem EncAt.apart {w W : World} {r bf bb bt k : Nat} {out : List UInt8} (h : EncAt w r bf bb bt k out W) : ∃ A n c, Blk W bb 26 [.slice A n c] ∧ RowAt W 5 A n c (vbs out) ∧ n = out.length ∧ (∀ j, j ∈ rowT A → w.heap.size ≤ j) ∧
    r ≠ bb ∧ r ∉ rowT A ∧ bb ∉ rowT A ∧ bf ∉ r :: bb :: rowT A ∧ bt ∉ r :: bb :: rowT A ∧ bt + 1 ∉ r :: bb :: rowT A ∧ bt + 2 ∉ r :: bb :: rowT A := by
  obtain ⟨A, n, c, hb, hrow, hn, hlo⟩ := h.b
  obtain ⟨fA, fc, hfr⟩ := h.fr
  obtain ⟨cs, hs⟩ := h.s
  obtain ⟨cn, hcn⟩ := h.n
  have hl := h.lo.2.2
  have h1 := hfr.head
  refine ⟨A, n, c, hb, hrow, hn, hlo, h1.ne_ hb (by decide), hrow.ne_blk h1 (by decide), hrow.ne_blk hb (by decide), ?_, ?_, ?_, ?_⟩
  · simp only [List.mem_cons, not_or]
    exact ⟨h.f.ne_ h1 (by decide), h.f.ne_ hb (by decide), hrow.ne_blk h.f (by decide)⟩
  · simp only [List.mem_cons, not_or]
    exact ⟨h.t.ne_ h1 (by decide), h.t.ne_ hb (by decide), hrow.ne_blk h.t (by decide)⟩
  · simp only [List.mem_cons, not_or]
    exact ⟨hs.ne_ h1 (by decide), by omega, hrow.ne_blk hs (by decide)⟩
  · simp only [List.mem_cons, not_or]
    exact ⟨hcn.ne_ h1 (by decide), by omega, hrow.ne_blk hcn (by decide)⟩
/-- What a round does. -/
theorem enc_step {w W W2 W3 : World} {r bf bb bt k : Nat} {out ch : List UInt8} (h : EncAt w r bf bb bt k out W) {A : Option Addr} {n c : Nat} (hb : Blk W bb 26 [.slice A n c]) (hlo : ∀ j, j ∈ rowT A → w.heap.size ≤ j)
    (hap : r ≠ bb ∧ r ∉ rowT A ∧ bb ∉ rowT A ∧ bf ∉ r :: bb :: rowT A ∧ bt ∉ r :: bb :: rowT A ∧ bt + 1 ∉ r :: bb :: rowT A ∧ bt + 2 ∉ r :: bb :: rowT A)
    (hF : Fr 70 r ⟨k, [], false⟩ W2 [r]) (hO : Only [r] W W2) {A' : Option Addr} {N c' : Nat} (hR : RowAt W3 5 A' N c' (vbs out ++ vbs ch)) (hO3 : Only (rowT A) W2 W3) (hk : ∀ j, j ∈ rowT A' → j ∈ rowT A ∨ W2.heap.size ≤ j) (hN : N = out.length + ch.length) :
    EncAt w r bf bb bt k (out ++ ch) (W3.setCell ⟨bb, 0, none⟩ (.slice A' N c')) ∧ Only (r :: bb :: rowT A) W (W3.setCell ⟨bb, 0, none⟩ (.slice A' N c')) := by
  obtain ⟨h1, h2, h3, h4, h5, h6, h7⟩ := hap
  have hOO : Only (r :: bb :: rowT A) W W3 := (hO.more (by simp)).trans (hO3.more (fun j hj => by simp [hj]))
  have hO4 : Only (r :: bb :: rowT A) W (W3.setCell ⟨bb, 0, none⟩ (.slice A' N c')) := hOO.setCell (.inl (by simp)) _
  have hb3 : Blk W3 bb 26 [.slice A n c] := (hb.only hO (by simpa using Ne.symm h1)).only hO3 h3
  refine ⟨⟨?_, h.f.only hO4 h4, h.t.only hO4 h5, ⟨A', N, c', ?_, ?_, by simpa using hN, fun j hj => ?_⟩, h.s.imp fun cs hc => hc.only hO4 h6, h.n.imp fun cs hc => hc.only hO4 h7, h.lo, ?_⟩, hO4⟩
  · exact (fr_thing _ _ _).only ((fr_thing _ _ _).only hF hO3 (fun j hj => by obtain rfl : j = r := by simpa using hj
                                                                              exact h2)) ((Only.refl [bb] W3).setCell (.inl (by simp)) _) (fun j hj => by obtain rfl : j = r := by simpa using hj
                                                                                                                                                          simpa using h1)
  · have := hb3.set_ 0 (.slice A' N c')
    simpa using this
  · rw [vbs_append]
    exact hR.far (by simpa using hR.ne_blk hb3 (by decide)) _
  · rcases hk j hj with h8 | h8
    · exact hlo j h8
    · exact Nat.le_trans h.below.size (Nat.le_trans hO.size h8)
  · refine Only.below h.below hO4 h.below.size (fun j hj => ?_)
    simp only [List.mem_cons] at hj
    rcases hj with rfl | rfl | hj
    · exact h.lo.1
    · exact h.lo.2.1
    · exact hlo j hj
theorem Cut.reads {w : World} {B m k : Nat} {X : Option Addr} {b : List UInt8} (hb : Reads w B X m (vbs b)) (x : Cut m k) : Reads w B (cutA (x.off + x.len) x.off 1 X) x.len (vbs (x.bytes b)) := by
  have hle := x.le
  have hp := x.pos
  have h := hb.cut (k := x.off) (m := x.off + x.len) (by omega) hle (c := x.off + x.len = x.off) (fun e => by omega)
  rw [Nat.add_sub_cancel_left, ← vbs_drop, ← vbs_take] at h
  simpa [cutA, Cut.bytes] using h
/-- A chunk begins. -/
theorem start_fact {w W : World} {r bf bb bt k m : Nat} {out : List UInt8} (h : EncAt w r bf bb bt k out W) (hT : Tz w) {X : Option Addr} {b : List UInt8} (hb : Reads w w.heap.size X m (vbs b)) (x : Cut m k) :
    Calls Tryd.prog 29 #[.pointer (some ⟨r, 0, none⟩), x.val X] W fun e w' => e = .returned (.int .i64 0) ∧ Turned (Fr 70 r ⟨k, chunkOf (x.bytes b), false⟩) W [r] w' := by
  have hle := x.le
  have hp := x.pos
  have hms := x.most
  have hk : k ≤ 65536 := by obtain ⟨A, c, hf⟩ := h.fr; exact hf.most.2
  have hr := (x.reads (hb.below h.below)).more h.below.size
  have hl : (x.bytes b).length = x.len := by have := hr.1; rwa [vbs_length] at this
  refine start_c (s := ⟨k, [], false⟩) h.fr (hT.below h.below (Nat.le_refl _)) hr (Nat.le_refl _) (by unfold maxLen; omega) 0 _ ?_
  unfold startS
  rw [if_neg (show ¬ (⟨k, [], false⟩ : FSt).busy from fun h => h.elim (fun h => by simp at h) (fun h => by cases h)), if_neg (by simp only; omega)]

set_option maxRecDepth 100000 in
set_option maxHeartbeats 2000000 in
theorem encode_c {w : World} (hT : Tz w) {X : Option Addr} {m d k : Nat} {b : List UInt8} (hb : Reads w w.heap.size X m (vbs b)) (hmd : m ≤ d) (hdm : d ≤ maxLen) (hm : m ≤ 1048576) (hk1 : 1 ≤ k) (hk2 : k ≤ 65536) :
    Calls Tryd.prog 21 #[.slice X m d, .int .i64 k] w fun e w' => ∃ A c, e = .returned (.tuple #[.slice A (bodyOf k b).length c, .int .i64 0]) ∧ RowAt w' 5 A (bodyOf k b).length c (vbs (bodyOf k b)) ∧ (∀ j, j ∈ rowT A → w.heap.size ≤ j) ∧ Only [] w w' := by
  have hbl : b.length = m := by have := hb.1; rwa [vbs_length] at this
  have HN := Lib.hid (new_c w hk1 hk2)
  have HT := Lib.hid hT
  have HB := Lib.hid hb
  have HBL := Lib.hid hbl
  have hdm' := hdm
  unfold maxLen at hdm'
  clear hT hb hbl hdm
  refine (callsIn_wide (n := 6)).1 (callsIn_of_wp_marks Tryd.func21 rfl trivial ?_ rfl)
  simp only [Tryd.ntmps21, List.size_toArray, List.length_cons, List.length_nil, Nat.reduceAdd, Nat.reduceSub, Array.replicate_succ, Array.replicate_zero, List.push_toArray, List.append_toArray, List.nil_append, List.cons_append]
  refine wpIn_wide.2 ?_
  go_wp2_with (first | (go_at_call 26; refine HN.out.mono ?_; rintro e w1 ⟨rfl, hF1, hO1⟩; have HF1 := Lib.hid hF1; have HO1 := Lib.hid hO1; clear hF1 hO1) | (go_at_call 28; refine (chunk_c _ X m d hk1).mono ?_; rintro e w2 ⟨rfl, rfl⟩))
  obtain ⟨W0, hW0, hsz, hE, hcs, hcn, hO0⟩ := enc_start (X := X) (m := m) (d := d) HF1.out HO1.out
  have hs1 := HO1.out.size
  rw [show w1.heap.size + 1 + 1 = w1.heap.size + 2 from rfl, show w1.heap.size + 2 + 1 = w1.heap.size + 3 from rfl, show w1.heap.size + 3 + 1 = w1.heap.size + 4 from rfl, ← hW0]
  clear hW0 HF1 HO1
  generalize w1.heap.size = h at *
  refine (wpIn_wide (n := 6)).1 ?_
  refine wpIn_rangeFunc_ownG (n := 6) rfl (by omega) (gf := 33) (lb := #[.pointer (some ⟨h + 3, 0, none⟩), .pointer (some ⟨h + 4, 0, none⟩)]) rfl trivial (enters_of Tryd.func33 (by kernel_rfl) rfl)
    (chunk_stops 5 (w := W0) (A := X) (d := d) hk1 hk2 hm hmd (by omega) (by omega) (by omega) hcs hcn) Keep2.trans (Keep2.put (by omega) (by omega)) (Below.refl _ _) (fun _ => rfl)
    (fun pre W => EncAt w w.heap.size h (h + 1) (h + 2) k (chunksAt b pre) W) (fun _ _ _ => False) (encAt_own b (by omega)) (fun _ _ _ _ _ hs _ _ => hs) hE
    (fun x => { tmps := #[.slice X m d, .int .i64 k, undef, undef, .slice none 0 0, .int .i64 0, .pointer (some ⟨h, 0, none⟩), .int .i64 0, .pointer (some ⟨h + 1, 0, none⟩), .pointer (some ⟨h + 2, 0, none⟩), x.val X,
      .tuple #[.pointer (some ⟨w.heap.size, 0, none⟩), .int .i64 0], .int .i64 k, .tuple #[.pointer (some ⟨w.heap.size, 0, none⟩), .int .i64 0], .pointer (some ⟨w.heap.size, 0, none⟩), .int .i64 0, .int .i64 0, .bool false, undef, .pointer (some ⟨w.heap.size, 0, none⟩),
      .func (.func 27) #[.pointer (some ⟨w.heap.size, 0, none⟩)] #[], .slice X m d, .int .i64 k, .func (.func 33) #[] #[.pointer (some ⟨h + 3, 0, none⟩), .pointer (some ⟨h + 4, 0, none⟩)],
      x.val X, undef, undef, undef, undef, undef, undef, undef, undef, undef, undef, undef, undef, undef], defers := [] }) ?assign ?body ?done ?stop
  case assign =>
    intro l x W K hK
    gi_wp2
    exact hK
  case body =>
    intro l pre x W hI hlen
    have hcf := hI.f.cell 0
    have hI' := Lib.hid hI
    have HS := Lib.hid (start_fact hI HT.out HB.out x)
    clear hI
    gi_wp2_with (refine ⟨trivial, ?_⟩; gi_at_call 29; refine (CallsIn.inRound l (callsIn_wide.2 HS.out)).mono ?_; rintro e W1 ⟨rfl, hT1⟩; have HT1 := Lib.hid hT1; clear hT1)
    obtain ⟨A, n, c, hb, hrow, hn, hlo, hap⟩ := hI'.out.apart
    obtain ⟨T1, hF1, hk1', hO1⟩ := HT1.out
    refine region_begin_round (T := w.heap.size :: (h + 1) :: rowT A) (by kernel_rfl) (by kernel_rfl) (fun ⟨_, _, h⟩ => h) ?_
    have hOV : Only [w.heap.size] W W1.drew := hO1.drew
    have hFV : Fr 70 w.heap.size ⟨k, chunkOf (x.bytes b), false⟩ W1.drew T1 := (fr_thing _ _ _).only hF1 ((Only.refl [] W1).drew) (by simp)
    have hbV := hb.only hOV (by simpa using Ne.symm hap.1)
    have htV := hI'.out.t.only hOV (fun hm => hap.2.2.2.2.1 (by simp at hm; simp [hm]))
    generalize W1.drew = V at hOV hFV hbV htV ⊢
    have s1 : ∀ y : Later (w.heap.size :: (h + 1) :: rowT A) V, y.w.cell? ⟨h + 2, 0, none⟩ = some (.func (.func 27) #[.pointer (some ⟨w.heap.size, 0, none⟩)] #[]) := fun y => (htV.only y.h hap.2.2.2.2.1).cell 0
    refine region_seg [false, true] 4 (by kernel_rfl) (by kernel_rfl) (by kernel_rfl) rfl (fun _ _ d _ _ h => by cases d <;> exact h) ?_
    repeat (first | with_reducible refine wpMask_pass ?_ | (refine wpMask_want (by rfl) (fun K hK => ?_); go_big_quiet_op; refine hK _ ?_; clear hK K))
    with_reducible refine wpMask_nil ?_
    obtain ⟨i0, hi, hz0, hz1, hz2⟩ := info_parts info_byte
    obtain ⟨n2, hn2⟩ : ∃ n2, n2 = (chunkOf (x.bytes b)).length := ⟨_, rfl⟩
    have hout : n ≤ 65545 * pre.length := by rw [hn]; exact chunksAt_le hk2 b pre
    have hch : n2 ≤ 65545 := by
      have h1 : (x.bytes b).length ≤ 65536 := by have := x.most; simp [Cut.bytes]; omega
      have := chunkOf_le h1
      omega
    have hb1 := Lib.hid (show n + n2 ≤ maxLen by unfold maxLen; omega)
    have hb2 := Lib.hid (show (n + n2) * 1 ≤ 140737488355328 by omega)
    have hT3 : ∀ g, g ∈ rowT A → g ∈ w.heap.size :: (h + 1) :: rowT A := fun g hg => by simp [hg]
    have hcb := hbV.cell 0
    refine wpAnyH_all (rs := [0, 2]) (by kernel_rfl) (by simp) (fun i hi => ?_)
    simp only [List.mem_cons, List.not_mem_nil, or_false] at hi
    rcases hi with rfl | rfl
    case' inl =>
      refine op_make (v := .slice A n c) (w1 := V) rfl (by rfl) (by go_simp) (Only.refl _ _) ?_
      simp only [List.getElem_toArray, List.getElem_cons_zero, List.getElem_cons_succ, Act.put, List.setIfInBounds_toArray, List.set_cons_zero, List.set_cons_succ]
      refine region_call 2 (by kernel_rfl) rfl (by rfl) (by go_simp; exact ⟨rfl, rfl⟩) ?_
      refine (take_c hFV n2 hn2).mono ?_
      rintro e W2 ⟨A2, c2, rfl, hR2, hk2', hF2, hO2⟩
      refine ⟨_, rfl, hO2.more (by simp), ?_⟩
      simp only [List.getElem_toArray, List.getElem_cons_zero, List.getElem_cons_succ, Act.put, List.setIfInBounds_toArray, List.set_cons_zero, List.set_cons_succ]
    case' inr =>
      refine op_call rfl (by rfl) (by go_simp; exact ⟨rfl, rfl⟩) ?_
      refine (take_c hFV n2 hn2).mono ?_
      rintro e W2 ⟨A2, c2, rfl, hR2, hk2', hF2, hO2⟩
      refine ⟨_, rfl, hO2.more (by simp), ?_⟩
      simp only [List.getElem_toArray, List.getElem_cons_zero, List.getElem_cons_succ, Act.put, List.setIfInBounds_toArray, List.set_cons_zero, List.set_cons_succ]
      have hcb2 : W2.cell? ⟨h + 1, 0, none⟩ = some (.slice A n c) := (hbV.only hO2 (by simpa using Ne.symm hap.1)).cell 0
      refine region_make 0 (v := .slice A n c) (w1 := W2) (by kernel_rfl) rfl (by rfl) (by go_simp) (Only.refl _ _) ?_
      simp only [List.getElem_toArray, List.getElem_cons_zero, List.getElem_cons_succ, Act.put, List.setIfInBounds_toArray, List.set_cons_zero, List.set_cons_succ]
    all_goals
      have hrow2 := hrow.only (hOV.trans hO2) (fun j hj hj' => hap.2.1 (by simp at hj'; subst hj'; exact hj))
      refine region_rowAppend 3 (by kernel_rfl) rfl (by rfl) (.tmp 28) (.tmp 30) 26 rfl 5 i0 _ 1 Tryd.underlying26 hi hz0 hz1 hz2 rfl A n c (vbs (chunksAt b pre)) rfl hrow2 W2.heap.size A2 n2 c2 (vbs (chunkOf (x.bytes b))) rfl hR2.reads (vbs_one _) hb1.out hb2.out (n + n2) rfl hT3 ?_
      intro A3 c3 W3 HR3 hO3 HK3 hT4
      simp only [List.getElem_toArray, List.getElem_cons_zero, List.getElem_cons_succ, Act.put, List.setIfInBounds_toArray, List.set_cons_zero, List.set_cons_succ]
      have hb3 := (hbV.only hO2 (by simpa using Ne.symm hap.1)).only hO3 hap.2.2.1
      have hcb3 := hb3.cell 0
      have hfb3 := hb3.free 0
      refine region_store 4 (w1 := W3.setCell ⟨h + 1, 0, none⟩ (.slice A3 (n + n2) c3)) (by kernel_rfl) rfl (by rfl) (by go_simp) ((Only.refl _ _).setCell (.inl (by simp)) _) ?_
      refine region_end (by kernel_rfl) ?_
      obtain ⟨hE4, hO4⟩ := enc_step hI'.out hb hlo hap hF2 (hOV.trans hO2) HR3.out hO3 HK3.out (by rw [hn, hn2])
      refine ⟨keepsFrom_of_only hO4 (fun j hj => ?_), Keep2.only hO4 ?_ ?_ hap.2.2.2.2.2.1 hap.2.2.2.2.2.2, ?_⟩
      · simp only [List.mem_cons] at hj
        rcases hj with rfl | rfl | hj
        · exact .inl (by omega)
        · exact .inl (by omega)
        · obtain ⟨ad, rfl, rfl⟩ := mem_rowT.1 hj
          obtain ⟨g, o, cur, rfl, hbg, _⟩ := hrow.some_ ad rfl
          exact .inr ⟨_, _, _, hbg⟩
      · obtain ⟨cs, hs⟩ := hI'.out.s
        exact hs.lt
      · obtain ⟨cs, hs⟩ := hI'.out.n
        exact hs.lt
      · show EncAt w w.heap.size h (h + 1) (h + 2) k (chunksAt b (pre ++ [x])) _
        rw [chunksAt_snoc]
        exact hE4
  case done =>
    rintro D ys W hD0 rfl hI0 hK
    have hI : EncAt w w.heap.size h (h + 1) (h + 2) k (chunksAt b (cutsFrom m k hk1 0)) W := hI0
    rw [chunks_of_cuts hk1 b HBL.out m 0 (by omega), List.drop_zero] at hI
    have hcf := hI.f.cell 0
    have HC := Lib.hid (finish_c (s := ⟨k, [], false⟩) hI.fr (HT.out.below hI.below (Nat.le_refl _)) 0 ⟨k, chunkOf [], true⟩ (by unfold finishS; rw [if_neg (show ¬ (⟨k, [], false⟩ : FSt).busy from fun h => h.elim (fun h => by simp at h) (fun h => by cases h))]))
    have HI := Lib.hid hI
    have HK := Lib.hid hK
    clear hI hI0 hK
    go_wp2_with (go_at_call 30; refine HC.out.mono ?_; rintro e W1 ⟨rfl, hT1⟩; have HT1 := Lib.hid hT1; clear hT1)
    obtain ⟨A, n, c, hb, hrow, hn, hlo, hap⟩ := HI.out.apart
    obtain ⟨T1, hF1, hk1', hO1⟩ := HT1.out
    refine region_begin_normal (T := w.heap.size :: rowT A) (by kernel_rfl) ?_
    have HNN := Lib.hid hn
    clear hn
    have hOV : Only [w.heap.size] W W1.drew := hO1.drew
    have hFV : Fr 70 w.heap.size ⟨k, chunkOf [], true⟩ W1.drew T1 := (fr_thing _ _ _).only hF1 ((Only.refl [] W1).drew) (by simp)
    have hbV := hb.only hOV (by simpa using Ne.symm hap.1)
    have htV := HI.out.t.only hOV (fun hm => hap.2.2.2.2.1 (by simp at hm; simp [hm]))
    generalize W1.drew = V at hOV hFV hbV htV ⊢
    have s1 : ∀ y : Later (w.heap.size :: rowT A) V, y.w.cell? ⟨h + 2, 0, none⟩ = some (.func (.func 27) #[.pointer (some ⟨w.heap.size, 0, none⟩)] #[]) := fun y => (htV.only y.h (fun hm => hap.2.2.2.2.1 (by simp at hm; rcases hm with hm | hm <;> simp [hm]))).cell 0
    have s2 : ∀ y : Later (w.heap.size :: rowT A) V, y.w.cell? ⟨h + 1, 0, none⟩ = some (.slice A n c) := fun y => (hbV.only y.h (fun hm => by simp at hm; rcases hm with hm | hm; exact hap.1 hm.symm; exact hap.2.2.1 hm)).cell 0
    refine region_seg [true, true] 4 (by kernel_rfl) (by kernel_rfl) (by kernel_rfl) rfl (fun _ _ d _ _ h => by cases h.1) ?_
    repeat (first | with_reducible refine wpMask_pass ?_ | (refine wpMask_want (by rfl) (fun K hK => ?_); go_big_quiet_op; refine hK _ ?_; clear hK K))
    with_reducible refine wpMask_nil ?_
    refine region_call 2 (by kernel_rfl) rfl (by rfl) (by go_simp; exact ⟨rfl, rfl⟩) ?_
    have E5 := Lib.hid (show 5 = (chunkOf []).length by rw [chunkOf_nil]; rfl)
    refine (take_c hFV 5 E5.out).mono ?_
    rintro e W2 ⟨A2, c2, rfl, hR2, hk2', hF2, hO2⟩
    refine ⟨_, rfl, hO2.more (by simp), ?_⟩
    simp only [List.getElem_toArray, List.getElem_cons_zero, List.getElem_cons_succ, Act.put, List.setIfInBounds_toArray, List.set_cons_zero, List.set_cons_succ]
    obtain ⟨i0, hi, hz0, hz1, hz2⟩ := info_parts info_byte
    have hout := chunksOf_le hk2 _ b (Nat.le_refl _)
    have hbl := HBL.out
    have hn := HNN.out
    have hb1 := Lib.hid (show n + 5 ≤ maxLen by unfold maxLen; omega)
    have hb2 := Lib.hid (show (n + 5) * 1 ≤ 140737488355328 by omega)
    have hT3 : ∀ g, g ∈ rowT A → g ∈ w.heap.size :: rowT A := fun g hg => by simp [hg]
    clear hn
    have hrow2 := hrow.only (hOV.trans hO2) (fun j hj hj' => hap.2.1 (by simp at hj'; subst hj'; exact hj))
    refine region_rowAppend 3 (by kernel_rfl) rfl (by rfl) (.tmp 34) (.tmp 36) 26 rfl 5 i0 _ 1 Tryd.underlying26 hi hz0 hz1 hz2 rfl A n c (vbs (chunksOf k b)) rfl hrow2 W2.heap.size A2 5 c2 (vbs (chunkOf [])) rfl hR2.reads (vbs_one _) hb1.out hb2.out (n + 5) rfl hT3 ?_
    intro A3 c3 W3 HR3 hO3 HK3 hT4
    simp only [List.getElem_toArray, List.getElem_cons_zero, List.getElem_cons_succ, Act.put, List.setIfInBounds_toArray, List.set_cons_zero, List.set_cons_succ]
    have hall : Only (w.heap.size :: rowT A) W W3 := ((hOV.trans hO2).more (by simp)).trans (hO3.more hT3)
    have hD : D ∉ w.heap.size :: rowT A := fun hm => by
      have hKK := HK.out
      simp only [List.mem_cons] at hm
      rcases hm with rfl | hm
      · obtain ⟨fA, fc, hfr⟩ := HI.out.fr
        have := hfr.head
        unfold Blk at this
        rw [this] at hKK
        cases hKK
      · obtain ⟨ad, rfl, rfl⟩ := mem_rowT.1 hm
        obtain ⟨g, o, cur, rfl, hbg, _⟩ := hrow.some_ ad rfl
        unfold Blk at hbg
        simp only at hKK
        rw [hbg] at hKK
        cases hKK
    have hDlt : D < W.heap.size := (Array.getElem?_eq_some_iff.1 HK.out).1
    have HD := Lib.hid ((hall.block D hDlt hD).trans HK.out)
    have hN : n + 5 = (bodyOf k b).length := by rw [bodyOf, List.length_append, ← E5.out, HNN.out]
    have HN5 := Lib.hid hN
    have HR4 : Hid (RowAt W3 5 A3 (n + 5) c3 (vbs (bodyOf k b))) := Lib.hid (by rw [bodyOf, vbs_append]; exact HR3.out)
    have hlo3 := Lib.hid (show ∀ j, j ∈ rowT A3 → w.heap.size ≤ j from fun j hj => (HK3.out j hj).elim (hlo j) (fun h8 => Nat.le_trans HI.out.below.size (Nat.le_trans (hOV.trans hO2).size h8)))
    have hbel := Lib.hid (Only.below HI.out.below hall HI.out.below.size (fun j hj => by
      simp only [List.mem_cons] at hj
      rcases hj with rfl | hj
      · exact Nat.le_refl _
      · exact hlo j hj))
    clear s1 s2 hN
    refine region_seg [false, false, false, false, true, true] 0 (by kernel_rfl) (by kernel_rfl) (by kernel_rfl) rfl (fun _ _ d _ _ h => by cases h.1) ?_
    repeat (first | with_reducible refine wpMask_pass ?_ | (refine wpMask_want (by rfl) (fun K hK => ?_); go_big_quiet_op; refine hK _ ?_; clear hK K))
    with_reducible refine wpMask_nil ?_
    refine region_end (by kernel_rfl) ⟨rfl, ?_⟩
    go_wp2_with fail
    refine ⟨by simp, .inl ⟨_, _, rfl, run_takeDeferred HD.out, ?_⟩⟩
    refine ⟨_, results_tmp2 rfl _ _ _, A3, c3, by rw [← HN5.out]; rfl, ?_, hlo3.out, ?_⟩
    · rw [← HN5.out]
      exact HR4.out.keep (fun j hj => World.putObj_heap_other (fun e => by
        subst e
        exact row_not_deferred HR4.out hj HD.out))
    · exact below_put hbel.out HD.out (by omega)
  case stop =>
    rintro D c pre W _ _ h _
    exact h.elim
end Go.Proofs.YtfchkaoifbcgkaaDoor
