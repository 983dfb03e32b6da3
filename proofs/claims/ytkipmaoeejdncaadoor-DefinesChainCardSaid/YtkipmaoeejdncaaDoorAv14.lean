/-
  The chapter's example of layer 14, as data.
-/
import Derived.Test.YtkipmaoeejdncaaDoorLp14
import Derived.Test.YtkipmaoeejdncaaDoorDn14
namespace Go.Proofs.YtkipmaoeejdncaaDoor
open Go.RowKit Go.BigFrame NT
set_option linter.unusedVariables false
set_option linter.unusedSimpArgs false

def avS : ByteArray := ⟨#[123, 123, 99, 97, 108, 108, 32, 102, 125, 125, 123, 123, 100, 101, 102, 105, 110, 101, 32, 102, 125, 125, 123, 123, 99, 97, 108, 108, 32, 103, 125, 125, 123, 123, 101, 110, 100, 125, 125, 123, 123, 100, 101, 102, 105, 110, 101, 32, 103, 125, 125, 123, 123, 101, 110, 100, 125, 125, 123, 123, 100, 101, 102, 105, 110, 101, 32, 104, 125, 125, 123, 123, 101, 110, 100, 125, 125]⟩
def avT : List Tok := [⟨4, 0, [102], [], false⟩, ⟨6, 10, [102], [], false⟩, ⟨4, 22, [103], [], false⟩, ⟨8, 32, [], [], false⟩, ⟨6, 39, [103], [], false⟩, ⟨8, 51, [], [], false⟩, ⟨6, 58, [104], [], false⟩, ⟨8, 70, [], [], false⟩]
def avN : List NT := [nd ⟨4, 0, [102], [], false⟩ false [] [], nd ⟨6, 10, [102], [], false⟩ false [nd ⟨4, 22, [103], [], false⟩ false [] []] [], nd ⟨6, 39, [103], [], false⟩ false [] [], nd ⟨6, 58, [104], [], false⟩ false [] []]
def avCall (n : UInt8) : List UInt8 := [123, 123, 99, 97, 108, 108, 32, n, 125, 125]
def avDef (n : UInt8) : List UInt8 := [123, 123, 100, 101, 102, 105, 110, 101, 32, n, 125, 125]
theorem av_lex : LexOf avS (.ok avT) := by
  unfold LexOf
  rw [if_neg (by decide)]
  have h : Lx (avCall 102 ++ (avDef 102 ++ (avCall 103 ++ (enL ++ (avDef 103 ++ (enL ++ (avDef 104 ++ (enL ++ [])))))))) 0 avT :=
    (show DirOf (avCall 102) ⟨4, 0, [102], [], false⟩ from dirB_of (by decide +kernel)).lx <|
    (show DirOf (avDef 102) ⟨6, 0, [102], [], false⟩ from dirB_of (by decide +kernel)).lx <|
    (show DirOf (avCall 103) ⟨4, 0, [103], [], false⟩ from dirB_of (by decide +kernel)).lx <|
    end_dir.lx <|
    (show DirOf (avDef 103) ⟨6, 0, [103], [], false⟩ from dirB_of (by decide +kernel)).lx <|
    end_dir.lx <|
    (show DirOf (avDef 104) ⟨6, 0, [104], [], false⟩ from dirB_of (by decide +kernel)).lx <|
    end_dir.lx (Lx.nil _)
  exact h
theorem av_par : parR (.ok avT) = .ok avN := rfl
theorem av_parsed : Parsed avN := by
  have h := av_lex
  unfold LexOf at h
  rw [if_neg (by decide)] at h
  exact ⟨_, _, 5, by decide, h, rfl⟩
def fB : ByteArray := ⟨#[102]⟩
def gB : ByteArray := ⟨#[103]⟩
theorem av_names : namesN avN = [fB, gB, ⟨#[104]⟩] := rfl
theorem av_main : mainN avN = [nd ⟨4, 0, [102], [], false⟩ false [] []] := rfl
theorem av_calls : callNs (mainN avN) = [nd ⟨4, 0, [102], [], false⟩ false [] []] := by rw [av_main, callNs_cons, callN_eq]; simp [nd, NT.k, NT.b, NT.l, callNs_nil]
theorem av_nodup : (namesN avN).Nodup := by rw [av_names]; decide +kernel
theorem av_f : findN avN fB = some (nd ⟨6, 10, [102], [], false⟩ false [nd ⟨4, 22, [103], [], false⟩ false [] []] []) := rfl
theorem av_g : findN avN gB = some (nd ⟨6, 39, [103], [], false⟩ false [] []) := rfl
theorem av_fc : callNs (nd ⟨6, 10, [102], [], false⟩ false [nd ⟨4, 22, [103], [], false⟩ false [] []] []).b = [nd ⟨4, 22, [103], [], false⟩ false [] []] := by
  show callNs [nd ⟨4, 22, [103], [], false⟩ false [] []] = _
  rw [callNs_cons, callN_eq]; simp [nd, NT.k, NT.b, NT.l, callNs_nil]
theorem av_gc : callNs (nd ⟨6, 39, [103], [], false⟩ false [] []).b = [] := by
  show callNs [] = []
  exact callNs_nil
theorem av_rch (n : ByteArray) : Rch avN n ↔ n ∈ [fB, gB] := by
  constructor
  · intro h
    induction h with
    | main c h1 h2 =>
      rw [av_calls] at h1
      rw [List.mem_singleton] at h1
      subst h1
      exact List.mem_cons_self
    | step n d c h0 h1 h2 h3 ih =>
      rcases List.mem_cons.1 ih with e | e
      · subst e
        rw [av_f] at h1
        injection h1 with h1
        subst h1
        rw [av_fc, List.mem_singleton] at h2
        subst h2
        exact List.mem_cons_of_mem _ List.mem_cons_self
      · rw [List.mem_singleton] at e
        subst e
        rw [av_g] at h1
        injection h1 with h1
        subst h1
        rw [av_gc] at h2
        cases h2
  · have hf : Rch avN fB := Rch.main (nd ⟨4, 0, [102], [], false⟩ false [] []) (by rw [av_calls]; exact List.mem_singleton.2 rfl) (by rw [av_names]; exact List.mem_cons_self)
    intro h
    rcases List.mem_cons.1 h with e | e
    · subst e; exact hf
    · rw [List.mem_singleton] at e
      subst e
      exact Rch.step fB _ (nd ⟨4, 22, [103], [], false⟩ false [] []) hf av_f (by rw [av_fc]; exact List.mem_singleton.2 rfl) (by rw [av_names]; exact List.mem_cons_of_mem _ List.mem_cons_self)
theorem av_reach {R : List ByteArray} (h : RchIs avN R) : R = [fB, gB] := by
  refine asc_same h.asc ?_ fun n => ?_
  · rw [List.pairwise_cons]
    refine ⟨fun b hb => ?_, List.pairwise_singleton _ _⟩
    rw [List.mem_singleton] at hb
    subst hb
    show ([102] : List UInt8) < [103]
    decide
  · rw [h.all av_nodup, av_rch]
theorem av_check : checkN avN = (0, 0) := by
  refine checkN_of av_nodup (by rw [av_names]; decide) fun t ht => ?_
  have hc : callNs avN = [nd ⟨4, 0, [102], [], false⟩ false [] [], nd ⟨4, 22, [103], [], false⟩ false [] []] := by
    unfold avN
    simp [callNs_cons, callN_eq, nd, NT.k, NT.b, NT.l, callNs_nil]
  rw [hc] at ht
  rw [av_names]
  rcases List.mem_cons.1 ht with e | e
  · subst e; exact List.mem_cons_self
  · rw [List.mem_singleton] at e
    subst e
    exact List.mem_cons_of_mem _ List.mem_cons_self
end Go.Proofs.YtkipmaoeejdncaaDoor
