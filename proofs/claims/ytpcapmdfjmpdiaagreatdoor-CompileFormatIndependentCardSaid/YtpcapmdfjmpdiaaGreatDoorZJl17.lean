/- The laws of layer 17: what is true where Compile says yes. -/
import Derived.Test.YtpcapmdfjmpdiaaGreatDoorZPs17
set_option linter.unusedVariables false
set_option linter.unusedSimpArgs false
namespace Go.Proofs.YtpcapmdfjmpdiaaGreatDoor
open Go.RowKit Go.BigFrame NT
theorem codeW_few {l:List NT} (hl:Parsed l) (es:List Nat):(codeW l es).length≤31000:=by
 have h1:=sizs_le hl.wk
 have h2:=dsz_le hl.wk es
 have:=hl.tots
 rw [codeW_len]
 omega
theorem codeN_ok {l:List NT} (hl:Parsed l) {c:List IN} {a:Int} (h:codeN l = (c,a,0)):∃ es,c = codeW l es∧a = 0∧(∃ b,checkN l = (b,0))∧(∀ k,k ∈ es→k≤4)∧∃ b,inferI l = (es,b,0):=by
 unfold codeN at h
 by_cases h1:(checkN l).2 ≠ 0
 ·rw [if_pos h1] at h
  injection h with h2 h3
  rw [h3] at h1
  exact absurd rfl h1
 ·rw [if_neg h1] at h
  by_cases h2:(inferI l).2.2 ≠ 0
  ·rw [if_pos h2] at h
   injection h with h3 h4
   rw [h4] at h2
   exact absurd rfl h2
  ·rw [if_neg h2] at h
   injection h with h3 h4
   injection h4 with h4 h5
   have e1:checkN l = ((checkN l).1,0):=by rw [← show (checkN l).2 = 0 by simpa using h1]
   have e2:inferI l = ((inferI l).1,(inferI l).2.1,0):=by rw [← show (inferI l).2.2 = 0 by simpa using h2]
   exact ⟨(inferI l).1,h3.symm,h4.symm,⟨_,e1⟩,(inferI_len hl.wk e2).2.2,_,e2⟩
theorem cmpR_ok {r:ParR} {c:List IN} {a:Int} (h:cmpR r = (c,a,0)) (hne:∀ b k,r = .error (b,k)→k ≠ 0):∃ l,r = .ok l∧codeN l = (c,a,0):=by
 cases r with
 | error bk =>
  obtain ⟨b,k⟩:=bk
  injection h with h1 h2
  injection h2 with h2 h3
  exact absurd h3 (hne b k rfl)
 | ok l => exact ⟨l,rfl,h⟩
end Go.Proofs.YtpcapmdfjmpdiaaGreatDoor
