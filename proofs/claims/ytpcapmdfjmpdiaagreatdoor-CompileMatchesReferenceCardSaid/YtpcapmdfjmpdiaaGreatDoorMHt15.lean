/- Contracts: the reference of layer 15: quoted, Escaper. -/
import Derived.Test.YtpcapmdfjmpdiaaGreatDoorMRl11
set_option linter.unusedVariables false
set_option linter.unusedSimpArgs false
set_option maxRecDepth 100000
set_option maxHeartbeats 3200000
namespace Go.Proofs.YtpcapmdfjmpdiaaGreatDoor
open Go.RowKit Go.BigFrame
theorem ext_take (a:List UInt8) (k:Nat):((ofL a).extract 0 k).toList = a.take k:=by
 rw [ByteArray.toList_eq,ByteArray.data_extract]
 simp [ofL]
theorem quotedC_w (a:List UInt8) (c:UInt8):((quotedC a c:Nat):Int) =
  (if (((ofL a).extract 0 2).toList == [111,110]) = true then 11
   else if ((ofL a).toList == [104,114,101,102]) = true ∨ ((ofL a).toList == [115,114,99]) = true ∨ ((ofL a).toList == [97,99,116,105,111,110]) = true ∨ ((ofL a).toList == [102,111,114,109,97,99,116,105,111,110]) = true then 9
   else if ((ofL a).toList == [115,116,121,108,101]) = true ∨ ((ofL a).toList == [115,114,99,100,111,99]) = true then 11 else 7) + (if ((c.toNat:Int) == 39) = true then 1 else 0):=by
 have h39:c = 39 ↔ ((c.toNat:Int) == 39) = true:=by rw [u8_iff,beq_iff_eq];rfl
 simp only [ofL_list,ext_take,beq_iff_eq (a:=a),beq_iff_eq (a:=a.take 2),← h39]
 unfold quotedC rawA urlA
 simp only [Bool.or_eq_true,decide_eq_true_eq]
 by_cases h1:a.take 2 = [111,110]
 ·simp only [h1,or_true,if_true]
  split <;> rfl
 ·simp only [h1,or_false,if_false]
  by_cases h2:a = [115,116,121,108,101] ∨ a = [115,114,99,100,111,99]
  ·have:¬ (a = [104,114,101,102] ∨ a = [115,114,99] ∨ a = [97,99,116,105,111,110] ∨ a = [102,111,114,109,97,99,116,105,111,110]):=by
    rcases h2 with rfl | rfl <;> decide
   rw [if_pos h2,if_neg this,if_pos h2]
   split <;> rfl
  ·rw [if_neg h2,if_neg h2]
   split <;> split <;> rfl
theorem short_on {a:List UInt8} (h:(a.length:Int) < 2):(((ofL a).extract 0 2).toList == [111,110]) = false:=by
 rw [ext_take,beq_eq_false_iff_ne]
 intro e
 have:=congrArg List.length e
 rw [List.length_take] at this
 simp at this
 omega
theorem rquoted_c (a:List UInt8) (c:UInt8) (w:World) (ha:a.length≤100000):Calls Tryz.prog 159 #[.string (ofL a),.int .u8 c.toNat] w fun e w' => e = .returned (.int .i64 (quotedC a c:Nat))∧w' = w:=by
 have hz:(ofL a).size = a.length:=rfl
 go_enter Tryz.func159,Tryz.ntmps159
 go_wp2_with fail
 all_goals go_ret
 all_goals refine ⟨?_,rfl⟩
 all_goals rw [quotedC_w]
 all_goals first
  | (rw [short_on ‹_›];simp only [*,if_true,if_false,Bool.false_eq_true,true_or,or_true,or_self];rfl)
  | (simp only [*,if_true,if_false,Bool.false_eq_true,true_or,or_true,or_self];rfl)
  | (exfalso;simp_all;done)
  | trace_state
theorem escS_w (s:HS):escS s =
  if (!(ofL s.p).toList.isEmpty) = true then (0,false)
  else if ((s.c:Int) == 0) = true then (0,true)
  else if ((s.c:Int) == 7) = true ∨ ((s.c:Int) == 8) = true then (1,true)
  else if ((s.c:Int) == 9) = true ∨ ((s.c:Int) == 10) = true then (2,true)
  else if ((s.c:Int) == 17) = true ∨ ((s.c:Int) == 18) = true then (3,true)
  else if ((s.c:Int) == 20) = true ∨ ((s.c:Int) == 21) = true then (4,true)
  else (0,false):=by
 have hk:∀ j:Nat,((s.c:Int) == (j:Int)) = true ↔ s.c = j:=fun j => by rw [beq_iff_eq];omega
 have h0:((s.c:Int) == 0) = true ↔ s.c = 0:=hk 0
 have h7:((s.c:Int) == 7) = true ↔ s.c = 7:=hk 7
 have h8:((s.c:Int) == 8) = true ↔ s.c = 8:=hk 8
 have h9:((s.c:Int) == 9) = true ↔ s.c = 9:=hk 9
 have h10:((s.c:Int) == 10) = true ↔ s.c = 10:=hk 10
 have h17:((s.c:Int) == 17) = true ↔ s.c = 17:=hk 17
 have h18:((s.c:Int) == 18) = true ↔ s.c = 18:=hk 18
 have h20:((s.c:Int) == 20) = true ↔ s.c = 20:=hk 20
 have h21:((s.c:Int) == 21) = true ↔ s.c = 21:=hk 21
 have hp:(!(ofL s.p).toList.isEmpty) = true ↔ s.p ≠ []:=by rw [ofL_list];cases s.p <;> simp
 simp only [h0,h7,h8,h9,h10,h17,h18,h20,h21,hp]
 rfl
theorem resc_c (s:HS) (w:World):Calls Tryz.prog 112 #[s.val] w fun e w' => e = .returned (.tuple #[.int .i64 (escS s).1,.bool (escS s).2])∧Bel w w':=by
 rw [escS_w]
 unfold HS.val
 obtain ⟨k,hk⟩:∃ q,q = (s.c:Int):=⟨_,rfl⟩
 rw [← hk]
 generalize s.p = p
 generalize ofL s.n = n
 generalize ofL s.a = a
 clear hk
 unfold stV
 go_enter Tryz.func112,Tryz.ntmps112
 go_wp2_with fail
 all_goals go_ret2
 all_goals refine ⟨?_,Bel.alloc _ _⟩
 all_goals first
  | (simp only [*,if_true,if_false,Bool.false_eq_true,true_or,or_true,or_self];rfl)
  | (exfalso;simp_all;done)
  | trace_state
end Go.Proofs.YtpcapmdfjmpdiaaGreatDoor
