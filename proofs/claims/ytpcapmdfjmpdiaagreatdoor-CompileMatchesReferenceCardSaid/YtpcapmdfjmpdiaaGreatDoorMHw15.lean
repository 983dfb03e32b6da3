/- Contracts: the reference of layer 15: raw, where no end string goes on. -/
import Derived.Test.YtpcapmdfjmpdiaaGreatDoorMHv15
set_option linter.unusedVariables false
set_option linter.unusedSimpArgs false
set_option maxRecDepth 100000
set_option maxHeartbeats 12800000
open Go.Lib (hid)
namespace Go.Proofs.YtpcapmdfjmpdiaaGreatDoor
open Go.RowKit Go.BigFrame
theorem run_index_ofL (l:List UInt8) (i:Nat) (d:UInt8) (h:l[i]? = some d) (w:World):(Instr.index 9 (.string (ofL l)) (.int .i64 (i:Int))).run Tryz.prog w = .ok (.int .u8 d.toNat) w:=by
 have hi:i < (ofL l).size:=(List.getElem?_eq_some_iff.1 h).1
 have hd:(ofL l)[i]'hi = d:=by
  have:=(List.getElem?_eq_some_iff.1 h).2
  exact this
 rw [← hd]
 simp [Instr.index,run_underlying Tryz.underlying9,asIntOf,hi,go_sem]
def rawV (k C C1 C2:Int) (n a p:List UInt8) (c:UInt8):Value :=
 if ((c.toNat:Int) == 60) = true then stV k (ofL n) (ofL a) ⟨#[60]⟩
 else if ((ofL p).toList == [92]) = true then stV k (ofL n) (ofL a) ⟨#[]⟩
 else if (k == C) = true then
  if ((c.toNat:Int) == 34) = true then stV C1 (ofL n) (ofL a) ⟨#[]⟩ else if ((c.toNat:Int) == 39) = true then stV C2 (ofL n) (ofL a) ⟨#[]⟩ else stV k (ofL n) (ofL a) ⟨#[]⟩
 else if (k == C2) = true then
  if ((c.toNat:Int) == 39) = true ∨ ((c.toNat:Int) == 10) = true then stV C (ofL n) (ofL a) (if ((c.toNat:Int) == 92) = true then ⟨#[92]⟩ else ⟨#[]⟩)
  else stV k (ofL n) (ofL a) (if ((c.toNat:Int) == 92) = true then ⟨#[92]⟩ else ⟨#[]⟩)
 else if ((c.toNat:Int) == 34) = true ∨ ((c.toNat:Int) == 10) = true then stV C (ofL n) (ofL a) (if ((c.toNat:Int) == 92) = true then ⟨#[92]⟩ else ⟨#[]⟩)
 else stV k (ofL n) (ofL a) (if ((c.toNat:Int) == 92) = true then ⟨#[92]⟩ else ⟨#[]⟩)
theorem rraw_no16 (k:Int) (n a p:List UInt8) (c:UInt8) (w:World) (hk:k < 19) (hp:p.length≤100000) (hno:¬ (p.head? = some 60∧([60,47,115,99,114,105,112,116]:List UInt8)[p.length]? = some (lowB c))) :
  Calls Tryz.prog 146 #[stV k (ofL n) (ofL a) (ofL p),.int .u8 c.toNat] w (SvV (rawV k 16 17 18 n a p c) w):=by
 unfold stV
 have HL:=hid (fun W => rlower_c c W)
 have HB2:=hid ((Bel.alloc w (.cells #[.int .i64 k,.string (ofL n),.string (ofL a),.string (ofL p)] 153)).trans (Bel.alloc (w.alloc (.cells #[.int .i64 k,.string (ofL n),.string (ofL a),.string (ofL p)] 153)) (.cells #[.int .i64 0,.string ⟨#[]⟩,.string ⟨#[]⟩,.string ⟨#[]⟩] 153)))
 have HX2:=hid ((Blk.new w 153 [.int .i64 k,.string (ofL n),.string (ofL a),.string (ofL p)]).alloc (.cells #[.int .i64 0,.string ⟨#[]⟩,.string ⟨#[]⟩,.string ⟨#[]⟩] 153))
 have HR2:=hid (blk_at1h w (.cells #[.int .i64 k,.string (ofL n),.string (ofL a),.string (ofL p)] 153) 153 [.int .i64 0,.string ⟨#[]⟩,.string ⟨#[]⟩,.string ⟨#[]⟩])
 have HNO:=hid hno
 clear hno
 have hz:(ofL p).size = p.length:=rfl
 go_enter Tryz.func146,Tryz.ntmps146
 go_wp2_with fail
 obtain ⟨b4,h4⟩:∃ q,q = w.heap.size + 1:=⟨_,rfl⟩
 obtain ⟨b2,h2⟩:∃ q,q = w.heap.size:=⟨_,rfl⟩
 have HNE:=hid (show w.heap.size≤b2∧w.heap.size≤b4 by omega)
 have hne1:¬ b2 = b4:=by omega
 have hne2:¬ b4 = b2:=by omega
 generalize ((w.alloc (.cells #[.int .i64 k,.string (ofL n),.string (ofL a),.string (ofL p)] 153)).alloc (.cells #[.int .i64 0,.string ⟨#[]⟩,.string ⟨#[]⟩,.string ⟨#[]⟩] 153)) = Wa at HB2 HX2 HR2 ⊢
 rw [← h4] at HR2 ⊢
 rw [← h2] at HX2 ⊢
 clear h4 h2
 have hx3:∀ m,(Wa.drewN m).cell? ⟨b2,3,none⟩ = some (.string (ofL p)):=fun m => (HX2.out.drewN m).cell 3
 have hcases:(p = [] ∨ ∃ d,p[0]? = some d∧p ≠ []∧(d ≠ 60 ∨ (d = 60∧(8≤p.length ∨ (p.length < 8∧∃ e,([60,47,115,99,114,105,112,116]:List UInt8)[p.length]? = some e∧e ≠ lowB c))))):=by
  cases p with
  | nil => exact .inl rfl
  | cons d q =>
   refine .inr ⟨d,rfl,by simp,?_⟩
   by_cases hd:d = 60
   ·refine .inr ⟨hd,?_⟩
    rcases Nat.lt_or_ge (d :: q).length 8 with h1 | h1
    ·refine .inr ⟨h1,_,List.getElem?_eq_getElem (by simpa using h1),fun e => HNO.out ⟨by rw [hd];rfl,?_⟩⟩
     rw [List.getElem?_eq_getElem (by simpa using h1),e]
    ·exact .inl h1
   ·exact .inl hd
 have HCAS:=hid hcases
 clear hcases
 rcases HCAS.out with hA | ⟨d,hd0,hpe,hB | ⟨hd,hC | ⟨hlt,e,hie,hne⟩⟩⟩
 case' inl =>
  have f1:(ofL p).toList.isEmpty = true:=by rw [ofL_list,hA];rfl
  clear hA
  go_quiet (fail)
 case' inr.inl =>
  have f1:(ofL p).toList.isEmpty = false:=by rw [ofL_list];cases p with | nil => exact absurd rfl hpe | cons => rfl
  have f2:∀ W,(Instr.index 9 (.string (ofL p)) (.int .i64 0)).run Tryz.prog W = .ok (.int .u8 d.toNat) W:=fun W => run_index_ofL p 0 d hd0 W
  have f3:((d.toNat:Int) == 60) = false:=cf hB 60 rfl
  clear hd0 hpe hB
  go_quiet (fail)
 case' inr.inr.inl =>
  have f1:(ofL p).toList.isEmpty = false:=by rw [ofL_list];cases p with | nil => exact absurd rfl hpe | cons => rfl
  have f2:∀ W,(Instr.index 9 (.string (ofL p)) (.int .i64 0)).run Tryz.prog W = .ok (.int .u8 d.toNat) W:=fun W => run_index_ofL p 0 d hd0 W
  have f3:((d.toNat:Int) == 60) = true:=ct hd 60 rfl
  have f4:¬ (p.length:Int) < 8:=by omega
  clear hd0 hpe hd hC
  go_quiet (fail)
 case' inr.inr.inr =>
  have f1:(ofL p).toList.isEmpty = false:=by rw [ofL_list];cases p with | nil => exact absurd rfl hpe | cons => rfl
  have f2:∀ W,(Instr.index 9 (.string (ofL p)) (.int .i64 0)).run Tryz.prog W = .ok (.int .u8 d.toNat) W:=fun W => run_index_ofL p 0 d hd0 W
  have f3:((d.toNat:Int) == 60) = true:=ct hd 60 rfl
  have f4:(p.length:Int) < 8:=by omega
  have f5:=fun W => run_index_ofL [60,47,115,99,114,105,112,116] p.length e hie W
  have f6:((e.toNat:Int) == ((lowB c).toNat:Int)) = false:=by rw [beq_eq_false_iff_ne];intro h;exact hne ((u8_iff e (lowB c)).2 h)
  rw [show ofL [60,47,115,99,114,105,112,116] = ⟨#[60,47,115,99,114,105,112,116]⟩ from rfl] at f5
  clear hd0 hpe hd hlt hie hne
  go_quiet ((go_at_call 160;exact Calls.quiet_of_same (HL.out _)))
 all_goals
  have HX:=hid (HX2.out.drewN nq)
  have HR:=hid (HR2.out.drewN nq)
  have HB:=hid (HB2.out.trans (Bel.draw Wa nq))
  generalize Wa.drewN nq = Wf at HX HR HB ⊢
  clear hx3 HX2 HR2 HB2 HCAS HNO
  obtain ⟨x0,x1,x2,x3⟩:=cells4 HX.out
  obtain ⟨r0,r1,r2,r3⟩:=cells4 HR.out
  obtain ⟨u0,u1,u2,u3⟩:=frees4 HX.out
  obtain ⟨v0,v1,v2,v3⟩:=frees4 HR.out
  go_wp2_with fail
 all_goals first
  | ((with_reducible apply st_set (k:=4) (g:=b4));(case hf => rfl);(case hp => rfl);(case hB => first | with_reducible exact HR.out.far hne2 _ | with_reducible exact (HR.out.far hne2 _).far hne2 _ | with_reducible exact ((HR.out.far hne2 _).far hne2 _).far hne2 _);(case hb => first | with_reducible exact bel_set HB.out HNE.out.1 _ _ | with_reducible exact bel_set (bel_set HB.out HNE.out.1 _ _) HNE.out.1 _ _ | with_reducible exact bel_set (bel_set (bel_set HB.out HNE.out.1 _ _) HNE.out.1 _ _) HNE.out.1 _ _);(case hg => exact HNE.out.2);clear x0 x1 x2 x3 r0 r1 r2 r3 u0 u1 u2 u3 v0 v1 v2 v3 HX HR HB HNE HL;unfold rawV;simp only [*,if_true,if_false,Bool.false_eq_true,or_true,true_or,or_self,beq_self_eq_true,Int.reduceBEq];first | done | rfl)
  | trace_state
theorem rraw_no19 (k:Int) (n a p:List UInt8) (c:UInt8) (w:World) (hk:19≤k) (hp:p.length≤100000) (hno:¬ (p.head? = some 60∧([60,47,115,116,121,108,101]:List UInt8)[p.length]? = some (lowB c))) :
  Calls Tryz.prog 146 #[stV k (ofL n) (ofL a) (ofL p),.int .u8 c.toNat] w (SvV (rawV k 19 20 21 n a p c) w):=by
 unfold stV
 have HL:=hid (fun W => rlower_c c W)
 have HB2:=hid ((Bel.alloc w (.cells #[.int .i64 k,.string (ofL n),.string (ofL a),.string (ofL p)] 153)).trans (Bel.alloc (w.alloc (.cells #[.int .i64 k,.string (ofL n),.string (ofL a),.string (ofL p)] 153)) (.cells #[.int .i64 0,.string ⟨#[]⟩,.string ⟨#[]⟩,.string ⟨#[]⟩] 153)))
 have HX2:=hid ((Blk.new w 153 [.int .i64 k,.string (ofL n),.string (ofL a),.string (ofL p)]).alloc (.cells #[.int .i64 0,.string ⟨#[]⟩,.string ⟨#[]⟩,.string ⟨#[]⟩] 153))
 have HR2:=hid (blk_at1h w (.cells #[.int .i64 k,.string (ofL n),.string (ofL a),.string (ofL p)] 153) 153 [.int .i64 0,.string ⟨#[]⟩,.string ⟨#[]⟩,.string ⟨#[]⟩])
 have HNO:=hid hno
 clear hno
 have hz:(ofL p).size = p.length:=rfl
 go_enter Tryz.func146,Tryz.ntmps146
 go_wp2_with fail
 obtain ⟨b4,h4⟩:∃ q,q = w.heap.size + 1:=⟨_,rfl⟩
 obtain ⟨b2,h2⟩:∃ q,q = w.heap.size:=⟨_,rfl⟩
 have HNE:=hid (show w.heap.size≤b2∧w.heap.size≤b4 by omega)
 have hne1:¬ b2 = b4:=by omega
 have hne2:¬ b4 = b2:=by omega
 generalize ((w.alloc (.cells #[.int .i64 k,.string (ofL n),.string (ofL a),.string (ofL p)] 153)).alloc (.cells #[.int .i64 0,.string ⟨#[]⟩,.string ⟨#[]⟩,.string ⟨#[]⟩] 153)) = Wa at HB2 HX2 HR2 ⊢
 rw [← h4] at HR2 ⊢
 rw [← h2] at HX2 ⊢
 clear h4 h2
 have hx3:∀ m,(Wa.drewN m).cell? ⟨b2,3,none⟩ = some (.string (ofL p)):=fun m => (HX2.out.drewN m).cell 3
 have hcases:(p = [] ∨ ∃ d,p[0]? = some d∧p ≠ []∧(d ≠ 60 ∨ (d = 60∧(7≤p.length ∨ (p.length < 7∧∃ e,([60,47,115,116,121,108,101]:List UInt8)[p.length]? = some e∧e ≠ lowB c))))):=by
  cases p with
  | nil => exact .inl rfl
  | cons d q =>
   refine .inr ⟨d,rfl,by simp,?_⟩
   by_cases hd:d = 60
   ·refine .inr ⟨hd,?_⟩
    rcases Nat.lt_or_ge (d :: q).length 7 with h1 | h1
    ·refine .inr ⟨h1,_,List.getElem?_eq_getElem (by simpa using h1),fun e => HNO.out ⟨by rw [hd];rfl,?_⟩⟩
     rw [List.getElem?_eq_getElem (by simpa using h1),e]
    ·exact .inl h1
   ·exact .inl hd
 have HCAS:=hid hcases
 clear hcases
 rcases HCAS.out with hA | ⟨d,hd0,hpe,hB | ⟨hd,hC | ⟨hlt,e,hie,hne⟩⟩⟩
 case' inl =>
  have f1:(ofL p).toList.isEmpty = true:=by rw [ofL_list,hA];rfl
  clear hA
  go_quiet (fail)
 case' inr.inl =>
  have f1:(ofL p).toList.isEmpty = false:=by rw [ofL_list];cases p with | nil => exact absurd rfl hpe | cons => rfl
  have f2:∀ W,(Instr.index 9 (.string (ofL p)) (.int .i64 0)).run Tryz.prog W = .ok (.int .u8 d.toNat) W:=fun W => run_index_ofL p 0 d hd0 W
  have f3:((d.toNat:Int) == 60) = false:=cf hB 60 rfl
  clear hd0 hpe hB
  go_quiet (fail)
 case' inr.inr.inl =>
  have f1:(ofL p).toList.isEmpty = false:=by rw [ofL_list];cases p with | nil => exact absurd rfl hpe | cons => rfl
  have f2:∀ W,(Instr.index 9 (.string (ofL p)) (.int .i64 0)).run Tryz.prog W = .ok (.int .u8 d.toNat) W:=fun W => run_index_ofL p 0 d hd0 W
  have f3:((d.toNat:Int) == 60) = true:=ct hd 60 rfl
  have f4:¬ (p.length:Int) < 7:=by omega
  clear hd0 hpe hd hC
  go_quiet (fail)
 case' inr.inr.inr =>
  have f1:(ofL p).toList.isEmpty = false:=by rw [ofL_list];cases p with | nil => exact absurd rfl hpe | cons => rfl
  have f2:∀ W,(Instr.index 9 (.string (ofL p)) (.int .i64 0)).run Tryz.prog W = .ok (.int .u8 d.toNat) W:=fun W => run_index_ofL p 0 d hd0 W
  have f3:((d.toNat:Int) == 60) = true:=ct hd 60 rfl
  have f4:(p.length:Int) < 7:=by omega
  have f5:=fun W => run_index_ofL [60,47,115,116,121,108,101] p.length e hie W
  have f6:((e.toNat:Int) == ((lowB c).toNat:Int)) = false:=by rw [beq_eq_false_iff_ne];intro h;exact hne ((u8_iff e (lowB c)).2 h)
  rw [show ofL [60,47,115,116,121,108,101] = ⟨#[60,47,115,116,121,108,101]⟩ from rfl] at f5
  clear hd0 hpe hd hlt hie hne
  go_quiet ((go_at_call 160;exact Calls.quiet_of_same (HL.out _)))
 all_goals
  have HX:=hid (HX2.out.drewN nq)
  have HR:=hid (HR2.out.drewN nq)
  have HB:=hid (HB2.out.trans (Bel.draw Wa nq))
  generalize Wa.drewN nq = Wf at HX HR HB ⊢
  clear hx3 HX2 HR2 HB2 HCAS HNO
  obtain ⟨x0,x1,x2,x3⟩:=cells4 HX.out
  obtain ⟨r0,r1,r2,r3⟩:=cells4 HR.out
  obtain ⟨u0,u1,u2,u3⟩:=frees4 HX.out
  obtain ⟨v0,v1,v2,v3⟩:=frees4 HR.out
  go_wp2_with fail
 all_goals first
  | ((with_reducible apply st_set (k:=4) (g:=b4));(case hf => rfl);(case hp => rfl);(case hB => first | with_reducible exact HR.out.far hne2 _ | with_reducible exact (HR.out.far hne2 _).far hne2 _ | with_reducible exact ((HR.out.far hne2 _).far hne2 _).far hne2 _);(case hb => first | with_reducible exact bel_set HB.out HNE.out.1 _ _ | with_reducible exact bel_set (bel_set HB.out HNE.out.1 _ _) HNE.out.1 _ _ | with_reducible exact bel_set (bel_set (bel_set HB.out HNE.out.1 _ _) HNE.out.1 _ _) HNE.out.1 _ _);(case hg => exact HNE.out.2);clear x0 x1 x2 x3 r0 r1 r2 r3 u0 u1 u2 u3 v0 v1 v2 v3 HX HR HB HNE HL;unfold rawV;simp only [*,if_true,if_false,Bool.false_eq_true,or_true,true_or,or_self,beq_self_eq_true,Int.reduceBEq];first | done | rfl)
  | trace_state
end Go.Proofs.YtpcapmdfjmpdiaaGreatDoor
