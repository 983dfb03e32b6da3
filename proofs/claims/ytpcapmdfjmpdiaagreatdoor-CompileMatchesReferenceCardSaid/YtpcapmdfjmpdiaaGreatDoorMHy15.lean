/- Contracts: the reference of layer 15: raw, where an end string goes on -/
import Derived.Test.YtpcapmdfjmpdiaaGreatDoorMHw15
set_option linter.unusedVariables false
set_option linter.unusedSimpArgs false
set_option maxRecDepth 100000
set_option maxHeartbeats 12800000
open Go.Lib (hid)
namespace Go.Proofs.YtpcapmdfjmpdiaaGreatDoor
open Go.RowKit Go.BigFrame
def rawY (k:Int) (n a p:List UInt8) (c:UInt8) (E:List UInt8):Value :=
 if ((ofL (p ++ [lowB c])).toList == E) = true then stV 15 ⟨#[]⟩ ⟨#[]⟩ ⟨#[]⟩ else stV k (ofL n) (ofL a) (ofL (p ++ [lowB c]))
theorem rraw_yes16 (k:Int) (n a p:List UInt8) (c:UInt8) (w:World) (hk:k < 19) (hp:p.length≤100000) (hd0:p[0]? = some 60) (hie:([60,47,115,99,114,105,112,116]:List UInt8)[p.length]? = some (lowB c)) :
  Calls Tryz.prog 146 #[stV k (ofL n) (ofL a) (ofL p),.int .u8 c.toNat] w (SvV (rawY k n a p c [60,47,115,99,114,105,112,116]) w):=by
 unfold stV
 have HL:=hid (fun W => rlower_c c W)
 have HB2:=hid ((Bel.alloc w (.cells #[.int .i64 k,.string (ofL n),.string (ofL a),.string (ofL p)] 153)).trans (Bel.alloc (w.alloc (.cells #[.int .i64 k,.string (ofL n),.string (ofL a),.string (ofL p)] 153)) (.cells #[.int .i64 0,.string ⟨#[]⟩,.string ⟨#[]⟩,.string ⟨#[]⟩] 153)))
 have HX2:=hid ((Blk.new w 153 [.int .i64 k,.string (ofL n),.string (ofL a),.string (ofL p)]).alloc (.cells #[.int .i64 0,.string ⟨#[]⟩,.string ⟨#[]⟩,.string ⟨#[]⟩] 153))
 have HR2:=hid (blk_at1h w (.cells #[.int .i64 k,.string (ofL n),.string (ofL a),.string (ofL p)] 153) 153 [.int .i64 0,.string ⟨#[]⟩,.string ⟨#[]⟩,.string ⟨#[]⟩])
 have hz:(ofL p).size = p.length:=rfl
 have hlt:p.length < 8:=by have:=(List.getElem?_eq_some_iff.1 hie).1;simpa using this
 have f1:(ofL p).toList.isEmpty = false:=by rw [ofL_list];cases p with | nil => simp at hd0 | cons => rfl
 have f2:∀ W,(Instr.index 9 (.string (ofL p)) (.int .i64 0)).run Tryz.prog W = .ok (.int .u8 60) W:=fun W => run_index_ofL p 0 60 hd0 W
 have f4:(p.length:Int) < 8:=by omega
 have f5:=fun W => run_index_ofL [60,47,115,99,114,105,112,116] p.length (lowB c) hie W
 rw [show ofL [60,47,115,99,114,105,112,116] = ⟨#[60,47,115,99,114,105,112,116]⟩ from rfl] at f5
 clear hd0 hie
 go_enter Tryz.func146,Tryz.ntmps146
 go_wp2_with fail
 obtain ⟨b4,h4⟩:∃ q,q = w.heap.size + 1:=⟨_,rfl⟩
 obtain ⟨b2,h2⟩:∃ q,q = w.heap.size:=⟨_,rfl⟩
 have HNE:=hid (show w.heap.size≤b2∧w.heap.size≤b4 by omega)
 have hne1:¬ b2 = b4:=by omega
 have hne2:¬ b4 = b2:=by omega
 generalize ((w.alloc (.cells #[.int .i64 k,.string (ofL n),.string (ofL a),.string (ofL p)] 153)).alloc (.cells #[.int .i64 0,.string ⟨#[]⟩,.string ⟨#[]⟩,.string ⟨#[]⟩] 153)) = Wa at HB2 HX2 HR2 ⊢
 rw [← h4] at HR2 ⊢
 rw [← h2] at HX2 ⊢
 clear h4 h2
 have hx3:∀ m,(Wa.drewN m).cell? ⟨b2,3,none⟩ = some (.string (ofL p)):=fun m => (HX2.out.drewN m).cell 3
 go_quiet ((go_at_call 160;exact Calls.quiet_of_same (HL.out _)))
 have HX:=hid (HX2.out.drewN nq)
 have HR:=hid (HR2.out.drewN nq)
 have HB:=hid (HB2.out.trans (Bel.draw Wa nq))
 generalize Wa.drewN nq = Wf at HX HR HB ⊢
 clear hx3 HX2 HR2 HB2 f1 f2 f4 f5
 go_wp2_with fail
 refine region_begin (T:=[b2]) (by kernel_rfl) ?_
 have HXd:=hid HX.out.drew
 have HRd:=hid HR.out.drew
 have HBd:=hid (HB.out.trans (Bel.drew _))
 clear HX HR HB
 generalize Wf.drew = Wd at HXd HRd HBd ⊢
 have hS0:Only [b2] Wd Wd:=Only.refl _ _
 have hS1:Only [b2] Wd (Wd.alloc (.cells #[.int .u8 (lowB c).toNat] 5)):=(Only.refl _ _).alloc _
 have q3:=HXd.out.cell 3
 have q3':=(HXd.out.alloc (.cells #[.int .u8 (lowB c).toNat] 5)).cell 3
 simp only [List.getElem?_cons_zero,List.getElem?_cons_succ] at q3 q3'
 have ho:=one_str (lowB c) Wd
 refine reg_seg [true,false,true] 7 hS0 (by kernel_rfl) (by kernel_rfl) (by kernel_rfl) rfl (fun _ _ d _ _ h => by cases d <;> exact h) ?_
 repeat (first | with_reducible refine wpMask_pass ?_ | (refine wpMask_want (by rfl) (fun K hK => ?_);go_big_quiet_op;refine hK _ ?_;clear hK K))
 with_reducible refine wpMask_nil ?_
 apply once
 case main =>
  intro key
  refine wpAnyH_all (rs:=[1,3]) (by kernel_rfl) (by simp) (fun i hi => ?_)
  simp only [List.mem_cons,List.not_mem_nil,or_false] at hi
  rcases hi with rfl | rfl
  case' inl =>
   refine op_make0 (v:=.string (ofL p)) (w1:=Wd) rfl (by rfl) (by go_simp) hS0 ?_
   simp only [List.getElem_toArray,List.getElem_cons_zero,List.getElem_cons_succ,Act.put,List.setIfInBounds_toArray,List.set_cons_zero,List.set_cons_succ]
   refine reg_call 3 (by kernel_rfl) rfl (by rfl) (by go_simp;exact ⟨rfl,rfl⟩) ?_
   refine (HL.out _).mono ?_
   rintro e wq ⟨rfl,hq⟩
   rw [hq]
   clear hq wq
   refine ⟨_,rfl,hS0,?_⟩
   simp only [List.getElem_toArray,List.getElem_cons_zero,List.getElem_cons_succ,Act.put,List.setIfInBounds_toArray,List.set_cons_zero,List.set_cons_succ]
   refine reg_make 4 (v:=.slice (some ⟨Wd.heap.size,0,none⟩) 1 1) (w1:=Wd.alloc (.cells #[.int .u8 (lowB c).toNat] 5)) (by kernel_rfl) rfl (by rfl) (by go_simp) hS1 ?_
   simp only [List.getElem_toArray,List.getElem_cons_zero,List.getElem_cons_succ,Act.put,List.setIfInBounds_toArray,List.set_cons_zero,List.set_cons_succ]
   refine reg_make 5 (v:=.string ⟨#[lowB c]⟩) (w1:=Wd.alloc (.cells #[.int .u8 (lowB c).toNat] 5)) (by kernel_rfl) rfl (by rfl) (by go_simp) hS1 ?_
   simp only [List.getElem_toArray,List.getElem_cons_zero,List.getElem_cons_succ,Act.put,List.setIfInBounds_toArray,List.set_cons_zero,List.set_cons_succ]
   exact key
  case' inr =>
   refine op_call0 rfl (by rfl) (by go_simp;exact ⟨rfl,rfl⟩) ?_
   refine (HL.out _).mono ?_
   rintro e wq ⟨rfl,hq⟩
   rw [hq]
   clear hq wq
   refine ⟨_,rfl,hS0,?_⟩
   simp only [List.getElem_toArray,List.getElem_cons_zero,List.getElem_cons_succ,Act.put,List.setIfInBounds_toArray,List.set_cons_zero,List.set_cons_succ]
   refine wpAnyH_all (rs:=[1,4]) (by kernel_rfl) (by simp) (fun i hi => ?_)
   simp only [List.mem_cons,List.not_mem_nil,or_false] at hi
   rcases hi with rfl | rfl
   case' inl =>
    refine op_make0 (v:=.string (ofL p)) (w1:=Wd) rfl (by rfl) (by go_simp) hS0 ?_
    simp only [List.getElem_toArray,List.getElem_cons_zero,List.getElem_cons_succ,Act.put,List.setIfInBounds_toArray,List.set_cons_zero,List.set_cons_succ]
    refine reg_make 4 (v:=.slice (some ⟨Wd.heap.size,0,none⟩) 1 1) (w1:=Wd.alloc (.cells #[.int .u8 (lowB c).toNat] 5)) (by kernel_rfl) rfl (by rfl) (by go_simp) hS1 ?_
    simp only [List.getElem_toArray,List.getElem_cons_zero,List.getElem_cons_succ,Act.put,List.setIfInBounds_toArray,List.set_cons_zero,List.set_cons_succ]
    refine reg_make 5 (v:=.string ⟨#[lowB c]⟩) (w1:=Wd.alloc (.cells #[.int .u8 (lowB c).toNat] 5)) (by kernel_rfl) rfl (by rfl) (by go_simp) hS1 ?_
    simp only [List.getElem_toArray,List.getElem_cons_zero,List.getElem_cons_succ,Act.put,List.setIfInBounds_toArray,List.set_cons_zero,List.set_cons_succ]
    exact key
   case' inr =>
    refine op_make0 (v:=.slice (some ⟨Wd.heap.size,0,none⟩) 1 1) (w1:=Wd.alloc (.cells #[.int .u8 (lowB c).toNat] 5)) rfl (by rfl) (by go_simp) hS1 ?_
    simp only [List.getElem_toArray,List.getElem_cons_zero,List.getElem_cons_succ,Act.put,List.setIfInBounds_toArray,List.set_cons_zero,List.set_cons_succ]
    refine wpAnyH_all (rs:=[1,5]) (by kernel_rfl) (by simp) (fun i hi => ?_)
    simp only [List.mem_cons,List.not_mem_nil,or_false] at hi
    rcases hi with rfl | rfl
    case' inl =>
     refine op_make0 (v:=.string (ofL p)) (w1:=(Wd.alloc (.cells #[.int .u8 (lowB c).toNat] 5))) rfl (by rfl) (by go_simp) hS1 ?_
     simp only [List.getElem_toArray,List.getElem_cons_zero,List.getElem_cons_succ,Act.put,List.setIfInBounds_toArray,List.set_cons_zero,List.set_cons_succ]
     refine reg_make 5 (v:=.string ⟨#[lowB c]⟩) (w1:=Wd.alloc (.cells #[.int .u8 (lowB c).toNat] 5)) (by kernel_rfl) rfl (by rfl) (by go_simp) hS1 ?_
     simp only [List.getElem_toArray,List.getElem_cons_zero,List.getElem_cons_succ,Act.put,List.setIfInBounds_toArray,List.set_cons_zero,List.set_cons_succ]
     exact key
    case' inr =>
     refine op_make0 (v:=.string ⟨#[lowB c]⟩) (w1:=Wd.alloc (.cells #[.int .u8 (lowB c).toNat] 5)) rfl (by rfl) (by go_simp) hS1 ?_
     simp only [List.getElem_toArray,List.getElem_cons_zero,List.getElem_cons_succ,Act.put,List.setIfInBounds_toArray,List.set_cons_zero,List.set_cons_succ]
     refine reg_make 1 (v:=.string (ofL p)) (w1:=(Wd.alloc (.cells #[.int .u8 (lowB c).toNat] 5))) (by kernel_rfl) rfl (by rfl) (by go_simp) hS1 ?_
     simp only [List.getElem_toArray,List.getElem_cons_zero,List.getElem_cons_succ,Act.put,List.setIfInBounds_toArray,List.set_cons_zero,List.set_cons_succ]
     exact key
 case tail =>
  have hX:=(HXd.out.alloc (.cells #[.int .u8 (lowB c).toNat] 5)).set_ 3 (.string (ofL (p ++ [lowB c])))
  simp only [List.set_cons_succ,List.set_cons_zero] at hX
  have hS2:Only [b2] Wd ((Wd.alloc (.cells #[.int .u8 (lowB c).toNat] 5)).setCell ⟨b2,3,none⟩ (.string (ofL (p ++ [lowB c])))):=hS1.setCell (.inl (by simp)) _
  have hfz:=(HXd.out.alloc (.cells #[.int .u8 (lowB c).toNat] 5)).free 3
  refine reg_make 6 (v:=.string (ofL (p ++ [lowB c]))) (w1:=Wd.alloc (.cells #[.int .u8 (lowB c).toNat] 5)) (by kernel_rfl) rfl (by rfl) (by rw [← ofL_snoc];go_simp;omega) hS1 ?_
  simp only [List.getElem_toArray,List.getElem_cons_zero,List.getElem_cons_succ,Act.put,List.setIfInBounds_toArray,List.set_cons_zero,List.set_cons_succ]
  refine reg_make 7 (v:=.pointer (some ⟨b2,3,none⟩)) (w1:=Wd.alloc (.cells #[.int .u8 (lowB c).toNat] 5)) (by kernel_rfl) rfl (by rfl) (by go_simp) hS1 ?_
  simp only [List.getElem_toArray,List.getElem_cons_zero,List.getElem_cons_succ,Act.put,List.setIfInBounds_toArray,List.set_cons_zero,List.set_cons_succ]
  refine reg_store 8 (w1:=(Wd.alloc (.cells #[.int .u8 (lowB c).toNat] 5)).setCell ⟨b2,3,none⟩ (.string (ofL (p ++ [lowB c])))) (by kernel_rfl) rfl (by rfl) (by go_simp) hS2 ?_
  simp only [List.getElem_toArray,List.getElem_cons_zero,List.getElem_cons_succ,Act.put,List.setIfInBounds_toArray,List.set_cons_zero,List.set_cons_succ]
  refine region_end (by kernel_rfl) ?_
  have HX:=hid hX
  have HR:=hid ((HRd.out.alloc (.cells #[.int .u8 (lowB c).toNat] 5)).far (p:=⟨b2,3,none⟩) hne2 (.string (ofL (p ++ [lowB c]))))
  have HB:=hid (bel_set (HBd.out.trans (Bel.alloc Wd (.cells #[.int .u8 (lowB c).toNat] 5))) HNE.out.1 3 (.string (ofL (p ++ [lowB c]))))
  generalize (Wd.alloc (.cells #[.int .u8 (lowB c).toNat] 5)).setCell ⟨b2,3,none⟩ (.string (ofL (p ++ [lowB c]))) = Wg at HX HR HB ⊢
  clear hX hS2 hfz hS0 hS1 q3 q3' ho HXd HRd HBd
  obtain ⟨x0,x1,x2,x3⟩:=cells4 HX.out
  obtain ⟨r0,r1,r2,r3⟩:=cells4 HR.out
  obtain ⟨v0,v1,v2,v3⟩:=frees4 HR.out
  go_wp2_with fail
  all_goals first
   | ((with_reducible apply st_set (k:=4) (g:=b4));(case hf => rfl);(case hp => rfl);(case hB => exact HR.out);(case hb => exact HB.out);(case hg => exact HNE.out.2);clear x0 x1 x2 x3 r0 r1 r2 r3 v0 v1 v2 v3 HX HR HB HNE HL;unfold rawY;simp only [*,if_true,if_false,Bool.false_eq_true];first | done | rfl)
   | trace_state
theorem rraw_yes19 (k:Int) (n a p:List UInt8) (c:UInt8) (w:World) (hk:19≤k) (hp:p.length≤100000) (hd0:p[0]? = some 60) (hie:([60,47,115,116,121,108,101]:List UInt8)[p.length]? = some (lowB c)) :
  Calls Tryz.prog 146 #[stV k (ofL n) (ofL a) (ofL p),.int .u8 c.toNat] w (SvV (rawY k n a p c [60,47,115,116,121,108,101]) w):=by
 unfold stV
 have HL:=hid (fun W => rlower_c c W)
 have HB2:=hid ((Bel.alloc w (.cells #[.int .i64 k,.string (ofL n),.string (ofL a),.string (ofL p)] 153)).trans (Bel.alloc (w.alloc (.cells #[.int .i64 k,.string (ofL n),.string (ofL a),.string (ofL p)] 153)) (.cells #[.int .i64 0,.string ⟨#[]⟩,.string ⟨#[]⟩,.string ⟨#[]⟩] 153)))
 have HX2:=hid ((Blk.new w 153 [.int .i64 k,.string (ofL n),.string (ofL a),.string (ofL p)]).alloc (.cells #[.int .i64 0,.string ⟨#[]⟩,.string ⟨#[]⟩,.string ⟨#[]⟩] 153))
 have HR2:=hid (blk_at1h w (.cells #[.int .i64 k,.string (ofL n),.string (ofL a),.string (ofL p)] 153) 153 [.int .i64 0,.string ⟨#[]⟩,.string ⟨#[]⟩,.string ⟨#[]⟩])
 have hz:(ofL p).size = p.length:=rfl
 have hlt:p.length < 7:=by have:=(List.getElem?_eq_some_iff.1 hie).1;simpa using this
 have f1:(ofL p).toList.isEmpty = false:=by rw [ofL_list];cases p with | nil => simp at hd0 | cons => rfl
 have f2:∀ W,(Instr.index 9 (.string (ofL p)) (.int .i64 0)).run Tryz.prog W = .ok (.int .u8 60) W:=fun W => run_index_ofL p 0 60 hd0 W
 have f4:(p.length:Int) < 7:=by omega
 have f5:=fun W => run_index_ofL [60,47,115,116,121,108,101] p.length (lowB c) hie W
 rw [show ofL [60,47,115,116,121,108,101] = ⟨#[60,47,115,116,121,108,101]⟩ from rfl] at f5
 clear hd0 hie
 go_enter Tryz.func146,Tryz.ntmps146
 go_wp2_with fail
 obtain ⟨b4,h4⟩:∃ q,q = w.heap.size + 1:=⟨_,rfl⟩
 obtain ⟨b2,h2⟩:∃ q,q = w.heap.size:=⟨_,rfl⟩
 have HNE:=hid (show w.heap.size≤b2∧w.heap.size≤b4 by omega)
 have hne1:¬ b2 = b4:=by omega
 have hne2:¬ b4 = b2:=by omega
 generalize ((w.alloc (.cells #[.int .i64 k,.string (ofL n),.string (ofL a),.string (ofL p)] 153)).alloc (.cells #[.int .i64 0,.string ⟨#[]⟩,.string ⟨#[]⟩,.string ⟨#[]⟩] 153)) = Wa at HB2 HX2 HR2 ⊢
 rw [← h4] at HR2 ⊢
 rw [← h2] at HX2 ⊢
 clear h4 h2
 have hx3:∀ m,(Wa.drewN m).cell? ⟨b2,3,none⟩ = some (.string (ofL p)):=fun m => (HX2.out.drewN m).cell 3
 go_quiet ((go_at_call 160;exact Calls.quiet_of_same (HL.out _)))
 have HX:=hid (HX2.out.drewN nq)
 have HR:=hid (HR2.out.drewN nq)
 have HB:=hid (HB2.out.trans (Bel.draw Wa nq))
 generalize Wa.drewN nq = Wf at HX HR HB ⊢
 clear hx3 HX2 HR2 HB2 f1 f2 f4 f5
 go_wp2_with fail
 refine region_begin (T:=[b2]) (by kernel_rfl) ?_
 have HXd:=hid HX.out.drew
 have HRd:=hid HR.out.drew
 have HBd:=hid (HB.out.trans (Bel.drew _))
 clear HX HR HB
 generalize Wf.drew = Wd at HXd HRd HBd ⊢
 have hS0:Only [b2] Wd Wd:=Only.refl _ _
 have hS1:Only [b2] Wd (Wd.alloc (.cells #[.int .u8 (lowB c).toNat] 5)):=(Only.refl _ _).alloc _
 have q3:=HXd.out.cell 3
 have q3':=(HXd.out.alloc (.cells #[.int .u8 (lowB c).toNat] 5)).cell 3
 simp only [List.getElem?_cons_zero,List.getElem?_cons_succ] at q3 q3'
 have ho:=one_str (lowB c) Wd
 refine reg_seg [true,false,true] 7 hS0 (by kernel_rfl) (by kernel_rfl) (by kernel_rfl) rfl (fun _ _ d _ _ h => by cases d <;> exact h) ?_
 repeat (first | with_reducible refine wpMask_pass ?_ | (refine wpMask_want (by rfl) (fun K hK => ?_);go_big_quiet_op;refine hK _ ?_;clear hK K))
 with_reducible refine wpMask_nil ?_
 apply once
 case main =>
  intro key
  refine wpAnyH_all (rs:=[1,3]) (by kernel_rfl) (by simp) (fun i hi => ?_)
  simp only [List.mem_cons,List.not_mem_nil,or_false] at hi
  rcases hi with rfl | rfl
  case' inl =>
   refine op_make0 (v:=.string (ofL p)) (w1:=Wd) rfl (by rfl) (by go_simp) hS0 ?_
   simp only [List.getElem_toArray,List.getElem_cons_zero,List.getElem_cons_succ,Act.put,List.setIfInBounds_toArray,List.set_cons_zero,List.set_cons_succ]
   refine reg_call 3 (by kernel_rfl) rfl (by rfl) (by go_simp;exact ⟨rfl,rfl⟩) ?_
   refine (HL.out _).mono ?_
   rintro e wq ⟨rfl,hq⟩
   rw [hq]
   clear hq wq
   refine ⟨_,rfl,hS0,?_⟩
   simp only [List.getElem_toArray,List.getElem_cons_zero,List.getElem_cons_succ,Act.put,List.setIfInBounds_toArray,List.set_cons_zero,List.set_cons_succ]
   refine reg_make 4 (v:=.slice (some ⟨Wd.heap.size,0,none⟩) 1 1) (w1:=Wd.alloc (.cells #[.int .u8 (lowB c).toNat] 5)) (by kernel_rfl) rfl (by rfl) (by go_simp) hS1 ?_
   simp only [List.getElem_toArray,List.getElem_cons_zero,List.getElem_cons_succ,Act.put,List.setIfInBounds_toArray,List.set_cons_zero,List.set_cons_succ]
   refine reg_make 5 (v:=.string ⟨#[lowB c]⟩) (w1:=Wd.alloc (.cells #[.int .u8 (lowB c).toNat] 5)) (by kernel_rfl) rfl (by rfl) (by go_simp) hS1 ?_
   simp only [List.getElem_toArray,List.getElem_cons_zero,List.getElem_cons_succ,Act.put,List.setIfInBounds_toArray,List.set_cons_zero,List.set_cons_succ]
   exact key
  case' inr =>
   refine op_call0 rfl (by rfl) (by go_simp;exact ⟨rfl,rfl⟩) ?_
   refine (HL.out _).mono ?_
   rintro e wq ⟨rfl,hq⟩
   rw [hq]
   clear hq wq
   refine ⟨_,rfl,hS0,?_⟩
   simp only [List.getElem_toArray,List.getElem_cons_zero,List.getElem_cons_succ,Act.put,List.setIfInBounds_toArray,List.set_cons_zero,List.set_cons_succ]
   refine wpAnyH_all (rs:=[1,4]) (by kernel_rfl) (by simp) (fun i hi => ?_)
   simp only [List.mem_cons,List.not_mem_nil,or_false] at hi
   rcases hi with rfl | rfl
   case' inl =>
    refine op_make0 (v:=.string (ofL p)) (w1:=Wd) rfl (by rfl) (by go_simp) hS0 ?_
    simp only [List.getElem_toArray,List.getElem_cons_zero,List.getElem_cons_succ,Act.put,List.setIfInBounds_toArray,List.set_cons_zero,List.set_cons_succ]
    refine reg_make 4 (v:=.slice (some ⟨Wd.heap.size,0,none⟩) 1 1) (w1:=Wd.alloc (.cells #[.int .u8 (lowB c).toNat] 5)) (by kernel_rfl) rfl (by rfl) (by go_simp) hS1 ?_
    simp only [List.getElem_toArray,List.getElem_cons_zero,List.getElem_cons_succ,Act.put,List.setIfInBounds_toArray,List.set_cons_zero,List.set_cons_succ]
    refine reg_make 5 (v:=.string ⟨#[lowB c]⟩) (w1:=Wd.alloc (.cells #[.int .u8 (lowB c).toNat] 5)) (by kernel_rfl) rfl (by rfl) (by go_simp) hS1 ?_
    simp only [List.getElem_toArray,List.getElem_cons_zero,List.getElem_cons_succ,Act.put,List.setIfInBounds_toArray,List.set_cons_zero,List.set_cons_succ]
    exact key
   case' inr =>
    refine op_make0 (v:=.slice (some ⟨Wd.heap.size,0,none⟩) 1 1) (w1:=Wd.alloc (.cells #[.int .u8 (lowB c).toNat] 5)) rfl (by rfl) (by go_simp) hS1 ?_
    simp only [List.getElem_toArray,List.getElem_cons_zero,List.getElem_cons_succ,Act.put,List.setIfInBounds_toArray,List.set_cons_zero,List.set_cons_succ]
    refine wpAnyH_all (rs:=[1,5]) (by kernel_rfl) (by simp) (fun i hi => ?_)
    simp only [List.mem_cons,List.not_mem_nil,or_false] at hi
    rcases hi with rfl | rfl
    case' inl =>
     refine op_make0 (v:=.string (ofL p)) (w1:=(Wd.alloc (.cells #[.int .u8 (lowB c).toNat] 5))) rfl (by rfl) (by go_simp) hS1 ?_
     simp only [List.getElem_toArray,List.getElem_cons_zero,List.getElem_cons_succ,Act.put,List.setIfInBounds_toArray,List.set_cons_zero,List.set_cons_succ]
     refine reg_make 5 (v:=.string ⟨#[lowB c]⟩) (w1:=Wd.alloc (.cells #[.int .u8 (lowB c).toNat] 5)) (by kernel_rfl) rfl (by rfl) (by go_simp) hS1 ?_
     simp only [List.getElem_toArray,List.getElem_cons_zero,List.getElem_cons_succ,Act.put,List.setIfInBounds_toArray,List.set_cons_zero,List.set_cons_succ]
     exact key
    case' inr =>
     refine op_make0 (v:=.string ⟨#[lowB c]⟩) (w1:=Wd.alloc (.cells #[.int .u8 (lowB c).toNat] 5)) rfl (by rfl) (by go_simp) hS1 ?_
     simp only [List.getElem_toArray,List.getElem_cons_zero,List.getElem_cons_succ,Act.put,List.setIfInBounds_toArray,List.set_cons_zero,List.set_cons_succ]
     refine reg_make 1 (v:=.string (ofL p)) (w1:=(Wd.alloc (.cells #[.int .u8 (lowB c).toNat] 5))) (by kernel_rfl) rfl (by rfl) (by go_simp) hS1 ?_
     simp only [List.getElem_toArray,List.getElem_cons_zero,List.getElem_cons_succ,Act.put,List.setIfInBounds_toArray,List.set_cons_zero,List.set_cons_succ]
     exact key
 case tail =>
  have hX:=(HXd.out.alloc (.cells #[.int .u8 (lowB c).toNat] 5)).set_ 3 (.string (ofL (p ++ [lowB c])))
  simp only [List.set_cons_succ,List.set_cons_zero] at hX
  have hS2:Only [b2] Wd ((Wd.alloc (.cells #[.int .u8 (lowB c).toNat] 5)).setCell ⟨b2,3,none⟩ (.string (ofL (p ++ [lowB c])))):=hS1.setCell (.inl (by simp)) _
  have hfz:=(HXd.out.alloc (.cells #[.int .u8 (lowB c).toNat] 5)).free 3
  refine reg_make 6 (v:=.string (ofL (p ++ [lowB c]))) (w1:=Wd.alloc (.cells #[.int .u8 (lowB c).toNat] 5)) (by kernel_rfl) rfl (by rfl) (by rw [← ofL_snoc];go_simp;omega) hS1 ?_
  simp only [List.getElem_toArray,List.getElem_cons_zero,List.getElem_cons_succ,Act.put,List.setIfInBounds_toArray,List.set_cons_zero,List.set_cons_succ]
  refine reg_make 7 (v:=.pointer (some ⟨b2,3,none⟩)) (w1:=Wd.alloc (.cells #[.int .u8 (lowB c).toNat] 5)) (by kernel_rfl) rfl (by rfl) (by go_simp) hS1 ?_
  simp only [List.getElem_toArray,List.getElem_cons_zero,List.getElem_cons_succ,Act.put,List.setIfInBounds_toArray,List.set_cons_zero,List.set_cons_succ]
  refine reg_store 8 (w1:=(Wd.alloc (.cells #[.int .u8 (lowB c).toNat] 5)).setCell ⟨b2,3,none⟩ (.string (ofL (p ++ [lowB c])))) (by kernel_rfl) rfl (by rfl) (by go_simp) hS2 ?_
  simp only [List.getElem_toArray,List.getElem_cons_zero,List.getElem_cons_succ,Act.put,List.setIfInBounds_toArray,List.set_cons_zero,List.set_cons_succ]
  refine region_end (by kernel_rfl) ?_
  have HX:=hid hX
  have HR:=hid ((HRd.out.alloc (.cells #[.int .u8 (lowB c).toNat] 5)).far (p:=⟨b2,3,none⟩) hne2 (.string (ofL (p ++ [lowB c]))))
  have HB:=hid (bel_set (HBd.out.trans (Bel.alloc Wd (.cells #[.int .u8 (lowB c).toNat] 5))) HNE.out.1 3 (.string (ofL (p ++ [lowB c]))))
  generalize (Wd.alloc (.cells #[.int .u8 (lowB c).toNat] 5)).setCell ⟨b2,3,none⟩ (.string (ofL (p ++ [lowB c]))) = Wg at HX HR HB ⊢
  clear hX hS2 hfz hS0 hS1 q3 q3' ho HXd HRd HBd
  obtain ⟨x0,x1,x2,x3⟩:=cells4 HX.out
  obtain ⟨r0,r1,r2,r3⟩:=cells4 HR.out
  obtain ⟨v0,v1,v2,v3⟩:=frees4 HR.out
  go_wp2_with fail
  all_goals first
   | ((with_reducible apply st_set (k:=4) (g:=b4));(case hf => rfl);(case hp => rfl);(case hB => exact HR.out);(case hb => exact HB.out);(case hg => exact HNE.out.2);clear x0 x1 x2 x3 r0 r1 r2 r3 v0 v1 v2 v3 HX HR HB HNE HL;unfold rawY;simp only [*,if_true,if_false,Bool.false_eq_true];first | done | rfl)
   | trace_state
theorem rawS_w {s:HS} {c:UInt8} {C:Nat} {E:List UInt8} (hC:codeC s.c = C) (hE:endL s.c = E) :
  (rawS s c).val = if s.p.head? = some 60∧E[s.p.length]? = some (lowB c) then (if ((ofL (s.p ++ [lowB c])).toList == E) = true then stV 15 ⟨#[]⟩ ⟨#[]⟩ ⟨#[]⟩ else stV s.c (ofL s.n) (ofL s.a) (ofL (s.p ++ [lowB c]))) else rawV s.c C (C + 1) (C + 2) s.n s.a s.p c:=by
 have hc:∀ k:UInt8,((c.toNat:Int) == (k.toNat:Int)) = true ↔ c = k:=fun k => by rw [u8_iff,beq_iff_eq]
 have h60:((c.toNat:Int) == 60) = true ↔ c = 60:=hc 60
 have h34:((c.toNat:Int) == 34) = true ↔ c = 34:=hc 34
 have h39:((c.toNat:Int) == 39) = true ↔ c = 39:=hc 39
 have h10:((c.toNat:Int) == 10) = true ↔ c = 10:=hc 10
 have h92:((c.toNat:Int) == 92) = true ↔ c = 92:=hc 92
 have k0:((s.c:Int) == (C:Int)) = true ↔ s.c = C:=by rw [beq_iff_eq];omega
 have k2:((s.c:Int) == (C:Int) + 2) = true ↔ s.c = C + 2:=by rw [beq_iff_eq];omega
 have hp:((ofL s.p).toList == [92]) = true ↔ s.p = [92]:=by rw [ofL_list,beq_iff_eq]
 have hpe:((ofL (s.p ++ [lowB c])).toList == E) = true ↔ s.p ++ [lowB c] = E:=by rw [ofL_list,beq_iff_eq]
 unfold rawV rawS
 rw [hC,hE]
 simp only [h60,h34,h39,h10,h92,k0,k2,hp,hpe]
 split
 ·split <;> rfl
 split
 ·rfl
 split
 ·rfl
 split
 ·rename_i hk
  split
  ·rfl
  ·split
   ·rfl
   ·rfl
 ·by_cases e2:s.c = C + 2
  ·rw [if_pos e2,if_pos e2]
   by_cases hq:c = 39 ∨ c = 10
   ·rw [if_pos hq,if_pos hq];split <;> rfl
   ·rw [if_neg hq,if_neg hq];split <;> rfl
  ·rw [if_neg e2,if_neg e2]
   by_cases hq:c = 34 ∨ c = 10
   ·rw [if_pos hq,if_pos hq];split <;> rfl
   ·rw [if_neg hq,if_neg hq];split <;> rfl
theorem rraw_c (s:HS) (c:UInt8) (w:World) (hp:s.p.length≤100000) :
  Calls Tryz.prog 146 #[s.val,.int .u8 c.toNat] w (SvP (rawS s c) w):=by
 show Calls _ _ _ _ (SvV (rawS s c).val w)
 by_cases hk:s.c < 19
 ·have e1:codeC s.c = 16:=by unfold codeC;rw [if_neg (by omega)]
  have e2:endL s.c = [60,47,115,99,114,105,112,116]:=by unfold endL;rw [if_neg (by omega)];rfl
  rw [rawS_w e1 e2]
  by_cases h:s.p.head? = some 60∧([60,47,115,99,114,105,112,116]:List UInt8)[s.p.length]? = some (lowB c)
  ·rw [if_pos h]
   exact rraw_yes16 _ _ _ _ c w (by omega) hp (by rw [← h.1];cases s.p <;> rfl) h.2
  ·rw [if_neg h]
   exact rraw_no16 _ _ _ _ c w (by omega) hp h
 ·have e1:codeC s.c = 19:=by unfold codeC;rw [if_pos (by omega)]
  have e2:endL s.c = [60,47,115,116,121,108,101]:=by unfold endL;rw [if_pos (by omega)];rfl
  rw [rawS_w e1 e2]
  by_cases h:s.p.head? = some 60∧([60,47,115,116,121,108,101]:List UInt8)[s.p.length]? = some (lowB c)
  ·rw [if_pos h]
   exact rraw_yes19 _ _ _ _ c w (by omega) hp (by rw [← h.1];cases s.p <;> rfl) h.2
  ·rw [if_neg h]
   exact rraw_no19 _ _ _ _ c w (by omega) hp h
end Go.Proofs.YtpcapmdfjmpdiaaGreatDoor
