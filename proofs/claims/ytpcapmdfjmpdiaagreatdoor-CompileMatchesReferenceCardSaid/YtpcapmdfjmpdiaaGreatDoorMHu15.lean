/- Contracts: the reference of layer 15: tag. -/
import Derived.Test.YtpcapmdfjmpdiaaGreatDoorMHt15
set_option linter.unusedVariables false
set_option linter.unusedSimpArgs false
set_option maxRecDepth 100000
set_option maxHeartbeats 12800000
open Go.Lib (hid)
namespace Go.Proofs.YtpcapmdfjmpdiaaGreatDoor
open Go.RowKit Go.BigFrame
def tagV (k:Int) (n a p:List UInt8) (c:UInt8):Value :=
 if (k == 2) = true then
  if spcB c = true ∨ ((c.toNat:Int) == 47) = true then stV 1 (ofL n) ⟨#[]⟩ ⟨#[]⟩ else stV k (ofL (addL n c)) (ofL a) (ofL p)
 else if (k == 1) = true then
  if ¬ spcB c = true∧((c.toNat:Int) != 47) = true then stV 3 (ofL n) (ofL (addL [] c)) ⟨#[]⟩ else stV k (ofL n) (ofL a) (ofL p)
 else if (k == 3) = true ∨ (k == 4) = true then
  if spcB c = true then stV 4 (ofL n) (ofL a) (ofL p)
  else if ((c.toNat:Int) == 47) = true then stV 1 (ofL n) ⟨#[]⟩ ⟨#[]⟩
  else if ((c.toNat:Int) == 61) = true then stV 5 (ofL n) (ofL a) (ofL p)
  else if (k == 4) = true then stV 3 (ofL n) (ofL (addL [] c)) ⟨#[]⟩ else stV k (ofL n) (ofL (addL a c)) (ofL p)
 else if (k == 5) = true then
  if ((c.toNat:Int) == 34) = true ∨ ((c.toNat:Int) == 39) = true then stV (quotedC a c:Nat) (ofL n) ⟨#[]⟩ ⟨#[]⟩
  else if (!spcB c) = true then stV 6 (ofL n) ⟨#[]⟩ ⟨#[]⟩ else stV k (ofL n) (ofL a) (ofL p)
 else if (k == 6) = true then
  if spcB c = true then stV 1 (ofL n) ⟨#[]⟩ ⟨#[]⟩ else stV k (ofL n) (ofL a) (ofL p)
 else if (k == 7) = true ∨ (k == 9) = true ∨ (k == 11) = true then
  if ((c.toNat:Int) == 34) = true then stV 1 (ofL n) ⟨#[]⟩ ⟨#[]⟩ else stV k (ofL n) (ofL a) (ofL p)
 else if (k == 8) = true ∨ (k == 10) = true ∨ (k == 12) = true then
  if ((c.toNat:Int) == 39) = true then stV 1 (ofL n) ⟨#[]⟩ ⟨#[]⟩ else stV k (ofL n) (ofL a) (ofL p)
 else stV k (ofL n) (ofL a) (ofL p)
theorem bel_set {w w1:World} {b:Nat} (h:Bel w w1) (hb:w.heap.size≤b) (i:Nat) (v:Value):Bel w (w1.setCell ⟨b,i,none⟩ v):=bel_on1 h ((Only.refl [b] _).setCell (.inl (by simp)) _) hb
theorem once {T G:Prop} (main:T→G) (tail:T):G:=main tail
theorem rtag_rest (k:Int) (n a p:List UInt8) (c:UInt8) (w:World) (hn:n.length≤100000) (ha:a.length≤100000) (hc:((c.toNat:Int) == 62) = false) :
  Calls Tryz.prog 144 #[stV k (ofL n) (ofL a) (ofL p),.int .u8 c.toNat] w (SvV (tagV k n a p c) w):=by
 unfold stV
 have HAD:=hid (fun W => radd_c [] c W (by simp))
 rw [ofL_nil] at HAD
 have HAN:=hid (fun W => radd_c n c W hn)
 have HAA:=hid (fun W => radd_c a c W ha)
 have HSP:=hid (fun W => rspace_c c W)
 have HQU:=hid (fun W => rquoted_c a c W ha)
 have HB3:=hid (((Bel.alloc w (.cells #[.int .i64 k,.string (ofL n),.string (ofL a),.string (ofL p)] 153)).trans (Bel.alloc (w.alloc (.cells #[.int .i64 k,.string (ofL n),.string (ofL a),.string (ofL p)] 153)) (.cells #[.int .i64 0,.string ⟨#[]⟩,.string ⟨#[]⟩,.string ⟨#[]⟩] 153))).trans (Bel.alloc ((w.alloc (.cells #[.int .i64 k,.string (ofL n),.string (ofL a),.string (ofL p)] 153)).alloc (.cells #[.int .i64 0,.string ⟨#[]⟩,.string ⟨#[]⟩,.string ⟨#[]⟩] 153)) (.cells #[.int .i64 1,.string (ofL n),.string ⟨#[]⟩,.string ⟨#[]⟩] 153)))
 have HX3:=hid (((Blk.new w 153 [.int .i64 k,.string (ofL n),.string (ofL a),.string (ofL p)]).alloc (.cells #[.int .i64 0,.string ⟨#[]⟩,.string ⟨#[]⟩,.string ⟨#[]⟩] 153)).alloc (.cells #[.int .i64 1,.string (ofL n),.string ⟨#[]⟩,.string ⟨#[]⟩] 153))
 have HR3:=hid ((blk_at1h w (.cells #[.int .i64 k,.string (ofL n),.string (ofL a),.string (ofL p)] 153) 153 [.int .i64 0,.string ⟨#[]⟩,.string ⟨#[]⟩,.string ⟨#[]⟩]).alloc (.cells #[.int .i64 1,.string (ofL n),.string ⟨#[]⟩,.string ⟨#[]⟩] 153))
 have HT3:=hid (blk_at1h (w.alloc (.cells #[.int .i64 k,.string (ofL n),.string (ofL a),.string (ofL p)] 153)) (.cells #[.int .i64 0,.string ⟨#[]⟩,.string ⟨#[]⟩,.string ⟨#[]⟩] 153) 153 [.int .i64 1,.string (ofL n),.string ⟨#[]⟩,.string ⟨#[]⟩])
 rw [show ((w.alloc (.cells #[.int .i64 k,.string (ofL n),.string (ofL a),.string (ofL p)] 153))).heap.size + 1 = w.heap.size + 1 + 1 by simp] at HT3
 have HZ3:=hid (show ((((w.alloc (.cells #[.int .i64 k,.string (ofL n),.string (ofL a),.string (ofL p)] 153)).alloc (.cells #[.int .i64 0,.string ⟨#[]⟩,.string ⟨#[]⟩,.string ⟨#[]⟩] 153)).alloc (.cells #[.int .i64 1,.string (ofL n),.string ⟨#[]⟩,.string ⟨#[]⟩] 153))).heap.size = w.heap.size + 1 + 1 + 1 by simp)
 go_enter Tryz.func144,Tryz.ntmps144
 go_wp2_with fail
 have HBd:=hid (HB3.out.trans (Bel.drew _))
 have HXd:=hid HX3.out.drew
 have HRd:=hid HR3.out.drew
 have HTd:=hid HT3.out.drew
 have HZd:=hid (show ((((w.alloc (.cells #[.int .i64 k,.string (ofL n),.string (ofL a),.string (ofL p)] 153)).alloc (.cells #[.int .i64 0,.string ⟨#[]⟩,.string ⟨#[]⟩,.string ⟨#[]⟩] 153)).alloc (.cells #[.int .i64 1,.string (ofL n),.string ⟨#[]⟩,.string ⟨#[]⟩] 153)).drew).heap.size = w.heap.size + 1 + 1 + 1 from HZ3.out)
 clear HB3 HX3 HR3 HT3 HZ3
 refine region_begin (T:=[]) (by kernel_rfl) ?_
 generalize (((w.alloc (.cells #[.int .i64 k,.string (ofL n),.string (ofL a),.string (ofL p)] 153)).alloc (.cells #[.int .i64 0,.string ⟨#[]⟩,.string ⟨#[]⟩,.string ⟨#[]⟩] 153)).alloc (.cells #[.int .i64 1,.string (ofL n),.string ⟨#[]⟩,.string ⟨#[]⟩] 153)).drew = Wd at HBd HXd HRd HTd HZd ⊢
 have p1:∀ X:Later [] Wd,X.w.cell? ⟨w.heap.size,1,none⟩ = some (.string (ofL n)):=fun X => (HXd.out.belh (Bel.of_later X)).cell 1
 refine reg_seg [true,true,true] 4 (Only.refl _ _) (by kernel_rfl) (by kernel_rfl) (by kernel_rfl) rfl (fun _ _ d _ _ h => by cases d <;> exact h) ?_
 repeat (first | with_reducible refine wpMask_pass ?_ | (refine wpMask_want (by rfl) (fun K hK => ?_);go_big_quiet_op;refine hK _ ?_;clear hK K))
 with_reducible refine wpMask_nil ?_
 clear p1
 apply once
 case main =>
  intro key
  refine wpAnyH_all (rs:=[3,5]) (by kernel_rfl) (by simp) (fun i hi => ?_)
  simp only [List.mem_cons,List.not_mem_nil,or_false] at hi
  rcases hi with rfl | rfl
  case' inl =>
   refine op_call0 rfl (by rfl) (by go_simp;exact ⟨rfl,rfl⟩) ?_
   refine (HAD.out Wd).mono ?_
   rintro e w2 ⟨rfl,hb⟩
   refine ⟨_,rfl,bel_only hb,?_⟩
   simp only [List.getElem_toArray,List.getElem_cons_zero,List.getElem_cons_succ,Act.put,List.setIfInBounds_toArray,List.set_cons_zero,List.set_cons_succ]
   have hbx:=hb.trans (Bel.alloc w2 (.cells #[.int .i64 0,.string ⟨#[]⟩,.string ⟨#[]⟩,.string ⟨#[]⟩] 153))
   have hz:=Blk.new w2 153 [.int .i64 0,.string ⟨#[]⟩,.string ⟨#[]⟩,.string ⟨#[]⟩]
   have hg:=hb.size
   refine wpAnyH_all (rs:=[4,5]) (by kernel_rfl) (by simp) (fun i hi => ?_)
   simp only [List.mem_cons,List.not_mem_nil,or_false] at hi
   rcases hi with rfl | rfl
   case' inl =>
    refine op_make0 (v:=.agg #[.int .i64 3,.string (ofL n),.string (ofL (addL [] c)),.string ⟨#[]⟩]) (w1:=w2) rfl (by rfl) (by go_simp) (bel_only hb) ?_
    simp only [List.getElem_toArray,List.getElem_cons_zero,List.getElem_cons_succ,Act.put,List.setIfInBounds_toArray,List.set_cons_zero,List.set_cons_succ]
    refine reg_make 5 (v:=.pointer (some ⟨w2.heap.size,0,none⟩)) (w1:=w2.alloc (.cells #[.int .i64 0,.string ⟨#[]⟩,.string ⟨#[]⟩,.string ⟨#[]⟩] 153)) (by kernel_rfl) rfl (by rfl) (by go_simp) (bel_only hbx) ?_
    simp only [List.getElem_toArray,List.getElem_cons_zero,List.getElem_cons_succ,Act.put,List.setIfInBounds_toArray,List.set_cons_zero,List.set_cons_succ]
   case' inr =>
    refine op_make0 (v:=.pointer (some ⟨w2.heap.size,0,none⟩)) (w1:=w2.alloc (.cells #[.int .i64 0,.string ⟨#[]⟩,.string ⟨#[]⟩,.string ⟨#[]⟩] 153)) rfl (by rfl) (by go_simp) (bel_only hbx) ?_
    simp only [List.getElem_toArray,List.getElem_cons_zero,List.getElem_cons_succ,Act.put,List.setIfInBounds_toArray,List.set_cons_zero,List.set_cons_succ]
    refine reg_make 4 (v:=.agg #[.int .i64 3,.string (ofL n),.string (ofL (addL [] c)),.string ⟨#[]⟩]) (w1:=w2.alloc (.cells #[.int .i64 0,.string ⟨#[]⟩,.string ⟨#[]⟩,.string ⟨#[]⟩] 153)) (by kernel_rfl) rfl (by rfl) (by go_simp) (bel_only hbx) ?_
    simp only [List.getElem_toArray,List.getElem_cons_zero,List.getElem_cons_succ,Act.put,List.setIfInBounds_toArray,List.set_cons_zero,List.set_cons_succ]
   all_goals
    generalize w2.alloc (.cells #[.int .i64 0,.string ⟨#[]⟩,.string ⟨#[]⟩,.string ⟨#[]⟩] 153) = Wp at hbx hz ⊢
    generalize w2.heap.size = b6 at hz hg ⊢
    clear hb
    revert hbx hz hg
    clear w2
    revert Wp b6
  case' inr =>
   refine op_make0 (v:=.pointer (some ⟨Wd.heap.size,0,none⟩)) (w1:=Wd.alloc (.cells #[.int .i64 0,.string ⟨#[]⟩,.string ⟨#[]⟩,.string ⟨#[]⟩] 153)) rfl (by rfl) (by go_simp) (bel_only (Bel.alloc _ _)) ?_
   simp only [List.getElem_toArray,List.getElem_cons_zero,List.getElem_cons_succ,Act.put,List.setIfInBounds_toArray,List.set_cons_zero,List.set_cons_succ]
   have hz0:=Blk.new Wd 153 [.int .i64 0,.string ⟨#[]⟩,.string ⟨#[]⟩,.string ⟨#[]⟩]
   refine reg_call 3 (by kernel_rfl) rfl (by rfl) (by go_simp;exact ⟨rfl,rfl⟩) ?_
   refine (HAD.out _).mono ?_
   rintro e Wp ⟨rfl,hb1⟩
   have hbx:=(Bel.alloc Wd (.cells #[.int .i64 0,.string ⟨#[]⟩,.string ⟨#[]⟩,.string ⟨#[]⟩] 153)).trans hb1
   have hz:=hz0.belh hb1
   refine ⟨_,rfl,bel_only hbx,?_⟩
   simp only [List.getElem_toArray,List.getElem_cons_zero,List.getElem_cons_succ,Act.put,List.setIfInBounds_toArray,List.set_cons_zero,List.set_cons_succ]
   refine reg_make 4 (v:=.agg #[.int .i64 3,.string (ofL n),.string (ofL (addL [] c)),.string ⟨#[]⟩]) (w1:=Wp) (by kernel_rfl) rfl (by rfl) (by go_simp) (bel_only hbx) ?_
   simp only [List.getElem_toArray,List.getElem_cons_zero,List.getElem_cons_succ,Act.put,List.setIfInBounds_toArray,List.set_cons_zero,List.set_cons_succ]
   clear hz0 hb1
   obtain ⟨b6,hb6⟩:∃ q,q = Wd.heap.size:=⟨_,rfl⟩
   have hg:Wd.heap.size≤b6:=by omega
   rw [← hb6] at hz ⊢
   clear hb6
   revert hbx hz hg
   revert Wp b6
  all_goals exact key
 case tail =>
  intro Wp b6 hbx hz hg
  obtain ⟨z0,z1,z2,z3⟩:=cells4 hz
  obtain ⟨f0,f1,f2,f3⟩:=frees4 hz
  have hOs:Only [b6] Wp ((((Wp.setCell ⟨b6,0,none⟩ (.int .i64 3)).setCell ⟨b6,1,none⟩ (.string (ofL n))).setCell ⟨b6,2,none⟩ (.string (ofL (addL [] c)))).setCell ⟨b6,3,none⟩ (.string ⟨#[]⟩)) :=
   ((((Only.refl [b6] Wp).setCell (.inl (by simp)) _).setCell (.inl (by simp)) _).setCell (.inl (by simp)) _).setCell (.inl (by simp)) _
  have hOd:=(bel_only hbx).join hOs (fun i hi => .inr (by simp at hi;omega))
  have hA:=(((hz.set_ 0 (.int .i64 3)).set_ 1 (.string (ofL n))).set_ 2 (.string (ofL (addL [] c)))).set_ 3 (.string ⟨#[]⟩)
  simp only [List.set_cons_succ,List.set_cons_zero] at hA
  refine reg_store 6 (w1:=((((Wp.setCell ⟨b6,0,none⟩ (.int .i64 3)).setCell ⟨b6,1,none⟩ (.string (ofL n))).setCell ⟨b6,2,none⟩ (.string (ofL (addL [] c)))).setCell ⟨b6,3,none⟩ (.string ⟨#[]⟩))) (by kernel_rfl) rfl (by rfl) (by go_simp) hOd ?_
  simp only [List.getElem_toArray,List.getElem_cons_zero,List.getElem_cons_succ,Act.put,List.setIfInBounds_toArray,List.set_cons_zero,List.set_cons_succ]
  refine region_end (by kernel_rfl) ?_
  have HX:=hid (HXd.out.only hOd (by simp))
  have HR:=hid (HRd.out.only hOd (by simp))
  have HT:=hid (HTd.out.only hOd (by simp))
  have HA:=hid hA
  have HB:=hid (HBd.out.trans (bel_of_only hOd))
  clear z0 z1 z2 z3 f0 f1 f2 f3 hOs hA hz hbx
  generalize ((((Wp.setCell ⟨b6,0,none⟩ (.int .i64 3)).setCell ⟨b6,1,none⟩ (.string (ofL n))).setCell ⟨b6,2,none⟩ (.string (ofL (addL [] c)))).setCell ⟨b6,3,none⟩ (.string ⟨#[]⟩)) = Wf at HX HR HT HA HB hOd ⊢
  obtain ⟨b5,h5⟩:∃ q,q = w.heap.size + 1 + 1:=⟨_,rfl⟩
  obtain ⟨b4,h4⟩:∃ q,q = w.heap.size + 1:=⟨_,rfl⟩
  obtain ⟨b2,h2⟩:∃ q,q = w.heap.size:=⟨_,rfl⟩
  have HNE:=hid (show w.heap.size≤b2∧w.heap.size≤b4∧b2 ≠ b4∧b2 ≠ b5∧b2 ≠ b6∧b4 ≠ b2 by have:=HZd.out;omega)
  have hne1:¬ b2 = b4:=HNE.out.2.2.1
  have hne2:¬ b4 = b2:=HNE.out.2.2.2.2.2
  rw [← h5] at HT ⊢
  rw [← h4] at HR ⊢
  rw [← h2] at HX ⊢
  clear h5 h4 h2 hOd hg HBd HXd HRd HTd HZd HAD
  obtain ⟨x0,x1,x2,x3⟩:=cells4 HX.out
  obtain ⟨r0,r1,r2,r3⟩:=cells4 HR.out
  obtain ⟨t0,t1,t2,t3⟩:=cells4 HT.out
  obtain ⟨a0,a1,a2,a3⟩:=cells4 HA.out
  obtain ⟨u0,u1,u2,u3⟩:=frees4 HX.out
  obtain ⟨v0,v1,v2,v3⟩:=frees4 HR.out
  go_wp2_with (first
   | (go_at_call 158;((with_reducible refine (HSP.out _).mono ?_);rintro e w1 ⟨rfl,rfl⟩))
   | (go_at_call 156;(first | (with_reducible refine (HAN.out _).mono ?_) | (with_reducible refine (HAA.out _).mono ?_));rintro e w2 ⟨rfl,hb⟩;have HB2:=hid (HB.out.trans hb);have HX2:=hid (HX.out.belh hb);have HR2:=hid (HR.out.belh hb);clear hb;obtain ⟨x0,x1,x2,x3⟩:=cells4 HX2.out;obtain ⟨r0,r1,r2,r3⟩:=cells4 HR2.out;obtain ⟨u0,u1,u2,u3⟩:=frees4 HX2.out;obtain ⟨v0,v1,v2,v3⟩:=frees4 HR2.out))
  all_goals first
   | ((with_reducible apply st_set (k:=4) (g:=b4));(case hf => rfl);(case hp => rfl);(case hB => first | with_reducible exact HR.out | with_reducible exact HR.out.far hne2 _ | with_reducible exact HR2.out.far hne2 _);(case hb => first | with_reducible exact HB.out | with_reducible exact bel_set HB.out HNE.out.1 _ _ | with_reducible exact bel_set HB2.out HNE.out.1 _ _);(case hg => exact HNE.out.2.1);clear x0 x1 x2 x3 r0 r1 r2 r3 t0 t1 t2 t3 a0 a1 a2 a3 u0 u1 u2 u3 v0 v1 v2 v3 HX HR HT HA HB HNE HAN HAA HSP HQU;unfold tagV;simp only [*,if_true,if_false,Bool.false_eq_true,or_true,true_or,or_self,beq_self_eq_true,not_false_eq_true,not_true_eq_false,and_self,and_true,true_and,and_false,false_and];first | done | rfl)
   | skip
  ·
   have e34:=(u8_iff c 34).2 ‹_›
   subst e34
   refine region_begin (T:=[b4]) (by kernel_rfl) ?_
   have HX4:=hid HX.out.drew
   have HR4:=hid HR.out.drew
   have HB4:=hid (HB.out.trans (Bel.drew _))
   clear x0 x1 x2 x3 r0 r1 r2 r3 t0 t1 t2 t3 a0 a1 a2 a3 u0 u1 u2 u3 v0 v1 v2 v3
   generalize Wf.drew = We at HX4 HR4 HB4 ⊢
   have p1:∀ X:Later [b4] We,X.w.cell? ⟨b2,1,none⟩ = some (.string (ofL n)):=fun X => (HX4.out.only X.h (by simpa using hne1)).cell 1
   have p2:∀ X:Later [b4] We,X.w.cell? ⟨b2,2,none⟩ = some (.string (ofL a)):=fun X => (HX4.out.only X.h (by simpa using hne1)).cell 2
   refine region_seg [true,true,true,false,true,true] 3 (by kernel_rfl) (by kernel_rfl) (by kernel_rfl) rfl (fun _ _ d _ _ h => by cases d <;> exact h) ?_
   repeat (first | with_reducible refine wpMask_pass ?_ | (refine wpMask_want (by rfl) (fun K hK => ?_);go_big_quiet_op;refine hK _ ?_;clear hK K))
   with_reducible refine wpMask_nil ?_
   clear p1 p2
   refine region_call 3 (by kernel_rfl) rfl (by rfl) (by go_simp;exact ⟨rfl,rfl⟩) ?_
   refine (HQU.out _).mono ?_
   rintro e w9 ⟨rfl,rfl⟩
   refine ⟨_,rfl,Only.refl _ _,?_⟩
   simp only [List.getElem_toArray,List.getElem_cons_zero,List.getElem_cons_succ,Act.put,List.setIfInBounds_toArray,List.set_cons_zero,List.set_cons_succ]
   refine region_make 6 (v:=.agg #[.int .i64 (quotedC a 34:Nat),.string (ofL n),.string ⟨#[]⟩,.string ⟨#[]⟩]) (w1:=w9) (by kernel_rfl) rfl (by rfl) (by go_simp) (Only.refl _ _) ?_
   simp only [List.getElem_toArray,List.getElem_cons_zero,List.getElem_cons_succ,Act.put,List.setIfInBounds_toArray,List.set_cons_zero,List.set_cons_succ]
   obtain ⟨r0,r1,r2,r3⟩:=cells4 HR4.out
   obtain ⟨v0,v1,v2,v3⟩:=frees4 HR4.out
   refine region_store 7 (w1:=((((w9.setCell ⟨b4,0,none⟩ (.int .i64 (quotedC a 34:Nat))).setCell ⟨b4,1,none⟩ (.string (ofL n))).setCell ⟨b4,2,none⟩ (.string ⟨#[]⟩)).setCell ⟨b4,3,none⟩ (.string ⟨#[]⟩))) (by kernel_rfl) rfl (by rfl) (by go_simp) (((((Only.refl [b4] _).setCell (.inl (by simp)) _).setCell (.inl (by simp)) _).setCell (.inl (by simp)) _).setCell (.inl (by simp)) _) ?_
   simp only [List.getElem_toArray,List.getElem_cons_zero,List.getElem_cons_succ,Act.put,List.setIfInBounds_toArray,List.set_cons_zero,List.set_cons_succ]
   refine region_end (by kernel_rfl) ?_
   go_wp2_with fail
   (with_reducible apply st_set (k:=4) (g:=b4))
   case hf => rfl
   case hp => rfl
   case hB => exact HR4.out
   case hb => exact HB4.out
   case hg => exact HNE.out.2.1
   unfold tagV
   simp only [*,if_true,if_false,Bool.false_eq_true,or_true,true_or,or_self,beq_self_eq_true]
  ·
   refine region_begin (T:=[b4]) (by kernel_rfl) ?_
   have HX4:=hid HX.out.drew
   have HR4:=hid HR.out.drew
   have HB4:=hid (HB.out.trans (Bel.drew _))
   clear x0 x1 x2 x3 r0 r1 r2 r3 t0 t1 t2 t3 a0 a1 a2 a3 u0 u1 u2 u3 v0 v1 v2 v3
   generalize Wf.drew = We at HX4 HR4 HB4 ⊢
   have p1:∀ X:Later [b4] We,X.w.cell? ⟨b2,1,none⟩ = some (.string (ofL n)):=fun X => (HX4.out.only X.h (by simpa using hne1)).cell 1
   have p2:∀ X:Later [b4] We,X.w.cell? ⟨b2,2,none⟩ = some (.string (ofL a)):=fun X => (HX4.out.only X.h (by simpa using hne1)).cell 2
   refine region_seg [true,true,true,false,true,true] 3 (by kernel_rfl) (by kernel_rfl) (by kernel_rfl) rfl (fun _ _ d _ _ h => by cases d <;> exact h) ?_
   repeat (first | with_reducible refine wpMask_pass ?_ | (refine wpMask_want (by rfl) (fun K hK => ?_);go_big_quiet_op;refine hK _ ?_;clear hK K))
   with_reducible refine wpMask_nil ?_
   clear p1 p2
   refine region_call 3 (by kernel_rfl) rfl (by rfl) (by go_simp;exact ⟨rfl,rfl⟩) ?_
   refine (HQU.out _).mono ?_
   rintro e w9 ⟨rfl,rfl⟩
   refine ⟨_,rfl,Only.refl _ _,?_⟩
   simp only [List.getElem_toArray,List.getElem_cons_zero,List.getElem_cons_succ,Act.put,List.setIfInBounds_toArray,List.set_cons_zero,List.set_cons_succ]
   refine region_make 6 (v:=.agg #[.int .i64 (quotedC a c:Nat),.string (ofL n),.string ⟨#[]⟩,.string ⟨#[]⟩]) (w1:=w9) (by kernel_rfl) rfl (by rfl) (by go_simp) (Only.refl _ _) ?_
   simp only [List.getElem_toArray,List.getElem_cons_zero,List.getElem_cons_succ,Act.put,List.setIfInBounds_toArray,List.set_cons_zero,List.set_cons_succ]
   obtain ⟨r0,r1,r2,r3⟩:=cells4 HR4.out
   obtain ⟨v0,v1,v2,v3⟩:=frees4 HR4.out
   refine region_store 7 (w1:=((((w9.setCell ⟨b4,0,none⟩ (.int .i64 (quotedC a c:Nat))).setCell ⟨b4,1,none⟩ (.string (ofL n))).setCell ⟨b4,2,none⟩ (.string ⟨#[]⟩)).setCell ⟨b4,3,none⟩ (.string ⟨#[]⟩))) (by kernel_rfl) rfl (by rfl) (by go_simp) (((((Only.refl [b4] _).setCell (.inl (by simp)) _).setCell (.inl (by simp)) _).setCell (.inl (by simp)) _).setCell (.inl (by simp)) _) ?_
   simp only [List.getElem_toArray,List.getElem_cons_zero,List.getElem_cons_succ,Act.put,List.setIfInBounds_toArray,List.set_cons_zero,List.set_cons_succ]
   refine region_end (by kernel_rfl) ?_
   go_wp2_with fail
   (with_reducible apply st_set (k:=4) (g:=b4))
   case hf => rfl
   case hp => rfl
   case hB => exact HR4.out
   case hb => exact HB4.out
   case hg => exact HNE.out.2.1
   unfold tagV
   simp only [*,if_true,if_false,Bool.false_eq_true,or_true,true_or,or_self,beq_self_eq_true]
end Go.Proofs.YtpcapmdfjmpdiaaGreatDoor
