/- Contracts: Run and Escaper of the program of layer 15 -/
import Derived.Test.YtpcapmdfjmpdiaaGreatDoorMShaped11
import Derived.Test.YtpcapmdfjmpdiaaGreatDoorMPs15
import Derived.Test.YtpcapmdfjmpdiaaGreatDoorMLn17
import Derived.Test.YtpcapmdfjmpdiaaGreatDoorMCt12
import Derived.Test.YtpcapmdfjmpdiaaGreatDoorMRn16
set_option linter.unusedVariables false
set_option linter.unusedSimpArgs false
set_option maxRecDepth 100000
set_option maxHeartbeats 6400000
open Go.Lib (hid)
namespace Go.Proofs.YtpcapmdfjmpdiaaGreatDoor
section
open Go.RowKit Go.BigFrame
theorem indexAny_c (t:ByteArray) (w:World) :
  Calls Tryz.prog 104 #[.string t,.int .u8 60] w fun e w' => e = .returned (.int .i64 (Lib.indexByte (toL t) 60))∧w' = w:=by
 obtain ⟨l,rfl⟩:∃ l,t = ofL l:=⟨toL t,(ofL_toL t).symm⟩
 rw [toL_ofL]
 exact indexByte_c l w
theorem toL_dropx (l:List UInt8) (i:Nat):toL ((ofL l).extract i l.length) = l.drop i:=by
 unfold toL ofL
 rw [ByteArray.data_extract]
 simp only [Array.toList_extract,List.extract_eq_take_drop]
 exact List.take_of_length_le (by simp)
theorem index_cases (l:List UInt8):(Lib.indexByte l 60 = -1∧∀ b,b ∈ l→b ≠ 60) ∨ ∃ j:Nat,Lib.indexByte l 60 = j∧l[j]? = some 60∧∀ b,b ∈ l.take j→b ≠ 60:=by
 induction l with
 | nil => exact .inl ⟨rfl,fun b h => by cases h⟩
 | cons d l ih =>
  unfold Lib.indexByte
  by_cases hd:d = 60
  ·refine .inr ⟨0,by rw [if_pos (by simp [hd])];rfl,by rw [hd];rfl,fun b h => by simp at h⟩
  ·rw [if_neg (by simpa using hd)]
   rcases ih with ⟨h1,h2⟩ | ⟨j,h1,h2,h3⟩
   ·refine .inl ⟨by rw [h1];rfl,fun b hb => ?_⟩
    rcases List.mem_cons.1 hb with rfl | hb
    ·exact hd
    ·exact h2 b hb
   ·refine .inr ⟨j + 1,?_,by simpa using h2,fun b hb => ?_⟩
    ·rw [h1,if_neg (by rw [beq_iff_eq];omega)];omega
    ·rw [List.take_succ_cons] at hb
     rcases List.mem_cons.1 hb with rfl | hb
     ·exact hd
     ·exact h3 b hb
theorem run_text (t:List UInt8) (h:∀ b,b ∈ t→b ≠ 60):runS (s0 0) t = s0 0:=by
 induction t with
 | nil => rfl
 | cons d t ih =>
  rw [runS_cons,show stepS (s0 0) d = s0 0 from by
   have hd:¬ d = 60:=h d (by simp)
   show (if d = 60 then _ else s0 0) = _
   rw [if_neg hd]]
  exact ih fun b hb => h b (by simp [hb])
theorem run_skip {s:HS} {l:List UInt8} {i j:Nat} (hs:runS s (l.take i) = s0 0) (hj:∀ b,b ∈ (l.drop i).take j→b ≠ 60):runS s (l.take (i + j)) = s0 0:=by
 rw [List.take_add,runS_append,hs]
 exact run_text _ hj
theorem prunB_c (s:HS) (hi:Inv s) (t:ByteArray) (ht:t.size≤140737488351232) (w:World):Calls Tryz.prog 83 #[s.val,.string t] w (SvP (runS s (toL t)) w):=by
 obtain ⟨l,rfl⟩:∃ l,t = ofL l:=⟨toL t,(ofL_toL t).symm⟩
 rw [toL_ofL]
 have hz:(ofL l).size = l.length:=rfl
 have hl:l.length≤140737488351232:=by omega
 have HI:=hid hi
 obtain ⟨R,hR⟩:∃ R,R = runS s l:=⟨_,rfl⟩
 rw [← hR]
 have HR:=hid hR
 clear hR hi ht
 unfold SvP HS.val stV
 go_enter Tryz.func83,Tryz.ntmps83
 go_wp2_with fail
 go_loopw [5] (fun s5 wr => ∃ (i:Nat) (S:HS),i≤l.length∧s5 = .int .i64 i∧Hid (S = runS s (l.take i))∧Hid (Bel w wr)∧Hid (Blk wr w.heap.size 74 [.int .i64 (S.c:Nat),.string (ofL S.n),.string (ofL S.a),.string (ofL S.p)])∧Hid (Blk wr (w.heap.size + 1) 74 [.int .i64 0,.string ⟨#[]⟩,.string ⟨#[]⟩,.string ⟨#[]⟩])) (fun s5 _ => l.length - (intOf s5).toNat)
 case atStart => exact ⟨0,s,Nat.zero_le _,rfl,hid rfl,hid ((Bel.alloc _ _).trans (Bel.alloc _ _)),hid ((Blk.new w 74 [.int .i64 (s.c:Nat),.string (ofL s.n),.string (ofL s.a),.string (ofL s.p)]).alloc _),hid (blk_at1h w _ 74 [.int .i64 0,.string ⟨#[]⟩,.string ⟨#[]⟩,.string ⟨#[]⟩])⟩
 case round =>
  obtain ⟨i,S,hil,rfl,HS,HB,HK,HM⟩:=hrel
  have hgd:=st_guard
  by_cases hlt:i < l.length
  ·by_cases hS0:S = s0 0
   ·subst hS0
    replace HK:Hid (Blk wr w.heap.size 74 [.int .i64 0,.string ⟨#[]⟩,.string ⟨#[]⟩,.string ⟨#[]⟩]):=HK
    have heq:∀ W,(binOp .eql 74 (.agg #[.int .i64 0,.string ⟨#[]⟩,.string ⟨#[]⟩,.string ⟨#[]⟩]) (.agg #[.int .i64 0,.string ⟨#[]⟩,.string ⟨#[]⟩,.string ⟨#[]⟩])).run Tryz.prog W = .ok (.bool true) W:=fun W => (st_eql (s0 0) (s0 0) W).trans (by rw [(stB_iff _ _).2 rfl])
    have hIX:=fun W => indexAny_c ((ofL l).extract i l.length) W
    rw [toL_dropx] at hIX
    rcases index_cases (l.drop i) with ⟨hJ,hno⟩ | ⟨j,hJ,hc,hno⟩
    ·rw [hJ] at hIX
     have HIX:=hid hIX
     have hRS:R = s0 0:=by
      have h:=run_skip (j:=l.length) HS.out.symm fun b hb => hno b (List.mem_of_mem_take hb)
      rw [List.take_of_length_le (by omega)] at h
      rw [HR.out,h]
     subst hRS
     clear hIX hJ hno
     obtain ⟨k0,k1,k2,k3⟩:=cells4 HK.out
     obtain ⟨m0,m1,m2,m3⟩:=cells4 HM.out
     obtain ⟨y0,y1,y2,y3⟩:=frees4 HM.out
     go_wp2_with (go_at_call 104;((with_reducible refine (HIX.out _).mono ?_);rintro e w' ⟨rfl,hw⟩;rw [hw];clear hw w'))
     (with_reducible apply pst_set (k:=4) (g:=w.heap.size + 1))
     case hf => rfl
     case hp => rfl
     case hB => exact HM.out
     case hb => exact HB.out
     case hg => omega
     rfl
    ·rw [hJ] at hIX
     have HIX:=hid hIX
     have hcm:l[i + j]? = some 60:=by rw [List.getElem?_drop] at hc;exact hc
     have hml:i + j < l.length:=(List.getElem?_eq_some_iff.1 hcm).1
     obtain ⟨T,hT⟩:∃ T,T = stepS (s0 0) 60:=⟨_,rfl⟩
     have HT:=hid (show T = runS s (l.take (i + j + 1)) by rw [runS_take hcm,run_skip HS.out.symm hno];exact hT)
     have HPS:Hid (∀ W,Calls Tryz.prog 105 #[.agg #[.int .i64 0,.string ⟨#[]⟩,.string ⟨#[]⟩,.string ⟨#[]⟩],.int .u8 60] W (SvV (.agg #[.int .i64 (T.c:Nat),.string (ofL T.n),.string (ofL T.a),.string (ofL T.p)]) W)):=hid (fun W => by have h:=pstep_c (s0 0) Inv.init 60 W;rw [← hT] at h;exact h)
     have f5:∀ W,(Instr.index 9 (.string (ofL l)) (.int .i64 ((i:Int) + (j:Int)))).run Tryz.prog W = .ok (.int .u8 60) W:=fun W => by have h:=run_index_ofL l (i + j) 60 hcm W;rw [Int.natCast_add] at h;exact h
     clear hIX hJ hno hc hcm hT
     obtain ⟨k0,k1,k2,k3⟩:=cells4 HK.out
     go_wp2_with (go_at_call 104;((with_reducible refine (HIX.out _).mono ?_);rintro e w' ⟨rfl,hw⟩;rw [hw];clear hw w'))
     clear k0 k1 k2 k3
     refine region_begin (T:=[w.heap.size]) (by kernel_rfl) ?_
     have HBd:=hid (HB.out.trans (Bel.drew _))
     have HKd:=hid HK.out.drew
     have HMd:=hid HM.out.drew
     generalize wr.drew = W at HBd HKd HMd ⊢
     refine region_seg [false,true,true,true] 3 (by kernel_rfl) (by kernel_rfl) (by kernel_rfl) rfl (fun _ _ d _ _ h => by cases d <;> exact h) ?_
     repeat (first | with_reducible refine wpMask_pass ?_ | (refine wpMask_want (by rfl) (fun K hK => ?_);go_big_quiet_op;refine hK _ ?_;clear hK K))
     with_reducible refine wpMask_nil ?_
     obtain ⟨k0,k1,k2,k3⟩:=cells4 HKd.out
     refine region_make 0 (v:=.agg #[.int .i64 0,.string ⟨#[]⟩,.string ⟨#[]⟩,.string ⟨#[]⟩]) (w1:=W) (by kernel_rfl) rfl (by rfl) (by go_simp) (Only.refl _ _) ?_
     simp only [List.getElem_toArray,List.getElem_cons_zero,List.getElem_cons_succ,Act.put,List.setIfInBounds_toArray,List.set_cons_zero,List.set_cons_succ]
     refine region_call 4 (by kernel_rfl) rfl (by rfl) (by go_simp;exact ⟨rfl,rfl⟩) ?_
     (with_reducible refine (HPS.out _).mono ?_);rintro e w2 ⟨rfl,hb⟩;refine ⟨_,rfl,(Only.refl _ W).join (bel_only hb) (by simp),?_⟩
     simp only [List.getElem_toArray,List.getElem_cons_zero,List.getElem_cons_succ,Act.put,List.setIfInBounds_toArray,List.set_cons_zero,List.set_cons_succ]
     have HB2:=hid (HBd.out.trans hb)
     have HK2:=hid (HKd.out.belh hb)
     have HM2:=hid (HMd.out.belh hb)
     clear hb k0 k1 k2 k3
     obtain ⟨k0,k1,k2,k3⟩:=cells4 HK2.out
     obtain ⟨y0,y1,y2,y3⟩:=frees4 HK2.out
     have hP:Only [w.heap.size] w2 ((((w2.setCell ⟨w.heap.size,0,none⟩ (.int .i64 (T.c:Nat))).setCell ⟨w.heap.size,1,none⟩ (.string (ofL T.n))).setCell ⟨w.heap.size,2,none⟩ (.string (ofL T.a))).setCell ⟨w.heap.size,3,none⟩ (.string (ofL T.p))):=((((Only.refl [w.heap.size] w2).setCell (.inl (by simp)) _).setCell (.inl (by simp)) _).setCell (.inl (by simp)) _).setCell (.inl (by simp)) _
     have hK4:=(((HK2.out.set_ 0 (.int .i64 (T.c:Nat))).set_ 1 (.string (ofL T.n))).set_ 2 (.string (ofL T.a))).set_ 3 (.string (ofL T.p))
     simp only [List.set_cons_succ,List.set_cons_zero] at hK4
     have HK4:=hid hK4
     have HM4:=hid (HM2.out.only hP (by simp))
     have HB4:=hid (show Bel w _ from hP.below HB2.out (by have:=HB2.out.size;omega) (by simp))
     refine region_store 5 (w1:=((((w2.setCell ⟨w.heap.size,0,none⟩ (.int .i64 (T.c:Nat))).setCell ⟨w.heap.size,1,none⟩ (.string (ofL T.n))).setCell ⟨w.heap.size,2,none⟩ (.string (ofL T.a))).setCell ⟨w.heap.size,3,none⟩ (.string (ofL T.p)))) (by kernel_rfl) rfl (by rfl) (by go_simp) hP ?_
     simp only [List.getElem_toArray,List.getElem_cons_zero,List.getElem_cons_succ,Act.put,List.setIfInBounds_toArray,List.set_cons_zero,List.set_cons_succ]
     refine region_end (by kernel_rfl) ?_
     clear k0 k1 k2 k3 y0 y1 y2 y3 hP hK4
     generalize ((((w2.setCell ⟨w.heap.size,0,none⟩ (.int .i64 (T.c:Nat))).setCell ⟨w.heap.size,1,none⟩ (.string (ofL T.n))).setCell ⟨w.heap.size,2,none⟩ (.string (ofL T.a))).setCell ⟨w.heap.size,3,none⟩ (.string (ofL T.p))) = w4 at HK4 HM4 HB4 ⊢
     go_wp2_with fail
     go_roundw
     case rel => exact ⟨(i + j) + 1,T,by omega,by go_num,HT,HB4,HK4,HM4⟩
     case measure => simp [intOf];omega
   ·have hI:Inv S:=by rw [HS.out];exact inv_run HI.out _
    have heq:∀ W,(binOp .eql 74 (.agg #[.int .i64 (S.c:Nat),.string (ofL S.n),.string (ofL S.a),.string (ofL S.p)]) (.agg #[.int .i64 0,.string ⟨#[]⟩,.string ⟨#[]⟩,.string ⟨#[]⟩])).run Tryz.prog W = .ok (.bool false) W:=fun W => (st_eql S (s0 0) W).trans (by rw [show stB S (s0 0) = false from by rw [← Bool.not_eq_true,stB_iff];exact hS0])
    obtain ⟨c,hc⟩:∃ c,l[i]? = some c:=⟨_,List.getElem?_eq_getElem hlt⟩
    have f5:=fun W => run_index_ofL l i c hc W
    obtain ⟨T,hT⟩:∃ T,T = stepS S c:=⟨_,rfl⟩
    have HT:=hid (show T = runS s (l.take (i + 1)) by rw [runS_take hc,← HS.out];exact hT)
    have HPS:Hid (∀ W,Calls Tryz.prog 105 #[.agg #[.int .i64 (S.c:Nat),.string (ofL S.n),.string (ofL S.a),.string (ofL S.p)],.int .u8 c.toNat] W (SvV (.agg #[.int .i64 (T.c:Nat),.string (ofL T.n),.string (ofL T.a),.string (ofL T.p)]) W)):=hid (fun W => by have h:=pstep_c S hI c W;rw [← hT] at h;exact h)
    clear hc hI hT hS0
    obtain ⟨k0,k1,k2,k3⟩:=cells4 HK.out
    go_wp2_with fail
    clear k0 k1 k2 k3
    refine region_begin (T:=[w.heap.size]) (by kernel_rfl) ?_
    have HBd:=hid (HB.out.trans (Bel.drew _))
    have HKd:=hid HK.out.drew
    have HMd:=hid HM.out.drew
    generalize wr.drew = W at HBd HKd HMd ⊢
    refine region_seg [false,true,true,true] 3 (by kernel_rfl) (by kernel_rfl) (by kernel_rfl) rfl (fun _ _ d _ _ h => by cases d <;> exact h) ?_
    repeat (first | with_reducible refine wpMask_pass ?_ | (refine wpMask_want (by rfl) (fun K hK => ?_);go_big_quiet_op;refine hK _ ?_;clear hK K))
    with_reducible refine wpMask_nil ?_
    obtain ⟨k0,k1,k2,k3⟩:=cells4 HKd.out
    refine region_make 0 (v:=.agg #[.int .i64 (S.c:Nat),.string (ofL S.n),.string (ofL S.a),.string (ofL S.p)]) (w1:=W) (by kernel_rfl) rfl (by rfl) (by go_simp) (Only.refl _ _) ?_
    simp only [List.getElem_toArray,List.getElem_cons_zero,List.getElem_cons_succ,Act.put,List.setIfInBounds_toArray,List.set_cons_zero,List.set_cons_succ]
    refine region_call 4 (by kernel_rfl) rfl (by rfl) (by go_simp;exact ⟨rfl,rfl⟩) ?_
    (with_reducible refine (HPS.out _).mono ?_);rintro e w2 ⟨rfl,hb⟩;refine ⟨_,rfl,(Only.refl _ W).join (bel_only hb) (by simp),?_⟩
    simp only [List.getElem_toArray,List.getElem_cons_zero,List.getElem_cons_succ,Act.put,List.setIfInBounds_toArray,List.set_cons_zero,List.set_cons_succ]
    have HB2:=hid (HBd.out.trans hb)
    have HK2:=hid (HKd.out.belh hb)
    have HM2:=hid (HMd.out.belh hb)
    clear hb k0 k1 k2 k3
    obtain ⟨k0,k1,k2,k3⟩:=cells4 HK2.out
    obtain ⟨y0,y1,y2,y3⟩:=frees4 HK2.out
    have hP:Only [w.heap.size] w2 ((((w2.setCell ⟨w.heap.size,0,none⟩ (.int .i64 (T.c:Nat))).setCell ⟨w.heap.size,1,none⟩ (.string (ofL T.n))).setCell ⟨w.heap.size,2,none⟩ (.string (ofL T.a))).setCell ⟨w.heap.size,3,none⟩ (.string (ofL T.p))):=((((Only.refl [w.heap.size] w2).setCell (.inl (by simp)) _).setCell (.inl (by simp)) _).setCell (.inl (by simp)) _).setCell (.inl (by simp)) _
    have hK4:=(((HK2.out.set_ 0 (.int .i64 (T.c:Nat))).set_ 1 (.string (ofL T.n))).set_ 2 (.string (ofL T.a))).set_ 3 (.string (ofL T.p))
    simp only [List.set_cons_succ,List.set_cons_zero] at hK4
    have HK4:=hid hK4
    have HM4:=hid (HM2.out.only hP (by simp))
    have HB4:=hid (show Bel w _ from hP.below HB2.out (by have:=HB2.out.size;omega) (by simp))
    refine region_store 5 (w1:=((((w2.setCell ⟨w.heap.size,0,none⟩ (.int .i64 (T.c:Nat))).setCell ⟨w.heap.size,1,none⟩ (.string (ofL T.n))).setCell ⟨w.heap.size,2,none⟩ (.string (ofL T.a))).setCell ⟨w.heap.size,3,none⟩ (.string (ofL T.p)))) (by kernel_rfl) rfl (by rfl) (by go_simp) hP ?_
    simp only [List.getElem_toArray,List.getElem_cons_zero,List.getElem_cons_succ,Act.put,List.setIfInBounds_toArray,List.set_cons_zero,List.set_cons_succ]
    refine region_end (by kernel_rfl) ?_
    clear k0 k1 k2 k3 y0 y1 y2 y3 hP hK4
    generalize ((((w2.setCell ⟨w.heap.size,0,none⟩ (.int .i64 (T.c:Nat))).setCell ⟨w.heap.size,1,none⟩ (.string (ofL T.n))).setCell ⟨w.heap.size,2,none⟩ (.string (ofL T.a))).setCell ⟨w.heap.size,3,none⟩ (.string (ofL T.p))) = w4 at HK4 HM4 HB4 ⊢
    go_wp2_with fail
    go_roundw
    case rel => exact ⟨i + 1,T,by omega,by go_num,HT,HB4,HK4,HM4⟩
    case measure => simp [intOf];omega
  ·obtain rfl:i = l.length:=by omega
   have hRS:S = R:=by have h:=HS.out;rw [List.take_length] at h;rw [h,HR.out]
   rw [hRS] at HK
   obtain ⟨k0,k1,k2,k3⟩:=cells4 HK.out
   obtain ⟨m0,m1,m2,m3⟩:=cells4 HM.out
   obtain ⟨y0,y1,y2,y3⟩:=frees4 HM.out
   go_wp2_with fail
   (with_reducible apply pst_set (k:=4) (g:=w.heap.size + 1))
   case hf => rfl
   case hp => rfl
   case hB => exact HM.out
   case hb => exact HB.out
   case hg => omega
   rfl
theorem pesc_c (s:HS) (hi:Inv s) (w:World):Calls Tryz.prog 106 #[s.val] w fun e w' => e = .returned (.tuple #[.int .i64 (escS s).1,.bool (escS s).2])∧Bel w w':=by
 rw [escS_w]
 unfold HS.val
 obtain ⟨k,hk⟩:∃ q,q = (s.c:Int):=⟨_,rfl⟩
 rw [← hk]
 generalize s.p = p
 generalize ofL s.n = n
 generalize ofL s.a = a
 clear hk
 unfold stV
 go_enter Tryz.func106,Tryz.ntmps106
 go_wp2_with fail
 all_goals go_ret2
 all_goals refine ⟨?_,Bel.alloc _ _⟩
 all_goals first
  | (simp only [*,if_true,if_false,Bool.false_eq_true,true_or,or_true,or_self];rfl)
  | (exfalso;simp_all;done)
  | trace_state
end
section
open Go.RowKit Go.BigFrame NT
theorem rnode_range (s:HS) (hi:Inv s) (x:NT) (w:World) (hx:x.In w (Lt w)) (hk:x.k = 3) (hbody:∀ W,Bel w W→Calls Tryz.prog 70 #[.agg #[.int .i64 (s.c:Nat),.string (ofL s.n),.string (ofL s.a),.string (ofL s.p)],.slice x.A x.b.length x.c] W (RnP (listI s x.b) 0 W)):Calls Tryz.prog 93 #[.agg #[.int .i64 (s.c:Nat),.string (ofL s.n),.string (ofL s.a),.string (ofL s.p)],nV x] w (RnP (nodeI s x) x.a w):=by
 have k0:(x.k == 0) = false:=by rw [hk];rfl
 have k1:(x.k == 1) = false:=by rw [hk];rfl
 have k2:(x.k == 2) = false:=by rw [hk];rfl
 have k3:(x.k == 3) = true:=by rw [hk];rfl
 rw [nodeI_eq,if_neg (by rw [hk];decide),if_neg (by rw [hk];decide),if_neg (by rw [hk];decide),if_pos hk]
 have HN:=hid (nd_start w s x)
 cases hr:listI s x.b with
 | no a1 e1 =>
  rw [hr] at hbody
  have HL:=hid hbody
  have he:=listI_err hr
  have hk0:(e1:Int) ≠ 0:=by omega
  have hk1:((e1:Int) != 0) = true:=bne_iff_ne.2 hk0
  have HE:=hid he
  clear hbody hr hi hx hk he
  rw [IR.next_no]
  go_enter Tryz.func93,Tryz.ntmps93
  go_wp2_with (go_at_call 70;((with_reducible refine (HL.out _ HN.out.bel).mono ?_);rintro e w2 ⟨hb,t1,A1,n1,c1,a1',e1',rfl,hq⟩;obtain ⟨rfl,rfl,hne⟩:=hq.out;have HN2:=hid ((HN.out.later hb).later (Bel.alloc w2 (.cells #[.int .i64 (t1.c:Nat),.string (ofL t1.n),.string (ofL t1.a),.string (ofL t1.p),.slice A1 n1 c1,.int .i64 a1',.int .i64 e1] 155)));clear hb hq hne;obtain ⟨y0,y1,y2,y3,y4,y5,y6⟩:=frees7 HN2.out.b3;obtain ⟨u0,u1,u2,u3,u4,u5,u6⟩:=frees7 HN2.out.b2;obtain ⟨c0,c1,c2,c3,c4,c5,c6⟩:=cells7 HN2.out.b3;obtain ⟨d0,d1,d2,d3,d4,d5,d6⟩:=cells7 HN2.out.b2))
  (with_reducible apply nd_end)
  case hf => rfl
  case hp => rfl
  case hN => exact HN2.out
  case hO => (repeat with_reducible refine Only.setCell ?_ (.inl (by simp)) _);exact Only.refl _ _
  case he => intro W2 hO2;exact ⟨t1,_,_,_,_,_,rfl,hid ⟨rfl,rfl,by have:=HE.out;omega⟩⟩
 | ok s1 es1 =>
  rw [hr] at hbody
  have HL:=hid hbody
  rw [IR.next_ok]
  clear hbody hr hi hx hk
  have hgr:=rst_guard16
  cases hq:eqH s1 s with
  | true =>
   have hcmp:∀ W,(binOp .neq 153 (.agg #[.int .i64 (s1.c:Nat),.string (ofL s1.n),.string (ofL s1.a),.string (ofL s1.p)]) (.agg #[.int .i64 (s.c:Nat),.string (ofL s.n),.string (ofL s.a),.string (ofL s.p)])).run Tryz.prog W = .ok (.bool false) W:=fun W => by have h:=rst_neq s1 s W;rw [hq] at h;exact h
   clear hq
   rw [if_pos rfl]
   go_enter Tryz.func93,Tryz.ntmps93
   go_wp2_with (go_at_call 70;((with_reducible refine (HL.out _ HN.out.bel).mono ?_);rintro e w2 ⟨hb,t1,A1,n1,c1,a1',e1',rfl,hq1⟩;obtain ⟨rfl,rfl,rfl,hes⟩:=hq1.out;have HE:=hid ((hes.since (HN.out.bel.size)).later (Bel.alloc w2 (.cells #[.int .i64 (t1.c:Nat),.string (ofL t1.n),.string (ofL t1.a),.string (ofL t1.p),.slice A1 n1 c1,.int .i64 0,.int .i64 0] 155)));have HN2:=hid ((HN.out.later hb).later (Bel.alloc w2 (.cells #[.int .i64 (t1.c:Nat),.string (ofL t1.n),.string (ofL t1.a),.string (ofL t1.p),.slice A1 n1 c1,.int .i64 0,.int .i64 0] 155)));clear hb hq1 hes;obtain ⟨y0,y1,y2,y3,y4,y5,y6⟩:=frees7 HN2.out.b3;obtain ⟨u0,u1,u2,u3,u4,u5,u6⟩:=frees7 HN2.out.b2;obtain ⟨c0,c1,c2,c3,c4,c5,c6⟩:=cells7 HN2.out.b3;obtain ⟨d0,d1,d2,d3,d4,d5,d6⟩:=cells7 HN2.out.b2;obtain ⟨s0',s1',s2',s3'⟩:=cells4 HN2.out.b0))
   (with_reducible apply nd_end)
   case hf => rfl
   case hp => rfl
   case hN => exact HN2.out
   case hO => (repeat with_reducible refine Only.setCell ?_ (.inl (by simp)) _);exact Only.refl _ _
   case he => intro W2 hO2;exact ⟨s,_,_,_,_,_,rfl,hid ⟨rfl,rfl,rfl,HE.out.only hO2 (fun k hk hm => by have h1:=HE.out.blk HN2.out.b2 (by decide);have h2:=HE.out.blk HN2.out.b3 (by decide);simp at hm;rcases hm with rfl | rfl;exact h1 hk;exact h2 hk)⟩⟩
  | false =>
   have hcmp:∀ W,(binOp .neq 153 (.agg #[.int .i64 (s1.c:Nat),.string (ofL s1.n),.string (ofL s1.a),.string (ofL s1.p)]) (.agg #[.int .i64 (s.c:Nat),.string (ofL s.n),.string (ofL s.a),.string (ofL s.p)])).run Tryz.prog W = .ok (.bool true) W:=fun W => by have h:=rst_neq s1 s W;rw [hq] at h;exact h
   clear hq
   rw [if_neg (by decide)]
   go_enter Tryz.func93,Tryz.ntmps93
   go_wp2_with (go_at_call 70;((with_reducible refine (HL.out _ HN.out.bel).mono ?_);rintro e w2 ⟨hb,t1,A1,n1,c1,a1',e1',rfl,hq1⟩;obtain ⟨rfl,rfl,rfl,hes⟩:=hq1.out;have HE:=hid ((hes.since (HN.out.bel.size)).later (Bel.alloc w2 (.cells #[.int .i64 (t1.c:Nat),.string (ofL t1.n),.string (ofL t1.a),.string (ofL t1.p),.slice A1 n1 c1,.int .i64 0,.int .i64 0] 155)));have HN2:=hid ((HN.out.later hb).later (Bel.alloc w2 (.cells #[.int .i64 (t1.c:Nat),.string (ofL t1.n),.string (ofL t1.a),.string (ofL t1.p),.slice A1 n1 c1,.int .i64 0,.int .i64 0] 155)));clear hb hq1 hes;obtain ⟨y0,y1,y2,y3,y4,y5,y6⟩:=frees7 HN2.out.b3;obtain ⟨u0,u1,u2,u3,u4,u5,u6⟩:=frees7 HN2.out.b2;obtain ⟨c0,c1,c2,c3,c4,c5,c6⟩:=cells7 HN2.out.b3;obtain ⟨d0,d1,d2,d3,d4,d5,d6⟩:=cells7 HN2.out.b2;obtain ⟨s0',s1',s2',s3'⟩:=cells4 HN2.out.b0))
   (with_reducible apply nd_end)
   case hf => rfl
   case hp => rfl
   case hN => exact HN2.out
   case hO => (repeat with_reducible refine Only.setCell ?_ (.inl (by simp)) _);exact Only.refl _ _
   case he => intro W2 hO2;exact ⟨s,_,_,_,_,_,rfl,hid ⟨rfl,rfl,by decide⟩⟩
end
end Go.Proofs.YtpcapmdfjmpdiaaGreatDoor
