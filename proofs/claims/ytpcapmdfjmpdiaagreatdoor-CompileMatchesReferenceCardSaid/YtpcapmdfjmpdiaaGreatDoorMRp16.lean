/- The reference of layer 16: node for an If. -/
import Derived.Test.YtpcapmdfjmpdiaaGreatDoorMRn16
set_option linter.unusedVariables false
set_option linter.unusedSimpArgs false
set_option maxRecDepth 100000
set_option maxHeartbeats 6400000
open Go.Lib (hid)
namespace Go.Proofs.YtpcapmdfjmpdiaaGreatDoor
open Go.RowKit Go.BigFrame NT
theorem rnode_if (s:HS) (hi:Inv s) (x:NT) (w:World) (hx:x.In w (Lt w)) (hk:x.k = 2∧x.tot≤100000) (hbody:∀ W,Bel w W→Calls Tryz.prog 70 #[.agg #[.int .i64 (s.c:Nat),.string (ofL s.n),.string (ofL s.a),.string (ofL s.p)],.slice x.A x.b.length x.c] W (RnP (listI s x.b) 0 W)) (helse:∀ W,Bel w W→Calls Tryz.prog 70 #[.agg #[.int .i64 (s.c:Nat),.string (ofL s.n),.string (ofL s.a),.string (ofL s.p)],.slice x.B x.l.length x.d] W (RnP (listI s x.l) 0 W)):Calls Tryz.prog 93 #[.agg #[.int .i64 (s.c:Nat),.string (ofL s.n),.string (ofL s.a),.string (ofL s.p)],nV x] w (RnP (nodeI s x) x.a w):=by
 obtain ⟨hk,htot⟩:=hk
 have k0:(x.k == 0) = false:=by rw [hk];rfl
 have k1:(x.k == 1) = false:=by rw [hk];rfl
 have k2:(x.k == 2) = true:=by rw [hk];rfl
 rw [nodeI_eq,if_neg (by rw [hk];decide),if_neg (by rw [hk];decide),if_pos hk]
 have HN:=hid (nd_start w s x)
 rw [tot_eq] at htot
 cases hr:listI s x.b with
 | no a1 e1 =>
  rw [hr] at hbody
  have HL:=hid hbody
  have he:=listI_err hr
  have hk0:(e1:Int) ≠ 0:=by omega
  have hk1:((e1:Int) != 0) = true:=bne_iff_ne.2 hk0
  have HE:=hid he
  clear hbody helse htot hr hi hx hk he
  rw [IR.next_no]
  go_enter Tryz.func93,Tryz.ntmps93
  go_wp2_with (go_at_call 70;((with_reducible refine (HL.out _ HN.out.bel).mono ?_);rintro e w2 ⟨hb,t1,A1,n1,c1,a1',e1',rfl,hq⟩;obtain ⟨rfl,rfl,hne⟩:=hq.out;have HN2:=hid ((HN.out.later hb).later (Bel.alloc w2 (.cells #[.int .i64 (t1.c:Nat),.string (ofL t1.n),.string (ofL t1.a),.string (ofL t1.p),.slice A1 n1 c1,.int .i64 a1',.int .i64 e1] 155)));clear hb hq hne;obtain ⟨y0,y1,y2,y3,y4,y5,y6⟩:=frees7 HN2.out.b3;obtain ⟨u0,u1,u2,u3,u4,u5,u6⟩:=frees7 HN2.out.b2;obtain ⟨c0,c1,c2,c3,c4,c5,c6⟩:=cells7 HN2.out.b3;obtain ⟨d0,d1,d2,d3,d4,d5,d6⟩:=cells7 HN2.out.b2))
  (with_reducible apply nd_end)
  case hf => rfl
  case hp => rfl
  case hN => exact HN2.out
  case hO => (repeat with_reducible refine Only.setCell ?_ (.inl (by simp)) _);exact Only.refl _ _
  case he => intro W2 hO2;exact ⟨t1,_,_,_,_,_,rfl,hid ⟨rfl,rfl,by have:=HE.out;omega⟩⟩
 | ok s1 es1 =>
  rw [hr] at hbody
  rw [IR.next_ok]
  have hle1:=listI_le hr
  have HLB:=hid hbody
  have hgr:=rst_guard16
  cases hr2:listI s x.l with
  | no a1 e1 =>
   rw [hr2] at helse
   have HLE:=hid helse
   have he:=listI_err hr2
   have hk0:(e1:Int) ≠ 0:=by omega
   have hk1:((e1:Int) != 0) = true:=bne_iff_ne.2 hk0
   have HE:=hid he
   clear hbody helse htot hle1 hr hr2 hi hx hk he
   rw [IR.next_no]
   go_enter Tryz.func93,Tryz.ntmps93
   go_wp2_with (first
    | (go_at_call 70;((with_reducible refine (HLB.out _ HN.out.bel).mono ?_);rintro e w2 ⟨hb,t1,A1,n1,c1,a1',e1',rfl,hq1⟩;obtain ⟨rfl,rfl,rfl,hes⟩:=hq1.out;have HE1:=hid ((hes.since (HN.out.bel.size)).later (Bel.alloc w2 (.cells #[.int .i64 (t1.c:Nat),.string (ofL t1.n),.string (ofL t1.a),.string (ofL t1.p),.slice A1 n1 c1,.int .i64 0,.int .i64 0] 155)));have HNa:=hid (HN.out.later hb);have HN2:=hid (HNa.out.later (Bel.alloc w2 (.cells #[.int .i64 (t1.c:Nat),.string (ofL t1.n),.string (ofL t1.a),.string (ofL t1.p),.slice A1 n1 c1,.int .i64 0,.int .i64 0] 155)));have H8:=hid (Blk.new w2 155 (rsC t1 A1 n1 c1 0 0));clear hb hq1 hes;obtain ⟨s0',s1',s2',s3'⟩:=cells4 HN2.out.b0;obtain ⟨x0',x1',x2',x3',x4',x5',x6',x7'⟩:=cells8_16 HN2.out.b1))
    | (go_at_call 70;((with_reducible refine (HLE.out _ HN2.out.bel).mono ?_);rintro e w4 ⟨hb,t2,A2,n2,c2,a2',e2',rfl,hq⟩;obtain ⟨rfl,rfl,hne⟩:=hq.out;have HN4:=hid ((HN2.out.later hb).later (Bel.alloc w4 (.cells #[.int .i64 (t2.c:Nat),.string (ofL t2.n),.string (ofL t2.a),.string (ofL t2.p),.slice A2 n2 c2,.int .i64 a2',.int .i64 e1] 155)));clear hb hq hne;obtain ⟨y0,y1,y2,y3,y4,y5,y6⟩:=frees7 HN4.out.b3;obtain ⟨u0,u1,u2,u3,u4,u5,u6⟩:=frees7 HN4.out.b2;obtain ⟨c0,c1,c2,c3,c4,c5,c6⟩:=cells7 HN4.out.b3;obtain ⟨d0,d1,d2,d3,d4,d5,d6⟩:=cells7 HN4.out.b2)))
   (with_reducible apply nd_end)
   case hf => rfl
   case hp => rfl
   case hN => exact HN4.out
   case hO => (repeat with_reducible refine Only.setCell ?_ (.inl (by simp)) _);exact Only.refl _ _
   case he => intro W2 hO2;exact ⟨t2,_,_,_,_,_,rfl,hid ⟨rfl,rfl,by have:=HE.out;omega⟩⟩
  | ok s2 es2 =>
   rw [hr2] at helse
   rw [IR.next_ok]
   have hle2:=listI_le hr2
   have HLE:=hid helse
   have HLE2:=hid (show es1.length + es2.length≤100000 by omega)
   clear hbody helse htot hle1 hle2 hr hr2 hi hx hk
   obtain ⟨i0,hi,hz0,hz1,hz2⟩:=info_int16
   have HI0:=hid hi
   have HZ0:=hid hz0
   have HZ1:=hid hz1
   have HZ2:=hid hz2
   clear hi hz0 hz1 hz2
   cases hq:eqH s1 s2 with
   | true =>
    have hcmp:∀ W,(binOp .neq 153 (.agg #[.int .i64 (s1.c:Nat),.string (ofL s1.n),.string (ofL s1.a),.string (ofL s1.p)]) (.agg #[.int .i64 (s2.c:Nat),.string (ofL s2.n),.string (ofL s2.a),.string (ofL s2.p)])).run Tryz.prog W = .ok (.bool false) W:=fun W => by have h:=rst_neq s1 s2 W;rw [hq] at h;exact h
    clear hq
    rw [if_pos rfl]
    go_enter Tryz.func93,Tryz.ntmps93
    go_wp2_with (first
     | (go_at_call 70;((with_reducible refine (HLB.out _ HN.out.bel).mono ?_);rintro e w2 ⟨hb,t1,A1,n1,c1,a1',e1',rfl,hq1⟩;obtain ⟨rfl,rfl,rfl,hes⟩:=hq1.out;have HE1:=hid ((hes.since (HN.out.bel.size)).later (Bel.alloc w2 (.cells #[.int .i64 (t1.c:Nat),.string (ofL t1.n),.string (ofL t1.a),.string (ofL t1.p),.slice A1 n1 c1,.int .i64 0,.int .i64 0] 155)));have HNa:=hid (HN.out.later hb);have HN2:=hid (HNa.out.later (Bel.alloc w2 (.cells #[.int .i64 (t1.c:Nat),.string (ofL t1.n),.string (ofL t1.a),.string (ofL t1.p),.slice A1 n1 c1,.int .i64 0,.int .i64 0] 155)));have H8:=hid (Blk.new w2 155 (rsC t1 A1 n1 c1 0 0));clear hb hq1 hes;obtain ⟨s0',s1',s2',s3'⟩:=cells4 HN2.out.b0;obtain ⟨x0',x1',x2',x3',x4',x5',x6',x7'⟩:=cells8_16 HN2.out.b1))
     | (go_at_call 70;((with_reducible refine (HLE.out _ HN2.out.bel).mono ?_);rintro e w4 ⟨hb,t2,A2,n2,c2,a2',e2',rfl,hq2⟩;obtain ⟨rfl,rfl,rfl,hes⟩:=hq2.out;have HE2:=hid ((hes.since (HN2.out.bel.size)).later (Bel.alloc w4 (.cells #[.int .i64 (t2.c:Nat),.string (ofL t2.n),.string (ofL t2.a),.string (ofL t2.p),.slice A2 n2 c2,.int .i64 0,.int .i64 0] 155)));have HE3:=hid ((HE1.out.later hb).later (Bel.alloc w4 (.cells #[.int .i64 (t2.c:Nat),.string (ofL t2.n),.string (ofL t2.a),.string (ofL t2.p),.slice A2 n2 c2,.int .i64 0,.int .i64 0] 155)));have HN5:=hid ((HN2.out.later hb).later (Bel.alloc w4 (.cells #[.int .i64 (t2.c:Nat),.string (ofL t2.n),.string (ofL t2.a),.string (ofL t2.p),.slice A2 n2 c2,.int .i64 0,.int .i64 0] 155)));have H85:=hid ((H8.out.belh hb).belh (Bel.alloc w4 (.cells #[.int .i64 (t2.c:Nat),.string (ofL t2.n),.string (ofL t2.a),.string (ofL t2.p),.slice A2 n2 c2,.int .i64 0,.int .i64 0] 155)));have H9:=hid (Blk.new w4 155 (rsC t2 A2 n2 c2 0 0));have HX:=hid (show w2.heap.size ≠ w.heap.size + 1 + 1 + 1∧w4.heap.size ≠ w.heap.size + 1 + 1 + 1 by have h1:=HNa.out.b3.lt;have h2:=(HN2.out.later hb).b3.lt;omega);clear hb hq2 hes;obtain ⟨y0,y1,y2,y3,y4,y5,y6⟩:=frees7 HN5.out.b3;obtain ⟨u0,u1,u2,u3,u4,u5,u6⟩:=frees7 HN5.out.b2;obtain ⟨c0,c1,c2,c3,c4,c5,c6⟩:=cells7 HN5.out.b3;obtain ⟨d0,d1,d2,d3,d4,d5,d6⟩:=cells7 HN5.out.b2;obtain ⟨p0,p1,p2,p3,p4,p5,p6⟩:=cells7 H85.out;obtain ⟨q0,q1,q2,q3,q4,q5,q6⟩:=cells7 H9.out)))
    clear y0 y1 y2 y3 y4 y5 y6 u0 u1 u2 u3 u4 u5 u6 c0 c1 c2 c3 c4 c5 c6 d0 d1 d2 d3 d4 d5 d6 p0 p1 p2 p3 p4 p5 p6 q0 q1 q2 q3 q4 q5 q6 s0' s1' s2' s3' x0' x1' x2' x3' x4' x5' x6' x7'
    have hN6:=((((HN5.out.set 0 (.int .i64 (t1.c:Nat))).set 1 (.string (ofL t1.n))).set 2 (.string (ofL t1.a))).set 3 (.string (ofL t1.p))).later (Bel.drew _)
    simp only [List.set_cons_succ,List.set_cons_zero] at hN6
    have HN6:=hid hN6
    have hO6:Only [w.heap.size + 1 + 1 + 1] (w4.alloc (.cells #[.int .i64 (t2.c:Nat),.string (ofL t2.n),.string (ofL t2.a),.string (ofL t2.p),.slice A2 n2 c2,.int .i64 0,.int .i64 0] 155)) ((((((w4.alloc (.cells #[.int .i64 (t2.c:Nat),.string (ofL t2.n),.string (ofL t2.a),.string (ofL t2.p),.slice A2 n2 c2,.int .i64 0,.int .i64 0] 155))).setCell ⟨w.heap.size + 1 + 1 + 1,0,none⟩ (.int .i64 (t1.c:Nat))).setCell ⟨w.heap.size + 1 + 1 + 1,1,none⟩ (.string (ofL t1.n))).setCell ⟨w.heap.size + 1 + 1 + 1,2,none⟩ (.string (ofL t1.a))).setCell ⟨w.heap.size + 1 + 1 + 1,3,none⟩ (.string (ofL t1.p))).drew:=by
     refine Only.drew ?_
     repeat with_reducible refine Only.setCell ?_ (.inl (by simp)) _
     exact Only.refl _ _
    have HE16:=hid (HE3.out.only hO6 (fun k hk hm => by rw [List.mem_singleton] at hm;subst hm;exact HE3.out.blk HN5.out.b3 (by decide) hk))
    have HE26:=hid (HE2.out.only hO6 (fun k hk hm => by rw [List.mem_singleton] at hm;subst hm;exact HE2.out.blk HN5.out.b3 (by decide) hk))
    have H86:=hid (H85.out.only hO6 (by simpa using HX.out.1))
    have H96:=hid (H9.out.only hO6 (by simpa using HX.out.2))
    clear hN6 hO6
    refine region_begin (T:=[((((((w4.alloc (.cells #[.int .i64 (t2.c:Nat),.string (ofL t2.n),.string (ofL t2.a),.string (ofL t2.p),.slice A2 n2 c2,.int .i64 0,.int .i64 0] 155))).setCell ⟨w.heap.size + 1 + 1 + 1,0,none⟩ (.int .i64 (t1.c:Nat))).setCell ⟨w.heap.size + 1 + 1 + 1,1,none⟩ (.string (ofL t1.n))).setCell ⟨w.heap.size + 1 + 1 + 1,2,none⟩ (.string (ofL t1.a))).setCell ⟨w.heap.size + 1 + 1 + 1,3,none⟩ (.string (ofL t1.p))).drew.heap.size,((((((w4.alloc (.cells #[.int .i64 (t2.c:Nat),.string (ofL t2.n),.string (ofL t2.a),.string (ofL t2.p),.slice A2 n2 c2,.int .i64 0,.int .i64 0] 155))).setCell ⟨w.heap.size + 1 + 1 + 1,0,none⟩ (.int .i64 (t1.c:Nat))).setCell ⟨w.heap.size + 1 + 1 + 1,1,none⟩ (.string (ofL t1.n))).setCell ⟨w.heap.size + 1 + 1 + 1,2,none⟩ (.string (ofL t1.a))).setCell ⟨w.heap.size + 1 + 1 + 1,3,none⟩ (.string (ofL t1.p))).drew.heap.size + 1,w.heap.size + 1 + 1 + 1]) (by kernel_rfl) ?_
    generalize ((((((w4.alloc (.cells #[.int .i64 (t2.c:Nat),.string (ofL t2.n),.string (ofL t2.a),.string (ofL t2.p),.slice A2 n2 c2,.int .i64 0,.int .i64 0] 155))).setCell ⟨w.heap.size + 1 + 1 + 1,0,none⟩ (.int .i64 (t1.c:Nat))).setCell ⟨w.heap.size + 1 + 1 + 1,1,none⟩ (.string (ofL t1.n))).setCell ⟨w.heap.size + 1 + 1 + 1,2,none⟩ (.string (ofL t1.a))).setCell ⟨w.heap.size + 1 + 1 + 1,3,none⟩ (.string (ofL t1.p))).drew = W at HN6 HE16 HE26 H86 H96 ⊢
    have hi:=HI0.out
    have hz0:=HZ0.out
    have hz1:=HZ1.out
    have hz2:=HZ2.out
    have hle:=HLE2.out
    have h83:=HX.out.1
    have h93:=HX.out.2
    have l8:=H86.out.lt
    have l9:=H96.out.lt
    have cA:∀ X:Later [W.heap.size,W.heap.size + 1,w.heap.size + 1 + 1 + 1] W,X.w.cell? ⟨w2.heap.size,4,none⟩ = some (.slice A1 n1 c1):=fun X => (H86.out.only X.h (by simp;omega)).cell 4
    have cB:∀ X:Later [W.heap.size,W.heap.size + 1,w.heap.size + 1 + 1 + 1] W,X.w.cell? ⟨w4.heap.size,4,none⟩ = some (.slice A2 n2 c2):=fun X => (H96.out.only X.h (by simp;omega)).cell 4
    refine region_seg [false,true,true,false,true,true] 5 (by kernel_rfl) (by kernel_rfl) (by kernel_rfl) rfl (fun _ _ d _ _ h => by cases d <;> exact h) ?_
    repeat (first | with_reducible refine wpMask_pass ?_ | (refine wpMask_want (by rfl) (fun K hK => ?_);go_big_quiet_op;refine hK _ ?_;clear hK K))
    with_reducible refine wpMask_nil ?_
    clear cA cB
    have hn1:=HE16.out.1
    have hn2:=HE26.out.1
    refine region_make 0 (v:=.slice (some ⟨W.heap.size,0,none⟩) 0 0) (w1:=W.alloc (.cells #[] 3)) (by kernel_rfl) rfl (by rfl) (by go_simp) ((Only.refl _ _).alloc _) ?_
    simp only [List.getElem_toArray,List.getElem_cons_zero,List.getElem_cons_succ,Act.put,List.setIfInBounds_toArray,List.set_cons_zero,List.set_cons_succ]
    have hO3:Only [] W (W.alloc (.cells #[] 3)):=(Only.refl [] W).alloc _
    have hrd1:=HE16.out.2.1.reads.only' hO3 (Nat.le_refl _) (by simp)
    refine region_rowAppend_at 3 (by kernel_rfl) rfl (by rfl) (.tmp 65) (.tmp 67) 42 rfl 3 i0 _ 8 Tryz.underlying42 hi hz0 hz1 hz2 rfl (some ⟨W.heap.size,0,none⟩) 0 0 [] rfl (RowAt.of_blk (Blk.new W 3 []) (by simp)) W.heap.size A1 n1 c1 (vin es1) rfl hrd1 (vin_one _) (by unfold maxLen;omega) (by omega) n1 (by omega) (fun g hg => by simp [rowT_some] at hg;simp;omega) ?_
    intro A3 c3 w6 HR1 hO4 HK1 hT1
    simp only [List.getElem_toArray,List.getElem_cons_zero,List.getElem_cons_succ,Act.put,List.setIfInBounds_toArray,List.set_cons_zero,List.set_cons_succ]
    have hw1:Only [] W w6:=hO3.join hO4 (fun k hk => .inr (by simp [rowT_some] at hk;omega))
    have hk1:∀ k,k ∈ rowT A3→k = W.heap.size ∨ k = W.heap.size + 1:=fun k hk => (HK1.out k hk).imp (fun h => by simpa [rowT_some] using h) (fun h => by simpa using h)
    have hrd2:=HE26.out.2.1.reads.only' hw1 (Nat.le_refl _) (by simp)
    refine region_rowAppend_at 6 (by kernel_rfl) rfl (by rfl) (.tmp 68) (.tmp 70) 42 rfl 3 i0 _ 8 Tryz.underlying42 hi hz0 hz1 hz2 rfl A3 n1 c3 _ rfl HR1.out W.heap.size A2 n2 c2 (vin es2) rfl hrd2 (vin_one _) (by unfold maxLen;omega) (by omega) (n1 + n2) rfl (fun g hg => by have:=hk1 g hg;simp;omega) ?_
    intro A4 c4 w7 HR2 hO5 HK2 hT2
    simp only [List.getElem_toArray,List.getElem_cons_zero,List.getElem_cons_succ,Act.put,List.setIfInBounds_toArray,List.set_cons_zero,List.set_cons_succ]
    have hw2:Only [] W w7:=hw1.join hO5 (fun k hk => .inr (by have:=hk1 k hk;omega))
    have hR2:=HR2.out
    rw [List.nil_append,← vin_append] at hR2
    have HN7:=hid (HN6.out.later (bel_of_only hw2))
    have HE4:=hid (show Es w w7 A4 (n1 + n2) c4 (es1 ++ es2) from ⟨by rw [List.length_append,hn1,hn2],hR2,fun k hk => by
     have h1:=HN6.out.bel.size
     have h2:=hw1.size
     rcases HK2.out k hk with h | h
     ·have:=hk1 k h;omega
     ·omega⟩)
    have hN8:=HN7.out.set 4 (.slice A4 (n1 + n2) c4)
    simp only [List.set_cons_succ,List.set_cons_zero] at hN8
    have HN8:=hid hN8
    refine region_seg [false,false,false,false,false,false,false,true] 1 (by kernel_rfl) (by kernel_rfl) (by kernel_rfl) rfl (fun _ _ d _ _ h => by cases d <;> exact h) ?_
    repeat (first | with_reducible refine wpMask_pass ?_ | (refine wpMask_want (by rfl) (fun K hK => ?_);go_big_quiet_op;refine hK _ ?_;clear hK K))
    with_reducible refine wpMask_nil ?_
    have f4:=HN7.out.b3.free 4
    have g4:=HN7.out.b3.cell 4
    refine region_store 8 (w1:=w7.setCell ⟨w.heap.size + 1 + 1 + 1,4,none⟩ (.slice A4 (n1 + n2) c4)) (by kernel_rfl) rfl (by rfl) (by go_simp) ((Only.refl _ _).setCell (.inl (by simp)) _) ?_
    simp only [List.getElem_toArray,List.getElem_cons_zero,List.getElem_cons_succ,Act.put,List.setIfInBounds_toArray,List.set_cons_zero,List.set_cons_succ]
    refine region_end (by kernel_rfl) ?_
    clear f4 g4 hN8 hR2 hw2 hrd2 hk1 hw1 hrd1 hO3 hi hz0 hz1 hz2 hle hn1 hn2 h83 h93 l8 l9 hO4 hT1 hO5 hT2
    obtain ⟨y0,y1,y2,y3,y4,y5,y6⟩:=frees7 HN8.out.b3
    obtain ⟨u0,u1,u2,u3,u4,u5,u6⟩:=frees7 HN8.out.b2
    obtain ⟨c0,c1,c2,c3,c4,c5,c6⟩:=cells7 HN8.out.b3
    obtain ⟨d0,d1,d2,d3,d4,d5,d6⟩:=cells7 HN8.out.b2
    go_wp2_with fail
    (with_reducible apply nd_end)
    case hf => rfl
    case hp => rfl
    case hN => exact HN7.out
    case hO => (repeat with_reducible refine Only.setCell ?_ (.inl (by simp)) _);exact Only.refl _ _
    case he => intro W2 hO2;exact ⟨t1,_,_,_,_,_,rfl,hid ⟨rfl,rfl,rfl,HE4.out.only hO2 (fun k hk hm => by have h1:=HE4.out.blk HN7.out.b2 (by decide);have h2:=HE4.out.blk HN7.out.b3 (by decide);simp at hm;rcases hm with rfl | rfl;exact h1 hk;exact h2 hk)⟩⟩
   | false =>
    have hcmp:∀ W,(binOp .neq 153 (.agg #[.int .i64 (s1.c:Nat),.string (ofL s1.n),.string (ofL s1.a),.string (ofL s1.p)]) (.agg #[.int .i64 (s2.c:Nat),.string (ofL s2.n),.string (ofL s2.a),.string (ofL s2.p)])).run Tryz.prog W = .ok (.bool true) W:=fun W => by have h:=rst_neq s1 s2 W;rw [hq] at h;exact h
    clear hq
    rw [if_neg (by decide)]
    go_enter Tryz.func93,Tryz.ntmps93
    go_wp2_with (first
     | (go_at_call 70;((with_reducible refine (HLB.out _ HN.out.bel).mono ?_);rintro e w2 ⟨hb,t1,A1,n1,c1,a1',e1',rfl,hq1⟩;obtain ⟨rfl,rfl,rfl,hes⟩:=hq1.out;have HE1:=hid ((hes.since (HN.out.bel.size)).later (Bel.alloc w2 (.cells #[.int .i64 (t1.c:Nat),.string (ofL t1.n),.string (ofL t1.a),.string (ofL t1.p),.slice A1 n1 c1,.int .i64 0,.int .i64 0] 155)));have HNa:=hid (HN.out.later hb);have HN2:=hid (HNa.out.later (Bel.alloc w2 (.cells #[.int .i64 (t1.c:Nat),.string (ofL t1.n),.string (ofL t1.a),.string (ofL t1.p),.slice A1 n1 c1,.int .i64 0,.int .i64 0] 155)));have H8:=hid (Blk.new w2 155 (rsC t1 A1 n1 c1 0 0));clear hb hq1 hes;obtain ⟨s0',s1',s2',s3'⟩:=cells4 HN2.out.b0;obtain ⟨x0',x1',x2',x3',x4',x5',x6',x7'⟩:=cells8_16 HN2.out.b1))
     | (go_at_call 70;((with_reducible refine (HLE.out _ HN2.out.bel).mono ?_);rintro e w4 ⟨hb,t2,A2,n2,c2,a2',e2',rfl,hq2⟩;obtain ⟨rfl,rfl,rfl,hes⟩:=hq2.out;have HE2:=hid ((hes.since (HN2.out.bel.size)).later (Bel.alloc w4 (.cells #[.int .i64 (t2.c:Nat),.string (ofL t2.n),.string (ofL t2.a),.string (ofL t2.p),.slice A2 n2 c2,.int .i64 0,.int .i64 0] 155)));have HE3:=hid ((HE1.out.later hb).later (Bel.alloc w4 (.cells #[.int .i64 (t2.c:Nat),.string (ofL t2.n),.string (ofL t2.a),.string (ofL t2.p),.slice A2 n2 c2,.int .i64 0,.int .i64 0] 155)));have HN5:=hid ((HN2.out.later hb).later (Bel.alloc w4 (.cells #[.int .i64 (t2.c:Nat),.string (ofL t2.n),.string (ofL t2.a),.string (ofL t2.p),.slice A2 n2 c2,.int .i64 0,.int .i64 0] 155)));have H85:=hid ((H8.out.belh hb).belh (Bel.alloc w4 (.cells #[.int .i64 (t2.c:Nat),.string (ofL t2.n),.string (ofL t2.a),.string (ofL t2.p),.slice A2 n2 c2,.int .i64 0,.int .i64 0] 155)));have H9:=hid (Blk.new w4 155 (rsC t2 A2 n2 c2 0 0));have HX:=hid (show w2.heap.size ≠ w.heap.size + 1 + 1 + 1∧w4.heap.size ≠ w.heap.size + 1 + 1 + 1 by have h1:=HNa.out.b3.lt;have h2:=(HN2.out.later hb).b3.lt;omega);clear hb hq2 hes;obtain ⟨y0,y1,y2,y3,y4,y5,y6⟩:=frees7 HN5.out.b3;obtain ⟨u0,u1,u2,u3,u4,u5,u6⟩:=frees7 HN5.out.b2;obtain ⟨c0,c1,c2,c3,c4,c5,c6⟩:=cells7 HN5.out.b3;obtain ⟨d0,d1,d2,d3,d4,d5,d6⟩:=cells7 HN5.out.b2;obtain ⟨p0,p1,p2,p3,p4,p5,p6⟩:=cells7 H85.out;obtain ⟨q0,q1,q2,q3,q4,q5,q6⟩:=cells7 H9.out)))
    clear y0 y1 y2 y3 y4 y5 y6 u0 u1 u2 u3 u4 u5 u6 c0 c1 c2 c3 c4 c5 c6 d0 d1 d2 d3 d4 d5 d6 p0 p1 p2 p3 p4 p5 p6 q0 q1 q2 q3 q4 q5 q6 s0' s1' s2' s3' x0' x1' x2' x3' x4' x5' x6' x7'
    have hN6:=(((((HN5.out.set 6 (.int .i64 16)).set 0 (.int .i64 (t1.c:Nat))).set 1 (.string (ofL t1.n))).set 2 (.string (ofL t1.a))).set 3 (.string (ofL t1.p))).later (Bel.drew _)
    simp only [List.set_cons_succ,List.set_cons_zero] at hN6
    have HN6:=hid hN6
    have hO6:Only [w.heap.size + 1 + 1 + 1] (w4.alloc (.cells #[.int .i64 (t2.c:Nat),.string (ofL t2.n),.string (ofL t2.a),.string (ofL t2.p),.slice A2 n2 c2,.int .i64 0,.int .i64 0] 155)) (((((((w4.alloc (.cells #[.int .i64 (t2.c:Nat),.string (ofL t2.n),.string (ofL t2.a),.string (ofL t2.p),.slice A2 n2 c2,.int .i64 0,.int .i64 0] 155)).setCell ⟨w.heap.size + 1 + 1 + 1,6,none⟩ (.int .i64 16))).setCell ⟨w.heap.size + 1 + 1 + 1,0,none⟩ (.int .i64 (t1.c:Nat))).setCell ⟨w.heap.size + 1 + 1 + 1,1,none⟩ (.string (ofL t1.n))).setCell ⟨w.heap.size + 1 + 1 + 1,2,none⟩ (.string (ofL t1.a))).setCell ⟨w.heap.size + 1 + 1 + 1,3,none⟩ (.string (ofL t1.p))).drew:=by
     refine Only.drew ?_
     repeat with_reducible refine Only.setCell ?_ (.inl (by simp)) _
     exact Only.refl _ _
    have HE16:=hid (HE3.out.only hO6 (fun k hk hm => by rw [List.mem_singleton] at hm;subst hm;exact HE3.out.blk HN5.out.b3 (by decide) hk))
    have HE26:=hid (HE2.out.only hO6 (fun k hk hm => by rw [List.mem_singleton] at hm;subst hm;exact HE2.out.blk HN5.out.b3 (by decide) hk))
    have H86:=hid (H85.out.only hO6 (by simpa using HX.out.1))
    have H96:=hid (H9.out.only hO6 (by simpa using HX.out.2))
    clear hN6 hO6
    refine region_begin (T:=[(((((((w4.alloc (.cells #[.int .i64 (t2.c:Nat),.string (ofL t2.n),.string (ofL t2.a),.string (ofL t2.p),.slice A2 n2 c2,.int .i64 0,.int .i64 0] 155)).setCell ⟨w.heap.size + 1 + 1 + 1,6,none⟩ (.int .i64 16))).setCell ⟨w.heap.size + 1 + 1 + 1,0,none⟩ (.int .i64 (t1.c:Nat))).setCell ⟨w.heap.size + 1 + 1 + 1,1,none⟩ (.string (ofL t1.n))).setCell ⟨w.heap.size + 1 + 1 + 1,2,none⟩ (.string (ofL t1.a))).setCell ⟨w.heap.size + 1 + 1 + 1,3,none⟩ (.string (ofL t1.p))).drew.heap.size,(((((((w4.alloc (.cells #[.int .i64 (t2.c:Nat),.string (ofL t2.n),.string (ofL t2.a),.string (ofL t2.p),.slice A2 n2 c2,.int .i64 0,.int .i64 0] 155)).setCell ⟨w.heap.size + 1 + 1 + 1,6,none⟩ (.int .i64 16))).setCell ⟨w.heap.size + 1 + 1 + 1,0,none⟩ (.int .i64 (t1.c:Nat))).setCell ⟨w.heap.size + 1 + 1 + 1,1,none⟩ (.string (ofL t1.n))).setCell ⟨w.heap.size + 1 + 1 + 1,2,none⟩ (.string (ofL t1.a))).setCell ⟨w.heap.size + 1 + 1 + 1,3,none⟩ (.string (ofL t1.p))).drew.heap.size + 1,w.heap.size + 1 + 1 + 1]) (by kernel_rfl) ?_
    generalize (((((((w4.alloc (.cells #[.int .i64 (t2.c:Nat),.string (ofL t2.n),.string (ofL t2.a),.string (ofL t2.p),.slice A2 n2 c2,.int .i64 0,.int .i64 0] 155)).setCell ⟨w.heap.size + 1 + 1 + 1,6,none⟩ (.int .i64 16))).setCell ⟨w.heap.size + 1 + 1 + 1,0,none⟩ (.int .i64 (t1.c:Nat))).setCell ⟨w.heap.size + 1 + 1 + 1,1,none⟩ (.string (ofL t1.n))).setCell ⟨w.heap.size + 1 + 1 + 1,2,none⟩ (.string (ofL t1.a))).setCell ⟨w.heap.size + 1 + 1 + 1,3,none⟩ (.string (ofL t1.p))).drew = W at HN6 HE16 HE26 H86 H96 ⊢
    have hi:=HI0.out
    have hz0:=HZ0.out
    have hz1:=HZ1.out
    have hz2:=HZ2.out
    have hle:=HLE2.out
    have h83:=HX.out.1
    have h93:=HX.out.2
    have l8:=H86.out.lt
    have l9:=H96.out.lt
    have cA:∀ X:Later [W.heap.size,W.heap.size + 1,w.heap.size + 1 + 1 + 1] W,X.w.cell? ⟨w2.heap.size,4,none⟩ = some (.slice A1 n1 c1):=fun X => (H86.out.only X.h (by simp;omega)).cell 4
    have cB:∀ X:Later [W.heap.size,W.heap.size + 1,w.heap.size + 1 + 1 + 1] W,X.w.cell? ⟨w4.heap.size,4,none⟩ = some (.slice A2 n2 c2):=fun X => (H96.out.only X.h (by simp;omega)).cell 4
    refine region_seg [false,true,true,false,true,true] 5 (by kernel_rfl) (by kernel_rfl) (by kernel_rfl) rfl (fun _ _ d _ _ h => by cases d <;> exact h) ?_
    repeat (first | with_reducible refine wpMask_pass ?_ | (refine wpMask_want (by rfl) (fun K hK => ?_);go_big_quiet_op;refine hK _ ?_;clear hK K))
    with_reducible refine wpMask_nil ?_
    clear cA cB
    have hn1:=HE16.out.1
    have hn2:=HE26.out.1
    refine region_make 0 (v:=.slice (some ⟨W.heap.size,0,none⟩) 0 0) (w1:=W.alloc (.cells #[] 3)) (by kernel_rfl) rfl (by rfl) (by go_simp) ((Only.refl _ _).alloc _) ?_
    simp only [List.getElem_toArray,List.getElem_cons_zero,List.getElem_cons_succ,Act.put,List.setIfInBounds_toArray,List.set_cons_zero,List.set_cons_succ]
    have hO3:Only [] W (W.alloc (.cells #[] 3)):=(Only.refl [] W).alloc _
    have hrd1:=HE16.out.2.1.reads.only' hO3 (Nat.le_refl _) (by simp)
    refine region_rowAppend_at 3 (by kernel_rfl) rfl (by rfl) (.tmp 65) (.tmp 67) 42 rfl 3 i0 _ 8 Tryz.underlying42 hi hz0 hz1 hz2 rfl (some ⟨W.heap.size,0,none⟩) 0 0 [] rfl (RowAt.of_blk (Blk.new W 3 []) (by simp)) W.heap.size A1 n1 c1 (vin es1) rfl hrd1 (vin_one _) (by unfold maxLen;omega) (by omega) n1 (by omega) (fun g hg => by simp [rowT_some] at hg;simp;omega) ?_
    intro A3 c3 w6 HR1 hO4 HK1 hT1
    simp only [List.getElem_toArray,List.getElem_cons_zero,List.getElem_cons_succ,Act.put,List.setIfInBounds_toArray,List.set_cons_zero,List.set_cons_succ]
    have hw1:Only [] W w6:=hO3.join hO4 (fun k hk => .inr (by simp [rowT_some] at hk;omega))
    have hk1:∀ k,k ∈ rowT A3→k = W.heap.size ∨ k = W.heap.size + 1:=fun k hk => (HK1.out k hk).imp (fun h => by simpa [rowT_some] using h) (fun h => by simpa using h)
    have hrd2:=HE26.out.2.1.reads.only' hw1 (Nat.le_refl _) (by simp)
    refine region_rowAppend_at 6 (by kernel_rfl) rfl (by rfl) (.tmp 68) (.tmp 70) 42 rfl 3 i0 _ 8 Tryz.underlying42 hi hz0 hz1 hz2 rfl A3 n1 c3 _ rfl HR1.out W.heap.size A2 n2 c2 (vin es2) rfl hrd2 (vin_one _) (by unfold maxLen;omega) (by omega) (n1 + n2) rfl (fun g hg => by have:=hk1 g hg;simp;omega) ?_
    intro A4 c4 w7 HR2 hO5 HK2 hT2
    simp only [List.getElem_toArray,List.getElem_cons_zero,List.getElem_cons_succ,Act.put,List.setIfInBounds_toArray,List.set_cons_zero,List.set_cons_succ]
    have hw2:Only [] W w7:=hw1.join hO5 (fun k hk => .inr (by have:=hk1 k hk;omega))
    have hR2:=HR2.out
    rw [List.nil_append,← vin_append] at hR2
    have HN7:=hid (HN6.out.later (bel_of_only hw2))
    have HE4:=hid (show Es w w7 A4 (n1 + n2) c4 (es1 ++ es2) from ⟨by rw [List.length_append,hn1,hn2],hR2,fun k hk => by
     have h1:=HN6.out.bel.size
     have h2:=hw1.size
     rcases HK2.out k hk with h | h
     ·have:=hk1 k h;omega
     ·omega⟩)
    have hN8:=HN7.out.set 4 (.slice A4 (n1 + n2) c4)
    simp only [List.set_cons_succ,List.set_cons_zero] at hN8
    have HN8:=hid hN8
    refine region_seg [false,false,false,false,false,false,false,true] 1 (by kernel_rfl) (by kernel_rfl) (by kernel_rfl) rfl (fun _ _ d _ _ h => by cases d <;> exact h) ?_
    repeat (first | with_reducible refine wpMask_pass ?_ | (refine wpMask_want (by rfl) (fun K hK => ?_);go_big_quiet_op;refine hK _ ?_;clear hK K))
    with_reducible refine wpMask_nil ?_
    have f4:=HN7.out.b3.free 4
    have g4:=HN7.out.b3.cell 4
    refine region_store 8 (w1:=w7.setCell ⟨w.heap.size + 1 + 1 + 1,4,none⟩ (.slice A4 (n1 + n2) c4)) (by kernel_rfl) rfl (by rfl) (by go_simp) ((Only.refl _ _).setCell (.inl (by simp)) _) ?_
    simp only [List.getElem_toArray,List.getElem_cons_zero,List.getElem_cons_succ,Act.put,List.setIfInBounds_toArray,List.set_cons_zero,List.set_cons_succ]
    refine region_end (by kernel_rfl) ?_
    clear f4 g4 hN8 hR2 hw2 hrd2 hk1 hw1 hrd1 hO3 hi hz0 hz1 hz2 hle hn1 hn2 h83 h93 l8 l9 hO4 hT1 hO5 hT2
    obtain ⟨y0,y1,y2,y3,y4,y5,y6⟩:=frees7 HN8.out.b3
    obtain ⟨u0,u1,u2,u3,u4,u5,u6⟩:=frees7 HN8.out.b2
    obtain ⟨c0,c1,c2,c3,c4,c5,c6⟩:=cells7 HN8.out.b3
    obtain ⟨d0,d1,d2,d3,d4,d5,d6⟩:=cells7 HN8.out.b2
    go_wp2_with fail
    (with_reducible apply nd_end)
    case hf => rfl
    case hp => rfl
    case hN => exact HN7.out
    case hO => (repeat with_reducible refine Only.setCell ?_ (.inl (by simp)) _);exact Only.refl _ _
    case he => intro W2 hO2;exact ⟨t1,_,_,_,_,_,rfl,hid ⟨rfl,rfl,by decide⟩⟩
end Go.Proofs.YtpcapmdfjmpdiaaGreatDoor
