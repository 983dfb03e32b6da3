/- The reference of layer 16: List, and node at every node. -/
import Derived.Test.YtpcapmdfjmpdiaaGreatDoorMRo16
import Derived.Test.YtpcapmdfjmpdiaaGreatDoorMPc17
import Derived.Test.YtpcapmdfjmpdiaaGreatDoorMRp16
import Derived.Test.YtpcapmdfjmpdiaaGreatDoorMLn17
set_option linter.unusedVariables false
set_option linter.unusedSimpArgs false
set_option maxRecDepth 100000
set_option maxHeartbeats 6400000
open Go.Lib (hid)
namespace Go.Proofs.YtpcapmdfjmpdiaaGreatDoor
open Go.RowKit Go.BigFrame NT
theorem once16 {α β:Prop} (tail:α) (main:α→β):β:=main tail
def RcL (w:World) (s:HS) (A:Option Addr) (c:Nat) (l:List NT):Prop:=Calls Tryz.prog 70 #[.agg #[.int .i64 (s.c:Nat),.string (ofL s.n),.string (ofL s.a),.string (ofL s.p)],.slice A l.length c] w (RnP (listI s l) 0 w)
def RM16 (x:NT):Prop:=∀ (w:World),x.In w (Lt w)→x.tot≤100000→∀ s,Inv s→Calls Tryz.prog 93 #[.agg #[.int .i64 (s.c:Nat),.string (ofL s.n),.string (ofL s.a),.string (ofL s.p)],nV x] w (RnP (nodeI s x) x.a w)
theorem RsQ.only {r:IR} {a0:Int} {w w1 w2:World} {t:HS} {A:Option Addr} {n c:Nat} {a k:Int} {g:Nat} {T:TypeId} {cs:List Value} (h:RsQ r a0 w w1 t A n c a k) (hB:Blk w1 g T cs) (hT:T ≠ 3) (hO:Only [g] w1 w2):RsQ r a0 w w2 t A n c a k:=by
 cases r with
 | ok s es => exact ⟨h.1,h.2.1,h.2.2.1,h.2.2.2.only hO (fun k hk hm => by rw [List.mem_singleton] at hm;subst hm;exact h.2.2.2.blk hB hT hk)⟩
 | no a' k' => exact h
theorem RsQ.since16 {r:IR} {a0:Int} {w0 w w1:World} {t:HS} {A:Option Addr} {n c:Nat} {a k:Int} (h:RsQ r a0 w w1 t A n c a k) (hw:w0.heap.size≤w.heap.size):RsQ r a0 w0 w1 t A n c a k:=by
 cases r with
 | ok s es => exact ⟨h.1,h.2.1,h.2.2.1,h.2.2.2.since hw⟩
 | no a' k' => exact h
theorem bel_onK16 {S:List Nat} {w w1 w2:World} (h:Bel w w1) (ho:Only S w1 w2) (hS:∀ k,k ∈ S→w.heap.size≤k):Bel w w2:=bel_of_only ((bel_only h).join ho (fun k hk => .inr (hS k hk)))
structure RlAt (w wr:World) (S:HS) (B:Option Addr) (q d:Nat) (done:List Nat):Prop where
 res:Blk wr (w.heap.size + 1) 155 z7
 out:Blk wr (w.heap.size + 1 + 1) 155 (rsC S B q d 0 0)
 es:Es w wr B q d done
 bel:Bel w wr
theorem RlAt.later {w wr w2:World} {S:HS} {B:Option Addr} {q d:Nat} {done:List Nat} (h:RlAt w wr S B q d done) (hb:Bel wr w2):RlAt w w2 S B q d done:=⟨h.res.belh hb,h.out.belh hb,h.es.later hb,h.bel.trans hb⟩
theorem RlAt.start (w:World) (s:HS) (o:Obj):RlAt w (((w.alloc o).alloc (.cells #[.int .i64 0,.string ⟨#[]⟩,.string ⟨#[]⟩,.string ⟨#[]⟩,.slice none 0 0,.int .i64 0,.int .i64 0] 155)).alloc (.cells #[.int .i64 (s.c:Nat),.string (ofL s.n),.string (ofL s.a),.string (ofL s.p),.slice none 0 0,.int .i64 0,.int .i64 0] 155)) s none 0 0 []:=by
 refine ⟨(blk_at1h w o 155 z7).alloc _,?_,Es.nil _ _,((Bel.alloc _ _).trans (Bel.alloc _ _)).trans (Bel.alloc _ _)⟩
 have:=blk_at1h (w.alloc o) (.cells #[.int .i64 0,.string ⟨#[]⟩,.string ⟨#[]⟩,.string ⟨#[]⟩,.slice none 0 0,.int .i64 0,.int .i64 0] 155) 155 (rsC s none 0 0 0 0)
 rw [show (w.alloc o).heap.size = w.heap.size + 1 by simp] at this
 exact this
theorem rlist_row (l:List NT) (ih:∀ x ∈ l,RM16 x) (A:Option Addr) (c:Nat) (w:World) (hA:Row w (Lt w) A c l) (ht:tots l≤100000) (s:HS) (hi:Inv s):RcL w s A c l:=by
 unfold RcL
 obtain ⟨n,hn⟩:∃ n,n = l.length:=⟨_,rfl⟩
 have hn5:=hA.len
 rw [← hn] at hn5 ⊢
 have HA:=hid hA
 have HI:=hid ih
 have HN:=hid hn
 have HT:=hid ht
 have HSI:=hid hi
 have HST:=hid (RlAt.start w s (.cells #[.int .i64 (s.c:Nat),.string (ofL s.n),.string (ofL s.a),.string (ofL s.p)] 153))
 obtain ⟨i0,ji,jz0,jz1,jz2⟩:=info_int16
 have HI0:=hid ji
 have HZ0:=hid jz0
 have HZ1:=hid jz1
 have HZ2:=hid jz2
 clear ji jz0 jz1 jz2 hA ih hn ht hi
 go_enter Tryz.func70,Tryz.ntmps70
 go_wp2_with fail
 go_loopw [6] (fun s6 wr => ∃ (i:Nat) (S:HS) (B:Option Addr) (q d:Nat) (done:List Nat),i≤n∧s6 = .int .i64 i∧Hid (listI s (l.take i) = .ok S done)∧Hid (RlAt w wr S B q d done)) (fun s6 _ => n - (intOf s6).toNat)
 case atStart => exact ⟨0,s,none,0,0,[],Nat.zero_le _,rfl,hid (by rw [List.take_zero,listI_nil]),HST⟩
 case round =>
  obtain ⟨i,S,B,q,d,done,hin,rfl,HR,HL⟩:=hrel
  by_cases hlt:i < n
  ·have hxt:=List.getElem?_eq_getElem (l:=l) (i:=i) (by have:=HN.out;omega)
   generalize l[i]'(by have:=HN.out;omega) = x at hxt
   have hxm:=List.mem_of_getElem? hxt
   obtain ⟨g0,o,hAA,hg,ha⟩:=HA.out.cells hxt
   subst hAA
   have HXI:=hid (HA.out.2 x hxm)
   have hst:=tots_step hxt
   have hle1:tots (l.take (i + 1))≤100000:=by have h1:=HT.out;rw [← List.take_append_drop (i + 1) l,tots_append] at h1;omega
   have hx1:x.tot≤100000:=by omega
   have hS:Inv S:=by have h:=listI_good (l.take i) s HSI.out;rw [HR.out] at h;exact h
   have HMX:=hid (fun W (hb:Bel w W) => HI.out x hxm W (HXI.out.bel hb) hx1 S hS)
   have HTK:=hid (listI_take (s:=s) hxt)
   have HTL:=hid hle1
   have HAA:=hid ha
   clear hxt hxm hg ha hst hle1 hx1 hS HXI
   go_wp2_with fail
   have HLd:=hid (HL.out.later (Bel.drew _))
   refine region_begin (T:=[]) (by kernel_rfl) ?_
   generalize wr.drew = W at HLd ⊢
   have cO:∀ X:Later [] W,X.w.cell? ⟨w.heap.size + 1 + 1,0,none⟩ = some (.int .i64 (S.c:Nat))∧X.w.cell? ⟨w.heap.size + 1 + 1,1,none⟩ = some (.string (ofL S.n))∧X.w.cell? ⟨w.heap.size + 1 + 1,2,none⟩ = some (.string (ofL S.a))∧X.w.cell? ⟨w.heap.size + 1 + 1,3,none⟩ = some (.string (ofL S.p)):=fun X => by
    have h:=HLd.out.out.belh (bel_of_only X.h)
    exact ⟨h.cell 0,h.cell 1,h.cell 2,h.cell 3⟩
   have e0:=fun X => (cO X).1
   have e1:=fun X => (cO X).2.1
   have e2:=fun X => (cO X).2.2.1
   have e3:=fun X => (cO X).2.2.2
   have cX:=fun X:Later [] W => HAA.out X.w (HLd.out.bel.trans (bel_of_only X.h))
   have b0:=fun X => (cX X).1
   have b1:=fun X => (cX X).2.1
   have b2:=fun X => (cX X).2.2.1
   have b3:=fun X => (cX X).2.2.2.1
   have b4:=fun X => (cX X).2.2.2.2.1
   have b5:=fun X => (cX X).2.2.2.2.2.1
   have b6:=fun X => (cX X).2.2.2.2.2.2.1
   have b7:=fun X => (cX X).2.2.2.2.2.2.2
   clear cO cX
   refine reg_seg [true,true,true,true,true,true] 3 (Only.refl _ _) (by kernel_rfl) (by kernel_rfl) (by kernel_rfl) rfl (fun _ _ d _ _ h => by cases d <;> exact h) ?_
   repeat (first | with_reducible refine wpMask_pass ?_ | (refine wpMask_want (by rfl) (fun K hK => ?_);go_big_quiet_op;refine hK _ ?_;clear hK K))
   with_reducible refine wpMask_nil ?_
   clear e0 e1 e2 e3 b0 b1 b2 b3 b4 b5 b6 b7
   apply once16
   case main =>
    intro key
    refine wpAnyH_all (rs:=[6,7]) (by kernel_rfl) (by simp) (fun i hi => ?_)
    simp only [List.mem_cons,List.not_mem_nil,or_false] at hi
    rcases hi with rfl | rfl
    case' inl =>
     refine op_call0 rfl (by rfl) (by go_simp;exact ⟨rfl,rfl⟩) ?_
     (with_reducible refine (HMX.out _ HLd.out.bel).mono ?_)
     rintro e w2 ⟨hb,t,B1,n1,c1,a1,k1,rfl,hq⟩
     refine ⟨_,rfl,bel_only hb,?_⟩
     simp only [List.getElem_toArray,List.getElem_cons_zero,List.getElem_cons_succ,Act.put,List.setIfInBounds_toArray,List.set_cons_zero,List.set_cons_succ]
     refine reg_make 7 (v:=.pointer (some ⟨w2.heap.size,0,none⟩)) (w1:=w2.alloc (.cells #[.int .i64 0,.string ⟨#[]⟩,.string ⟨#[]⟩,.string ⟨#[]⟩,.slice none 0 0,.int .i64 0,.int .i64 0] 155)) (by kernel_rfl) rfl (by rfl) (by go_simp) ((bel_only hb).alloc _) ?_
     simp only [List.getElem_toArray,List.getElem_cons_zero,List.getElem_cons_succ,Act.put,List.setIfInBounds_toArray,List.set_cons_zero,List.set_cons_succ]
     have HF:=hid (show Bel W (w2.alloc (.cells #[.int .i64 0,.string ⟨#[]⟩,.string ⟨#[]⟩,.string ⟨#[]⟩,.slice none 0 0,.int .i64 0,.int .i64 0] 155))∧W.heap.size≤w2.heap.size∧Blk (w2.alloc (.cells #[.int .i64 0,.string ⟨#[]⟩,.string ⟨#[]⟩,.string ⟨#[]⟩,.slice none 0 0,.int .i64 0,.int .i64 0] 155)) w2.heap.size 155 z7∧RsQ (nodeI S x) x.a W (w2.alloc (.cells #[.int .i64 0,.string ⟨#[]⟩,.string ⟨#[]⟩,.string ⟨#[]⟩,.slice none 0 0,.int .i64 0,.int .i64 0] 155)) t B1 n1 c1 a1 k1 from ⟨hb.trans (Bel.alloc _ _),hb.size,Blk.new w2 155 z7,hq.out.later (Bel.alloc _ _)⟩)
     generalize w2.alloc (.cells #[.int .i64 0,.string ⟨#[]⟩,.string ⟨#[]⟩,.string ⟨#[]⟩,.slice none 0 0,.int .i64 0,.int .i64 0] 155) = w3 at HF ⊢
     generalize w2.heap.size = g at HF ⊢
     clear hb hq w2
    case' inr =>
     refine op_make0 (v:=.pointer (some ⟨W.heap.size,0,none⟩)) (w1:=W.alloc (.cells #[.int .i64 0,.string ⟨#[]⟩,.string ⟨#[]⟩,.string ⟨#[]⟩,.slice none 0 0,.int .i64 0,.int .i64 0] 155)) rfl (by rfl) (by go_simp) ((Only.refl _ _).alloc _) ?_
     simp only [List.getElem_toArray,List.getElem_cons_zero,List.getElem_cons_succ,Act.put,List.setIfInBounds_toArray,List.set_cons_zero,List.set_cons_succ]
     refine reg_call 6 (by kernel_rfl) rfl (by rfl) (by go_simp;exact ⟨rfl,rfl⟩) ?_
     (with_reducible refine (HMX.out _ (HLd.out.bel.trans (Bel.alloc _ _))).mono ?_)
     rintro e w3 ⟨hb,t,B1,n1,c1,a1,k1,rfl,hq⟩
     have hbW:=(Bel.alloc W (.cells #[.int .i64 0,.string ⟨#[]⟩,.string ⟨#[]⟩,.string ⟨#[]⟩,.slice none 0 0,.int .i64 0,.int .i64 0] 155)).trans hb
     refine ⟨_,rfl,bel_only hbW,?_⟩
     simp only [List.getElem_toArray,List.getElem_cons_zero,List.getElem_cons_succ,Act.put,List.setIfInBounds_toArray,List.set_cons_zero,List.set_cons_succ]
     have HF:=hid (show Bel W w3∧W.heap.size≤W.heap.size∧Blk w3 W.heap.size 155 z7∧RsQ (nodeI S x) x.a W w3 t B1 n1 c1 a1 k1 from ⟨hbW,Nat.le_refl _,(Blk.new W 155 z7).belh hb,hq.out.since16 (by simp)⟩)
     obtain ⟨g,hg⟩:∃ g,g = W.heap.size:=⟨_,rfl⟩
     rw [← hg]
     replace HF:Hid (Bel W w3∧W.heap.size≤g∧Blk w3 g 155 z7∧RsQ (nodeI S x) x.a W w3 t B1 n1 c1 a1 k1):=by rw [hg];exact HF
     clear hb hq hbW hg
    all_goals
     revert HF
     revert g
     revert k1
     revert a1
     revert c1
     revert n1
     revert B1
     revert t
     revert w3
     exact key
   case tail =>
    intro w3 t B1 n1 c1 a1 k1 g HF
    obtain ⟨hb,hgW,hB,hq⟩:=HF.out
    obtain ⟨y0,y1,y2,y3,y4,y5,y6⟩:=frees7 hB
    obtain ⟨z0,z1,z2,z3,z4,z5,z6⟩:=cells7 hB
    have hO4:=only7 w3 g (.int .i64 (t.c:Nat)) (.string (ofL t.n)) (.string (ofL t.a)) (.string (ofL t.p)) (.slice B1 n1 c1) (.int .i64 a1) (.int .i64 k1)
    have hK4:=((((((hB.set_ 0 (.int .i64 (t.c:Nat))).set_ 1 (.string (ofL t.n))).set_ 2 (.string (ofL t.a))).set_ 3 (.string (ofL t.p))).set_ 4 (.slice B1 n1 c1)).set_ 5 (.int .i64 a1)).set_ 6 (.int .i64 k1)
    simp only [List.set_cons_succ,List.set_cons_zero] at hK4
    have hq4:=hq.only hB (by decide) hO4
    have hOW:Only [] W (((((((w3.setCell ⟨g,0,none⟩ (.int .i64 (t.c:Nat))).setCell ⟨g,1,none⟩ (.string (ofL t.n))).setCell ⟨g,2,none⟩ (.string (ofL t.a))).setCell ⟨g,3,none⟩ (.string (ofL t.p))).setCell ⟨g,4,none⟩ (.slice B1 n1 c1)).setCell ⟨g,5,none⟩ (.int .i64 a1)).setCell ⟨g,6,none⟩ (.int .i64 k1)):=(bel_only hb).join hO4 (by simp;omega)
    refine reg_store 8 (w1:=(((((((w3.setCell ⟨g,0,none⟩ (.int .i64 (t.c:Nat))).setCell ⟨g,1,none⟩ (.string (ofL t.n))).setCell ⟨g,2,none⟩ (.string (ofL t.a))).setCell ⟨g,3,none⟩ (.string (ofL t.p))).setCell ⟨g,4,none⟩ (.slice B1 n1 c1)).setCell ⟨g,5,none⟩ (.int .i64 a1)).setCell ⟨g,6,none⟩ (.int .i64 k1))) (by kernel_rfl) rfl (by rfl) (by go_simp) hOW ?_
    simp only [List.getElem_toArray,List.getElem_cons_zero,List.getElem_cons_succ,Act.put,List.setIfInBounds_toArray,List.set_cons_zero,List.set_cons_succ]
    refine region_end (by kernel_rfl) ?_
    have HL4:=hid (HLd.out.later (bel_of_only hOW))
    have HK4:=hid hK4
    have HQ4:=hid hq4
    have HWS:=hid (show w.heap.size≤W.heap.size from HLd.out.bel.size)
    have HGX:=hid (show g ≠ w.heap.size + 1∧g ≠ w.heap.size + 1 + 1 by have h1:=HLd.out.out.lt;omega)
    clear y0 y1 y2 y3 y4 y5 y6 z0 z1 z2 z3 z4 z5 z6 hO4 hK4 hq4 hOW hB hq hgW hb HF
    generalize (((((((w3.setCell ⟨g,0,none⟩ (.int .i64 (t.c:Nat))).setCell ⟨g,1,none⟩ (.string (ofL t.n))).setCell ⟨g,2,none⟩ (.string (ofL t.a))).setCell ⟨g,3,none⟩ (.string (ofL t.p))).setCell ⟨g,4,none⟩ (.slice B1 n1 c1)).setCell ⟨g,5,none⟩ (.int .i64 a1)).setCell ⟨g,6,none⟩ (.int .i64 k1)) = w4 at HL4 HK4 HQ4 ⊢
    obtain ⟨c0,c1',c2,c3,c4,c5,c6⟩:=cells7 HK4.out
    obtain ⟨u0,u1,u2,u3,u4,u5,u6⟩:=frees7 HL4.out.out
    obtain ⟨v0,v1,v2,v3,v4,v5,v6⟩:=frees7 HL4.out.res
    obtain ⟨r0,r1,r2,r3,r4,r5,r6⟩:=cells7 HL4.out.res
    obtain ⟨k0',k1'',k2',k3',k4',k5',k6'⟩:=cells7 HL4.out.out
    cases hr:nodeI S x with
    | no a' k' =>
     have hq4:=HQ4.out
     rw [hr] at hq4
     obtain ⟨rfl,rfl,hne⟩:=hq4
     have hk0:(k':Int) ≠ 0:=by omega
     have hk1:((k':Int) != 0) = true:=bne_iff_ne.2 hk0
     have HE:=hid hne
     have HFIN:=hid (show listI s l = .no a1 k' from listI_stop (i:=i + 1) (by rw [HTK.out,HR.out,IR.next_ok,hr,IR.next_no]))
     clear hr hne
     go_wp2_with fail
     rw [HFIN.out]
     (with_reducible apply rs_set (k:=4) (g:=w.heap.size + 1))
     case hf => rfl
     case hp => rfl
     case hB => exact HL4.out.res
     case hb => exact HL4.out.bel
     case hg => omega
     case he => intro W2 hO2;exact ⟨s0 0,none,0,0,_,_,rfl,hid ⟨rfl,rfl,HE.out⟩⟩
    | ok S2 e2 =>
     have hq4:=HQ4.out
     rw [hr] at hq4
     obtain ⟨rfl,rfl,rfl,hes⟩:=hq4
     have HTN:=hid (show listI s (l.take (i + 1)) = .ok t (done ++ e2) by rw [HTK.out,HR.out,IR.next_ok,hr,IR.next_ok])
     have hle:q + n1≤100000:=by
      have h1:=listI_le HTN.out
      rw [List.length_append,← HL4.out.es.1,← hes.1] at h1
      have:=HTL.out
      omega
     have hO5:=only4_16 w4 (w.heap.size + 1 + 1) (.int .i64 (t.c:Nat)) (.string (ofL t.n)) (.string (ofL t.a)) (.string (ofL t.p))
     have HD5:=hid (HL4.out.es.only hO5 (fun k hk hm => by rw [List.mem_singleton] at hm;subst hm;exact HL4.out.es.blk HL4.out.out (by decide) hk))
     have HE5:=hid (hes.only hO5 (fun k hk hm => by rw [List.mem_singleton] at hm;subst hm;exact hes.blk HL4.out.out (by decide) hk))
     have HO5:=hid (blk_st16 (.int .i64 (t.c:Nat)) (.string (ofL t.n)) (.string (ofL t.a)) (.string (ofL t.p)) HL4.out.out)
     have HR5:=hid (HL4.out.res.only hO5 (by simp))
     have HB5:=hid (bel_on1 HL4.out.bel hO5 (by omega))
     have HK5:=hid (HK4.out.only hO5 (by simpa using HGX.out.2))
     have HLE:=hid hle
     have HH1:=hid (show q + n1≤maxLen by unfold maxLen;omega)
     have HH2:=hid (show (q + n1) * 8≤140737488355328 by omega)
     have HDR:=hid HD5.out.2.1
     have HER:=hid HE5.out.2.1.reads
     have HDF:=hid HD5.out.2.2
     have HDX:=hid (HD5.out.blk HO5.out (by decide))
     have HDY:=hid (HD5.out.blk HR5.out (by decide))
     clear hr hes hO5 hle
     go_wp2_with ((with_reducible refine wp_rowAppend rfl (.tmp 35) (.tmp 37) 42 rfl 3 i0 _ 8 Tryz.underlying42 HI0.out HZ0.out HZ1.out HZ2.out rfl B q d (vin done) rfl HDR.out _ B1 n1 c1 (vin e2) rfl HER.out (vin_one _) HH1.out HH2.out (q + n1) rfl ?_);intro A' c' w6 HR6 hO6 HK6;have HX6:=hid (HO5.out.only hO6 HDX.out);have HY6:=hid (HR5.out.only hO6 HDY.out);have HZ6:=hid (bel_onK16 HB5.out hO6 HDF.out);clear hO6;have f4:=HX6.out.free 4;have g4:=HX6.out.cell 4)
     go_roundw
     case rel =>
      have hO7:Only [w.heap.size + 1 + 1] w6 (w6.setCell ⟨w.heap.size + 1 + 1,4,none⟩ (.slice A' (q + n1) c')):=(Only.refl _ _).setCell (.inl (by simp)) _
      have hK7:=HX6.out.set_ 4 (.slice A' (q + n1) c')
      simp only [List.set_cons_succ,List.set_cons_zero] at hK7
      have hE6:Es w w6 A' (q + n1) c' (done ++ e2):=⟨by rw [List.length_append,HD5.out.1,HE5.out.1],by rw [vin_append];exact HR6.out,fun k hk => by
       rcases HK6.out k hk with h | h
       ·exact HD5.out.2.2 k h
       ·have:=HB5.out.size;omega⟩
      exact ⟨i + 1,t,A',q + n1,c',done ++ e2,by omega,by go_num,HTN,hid ⟨HY6.out.only hO7 (by simp),hK7,hE6.only hO7 (fun k hk hm => by rw [List.mem_singleton] at hm;subst hm;exact hE6.blk HX6.out (by decide) hk),bel_on1 HZ6.out hO7 (by omega)⟩⟩
     case measure => simp [intOf];omega
  ·obtain rfl:i = n:=by omega
   have HFIN:=hid (show listI s l = .ok S done by have h:=HR.out;rwa [HN.out,List.take_length] at h)
   obtain ⟨c0,c1,c2,c3,c4,c5,c6⟩:=cells7 HL.out.out
   obtain ⟨v0,v1,v2,v3,v4,v5,v6⟩:=frees7 HL.out.res
   obtain ⟨r0,r1,r2,r3,r4,r5,r6⟩:=cells7 HL.out.res
   go_wp2_with fail
   rw [HFIN.out]
   (with_reducible apply rs_set (k:=4) (g:=w.heap.size + 1))
   case hf => rfl
   case hp => rfl
   case hB => exact HL.out.res
   case hb => exact HL.out.bel
   case hg => omega
   case he => intro W2 hO2;exact ⟨S,B,q,d,0,0,rfl,hid ⟨rfl,rfl,rfl,HL.out.es.only hO2 (fun k hk hm => by rw [List.mem_singleton] at hm;subst hm;exact HL.out.es.blk HL.out.res (by decide) hk)⟩⟩
theorem rnode_all (x:NT):RM16 x:=by
 refine NT.ind (M:=RM16) (fun t h1 h2 => ?_) x
 intro w ht hz s hs
 have hz':=hz
 rw [tot_eq] at hz'
 have hb:∀ s,Inv s→∀ W,Bel w W→RcL W s t.A t.c t.b:=fun s hs W hb => rlist_row t.b h1 _ _ W ((ht.bel hb).body) (by omega) s hs
 have hl:∀ s,Inv s→∀ W,Bel w W→RcL W s t.B t.d t.l:=fun s hs W hb => rlist_row t.l h2 _ _ W ((ht.bel hb).els) (by omega) s hs
 by_cases h0:t.k = 0
 ·exact rnode_text s hs t w ht h0 fun W => rrun_c s hs t.s ht.si W
 by_cases h1:t.k = 1
 ·exact rnode_print s hs t w ht h1
 by_cases h2:t.k = 2
 ·exact rnode_if s hs t w ht ⟨h2,hz⟩ (hb s hs) (hl s hs)
 by_cases h3:t.k = 3
 ·exact rnode_range s hs t w ht h3 (hb s hs)
 by_cases h4:t.k = 4
 ·exact rnode_call s hs t w ht h4
 by_cases h6:t.k = 6
 ·exact rnode_define s hs t w ht h6 (hb (s0 0) Inv.init)
 ·exact rnode_other s hs t w ht ⟨h0,h1,h2,h3,h4,h6⟩
theorem rlist_c {l:List NT} {A:Option Addr} {c:Nat} {w:World} (hA:Row w (Lt w) A c l) (ht:tots l≤100000) (s:HS) (hs:Inv s):RcL w s A c l:=rlist_row l (fun x _ => rnode_all x) A c w hA ht s hs
end Go.Proofs.YtpcapmdfjmpdiaaGreatDoor
