/- The reference of layer 16: node, kind by kind. -/
import Derived.Test.YtpcapmdfjmpdiaaGreatDoorMLn17
import Derived.Test.YtpcapmdfjmpdiaaGreatDoorMHt15
set_option linter.unusedVariables false
set_option linter.unusedSimpArgs false
set_option maxRecDepth 100000
set_option maxHeartbeats 6400000
open Go.Lib (hid)
namespace Go.Proofs.YtpcapmdfjmpdiaaGreatDoor
open Go.RowKit Go.BigFrame NT
theorem NT.In.si {w:World} {Q:Nat→Prop} {t:NT} (h:t.In w Q):t.s.size≤140737488351232:=by cases h;assumption
theorem bel3 {w w1:World} (h:Bel w w1) (a b c:Obj):Bel w (((w1.alloc a).alloc b).alloc c):=((h.trans (Bel.alloc _ _)).trans (Bel.alloc _ _)).trans (Bel.alloc _ _)
theorem blk_st16 {w:World} {g:Nat} {T:TypeId} {a0 a1 a2 a3 a4 a5 a6:Value} (v0 v1 v2 v3:Value) (h:Blk w g T [a0,a1,a2,a3,a4,a5,a6]):Blk ((((w.setCell ⟨g,0,none⟩ v0).setCell ⟨g,1,none⟩ v1).setCell ⟨g,2,none⟩ v2).setCell ⟨g,3,none⟩ v3) g T [v0,v1,v2,v3,a4,a5,a6]:=by
 have h1:=(((h.set_ 0 v0).set_ 1 v1).set_ 2 v2).set_ 3 v3
 simpa only [List.set_cons_succ,List.set_cons_zero] using h1
theorem only4_16 (W:World) (g:Nat) (a0 a1 a2 a3:Value):Only [g] W ((((W.setCell ⟨g,0,none⟩ a0).setCell ⟨g,1,none⟩ a1).setCell ⟨g,2,none⟩ a2).setCell ⟨g,3,none⟩ a3) :=
 (((((Only.refl [g] W).setCell (.inl (by simp)) _).setCell (.inl (by simp)) _).setCell (.inl (by simp)) _).setCell (.inl (by simp)) _)
structure Nd0 (w w1:World) (s:HS) (x:NT) (S4:List Value) (R4:List Value):Prop where
 b0:Blk w1 w.heap.size 153 (sC s)
 b1:Blk w1 (w.heap.size + 1) 69 x.cs
 b2:Blk w1 (w.heap.size + 1 + 1) 155 S4
 b3:Blk w1 (w.heap.size + 1 + 1 + 1) 155 R4
 bel:Bel w w1
abbrev z7:List Value:=[.int .i64 0,.string ⟨#[]⟩,.string ⟨#[]⟩,.string ⟨#[]⟩,.slice none 0 0,.int .i64 0,.int .i64 0]
abbrev w4 (w:World) (s:HS) (x:NT):World:=(((w.alloc (.cells #[.int .i64 (s.c:Nat),.string (ofL s.n),.string (ofL s.a),.string (ofL s.p)] 153)).alloc (.cells #[.int .i64 x.k,.int .i64 x.a,.string x.s,.string x.p,.bool x.h,.bool x.e,.slice x.A x.b.length x.c,.slice x.B x.l.length x.d] 69)).alloc (.cells #[.int .i64 0,.string ⟨#[]⟩,.string ⟨#[]⟩,.string ⟨#[]⟩,.slice none 0 0,.int .i64 0,.int .i64 0] 155)).alloc (.cells #[.int .i64 (s.c:Nat),.string (ofL s.n),.string (ofL s.a),.string (ofL s.p),.slice none 0 0,.int .i64 x.a,.int .i64 0] 155)
theorem nd_start (w:World) (s:HS) (x:NT):Nd0 w (w4 w s x) s x z7 (rsC s none 0 0 x.a 0):=by
 have e1:(w.alloc (.cells #[.int .i64 (s.c:Nat),.string (ofL s.n),.string (ofL s.a),.string (ofL s.p)] 153)).heap.size = w.heap.size + 1:=by simp
 refine ⟨(((Blk.new w 153 (sC s)).alloc _).alloc _).alloc _,?_,?_,?_,(bel3 (Bel.alloc _ _) _ _ _)⟩
 ·exact ((blk_at1h w _ 69 x.cs).alloc _).alloc _
 ·have:=(blk_at1h (w.alloc (.cells (sC s).toArray 153)) (.cells x.cs.toArray 69) 155 z7).alloc (.cells (rsC s none 0 0 x.a 0).toArray 155)
  rw [show (w.alloc (.cells (sC s).toArray 153)).heap.size = w.heap.size + 1 by simp] at this
  exact this
 ·have:=blk_at1h ((w.alloc (.cells (sC s).toArray 153)).alloc (.cells x.cs.toArray 69)) (.cells z7.toArray 155) 155 (rsC s none 0 0 x.a 0)
  rw [show ((w.alloc (.cells (sC s).toArray 153)).alloc (.cells x.cs.toArray 69)).heap.size = w.heap.size + 1 + 1 by simp] at this
  exact this
theorem Nd0.later {w w1 w2:World} {s:HS} {x:NT} {S R:List Value} (h:Nd0 w w1 s x S R) (hb:Bel w1 w2):Nd0 w w2 s x S R:=⟨h.b0.belh hb,h.b1.belh hb,h.b2.belh hb,h.b3.belh hb,h.bel.trans hb⟩
theorem nd_end {f:Func} {tmps:Array Value} {w w2 W:World} {s:HS} {x:NT} {R:List Value} {r:IR} {v0 v1 v2 v3 v4 v5 v6:Value} (hf:f.results = #[.cell 4 155]) (hp:tmps.getD 4 undef = .pointer (some ⟨w.heap.size + 1 + 1,0,none⟩))
  (hN:Nd0 w w2 s x z7 R) (hO:Only [w.heap.size + 1 + 1 + 1] w2 W)
  (he:∀ W2,Only [w.heap.size + 1 + 1,w.heap.size + 1 + 1 + 1] w2 W2→∃ t A n c a k,Value.agg #[v0,v1,v2,v3,v4,v5,v6] = rsV t A n c a k∧Hid (RsQ r x.a w W2 t A n c a k)) :
  bodyPost Tryz.prog f (RnP r x.a w) .ret { tmps:=tmps,defers:=[] } (((((((W.setCell ⟨w.heap.size + 1 + 1,0,none⟩ v0).setCell ⟨w.heap.size + 1 + 1,1,none⟩ v1).setCell ⟨w.heap.size + 1 + 1,2,none⟩ v2).setCell ⟨w.heap.size + 1 + 1,3,none⟩ v3).setCell ⟨w.heap.size + 1 + 1,4,none⟩ v4).setCell ⟨w.heap.size + 1 + 1,5,none⟩ v5).setCell ⟨w.heap.size + 1 + 1,6,none⟩ v6):=by
 refine rs_set (k:=4) (g:=w.heap.size + 1 + 1) hf hp (hN.b2.only hO (by simp)) (bel_on1 hN.bel hO (by omega)) (by omega) (fun w3 h3 => he w3 ?_)
 exact (Only.shed (S:=[w.heap.size + 1 + 1,w.heap.size + 1 + 1 + 1]) hO (by simp)).join h3 (by simp)
theorem nd_fold {f:Func} {tmps:Array Value} {w:World} {x0:Int} {r:IR} {a b d:Obj} {v0 v1 v2 v3 v4 v5 v6:Value} (hf:f.results = #[.cell 4 155]) (hp:tmps.getD 4 undef = .pointer (some ⟨w.heap.size + 1 + 1,0,none⟩))
  (he:∀ W2,∃ t A n c a k,Value.agg #[v0,v1,v2,v3,v4,v5,v6] = rsV t A n c a k∧Hid (RsQ r x0 w W2 t A n c a k)) :
  bodyPost Tryz.prog f (RnP r x0 w) .ret { tmps:=tmps,defers:=[] } ((((w.alloc a).alloc b).alloc (.cells #[v0,v1,v2,v3,v4,v5,v6] 155)).alloc d):=by
 have h:=(blk_at1h (w.alloc a) b 155 [v0,v1,v2,v3,v4,v5,v6]).alloc d
 rw [show (w.alloc a).heap.size = w.heap.size + 1 by simp] at h
 refine bodyPost_ret (results_cell_row hf _ _ (w.heap.size + 1 + 1) _ _ (0,0) _ hp h Tryz.underlying155 rfl (by kernel_rfl)) rfl ?_
 obtain ⟨t,A,n,c,a,k,e1,e2⟩:=he _
 exact ⟨bel3 (Bel.alloc _ _) _ _ _,t,A,n,c,a,k,by rw [← e1],e2⟩
theorem Nd0.set {w w1:World} {s:HS} {x:NT} {S R:List Value} (h:Nd0 w w1 s x S R) (j:Nat) (v:Value):Nd0 w (w1.setCell ⟨w.heap.size + 1 + 1 + 1,j,none⟩ v) s x S (R.set j v) :=
 have hO:Only [w.heap.size + 1 + 1 + 1] w1 (w1.setCell ⟨w.heap.size + 1 + 1 + 1,j,none⟩ v):=(Only.refl _ w1).setCell (.inl (by simp)) _
 ⟨h.b0.only hO (by simp;omega),h.b1.only hO (by simp),h.b2.only hO (by simp),h.b3.set_ j v,bel_on1 h.bel hO (by omega)⟩
theorem cells8_16 {w:World} {g:Nat} {T:TypeId} {a0 a1 a2 a3 a4 a5 a6 a7:Value} (h:Blk w g T [a0,a1,a2,a3,a4,a5,a6,a7]) :
  w.cell? ⟨g,0,none⟩ = some a0∧w.cell? ⟨g,1,none⟩ = some a1∧w.cell? ⟨g,2,none⟩ = some a2∧w.cell? ⟨g,3,none⟩ = some a3∧w.cell? ⟨g,4,none⟩ = some a4∧w.cell? ⟨g,5,none⟩ = some a5∧w.cell? ⟨g,6,none⟩ = some a6∧w.cell? ⟨g,7,none⟩ = some a7:=⟨h.cell 0,h.cell 1,h.cell 2,h.cell 3,h.cell 4,h.cell 5,h.cell 6,h.cell 7⟩
theorem rnode_text (s:HS) (hi:Inv s) (x:NT) (w:World) (hx:x.In w (Lt w)) (hk:x.k = 0) (hrun:∀ W,Calls Tryz.prog 111 #[s.val,.string x.s] W (SvP (runS s (toL x.s)) W)):Calls Tryz.prog 93 #[.agg #[.int .i64 (s.c:Nat),.string (ofL s.n),.string (ofL s.a),.string (ofL s.p)],nV x] w (RnP (nodeI s x) x.a w):=by
 have k0:(x.k == 0) = true:=by rw [hk];rfl
 rw [nodeI_eq,if_pos hk]
 obtain ⟨T,hT⟩:∃ T,T = runS s x.s.data.toList:=⟨_,rfl⟩
 rw [← hT]
 have HRU:=hid (fun W => show Calls Tryz.prog 111 #[.agg #[.int .i64 (s.c:Nat),.string (ofL s.n),.string (ofL s.a),.string (ofL s.p)],.string x.s] W (SvV (.agg #[.int .i64 (T.c:Nat),.string (ofL T.n),.string (ofL T.a),.string (ofL T.p)]) W) by rw [hT];exact hrun W)
 have HN:=hid (nd_start w s x)
 clear hrun hT hi hx hk
 go_enter Tryz.func93,Tryz.ntmps93
 go_wp2_with (go_at_call 111;((with_reducible refine (HRU.out _).mono ?_);rintro e w2 ⟨rfl,hb⟩;have HN2:=hid (HN.out.later hb);clear hb;obtain ⟨y0,y1,y2,y3,y4,y5,y6⟩:=frees7 HN2.out.b3;obtain ⟨u0,u1,u2,u3,u4,u5,u6⟩:=frees7 HN2.out.b2;obtain ⟨c0,c1,c2,c3,c4,c5,c6⟩:=cells7 HN2.out.b3;obtain ⟨d0,d1,d2,d3,d4,d5,d6⟩:=cells7 HN2.out.b2))
 (with_reducible apply nd_end)
 case hf => rfl
 case hp => rfl
 case hN => exact HN2.out
 case hO => (repeat with_reducible refine Only.setCell ?_ (.inl (by simp)) _);exact Only.refl _ _
 case he => intro W2 hO2;exact ⟨T,none,0,0,x.a,0,rfl,hid ⟨rfl,rfl,rfl,Es.nil _ _⟩⟩
theorem rnode_print (s:HS) (hi:Inv s) (x:NT) (w:World) (hx:x.In w (Lt w)) (hk:x.k = 1):Calls Tryz.prog 93 #[.agg #[.int .i64 (s.c:Nat),.string (ofL s.n),.string (ofL s.a),.string (ofL s.p)],nV x] w (RnP (nodeI s x) x.a w):=by
 have k0:(x.k == 0) = false:=by rw [hk];rfl
 have k1:(x.k == 1) = true:=by rw [hk];rfl
 rw [nodeI_eq,if_neg (by rw [hk];decide),if_pos hk]
 have HES:=hid (fun W => show Calls Tryz.prog 112 #[.agg #[.int .i64 (s.c:Nat),.string (ofL s.n),.string (ofL s.a),.string (ofL s.p)]] W _ from resc_c s W)
 generalize escS s = q at HES ⊢
 obtain ⟨ke,be⟩:=q
 have HN:=hid (nd_start w s x)
 clear hi hx hk
 go_enter Tryz.func93,Tryz.ntmps93
 cases be
 case' false =>
  go_wp2_with (go_at_call 112;((with_reducible refine (HES.out _).mono ?_);rintro e w2 ⟨rfl,hb⟩;have HN1:=hid (HN.out.later hb);have hN2:=(HN1.out.set 6 (.int .i64 15)).later (Bel.alloc _ (.cells #[.int .i64 (ke:Nat)] 3));simp only [List.set_cons_succ,List.set_cons_zero] at hN2;have HN2:=hid hN2;clear hb hN2;obtain ⟨y0,y1,y2,y3,y4,y5,y6⟩:=frees7 HN1.out.b3;obtain ⟨u0,u1,u2,u3,u4,u5,u6⟩:=frees7 HN1.out.b2;obtain ⟨c0,c1,c2,c3,c4,c5,c6⟩:=cells7 HN1.out.b3;obtain ⟨d0,d1,d2,d3,d4,d5,d6⟩:=cells7 HN1.out.b2;obtain ⟨z0,z1,z2,z3,z4,z5,z6⟩:=frees7 HN2.out.b3;obtain ⟨q0,q1,q2,q3,q4,q5,q6⟩:=frees7 HN2.out.b2;obtain ⟨e0,e1,e2,e3,e4,e5,e6⟩:=cells7 HN2.out.b3;obtain ⟨f0,f1,f2,f3,f4,f5,f6⟩:=cells7 HN2.out.b2))
  (with_reducible apply nd_end)
  case hf => rfl
  case hp => rfl
  case hN => exact HN2.out
  case hO => (repeat with_reducible refine Only.setCell ?_ (.inl (by simp)) _);exact Only.refl _ _
  case he => intro W2 hO2;exact ⟨s,_,_,_,_,_,rfl,hid ⟨rfl,rfl,by decide⟩⟩
 case' true =>
  go_wp2_with (go_at_call 112;((with_reducible refine (HES.out _).mono ?_);rintro e w2 ⟨rfl,hb⟩;have HN1:=hid (HN.out.later hb);have HN2:=hid (HN1.out.later (Bel.alloc w2 (.cells #[.int .i64 (ke:Nat)] 3)));have HE:=hid (show Es w (w2.alloc (.cells #[.int .i64 (ke:Nat)] 3)) (some ⟨w2.heap.size,0,none⟩) 1 1 [ke] from ⟨rfl,RowAt.of_blk (Blk.new w2 3 [.int .i64 (ke:Nat)]) (by show 1≤maxLen;decide),by rw [rowT_some];simp;exact HN1.out.bel.size⟩);clear hb;obtain ⟨y0,y1,y2,y3,y4,y5,y6⟩:=frees7 HN2.out.b3;obtain ⟨u0,u1,u2,u3,u4,u5,u6⟩:=frees7 HN2.out.b2;obtain ⟨c0,c1,c2,c3,c4,c5,c6⟩:=cells7 HN2.out.b3;obtain ⟨d0,d1,d2,d3,d4,d5,d6⟩:=cells7 HN2.out.b2))
  (with_reducible apply nd_end)
  case hf => rfl
  case hp => rfl
  case hN => exact HN2.out
  case hO => (repeat with_reducible refine Only.setCell ?_ (.inl (by simp)) _);exact Only.refl _ _
  case he => intro W2 hO2;exact ⟨s,_,_,_,_,_,rfl,hid ⟨rfl,rfl,rfl,HE.out.only hO2 (fun k hk hm => by rw [rowT_some,List.mem_singleton] at hk;have hk:k = w2.heap.size:=hk;have h1:=HN1.out.b2.lt;have h2:=HN1.out.b3.lt;simp at hm;subst hk;omega)⟩⟩
theorem rnode_call (s:HS) (hi:Inv s) (x:NT) (w:World) (hx:x.In w (Lt w)) (hk:x.k = 4):Calls Tryz.prog 93 #[.agg #[.int .i64 (s.c:Nat),.string (ofL s.n),.string (ofL s.a),.string (ofL s.p)],nV x] w (RnP (nodeI s x) x.a w):=by
 have k0:(x.k == 0) = false:=by rw [hk];rfl
 have k1:(x.k == 1) = false:=by rw [hk];rfl
 have k2:(x.k == 2) = false:=by rw [hk];rfl
 have k3:(x.k == 3) = false:=by rw [hk];rfl
 have k4:(x.k == 4) = true:=by rw [hk];rfl
 rw [nodeI_eq,if_neg (by rw [hk];decide),if_neg (by rw [hk];decide),if_neg (by rw [hk];decide),if_neg (by rw [hk];decide),if_pos hk]
 have HN:=hid (nd_start w s x)
 have hgr:=rst_guard16
 clear hi hx hk
 cases hq:eqH s (s0 0) with
 | true =>
  have hcmp:∀ W,(binOp .neq 153 (.agg #[.int .i64 (s.c:Nat),.string (ofL s.n),.string (ofL s.a),.string (ofL s.p)]) (.agg #[.int .i64 0,.string ⟨#[]⟩,.string ⟨#[]⟩,.string ⟨#[]⟩])).run Tryz.prog W = .ok (.bool false) W:=fun W => by have h:=rst_neq s (s0 0) W;rw [hq] at h;exact h
  clear hq
  rw [if_pos rfl]
  go_enter Tryz.func93,Tryz.ntmps93
  go_wp2_with fail
  (with_reducible apply nd_fold)
  case hf => rfl
  case hp => rfl
  case he => intro W2;exact ⟨s,none,0,0,_,_,rfl,hid ⟨rfl,rfl,rfl,Es.nil _ _⟩⟩
 | false =>
  have hcmp:∀ W,(binOp .neq 153 (.agg #[.int .i64 (s.c:Nat),.string (ofL s.n),.string (ofL s.a),.string (ofL s.p)]) (.agg #[.int .i64 0,.string ⟨#[]⟩,.string ⟨#[]⟩,.string ⟨#[]⟩])).run Tryz.prog W = .ok (.bool true) W:=fun W => by have h:=rst_neq s (s0 0) W;rw [hq] at h;exact h
  clear hq
  rw [if_neg (by decide)]
  go_enter Tryz.func93,Tryz.ntmps93
  go_wp2_with fail
  (with_reducible apply nd_fold)
  case hf => rfl
  case hp => rfl
  case he => intro W2;exact ⟨s,none,0,0,_,_,rfl,hid ⟨rfl,rfl,by decide⟩⟩
theorem rnode_other (s:HS) (hi:Inv s) (x:NT) (w:World) (hx:x.In w (Lt w)) (hk:x.k ≠ 0∧x.k ≠ 1∧x.k ≠ 2∧x.k ≠ 3∧x.k ≠ 4∧x.k ≠ 6):Calls Tryz.prog 93 #[.agg #[.int .i64 (s.c:Nat),.string (ofL s.n),.string (ofL s.a),.string (ofL s.p)],nV x] w (RnP (nodeI s x) x.a w):=by
 have k0:(x.k == 0) = false:=by have:=hk;simp only [beq_eq_false_iff_ne];omega
 have k1:(x.k == 1) = false:=by have:=hk;simp only [beq_eq_false_iff_ne];omega
 have k2:(x.k == 2) = false:=by have:=hk;simp only [beq_eq_false_iff_ne];omega
 have k3:(x.k == 3) = false:=by have:=hk;simp only [beq_eq_false_iff_ne];omega
 have k4:(x.k == 4) = false:=by have:=hk;simp only [beq_eq_false_iff_ne];omega
 have k6:(x.k == 6) = false:=by have:=hk;simp only [beq_eq_false_iff_ne];omega
 rw [nodeI_eq,if_neg (by omega),if_neg (by omega),if_neg (by omega),if_neg (by omega),if_neg (by omega),if_neg (by omega)]
 have HN:=hid (nd_start w s x)
 clear hi hx hk
 go_enter Tryz.func93,Tryz.ntmps93
 go_wp2_with fail
 (with_reducible apply nd_fold)
 case hf => rfl
 case hp => rfl
 case he => intro W2;exact ⟨s,none,0,0,_,_,rfl,hid ⟨rfl,rfl,rfl,Es.nil _ _⟩⟩
end Go.Proofs.YtpcapmdfjmpdiaaGreatDoor
