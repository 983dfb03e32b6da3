/- The program of layer 16: the analysis as it lies in memory, what its functions answer -/
import Derived.Test.YtpcapmdfjmpdiaaGreatDoorMRo16
import Derived.Test.YtpcapmdfjmpdiaaGreatDoorMLn17
import Derived.Test.YtpcapmdfjmpdiaaGreatDoorMCt12
import Derived.Test.YtpcapmdfjmpdiaaGreatDoorMRn16
import Derived.Test.YtpcapmdfjmpdiaaGreatDoorMDb17
import Derived.Test.YtpcapmdfjmpdiaaGreatDoorMPf12
import Derived.Defers
set_option linter.unusedVariables false
set_option linter.unusedSimpArgs false
set_option maxRecDepth 100000
set_option maxHeartbeats 6400000
open Go.Lib (hid)
namespace Go.Proofs.YtpcapmdfjmpdiaaGreatDoor
section
open Go.RowKit Go.BigFrame NT
theorem pst_neq (s t:HS) (w:World):(binOp .neq 74 (.agg #[.int .i64 (s.c:Nat),.string (ofL s.n),.string (ofL s.a),.string (ofL s.p)]) (.agg #[.int .i64 (t.c:Nat),.string (ofL t.n),.string (ofL t.a),.string (ofL t.p)])).run Tryz.prog w = .ok (.bool (!eqH s t)) w:=by
 have u3:=Tryz.underlying3
 have a3:=Tryz.isAgg3
 have z3:=Tryz.sizeOf3
 have u9:=Tryz.underlying9
 have a9:=Tryz.isAgg9
 have z9:=Tryz.sizeOf9
 have hS:Tryz.prog.underlying 74 = some (.struct (Tryz.prog.fieldsOf 74)):=by kernel_rfl
 have hp:Tryz.prog.stoodInHeld 74 = false:=by kernel_rfl
 rw [run_neq_struct,show (10000:Nat) = 9999 + 1 from rfl,run_equalIn_agg w 9999 74 _ _ hS hp]
 simp only [Program.fieldsOf,Tryz.underlying74]
 go_simp
 unfold eqH
 simp only [ofL_list]
 have hc:((s.c:Int) = (t.c:Int)) ↔ s.c = t.c:=by omega
 by_cases h1:s.c = t.c <;> by_cases h2:s.n = t.n <;> by_cases h3:s.a = t.a <;> by_cases h4:s.p = t.p <;> simp [h1,h2,h3,h4,hc]
structure An (B rr:Nat) (w:World) (A:Option Addr) (n c:Nat) (es:List Nat):Prop where
 blk:Blk w rr 72 [.slice A n c]
 len:n = es.length
 row:RowAt w 3 A n c (vin es)
 lo:B≤rr
 low:∀ k,k ∈ rowT A→B≤k
theorem An.bel {B rr:Nat} {w w':World} {A:Option Addr} {n c:Nat} {es:List Nat} (h:An B rr w A n c es) (hb:Bel w w'):An B rr w' A n c es:=⟨h.blk.belh hb,h.len,h.row.only (bel_only hb) (by simp),h.lo,h.low⟩
theorem An.size {B rr:Nat} {w:World} {A:Option Addr} {n c:Nat} {es:List Nat} (h:An B rr w A n c es):B≤w.heap.size:=by have:=h.blk.lt;have:=h.lo;omega
theorem An.ne {B rr:Nat} {w:World} {A:Option Addr} {n c:Nat} {es:List Nat} {g:Nat} {T:TypeId} {cs:List Value} (h:An B rr w A n c es) (hB:Blk w g T cs) (hT:T ≠ 72):g ≠ rr:=by
 rintro rfl
 have h1:=h.blk
 unfold Blk at h1 hB
 rw [hB] at h1
 simp only [Option.some.injEq,Obj.cells.injEq] at h1
 exact hT h1.2.1
theorem An.keep {B rr:Nat} {w w':World} {A:Option Addr} {n c:Nat} {es:List Nat} {g:Nat} {T:TypeId} {cs:List Value} (h:An B rr w A n c es) (hO:Only (rr :: rowT A) w w') (hB:Blk w g T cs) (h1:T ≠ 72) (h2:T ≠ 3):Blk w' g T cs :=
 hB.only hO (by rw [List.mem_cons,not_or];exact ⟨h.ne hB h1,h.row.ne_blk hB h2⟩)
theorem An.own {B rr:Nat} {w w':World} {A:Option Addr} {n c:Nat} {es:List Nat} {g:Nat} {T:TypeId} {cs:List Value} (h:An B rr w A n c es) (hO:Only [g] w w') (hB:Blk w g T cs) (h1:T ≠ 72) (h2:T ≠ 3):An B rr w' A n c es :=
 ⟨h.blk.only hO (by rw [List.mem_singleton];exact fun e => h.ne hB h1 e.symm),h.len,h.row.only hO (fun k hk hm => by rw [List.mem_singleton] at hm;subst hm;exact h.row.ne_blk hB h2 hk),h.lo,h.low⟩
structure Ev (B rr:Nat) (w:World) (A0:Option Addr) (W:World) (A:Option Addr) (n c:Nat) (es:List Nat):Prop where
 an:An B rr W A n c es
 only:Only (rr :: rowT A0) w W
 sub:∀ k,k ∈ rowT A→k ∈ rowT A0 ∨ w.heap.size≤k
theorem Ev.refl {B rr:Nat} {w:World} {A:Option Addr} {n c:Nat} {es:List Nat} (h:An B rr w A n c es):Ev B rr w A w A n c es:=⟨h,Only.refl _ _,fun k hk => .inl hk⟩
theorem Ev.bel {B rr:Nat} {w W W':World} {A0 A:Option Addr} {n c:Nat} {es:List Nat} (h:Ev B rr w A0 W A n c es) (hb:Bel W W'):Ev B rr w A0 W' A n c es:=⟨h.an.bel hb,h.only.join (bel_only hb) (by simp),h.sub⟩
theorem Ev.own {B rr:Nat} {w W W':World} {A0 A:Option Addr} {n c:Nat} {es:List Nat} {g:Nat} {T:TypeId} {cs:List Value} (h:Ev B rr w A0 W A n c es) (hO:Only [g] W W') (hg:w.heap.size≤g) (hB:Blk W g T cs) (h1:T ≠ 72) (h2:T ≠ 3):Ev B rr w A0 W' A n c es :=
 ⟨h.an.own hO hB h1 h2,h.only.join hO (fun i hi => by rw [List.mem_singleton] at hi;subst hi;exact .inr hg),h.sub⟩
theorem Ev.call {B rr:Nat} {w W W':World} {A0 A A':Option Addr} {n' c':Nat} {es':List Nat} (hO:Only (rr :: rowT A0) w W) (hs:∀ k,k ∈ rowT A→k ∈ rowT A0 ∨ w.heap.size≤k) (h2:Ev B rr W A W' A' n' c' es'):Ev B rr w A0 W' A' n' c' es' :=
 ⟨h2.an,hO.join h2.only (fun i hi => by
  rcases List.mem_cons.1 hi with rfl | hi
  ·exact .inl (by simp)
  ·exact (hs i hi).imp (fun h => List.mem_cons_of_mem _ h) id),fun k hk => by
  rcases h2.sub k hk with h | h
  ·exact hs k h
  ·exact .inr (Nat.le_trans hO.size h)⟩
theorem Ev.then {B rr:Nat} {w W W':World} {A0 A A':Option Addr} {n c n' c':Nat} {es es':List Nat} (h:Ev B rr w A0 W A n c es) (h2:Ev B rr W A W' A' n' c' es'):Ev B rr w A0 W' A' n' c' es':=Ev.call h.only h.sub h2
theorem Ev.below {B rr:Nat} {w W:World} {A0 A:Option Addr} {n0 c0 n c:Nat} {es0 es:List Nat} (h:Ev B rr w A0 W A n c es) (h0:An B rr w A0 n0 c0 es0):Below B w W:=h.only.to_below h0.size (fun k hk => by
 rcases List.mem_cons.1 hk with rfl | hk
 ·exact h0.lo
 ·exact h0.low k hk)
theorem NT.In.low {B:Nat} {w w':World} {t:NT} (h:t.In w (·< B)) (hb:Below B w w'):t.In w' (·< B):=h.same (fun _ hg => hg) fun g p hg => Below.cell (p:=⟨g,p,none⟩) hb hg
theorem NT.Row.low {B:Nat} {w w':World} {A:Option Addr} {c:Nat} {l:List NT} (h:Row w (·< B) A c l) (hb:Below B w w'):Row w' (·< B) A c l:=h.same (fun _ hg => hg) fun g p hg => Below.cell (p:=⟨g,p,none⟩) hb hg
def PQ (r:IR) (done:List Nat) (t:HS) (a k:Int) (es:List Nat):Prop:=match r with
 | .ok s e => t = s∧a = 0∧k = 0∧es = done ++ e
 | .no a' k' => t = s0 0∧a = a'∧k = (k':Nat)∧k' ≠ 0
def PP (r:IR) (done:List Nat) (B rr:Nat) (w:World) (A:Option Addr) (e:Ending) (w':World):Prop :=
 ∃ t a k A' n' c' es,e = .returned (.tuple #[.agg #[.int .i64 (t.c:Nat),.string (ofL t.n),.string (ofL t.a),.string (ofL t.p)],.int .i64 a,.int .i64 k])∧Hid (Ev B rr w A w' A' n' c' es)∧Hid (PQ r done t a k es)
def PB (v:Value) (a k:Int) (w:World) (e:Ending) (w':World):Prop:=e = .returned (.tuple #[v,.int .i64 a,.int .i64 k])∧Bel w w'
theorem results_row_tmp2_16 {P:Program} {fn:Func} {p u v:Tmp} {ty:TypeId} (h:fn.results = #[.cell p ty,.tmp u,.tmp v]) (tmps:Array Value) (w:World) (g:Nat) (t:TypeId) (cs:Array Value) (fr:Nat × Nat) (d:TypeDesc)
  (hp:tmps.getD p undef = .pointer (some ⟨g,0,none⟩)) (hg:w.heap[g]? = some (.cells cs t fr)) (hu:P.underlying ty = some d) (hd:(match d with | .struct _ | .array _ _ => true | _ => false) = true) (hi:(P.info? ty).map (·.size) = some cs.size) :
  (results fn tmps).run P w = .ok (.tuple #[.agg cs,tmps.getD u undef,tmps.getD v undef]) w:=by
 have hp':tmps[p]?.getD undef = .pointer (some ⟨g,0,none⟩):=by simpa using hp
 simp [results,h,hp',asAddr,run_loadVar_row w g t ty cs fr d hg hu hd hi]
theorem only4p (W:World) (g:Nat) (a0 a1 a2 a3:Value):Only [g] W ((((W.setCell ⟨g,0,none⟩ a0).setCell ⟨g,1,none⟩ a1).setCell ⟨g,2,none⟩ a2).setCell ⟨g,3,none⟩ a3) :=
 (((((Only.refl [g] W).setCell (.inl (by simp)) _).setCell (.inl (by simp)) _).setCell (.inl (by simp)) _).setCell (.inl (by simp)) _)
theorem pp_set {f:Func} {p u v g:Nat} {tmps:Array Value} {w W:World} {r:IR} {done:List Nat} {B rr:Nat} {A:Option Addr} {a0 a1 a2 a3 v0 v1 v2 v3:Value} {t:HS} {a k:Int} {A':Option Addr} {n' c':Nat} {es:List Nat}
  (hf:f.results = #[.cell p 74,.tmp u,.tmp v]) (hp:tmps.getD p undef = .pointer (some ⟨g,0,none⟩)) (hu:tmps.getD u undef = .int .i64 a) (hv:tmps.getD v undef = .int .i64 k)
  (hB:Blk W g 74 [a0,a1,a2,a3]) (hg:w.heap.size≤g) (hE:Ev B rr w A W A' n' c' es) (he:Value.agg #[v0,v1,v2,v3] = .agg #[.int .i64 (t.c:Nat),.string (ofL t.n),.string (ofL t.a),.string (ofL t.p)]) (hq:PQ r done t a k es) :
  bodyPost Tryz.prog f (PP r done B rr w A) .ret { tmps:=tmps,defers:=[] } ((((W.setCell ⟨g,0,none⟩ v0).setCell ⟨g,1,none⟩ v1).setCell ⟨g,2,none⟩ v2).setCell ⟨g,3,none⟩ v3):=by
 have h1:=(((hB.set_ 0 v0).set_ 1 v1).set_ 2 v2).set_ 3 v3
 simp only [List.set_cons_succ,List.set_cons_zero] at h1
 refine bodyPost_ret (results_row_tmp2_16 hf _ _ g _ _ (0,0) _ hp h1 Tryz.underlying74 rfl (by kernel_rfl)) rfl ?_
 exact ⟨t,a,k,A',n',c',es,by rw [← he,hu,hv],hid (hE.own (only4p W g v0 v1 v2 v3) hg hB (by decide) (by decide)),hid hq⟩
theorem pb_blk {f:Func} {p u v g:Nat} {tmps:Array Value} {w W:World} {v0 v1 v2 v3:Value} {x:Value} {a k:Int}
  (hf:f.results = #[.cell p 74,.tmp u,.tmp v]) (hp:tmps.getD p undef = .pointer (some ⟨g,0,none⟩)) (hu:tmps.getD u undef = .int .i64 a) (hv:tmps.getD v undef = .int .i64 k)
  (hB:Blk W g 74 [v0,v1,v2,v3]) (hb:Bel w W) (he:Value.agg #[v0,v1,v2,v3] = x) :
  bodyPost Tryz.prog f (PB x a k w) .ret { tmps:=tmps,defers:=[] } W:=by
 refine bodyPost_ret (results_row_tmp2_16 hf _ _ g _ _ (0,0) _ hp hB Tryz.underlying74 rfl (by kernel_rfl)) rfl ?_
 exact ⟨by rw [← he,hu,hv],hb⟩
end
section
open Go.RowKit Go.BigFrame NT
theorem rnode_define (s:HS) (hi:Inv s) (x:NT) (w:World) (hx:x.In w (Lt w)) (hk:x.k = 6) (hbody:∀ W,Bel w W→Calls Tryz.prog 70 #[.agg #[.int .i64 0,.string ⟨#[]⟩,.string ⟨#[]⟩,.string ⟨#[]⟩],.slice x.A x.b.length x.c] W (RnP (listI (s0 0) x.b) 0 W)):Calls Tryz.prog 93 #[.agg #[.int .i64 (s.c:Nat),.string (ofL s.n),.string (ofL s.a),.string (ofL s.p)],nV x] w (RnP (nodeI s x) x.a w):=by
 have k0:(x.k == 0) = false:=by rw [hk];rfl
 have k1:(x.k == 1) = false:=by rw [hk];rfl
 have k2:(x.k == 2) = false:=by rw [hk];rfl
 have k3:(x.k == 3) = false:=by rw [hk];rfl
 have k4:(x.k == 4) = false:=by rw [hk];rfl
 have k6:(x.k == 6) = true:=by rw [hk];rfl
 rw [nodeI_eq,if_neg (by rw [hk];decide),if_neg (by rw [hk];decide),if_neg (by rw [hk];decide),if_neg (by rw [hk];decide),if_neg (by rw [hk];decide),if_pos hk]
 have HN:=hid (nd_start w s x)
 cases hr:listI (s0 0) x.b with
 | no a1 e1 =>
  rw [hr] at hbody
  have HL:=hid hbody
  have he:=listI_err hr
  have hk0:(e1:Int) ≠ 0:=by omega
  have hk1:((e1:Int) != 0) = true:=bne_iff_ne.2 hk0
  have HE:=hid he
  clear hbody hr hi hx hk he
  rw [IR.next_no]
  go_enter Tryz.func93,Tryz.ntmps93
  go_wp2_with (go_at_call 70;((with_reducible refine (HL.out _ HN.out.bel).mono ?_);rintro e w2 ⟨hb,t1,A1,n1,c1,a1',e1',rfl,hq⟩;obtain ⟨rfl,rfl,hne⟩:=hq.out;have HN2:=hid ((HN.out.later hb).later (Bel.alloc w2 (.cells #[.int .i64 (t1.c:Nat),.string (ofL t1.n),.string (ofL t1.a),.string (ofL t1.p),.slice A1 n1 c1,.int .i64 a1',.int .i64 e1] 155)));clear hb hq hne;obtain ⟨y0,y1,y2,y3,y4,y5,y6⟩:=frees7 HN2.out.b3;obtain ⟨u0,u1,u2,u3,u4,u5,u6⟩:=frees7 HN2.out.b2;obtain ⟨c0,c1,c2,c3,c4,c5,c6⟩:=cells7 HN2.out.b3;obtain ⟨d0,d1,d2,d3,d4,d5,d6⟩:=cells7 HN2.out.b2))
  (with_reducible apply nd_end)
  case hf => rfl
  case hp => rfl
  case hN => exact HN2.out
  case hO => (repeat with_reducible refine Only.setCell ?_ (.inl (by simp)) _);exact Only.refl _ _
  case he => intro W2 hO2;exact ⟨t1,_,_,_,_,_,rfl,hid ⟨rfl,rfl,by have:=HE.out;omega⟩⟩
 | ok s1 es1 =>
  rw [hr] at hbody
  have HL:=hid hbody
  rw [IR.next_ok]
  clear hbody hr hi hx hk
  have hgr:=rst_guard16
  cases hq:eqH s1 (s0 0) with
  | true =>
   have hcmp:∀ W,(binOp .neq 153 (.agg #[.int .i64 (s1.c:Nat),.string (ofL s1.n),.string (ofL s1.a),.string (ofL s1.p)]) (.agg #[.int .i64 0,.string ⟨#[]⟩,.string ⟨#[]⟩,.string ⟨#[]⟩])).run Tryz.prog W = .ok (.bool false) W:=fun W => by have h:=rst_neq s1 (s0 0) W;rw [hq] at h;exact h
   clear hq
   rw [if_pos rfl]
   go_enter Tryz.func93,Tryz.ntmps93
   go_wp2_with (go_at_call 70;((with_reducible refine (HL.out _ HN.out.bel).mono ?_);rintro e w2 ⟨hb,t1,A1,n1,c1,a1',e1',rfl,hq1⟩;obtain ⟨rfl,rfl,rfl,hes⟩:=hq1.out;have HE:=hid ((hes.since (HN.out.bel.size)).later (Bel.alloc w2 (.cells #[.int .i64 (t1.c:Nat),.string (ofL t1.n),.string (ofL t1.a),.string (ofL t1.p),.slice A1 n1 c1,.int .i64 0,.int .i64 0] 155)));have HN2:=hid ((HN.out.later hb).later (Bel.alloc w2 (.cells #[.int .i64 (t1.c:Nat),.string (ofL t1.n),.string (ofL t1.a),.string (ofL t1.p),.slice A1 n1 c1,.int .i64 0,.int .i64 0] 155)));clear hb hq1 hes;obtain ⟨y0,y1,y2,y3,y4,y5,y6⟩:=frees7 HN2.out.b3;obtain ⟨u0,u1,u2,u3,u4,u5,u6⟩:=frees7 HN2.out.b2;obtain ⟨c0,c1,c2,c3,c4,c5,c6⟩:=cells7 HN2.out.b3;obtain ⟨d0,d1,d2,d3,d4,d5,d6⟩:=cells7 HN2.out.b2;obtain ⟨s0',s1',s2',s3'⟩:=cells4 HN2.out.b0))
   (with_reducible apply nd_end)
   case hf => rfl
   case hp => rfl
   case hN => exact HN2.out
   case hO => (repeat with_reducible refine Only.setCell ?_ (.inl (by simp)) _);exact Only.refl _ _
   case he => intro W2 hO2;exact ⟨s,_,_,_,_,_,rfl,hid ⟨rfl,rfl,rfl,HE.out.only hO2 (fun k hk hm => by have h1:=HE.out.blk HN2.out.b2 (by decide);have h2:=HE.out.blk HN2.out.b3 (by decide);simp at hm;rcases hm with rfl | rfl;exact h1 hk;exact h2 hk)⟩⟩
  | false =>
   have hcmp:∀ W,(binOp .neq 153 (.agg #[.int .i64 (s1.c:Nat),.string (ofL s1.n),.string (ofL s1.a),.string (ofL s1.p)]) (.agg #[.int .i64 0,.string ⟨#[]⟩,.string ⟨#[]⟩,.string ⟨#[]⟩])).run Tryz.prog W = .ok (.bool true) W:=fun W => by have h:=rst_neq s1 (s0 0) W;rw [hq] at h;exact h
   clear hq
   rw [if_neg (by decide)]
   go_enter Tryz.func93,Tryz.ntmps93
   go_wp2_with (go_at_call 70;((with_reducible refine (HL.out _ HN.out.bel).mono ?_);rintro e w2 ⟨hb,t1,A1,n1,c1,a1',e1',rfl,hq1⟩;obtain ⟨rfl,rfl,rfl,hes⟩:=hq1.out;have HE:=hid ((hes.since (HN.out.bel.size)).later (Bel.alloc w2 (.cells #[.int .i64 (t1.c:Nat),.string (ofL t1.n),.string (ofL t1.a),.string (ofL t1.p),.slice A1 n1 c1,.int .i64 0,.int .i64 0] 155)));have HN2:=hid ((HN.out.later hb).later (Bel.alloc w2 (.cells #[.int .i64 (t1.c:Nat),.string (ofL t1.n),.string (ofL t1.a),.string (ofL t1.p),.slice A1 n1 c1,.int .i64 0,.int .i64 0] 155)));clear hb hq1 hes;obtain ⟨y0,y1,y2,y3,y4,y5,y6⟩:=frees7 HN2.out.b3;obtain ⟨u0,u1,u2,u3,u4,u5,u6⟩:=frees7 HN2.out.b2;obtain ⟨c0,c1,c2,c3,c4,c5,c6⟩:=cells7 HN2.out.b3;obtain ⟨d0,d1,d2,d3,d4,d5,d6⟩:=cells7 HN2.out.b2;obtain ⟨s0',s1',s2',s3'⟩:=cells4 HN2.out.b0))
   (with_reducible apply nd_end)
   case hf => rfl
   case hp => rfl
   case hN => exact HN2.out
   case hO => (repeat with_reducible refine Only.setCell ?_ (.inl (by simp)) _);exact Only.refl _ _
   case he => intro W2 hO2;exact ⟨s,_,_,_,_,_,rfl,hid ⟨rfl,rfl,by decide⟩⟩
end
section
open Go.RowKit Go.BigFrame NT
def Xr (w:World) (A:Option Addr) (c:Nat) (l:List XI):Prop:=l.length≤c∧∀ i x,l[i]? = some x→∃ g o,A = some ⟨g,o,none⟩∧∀ W,Bel w W→∀ j u,x.cs[j]? = some u→W.cell? ⟨g,o + i * 6 + j,none⟩ = some u
theorem Xr.bel {w w':World} {A:Option Addr} {c:Nat} {l:List XI} (h:Xr w A c l) (hb:Bel w w'):Xr w' A c l:=⟨h.1,fun i x hx => by
 obtain ⟨g,o,e,hc⟩:=h.2 i x hx
 exact ⟨g,o,e,fun W hW => hc W (hb.trans hW)⟩⟩
theorem Xr.of_krow {w:World} {A:Option Addr} {c:Nat} {l:List IN} (h:KRow w 31 6 IN.cs A c l):Xr w A c (l.map IN.x):=by
 refine ⟨by rw [List.length_map];exact h.le,fun i x hx => ?_⟩
 rw [List.getElem?_map] at hx
 cases hl:l[i]? with
 | none => rw [hl] at hx;cases hx
 | some y =>
  rw [hl] at hx
  injection hx with hx
  subst hx
  obtain ⟨g,o,rfl,hg,hc⟩:=h.at_ IN.cs_len hl (by decide)
  exact ⟨g,o,rfl,fun W hb j u hu => (hb.cell hg).trans (hc j u hu)⟩
end
section
open Go.RowKit Go.BigFrame NT
theorem flat_set17 {α:Type} {f:α→List Value} {z:Nat} (hf:∀ a,(f a).length = z):∀ {l:List α} {i j:Nat} {b:α} {v:Value} {a:α},l[i]? = some a→(f a).set j v = f b→j < z→(flat f l).set (i * z + j) v = flat f (l.set i b)
 | [],i,j,b,v,a,h,_,_ => by simp at h
 | x :: l,0,j,b,v,a,h,hs,hj => by
  simp at h;subst h
  rw [Nat.zero_mul,Nat.zero_add,List.set_cons_zero,flat_cons,flat_cons,List.set_append_left _ _ (by rw [hf];exact hj),hs]
 | x :: l,i + 1,j,b,v,a,h,hs,hj => by
  rw [List.set_cons_succ,flat_cons,flat_cons,Nat.add_mul,Nat.one_mul,show i * z + z + j = (f x).length + (i * z + j) by rw [hf];omega]
  rw [List.set_append_right _ _ (by omega),Nat.add_sub_cancel_left,flat_set17 hf (by simpa using h) hs hj]
theorem krow_setCell17 {α:Type} {f:α→List Value} {z:Nat} {w:World} {e:TypeId} {c g o:Nat} {l:List α} (h:KRow w e z f (some ⟨g,o,none⟩) c l) (hf:∀ a,(f a).length = z) {i j:Nat} {a b:α} {v:Value} (hi:l[i]? = some a) (hj:j < z) (hs:(f a).set j v = f b) :
  KRow (w.setCell ⟨g,o + i * z + j,none⟩ v) e z f (some ⟨g,o,none⟩) c (l.set i b):=by
 have hil:=(List.getElem?_eq_some_iff.1 hi).1
 have hm:i * z + z≤l.length * z:=by rw [← Nat.succ_mul];exact Nat.mul_le_mul_right _ hil
 have:=RowK.set_ h rfl (i * z + j) (by omega) v
 rw [flat_set17 hf hi hs hj,← Nat.add_assoc] at this
 unfold KRow
 rw [List.length_set]
 exact this
theorem stT_set:∀ {L:List IN} {i t:Nat} {x:IN},L[i]? = some x→stT L i t = L.set i { x with t:=t }
 | [],i,t,x,h => by simp at h
 | y :: L,0,t,x,h => by simp at h;subst h;rfl
 | y :: L,i + 1,t,x,h => by
  have:=stT_set (L:=L) (i:=i) (t:=t) (x:=x) (by simpa using h)
  exact congrArg (y :: ·) this
theorem As.aim {Q:Nat→Prop} {rr:Nat} {w:World} {v:AV} (h:As Q rr w v) {i t g o:Nat} (hi:i < v.L.length) (hA:v.A = some ⟨g,o,none⟩) :
  Ev17 Q rr w v (w.setCell ⟨g,o + i * 6 + 5,none⟩ (.int .i64 (t:Nat))) { v with L:=stT v.L i t }:=by
 have hx:=List.getElem?_eq_getElem hi
 have hS:=stT_set (t:=t) hx
 have hg:g ∈ rowT v.A:=mem_rowT.2 ⟨_,hA,rfl⟩
 have hO:Only (rowT v.A) w (w.setCell ⟨g,o + i * 6 + 5,none⟩ (.int .i64 (t:Nat))):=(Only.refl _ _).setCell (.inl hg) _
 refine ⟨⟨?_,?_,?_,?_,fun k hk => ⟨by have:=hO.size;have:=(h.fr k hk).1;omega,(h.fr k hk).2⟩⟩,hO.more (fun k hk => by simp [hk]),fun k hk => .inl hk,fun k hk => .inl hk⟩
 ·have:=h.blk.only hO h.ne_ra
  show Blk _ rr _ [.slice v.A (stT v.L i t).length v.c,_,_,_]
  rw [stT_len]
  exact this
 ·show KRow _ _ 6 IN.cs v.A v.c (stT v.L i t)
  rw [hS]
  have hc:=h.code
  rw [hA] at hc ⊢
  exact krow_setCell17 hc IN.cs_len hx (by decide) rfl
 ·exact h.escs.only hO (fun k hk hm => h.ne_ea k hk (by simp [hm]))
 ·exact h.calls.only hO h.ne_ak
section
variable {Q:Nat→Prop} {rr:Nat} {w:World} {v:AV}
theorem aim_c (h:As Q rr w v) (i:Nat) (hi:i < v.L.length) (hle:v.L.length≤100000) :
  Calls Tryz.prog 124 #[.pointer (some ⟨rr,0,none⟩),.int .i64 (i:Nat)] w (AsP Q rr w v (.tuple #[]) (stT v.L i v.L.length) v.es v.ks):=by
 obtain ⟨g,o,hA,_,_⟩:=RowK.addr h.code (by have:=h.code.le;omega)
 obtain ⟨n,hn⟩:∃ n,n = v.L.length:=⟨_,rfl⟩
 have HH:=hid h
 have HI:=hid hi
 have HA:=hid hA
 have hrl:=h.blk.lt
 have hc0:=h.blk.cell 0
 simp only [List.getElem?_cons_zero,hA,← hn] at hc0
 have hx:=h.code.at_ IN.cs_len (List.getElem?_eq_getElem hi) (by decide)
 have hfr:=fun j => h.code.free hA j
 obtain ⟨g',o',hA',_,hx5⟩:=hx
 rw [hA] at hA'
 injection hA' with hA'
 injection hA' with e1 e2
 subst e1 e2
 have hx5:=hx5 5 _ rfl
 have hgr:=h.ne_ra
 rw [hA,rowT_some,List.mem_singleton] at hgr
 replace hgr:rr ≠ g:=hgr
 have hW0:=hid (show Bel w w.drew from Bel.drew16 _)
 rw [← hn] at hi hle ⊢
 have HN:=hid hn
 clear h hA hn
 go_enter Tryz.func124,Tryz.ntmps124
 go_wp2_with fail
 refine region_begin (T:=[g]) (by kernel_rfl) ?_
 have c0:∀ X:Later [g] w.drew,X.w.cell? ⟨rr,0,none⟩ = some (.slice (some ⟨g,o,none⟩) n v.c):=fun X => (cell_only X.h (by exact hrl) (by simpa using hgr) 0).trans hc0
 refine region_seg [true,true,true,true,true,true,true,true,true,true,true,true] 1 (by kernel_rfl) (by kernel_rfl) (by kernel_rfl) rfl (fun _ _ d _ _ h => by cases d <;> exact h) ?_
 repeat (first | with_reducible refine wpMask_pass ?_ | (refine wpMask_want (by rfl) (fun K hK => ?_);go_big_quiet_op;refine hK _ ?_;clear hK K))
 with_reducible refine wpMask_nil ?_
 clear c0
 refine region_store 12 (w1:=w.drew.setCell ⟨g,o + i * 6 + 5,none⟩ (.int .i64 (n:Nat))) (by kernel_rfl) rfl (by rfl) (by go_simp) ((Only.refl _ _).setCell (.inl (by simp)) _) ?_
 simp only [List.getElem_toArray,List.getElem_cons_zero,List.getElem_cons_succ,Act.put,List.setIfInBounds_toArray,List.set_cons_zero,List.set_cons_succ]
 refine region_end (by kernel_rfl) ?_
 go_end0
 exact ⟨rfl,_,hid (((Ev17.refl HH.out).bel hW0.out).trans ((HH.out.bel hW0.out).aim HI.out HA.out)),hid ⟨by rw [HN.out],rfl,rfl,rfl⟩⟩
theorem aimD_c (u:FrameMode) (h:As Q rr w v) (i:Nat) (hi:i < v.L.length) (hle:v.L.length≤100000) :
  CallsD Tryz.prog 124 #[.pointer (some ⟨rr,0,none⟩),.int .i64 (i:Nat)] u w fun e u' w' => u' = u∧AsP Q rr w v (.tuple #[]) (stT v.L i v.L.length) v.es v.ks e w':=by
 obtain ⟨g,o,hA,_,_⟩:=RowK.addr h.code (by have:=h.code.le;omega)
 obtain ⟨n,hn⟩:∃ n,n = v.L.length:=⟨_,rfl⟩
 have HH:=hid h
 have HI:=hid hi
 have HA:=hid hA
 have hrl:=h.blk.lt
 have hc0:=h.blk.cell 0
 simp only [List.getElem?_cons_zero,hA,← hn] at hc0
 have hx:=h.code.at_ IN.cs_len (List.getElem?_eq_getElem hi) (by decide)
 have hfr:=fun j => h.code.free hA j
 obtain ⟨g',o',hA',_,hx5⟩:=hx
 rw [hA] at hA'
 injection hA' with hA'
 injection hA' with e1 e2
 subst e1 e2
 have hx5:=hx5 5 _ rfl
 have hgr:=h.ne_ra
 rw [hA,rowT_some,List.mem_singleton] at hgr
 replace hgr:rr ≠ g:=hgr
 have hW0:=hid (show Bel w w.drew from Bel.drew16 _)
 rw [← hn] at hi hle ⊢
 have HN:=hid hn
 clear h hA hn
 go_enter_d Tryz.func124,Tryz.ntmps124
 go_wp2_with fail
 refine region_begin (T:=[g]) (by kernel_rfl) ?_
 have c0:∀ X:Later [g] w.drew,X.w.cell? ⟨rr,0,none⟩ = some (.slice (some ⟨g,o,none⟩) n v.c):=fun X => (cell_only X.h (by exact hrl) (by simpa using hgr) 0).trans hc0
 refine region_seg [true,true,true,true,true,true,true,true,true,true,true,true] 1 (by kernel_rfl) (by kernel_rfl) (by kernel_rfl) rfl (fun _ _ d _ _ h => by cases d <;> exact h) ?_
 repeat (first | with_reducible refine wpMask_pass ?_ | (refine wpMask_want (by rfl) (fun K hK => ?_);go_big_quiet_op;refine hK _ ?_;clear hK K))
 with_reducible refine wpMask_nil ?_
 clear c0
 refine region_store 12 (w1:=w.drew.setCell ⟨g,o + i * 6 + 5,none⟩ (.int .i64 (n:Nat))) (by kernel_rfl) rfl (by rfl) (by go_simp) ((Only.refl _ _).setCell (.inl (by simp)) _) ?_
 simp only [List.getElem_toArray,List.getElem_cons_zero,List.getElem_cons_succ,Act.put,List.setIfInBounds_toArray,List.set_cons_zero,List.set_cons_succ]
 refine region_end (by kernel_rfl) ?_
 go_end0
 exact ⟨rfl,_,hid (((Ev17.refl HH.out).bel hW0.out).trans ((HH.out.bel hW0.out).aim HI.out HA.out)),hid ⟨by rw [HN.out],rfl,rfl,rfl⟩⟩
end
end
section
open Go.RowKit Go.BigFrame NT
attribute [local go_sem ↓] sliced_cut
theorem node_cells {w:World} {g:Nat} {x:NT} (h:Blk w g 69 x.cs) :
  w.cell? ⟨g,0,none⟩ = some (.int .i64 x.k)∧w.cell? ⟨g,1,none⟩ = some (.int .i64 x.a)∧w.cell? ⟨g,2,none⟩ = some (.string x.s)∧w.cell? ⟨g,3,none⟩ = some (.string x.p)∧w.cell? ⟨g,4,none⟩ = some (.bool x.h)∧w.cell? ⟨g,5,none⟩ = some (.bool x.e)∧w.cell? ⟨g,6,none⟩ = some (.slice x.A x.b.length x.c)∧w.cell? ⟨g,7,none⟩ = some (.slice x.B x.l.length x.d) :=
 ⟨h.cell 0,h.cell 1,h.cell 2,h.cell 3,h.cell 4,h.cell 5,h.cell 6,h.cell 7⟩
abbrev NdP (Q:Nat→Prop) (rr:Nat) (w:World) (v:AV) (code:CE) (ks:List CK):Ending→World→Prop:=AsP Q rr w v (.tuple #[]) (v.L ++ code.1) code.2 (v.ks ++ ks)
abbrev PnC (Q:Nat→Prop) (rr:Nat) (w:World) (v:AV) (x:NT):Prop:=Calls Tryz.prog 92 #[.pointer (some ⟨rr,0,none⟩),nV17 x] w (NdP Q rr w v (nodeC Z0 v.L.length v.es x) (nodeK v.L.length x))
theorem asP_then {Q:Nat→Prop} {rr:Nat} {w W W':World} {v0 v:AV} {r:Value} {L:List IN} {es:List Nat} {ks:List CK} {e:Ending} (h:Ev17 Q rr w v0 W v) (hM:v.M = v0.M) (h2:AsP Q rr W v r L es ks e W'):AsP Q rr w v0 r L es ks e W':=by
 obtain ⟨h3,v',hE,hS⟩:=h2
 exact ⟨h3,v',hid (h.trans hE.out),hid ⟨hS.out.L,hS.out.es,hS.out.ks,hS.out.M.trans hM⟩⟩
section
variable {Q:Nat→Prop} {rr:Nat} {w:World} {v:AV}
theorem as_n (h:As Q rr w v) (x:NT):As Q rr (wN w x) v:=h.bel (Bel.alloc _ _)
theorem ev_n (h:As Q rr w v) (x:NT):Ev17 Q rr w v (wN w x) v:=(Ev17.refl h).bel (Bel.alloc _ _)
theorem pn_text (x:NT) (h:As Q rr w v) (hk:x.k = 0) (hle:v.L.length + 1≤100000):PnC Q rr w v x:=by
 unfold PnC
 rw [nodeC_eq,if_pos hk,nodeK_eq,if_neg (by omega),if_neg (by omega),if_neg (by omega)]
 have k0:(x.k == 0) = true:=by rw [hk];rfl
 obtain ⟨x0,x1,x2,x3,x4,x5,x6,x7⟩:=node_cells (show Blk (wN w x) w.heap.size 69 x.cs from Blk.new w 69 x.cs)
 have HAD:=hid (show Calls Tryz.prog 67 #[.pointer (some ⟨rr,0,none⟩),.agg #[.int .i64 0,.string x.s,.string ⟨#[]⟩,.bool false,.int .i64 0,.int .i64 0]] (wN w x) _ from add_c (as_n h x) ⟨0,x.s,eB,false,0,0⟩ hle)
 have HE:=hid (ev_n h x)
 clear h hk hle
 go_enter Tryz.func92,Tryz.ntmps92
 go_wp2_with (go_at_call 67;((with_reducible refine HAD.out.mono ?_);rintro e w2 ⟨rfl,v',hE,hS⟩))
 go_end0
 exact asP_then HE.out rfl ⟨rfl,v',hE,hid ⟨hS.out.L,hS.out.es,by rw [hS.out.ks,List.append_nil],hS.out.M⟩⟩
theorem pn_flush (x:NT) (h:As Q rr w v) (hk:x.k = 5) (hle:v.L.length + 1≤100000):PnC Q rr w v x:=by
 unfold PnC
 rw [nodeC_eq,if_neg (by omega),if_neg (by omega),if_neg (by omega),if_neg (by omega),if_neg (by omega),if_pos hk,nodeK_eq,if_neg (by omega),if_neg (by omega),if_neg (by omega)]
 have k0:(x.k == 0) = false:=by rw [hk];rfl
 have k1:(x.k == 1) = false:=by rw [hk];rfl
 have k2:(x.k == 2) = false:=by rw [hk];rfl
 have k3:(x.k == 3) = false:=by rw [hk];rfl
 have k4:(x.k == 4) = false:=by rw [hk];rfl
 have k5:(x.k == 5) = true:=by rw [hk];rfl
 obtain ⟨x0,x1,x2,x3,x4,x5,x6,x7⟩:=node_cells (show Blk (wN w x) w.heap.size 69 x.cs from Blk.new w 69 x.cs)
 have HAD:=hid (show Calls Tryz.prog 67 #[.pointer (some ⟨rr,0,none⟩),.agg #[.int .i64 8,.string ⟨#[]⟩,.string ⟨#[]⟩,.bool false,.int .i64 0,.int .i64 0]] (wN w x) _ from add_c (as_n h x) ⟨8,eB,eB,false,0,0⟩ hle)
 have HE:=hid (ev_n h x)
 clear h hk hle
 go_enter Tryz.func92,Tryz.ntmps92
 go_wp2_with (go_at_call 67;((with_reducible refine HAD.out.mono ?_);rintro e w2 ⟨rfl,v',hE,hS⟩))
 go_end0
 exact asP_then HE.out rfl ⟨rfl,v',hE,hid ⟨hS.out.L,hS.out.es,by rw [hS.out.ks,List.append_nil],hS.out.M⟩⟩
theorem pn_other (x:NT) (h:As Q rr w v) (hk:x.k ≠ 0∧x.k ≠ 1∧x.k ≠ 2∧x.k ≠ 3∧x.k ≠ 4∧x.k ≠ 5):PnC Q rr w v x:=by
 unfold PnC
 rw [nodeC_eq,if_neg (by omega),if_neg (by omega),if_neg (by omega),if_neg (by omega),if_neg (by omega),if_neg (by omega),nodeK_eq,if_neg (by omega),if_neg (by omega),if_neg (by omega)]
 have k0:(x.k == 0) = false:=by have:=hk;simp only [beq_eq_false_iff_ne];omega
 have k1:(x.k == 1) = false:=by have:=hk;simp only [beq_eq_false_iff_ne];omega
 have k2:(x.k == 2) = false:=by have:=hk;simp only [beq_eq_false_iff_ne];omega
 have k3:(x.k == 3) = false:=by have:=hk;simp only [beq_eq_false_iff_ne];omega
 have k4:(x.k == 4) = false:=by have:=hk;simp only [beq_eq_false_iff_ne];omega
 have k5:(x.k == 5) = false:=by have:=hk;simp only [beq_eq_false_iff_ne];omega
 obtain ⟨x0,x1,x2,x3,x4,x5,x6,x7⟩:=node_cells (show Blk (wN w x) w.heap.size 69 x.cs from Blk.new w 69 x.cs)
 have HE:=hid (ev_n h x)
 clear h hk
 go_enter Tryz.func92,Tryz.ntmps92
 go_wp2_with fail
 go_end0
 exact ⟨rfl,v,HE,hid ⟨by rw [List.append_nil],rfl,by rw [List.append_nil],rfl⟩⟩
end
end
end Go.Proofs.YtpcapmdfjmpdiaaGreatDoor
