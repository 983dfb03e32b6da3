/- The program of layer 16: node and list. -/
import Derived.Test.YtpcapmdfjmpdiaaGreatDoorMPc14
set_option linter.unusedVariables false
set_option linter.unusedSimpArgs false
set_option maxRecDepth 100000
set_option maxHeartbeats 6400000
open Go.Lib (hid)
namespace Go.Proofs.YtpcapmdfjmpdiaaGreatDoor
open Go.RowKit Go.BigFrame NT
theorem PLc.mono {B rr:Nat} {w w1:World} {u:HS} {A:Option Addr} {c:Nat} {l:List NT} (h:PLc B rr w u A c l) (hb:Below B w w1):PLc B rr w1 u A c l:=fun W A1 n1 c1 done1 hW => h W A1 n1 c1 done1 (hb.trans hW)
theorem NT.In.siB {w:World} {Q:Nat→Prop} {t:NT} (h:t.In w Q):t.s.size≤140737488351232:=by cases h;assumption
def PM (x:NT):Prop:=∀ (B rr:Nat) (w:World) (A:Option Addr) (n c:Nat) (done:List Nat) (s:HS),Inv s→x.In w (·< B)→An B rr w A n c done→n + x.tot≤100000 →
 Calls Tryz.prog 56 #[.pointer (some ⟨rr,0,none⟩),.agg #[.int .i64 (s.c:Nat),.string (ofL s.n),.string (ofL s.a),.string (ofL s.p)],nV x] w (PP (nodeI s x) done B rr w A)
theorem pnode_text (s:HS) (hi:Inv s) (x:NT) (done:List Nat) (B rr:Nat) (A:Option Addr) (n c:Nat) (w:World) (hA:An B rr w A n c done) (hk:x.k = 0) (hs:x.s.size≤140737488351232) :
  Calls Tryz.prog 56 #[.pointer (some ⟨rr,0,none⟩),.agg #[.int .i64 (s.c:Nat),.string (ofL s.n),.string (ofL s.a),.string (ofL s.p)],nV x] w (PP (nodeI s x) done B rr w A):=by
 have k0':(x.k == 0) = true:=by rw [hk];rfl
 rw [nodeI_eq,if_pos hk]
 obtain ⟨T,hT⟩:∃ T,T = runS s x.s.data.toList:=⟨_,rfl⟩
 rw [← hT]
 have HRU:=hid (fun W => show Calls Tryz.prog 83 #[.agg #[.int .i64 (s.c:Nat),.string (ofL s.n),.string (ofL s.a),.string (ofL s.p)],.string x.s] W (SvV (.agg #[.int .i64 (T.c:Nat),.string (ofL T.n),.string (ofL T.a),.string (ofL T.p)]) W) by rw [hT];exact prunB_c s hi x.s hs W)
 have HP0:=hid (p30_start w s x)
 have HE0:=hid ((Ev.refl hA).bel (show Bel w (w3p w s x) from bel3_16 w _ _ _))
 have hrr:=hA.blk.lt
 clear hT hi hk hA hs
 go_enter Tryz.func56,Tryz.ntmps56
 go_wp2_with (go_at_call 83;((with_reducible refine (HRU.out _).mono ?_);rintro e w2 ⟨rfl,hb⟩;have HP2:=hid (HP0.out.later hb);have HE2:=hid (HE0.out.bel hb);clear hb;obtain ⟨k0,k1,k2,k3⟩:=cells4 HP2.out.b2;obtain ⟨y0,y1,y2,y3⟩:=frees4 HP2.out.b2))
 refine pp_set rfl rfl rfl rfl HP2.out.b2 (by omega) HE2.out (t:=T) rfl ?_
 exact ⟨rfl,rfl,rfl,by rw [List.append_nil]⟩
theorem pnode_print (s:HS) (hi:Inv s) (x:NT) (done:List Nat) (B rr:Nat) (A:Option Addr) (n c:Nat) (w:World) (hA:An B rr w A n c done) (hk:x.k = 1) (hle:n + 1≤100000) :
  Calls Tryz.prog 56 #[.pointer (some ⟨rr,0,none⟩),.agg #[.int .i64 (s.c:Nat),.string (ofL s.n),.string (ofL s.a),.string (ofL s.p)],nV x] w (PP (nodeI s x) done B rr w A):=by
 have k0':(x.k == 0) = false:=by rw [hk];rfl
 have k1':(x.k == 1) = true:=by rw [hk];rfl
 rw [nodeI_eq,if_neg (by rw [hk];decide),if_pos hk]
 have HP0:=hid (p30_start w s x)
 have HE0:=hid ((Ev.refl hA).bel (show Bel w (w3p w s x) from bel3_16 w _ _ _))
 have hrr:=hA.blk.lt
 have HC:=hid (print_c s hi x done B rr A n c (w3p w s x) HE0.out.an hle)
 generalize (if (escS s).2 = true then IR.ok s [(escS s).1] else IR.no x.a 15) = r at HC ⊢
 clear hi hk hA hle
 go_enter Tryz.func56,Tryz.ntmps56
 go_wp2_with (go_at_call 84;((with_reducible refine (HC.out).mono ?_);rintro e w2 ⟨t,a,k,A',n',c',es,rfl,hE,hQ⟩;have HP2:=hid (HP0.out.keep HE0.out.an hE.out.only);have HE2:=hid (HE0.out.then hE.out);clear hE;obtain ⟨k0,k1,k2,k3⟩:=cells4 HP2.out.b2;obtain ⟨y0,y1,y2,y3⟩:=frees4 HP2.out.b2))
 refine pp_set rfl rfl rfl rfl HP2.out.b2 (by omega) HE2.out (t:=t) rfl ?_
 exact hQ.out
theorem pnode_if (s:HS) (hi:Inv s) (x:NT) (done:List Nat) (B rr:Nat) (A:Option Addr) (n c:Nat) (w:World) (hA:An B rr w A n c done) (hk:x.k = 2) (hle:n + tots x.b + tots x.l≤100000) (hb:PLc B rr w s x.A x.c x.b) (hl:PLc B rr w s x.B x.d x.l) :
  Calls Tryz.prog 56 #[.pointer (some ⟨rr,0,none⟩),.agg #[.int .i64 (s.c:Nat),.string (ofL s.n),.string (ofL s.a),.string (ofL s.p)],nV x] w (PP (nodeI s x) done B rr w A):=by
 have k0':(x.k == 0) = false:=by rw [hk];rfl
 have k1':(x.k == 1) = false:=by rw [hk];rfl
 have k4':(x.k == 4) = false:=by rw [hk];rfl
 have k2':(x.k == 2) = true:=by rw [hk];rfl
 rw [nodeI_eq,if_neg (by rw [hk];decide),if_neg (by rw [hk];decide),if_pos hk]
 have HP0:=hid (p30_start w s x)
 have HE0:=hid ((Ev.refl hA).bel (show Bel w (w3p w s x) from bel3_16 w _ _ _))
 have hrr:=hA.blk.lt
 have HC:=hid (branches_c s x done B rr A n c (w3p w s x) HE0.out.an hle (hb.mono (HE0.out.below hA)) (hl.mono (HE0.out.below hA)))
 clear hi hk hA hle hb hl
 go_enter Tryz.func56,Tryz.ntmps56
 go_wp2_with (go_at_call 86;((with_reducible refine (HC.out).mono ?_);rintro e w2 ⟨t,a,k,A',n',c',es,rfl,hE,hQ⟩;have HP2:=hid (HP0.out.keep HE0.out.an hE.out.only);have HE2:=hid (HE0.out.then hE.out);clear hE;obtain ⟨k0,k1,k2,k3⟩:=cells4 HP2.out.b2;obtain ⟨y0,y1,y2,y3⟩:=frees4 HP2.out.b2))
 refine pp_set rfl rfl rfl rfl HP2.out.b2 (by omega) HE2.out (t:=t) rfl ?_
 exact hQ.out
theorem pnode_range (s:HS) (hi:Inv s) (x:NT) (done:List Nat) (B rr:Nat) (A:Option Addr) (n c:Nat) (w:World) (hA:An B rr w A n c done) (hk:x.k = 3) (hle:n + tots x.b≤100000) (hb:PLc B rr w s x.A x.c x.b) :
  Calls Tryz.prog 56 #[.pointer (some ⟨rr,0,none⟩),.agg #[.int .i64 (s.c:Nat),.string (ofL s.n),.string (ofL s.a),.string (ofL s.p)],nV x] w (PP (nodeI s x) done B rr w A):=by
 have k0':(x.k == 0) = false:=by rw [hk];rfl
 have k1':(x.k == 1) = false:=by rw [hk];rfl
 have k4':(x.k == 4) = false:=by rw [hk];rfl
 have k2':(x.k == 2) = false:=by rw [hk];rfl
 have k3':(x.k == 3) = true:=by rw [hk];rfl
 rw [nodeI_eq,if_neg (by rw [hk];decide),if_neg (by rw [hk];decide),if_neg (by rw [hk];decide),if_pos hk]
 have HP0:=hid (p30_start w s x)
 have HE0:=hid ((Ev.refl hA).bel (show Bel w (w3p w s x) from bel3_16 w _ _ _))
 have hrr:=hA.blk.lt
 have HC:=hid (iblock_c s s x done B rr A n c (w3p w s x) HE0.out.an hle (hb.mono (HE0.out.below hA)))
 clear hi hk hA hle hb
 go_enter Tryz.func56,Tryz.ntmps56
 go_wp2_with (go_at_call 87;((with_reducible refine (HC.out).mono ?_);rintro e w2 ⟨t,a,k,A',n',c',es,rfl,hE,hQ⟩;have HP2:=hid (HP0.out.keep HE0.out.an hE.out.only);have HE2:=hid (HE0.out.then hE.out);clear hE;obtain ⟨k0,k1,k2,k3⟩:=cells4 HP2.out.b2;obtain ⟨y0,y1,y2,y3⟩:=frees4 HP2.out.b2))
 refine pp_set rfl rfl rfl rfl HP2.out.b2 (by omega) HE2.out (t:=t) rfl ?_
 exact hQ.out
theorem inode_define (s:HS) (hi:Inv s) (x:NT) (done:List Nat) (B rr:Nat) (A:Option Addr) (n c:Nat) (w:World) (hA:An B rr w A n c done) (hk:x.k = 6) (hle:n + tots x.b≤100000) (hb:PLc B rr w (s0 0) x.A x.c x.b) :
  Calls Tryz.prog 56 #[.pointer (some ⟨rr,0,none⟩),.agg #[.int .i64 (s.c:Nat),.string (ofL s.n),.string (ofL s.a),.string (ofL s.p)],nV x] w (PP (nodeI s x) done B rr w A):=by
 have k0':(x.k == 0) = false:=by rw [hk];rfl
 have k1':(x.k == 1) = false:=by rw [hk];rfl
 have k4':(x.k == 4) = false:=by rw [hk];rfl
 have k2':(x.k == 2) = false:=by rw [hk];rfl
 have k3':(x.k == 3) = false:=by rw [hk];rfl
 have k6':(x.k == 6) = true:=by rw [hk];rfl
 rw [nodeI_eq,if_neg (by rw [hk];decide),if_neg (by rw [hk];decide),if_neg (by rw [hk];decide),if_neg (by rw [hk];decide),if_neg (by rw [hk];decide),if_pos hk]
 have HP0:=hid (p30_start w s x)
 have HE0:=hid ((Ev.refl hA).bel (show Bel w (w3p w s x) from bel3_16 w _ _ _))
 have hrr:=hA.blk.lt
 have HC:=hid (show Calls Tryz.prog 87 #[.pointer (some ⟨rr,0,none⟩),.agg #[.int .i64 (s.c:Nat),.string (ofL s.n),.string (ofL s.a),.string (ofL s.p)],.agg #[.int .i64 0,.string ⟨#[]⟩,.string ⟨#[]⟩,.string ⟨#[]⟩],nV x] (w3p w s x) _ from iblock_c s (s0 0) x done B rr A n c (w3p w s x) HE0.out.an hle (hb.mono (HE0.out.below hA)))
 clear hi hk hA hle hb
 go_enter Tryz.func56,Tryz.ntmps56
 go_wp2_with (go_at_call 87;((with_reducible refine (HC.out).mono ?_);rintro e w2 ⟨t,a,k,A',n',c',es,rfl,hE,hQ⟩;have HP2:=hid (HP0.out.keep HE0.out.an hE.out.only);have HE2:=hid (HE0.out.then hE.out);clear hE;obtain ⟨k0,k1,k2,k3⟩:=cells4 HP2.out.b2;obtain ⟨y0,y1,y2,y3⟩:=frees4 HP2.out.b2))
 refine pp_set rfl rfl rfl rfl HP2.out.b2 (by omega) HE2.out (t:=t) rfl ?_
 exact hQ.out
theorem pnode_call (s:HS) (hi:Inv s) (x:NT) (done:List Nat) (B rr:Nat) (A:Option Addr) (n c:Nat) (w:World) (hA:An B rr w A n c done) (hk:x.k = 4) :
  Calls Tryz.prog 56 #[.pointer (some ⟨rr,0,none⟩),.agg #[.int .i64 (s.c:Nat),.string (ofL s.n),.string (ofL s.a),.string (ofL s.p)],nV x] w (PP (nodeI s x) done B rr w A):=by
 have k0':(x.k == 0) = false:=by rw [hk];rfl
 have k1':(x.k == 1) = false:=by rw [hk];rfl
 have k4':(x.k == 4) = true:=by rw [hk];rfl
 rw [nodeI_eq,if_neg (by rw [hk];decide),if_neg (by rw [hk];decide),if_neg (by rw [hk];decide),if_neg (by rw [hk];decide),if_pos hk]
 have HP0:=hid (p30_start w s x)
 have HE0:=hid ((Ev.refl hA).bel (show Bel w (w3p w s x) from bel3_16 w _ _ _))
 have hrr:=hA.blk.lt
 have HC:=hid (fun W => call_c s x W)
 clear hi hk hA
 cases hq:eqH s (s0 0) with
 | true =>
  rw [hq] at HC
  rw [if_pos rfl]
  have HC2:=hid (fun W => show Calls Tryz.prog 85 #[.agg #[.int .i64 (s.c:Nat),.string (ofL s.n),.string (ofL s.a),.string (ofL s.p)],nV x] W (PB (.agg #[.int .i64 (s.c:Nat),.string (ofL s.n),.string (ofL s.a),.string (ofL s.p)]) 0 0 W) by have h:=HC.out W;rwa [if_pos rfl] at h)
  clear hq HC
  go_enter Tryz.func56,Tryz.ntmps56
  go_wp2_with (go_at_call 85;((with_reducible refine (HC2.out _).mono ?_);rintro e w2 ⟨rfl,hb⟩;have HP2:=hid (HP0.out.later hb);have HE2:=hid (HE0.out.bel hb);clear hb;obtain ⟨k0,k1,k2,k3⟩:=cells4 HP2.out.b2;obtain ⟨y0,y1,y2,y3⟩:=frees4 HP2.out.b2))
  refine pp_set rfl rfl rfl rfl HP2.out.b2 (by omega) HE2.out (t:=s) rfl ?_
  exact ⟨rfl,rfl,rfl,by rw [List.append_nil]⟩
 | false =>
  rw [hq] at HC
  rw [if_neg (by decide)]
  have HC2:=hid (fun W => show Calls Tryz.prog 85 #[.agg #[.int .i64 (s.c:Nat),.string (ofL s.n),.string (ofL s.a),.string (ofL s.p)],nV x] W (PB (.agg #[.int .i64 0,.string ⟨#[]⟩,.string ⟨#[]⟩,.string ⟨#[]⟩]) x.a 15 W) by have h:=HC.out W;rwa [if_neg (by decide)] at h)
  clear hq HC
  go_enter Tryz.func56,Tryz.ntmps56
  go_wp2_with (go_at_call 85;((with_reducible refine (HC2.out _).mono ?_);rintro e w2 ⟨rfl,hb⟩;have HP2:=hid (HP0.out.later hb);have HE2:=hid (HE0.out.bel hb);clear hb;obtain ⟨k0,k1,k2,k3⟩:=cells4 HP2.out.b2;obtain ⟨y0,y1,y2,y3⟩:=frees4 HP2.out.b2))
  refine pp_set rfl rfl rfl rfl HP2.out.b2 (by omega) HE2.out (t:=s0 0) rfl ?_
  exact ⟨rfl,rfl,rfl,by decide⟩
theorem pp_blk {f:Func} {p u v g:Nat} {tmps:Array Value} {w W:World} {r:IR} {done:List Nat} {B rr:Nat} {A:Option Addr} {v0 v1 v2 v3:Value} {t:HS} {a k:Int} {A':Option Addr} {n' c':Nat} {es:List Nat}
  (hf:f.results = #[.cell p 74,.tmp u,.tmp v]) (hp:tmps.getD p undef = .pointer (some ⟨g,0,none⟩)) (hu:tmps.getD u undef = .int .i64 a) (hv:tmps.getD v undef = .int .i64 k)
  (hB:Blk W g 74 [v0,v1,v2,v3]) (hE:Ev B rr w A W A' n' c' es) (he:Value.agg #[v0,v1,v2,v3] = .agg #[.int .i64 (t.c:Nat),.string (ofL t.n),.string (ofL t.a),.string (ofL t.p)]) (hq:PQ r done t a k es) :
  bodyPost Tryz.prog f (PP r done B rr w A) .ret { tmps:=tmps,defers:=[] } W:=by
 refine bodyPost_ret (results_row_tmp2_16 hf _ _ g _ _ (0,0) _ hp hB Tryz.underlying74 rfl (by kernel_rfl)) rfl ?_
 exact ⟨t,a,k,A',n',c',es,by rw [← he,hu,hv],hid hE,hid hq⟩
theorem inode_other (s:HS) (hi:Inv s) (x:NT) (done:List Nat) (B rr:Nat) (A:Option Addr) (n c:Nat) (w:World) (hA:An B rr w A n c done) (hk:x.k ≠ 0∧x.k ≠ 1∧x.k ≠ 2∧x.k ≠ 3∧x.k ≠ 4∧x.k ≠ 6) :
  Calls Tryz.prog 56 #[.pointer (some ⟨rr,0,none⟩),.agg #[.int .i64 (s.c:Nat),.string (ofL s.n),.string (ofL s.a),.string (ofL s.p)],nV x] w (PP (nodeI s x) done B rr w A):=by
 have k0':(x.k == 0) = false:=by have:=hk;simp only [beq_eq_false_iff_ne];omega
 have k1':(x.k == 1) = false:=by have:=hk;simp only [beq_eq_false_iff_ne];omega
 have k2':(x.k == 2) = false:=by have:=hk;simp only [beq_eq_false_iff_ne];omega
 have k3':(x.k == 3) = false:=by have:=hk;simp only [beq_eq_false_iff_ne];omega
 have k4':(x.k == 4) = false:=by have:=hk;simp only [beq_eq_false_iff_ne];omega
 have k6':(x.k == 6) = false:=by have:=hk;simp only [beq_eq_false_iff_ne];omega
 rw [nodeI_eq,if_neg (by omega),if_neg (by omega),if_neg (by omega),if_neg (by omega),if_neg (by omega),if_neg (by omega)]
 have HP0:=hid (p30_start w s x)
 have HE0:=hid ((Ev.refl hA).bel (show Bel w (w3p w s x) from bel3_16 w _ _ _))
 have hrr:=hA.blk.lt
 clear HP0 HE0
 have HA:=hid hA
 clear hi hk hA
 go_enter Tryz.func56,Tryz.ntmps56
 go_wp2_with fail
 refine pp_blk rfl rfl rfl rfl (blk_at2_16 w _ _ [.int .i64 (s.c:Nat),.string (ofL s.n),.string (ofL s.a),.string (ofL s.p)]) ((Ev.refl HA.out).bel (bel3_16 w _ _ _)) (t:=s) rfl ?_
 exact ⟨rfl,rfl,rfl,by rw [List.append_nil]⟩
structure PlAt (B rr:Nat) (w wr:World) (S:HS) (A0 A:Option Addr) (n c:Nat) (es:List Nat):Prop where
 b0:Blk wr w.heap.size 74 (sC S)
 b1:Blk wr (w.heap.size + 1) 74 [.int .i64 0,.string ⟨#[]⟩,.string ⟨#[]⟩,.string ⟨#[]⟩]
 ev:Ev B rr w A0 wr A n c es
theorem PlAt.later {B rr:Nat} {w wr w2:World} {S:HS} {A0 A:Option Addr} {n c:Nat} {es:List Nat} (h:PlAt B rr w wr S A0 A n c es) (hb:Bel wr w2):PlAt B rr w w2 S A0 A n c es:=⟨h.b0.belh hb,h.b1.belh hb,h.ev.bel hb⟩
theorem PlAt.call {B rr:Nat} {w wr w2:World} {S:HS} {A0 A A':Option Addr} {n c n' c':Nat} {es es':List Nat} (h:PlAt B rr w wr S A0 A n c es) (h2:Ev B rr wr A w2 A' n' c' es'):PlAt B rr w w2 S A0 A' n' c' es' :=
 ⟨h.ev.an.keep h2.only h.b0 (by decide) (by decide),h.ev.an.keep h2.only h.b1 (by decide) (by decide),h.ev.then h2⟩
theorem plist_row (l:List NT) (ih:∀ x ∈ l,PM x) (B rr:Nat) (w:World) (s:HS) (X:Option Addr) (c0:Nat) (hi:Inv s) (hX:Row w (·< B) X c0 l):PLc B rr w s X c0 l:=by
 intro w' A n0 cc done hbw hA hle
 replace hX:=hX.low hbw
 clear hbw w
 revert w'
 intro w hA hX
 obtain ⟨n,hn⟩:∃ n,n = l.length:=⟨_,rfl⟩
 have hn5:=hX.len
 rw [← hn] at hn5 ⊢
 have HX:=hid hX
 have HI:=hid ih
 have HN:=hid hn
 have HT:=hid hle
 have HSI:=hid hi
 have HA:=hid hA
 have hrr:=hA.blk.lt
 have HST:=hid (show PlAt B rr w ((w.alloc (.cells #[.int .i64 (s.c:Nat),.string (ofL s.n),.string (ofL s.a),.string (ofL s.p)] 74)).alloc (.cells #[.int .i64 0,.string ⟨#[]⟩,.string ⟨#[]⟩,.string ⟨#[]⟩] 74)) s A A n0 cc done from ⟨(Blk.new w 74 (sC s)).alloc _,blk_at1h w _ 74 _,(Ev.refl hA).bel ((Bel.alloc _ _).trans (Bel.alloc _ _))⟩)
 clear hX ih hn hle hi hA
 go_enter Tryz.func31,Tryz.ntmps31
 go_wp2_with fail
 go_loopw [16] (fun s16 wr => ∃ (i:Nat) (S:HS) (A':Option Addr) (n' c':Nat) (es:List Nat),i≤n∧s16 = .int .i64 i∧Hid (listI s (l.take i) = .ok S es)∧Hid (PlAt B rr w wr S A A' n' c' (done ++ es))) (fun s16 _ => n - (intOf s16).toNat)
 case atStart => exact ⟨0,s,A,n0,cc,[],Nat.zero_le _,rfl,hid (by rw [List.take_zero,listI_nil]),hid (by rw [List.append_nil];exact HST.out)⟩
 case round =>
  obtain ⟨i,S,A',n',c',es,hin,rfl,HR,HL⟩:=hrel
  by_cases hlt:i < n
  ·have hxt:=List.getElem?_eq_getElem (l:=l) (i:=i) (by have:=HN.out;omega)
   generalize l[i]'(by have:=HN.out;omega) = x at hxt
   have hxm:=List.mem_of_getElem? hxt
   obtain ⟨g0,o,hAA,hg,hc,hxin⟩:=HX.out.at_ hxt
   subst hAA
   have hst:=tots_step hxt
   have hle1:n' + x.tot≤100000:=by
    have h1:=HT.out
    rw [← List.take_append_drop (i + 1) l,tots_append,hst] at h1
    have h2:=listI_le HR.out
    have h3:=HL.out.ev.an.len
    have h4:=HA.out.len
    rw [List.length_append] at h3
    omega
   have hS:Inv S:=by have h:=listI_good (l.take i) s HSI.out;rw [HR.out] at h;exact h
   have hbe:=HL.out.ev.below HA.out
   have HL1:=hid (HL.out.later (Bel.alloc wr (.cells #[.int .i64 x.k,.int .i64 x.a,.string x.s,.string x.p,.bool x.h,.bool x.e,.slice x.A x.b.length x.c,.slice x.B x.l.length x.d] 69)))
   have HC:=hid (HI.out x hxm B rr (wr.alloc (.cells #[.int .i64 x.k,.int .i64 x.a,.string x.s,.string x.p,.bool x.h,.bool x.e,.slice x.A x.b.length x.c,.slice x.B x.l.length x.d] 69)) A' n' c' (done ++ es) S hS (hxin.low (HL1.out.ev.below HA.out)) HL1.out.ev.an hle1)
   have HTK:=hid (listI_take (s:=s) hxt)
   obtain ⟨b0,b1,b2,b3,b4,b5,b6,b7⟩:=(hc.same (w':=wr) fun p => Below.cell (p:=⟨g0,p,none⟩) hbe hg).all
   have HQ:=hid (cells4 HL1.out.b0)
   clear hxt hxm hg hc hxin hst hle1 hS hbe
   obtain ⟨d0,d1,d2,d3⟩:=HQ.out
   cases hr:nodeI S x with
   | no a' k' =>
    rw [hr] at HC
    have he:=nodeI_err hr
    have hk0:(k':Int) ≠ 0:=by omega
    have hk1:((k':Int) != 0) = true:=bne_iff_ne.2 hk0
    have HE:=hid (show k' ≠ 0 by omega)
    have HFIN:=hid (show listI s l = .no a' k' from listI_stop (i:=i + 1) (by rw [HTK.out,HR.out,IR.next_ok,hr,IR.next_no]))
    clear hr he
    go_wp2_with (go_at_call 56;((with_reducible refine (HC.out).mono ?_);rintro e w2 ⟨t,a,k,A2,n2,c2,es2,rfl,hE,hQ⟩;obtain ⟨ht,rfl,rfl,hne⟩:=hQ.out;have HL2:=hid ((HL1.out.call hE.out).later (Bel.alloc w2 (.cells #[.int .i64 (t.c:Nat),.string (ofL t.n),.string (ofL t.a),.string (ofL t.p)] 74)));clear hE hQ hne ht;obtain ⟨k0,k1,k2,k3⟩:=cells4 HL2.out.b1;obtain ⟨y0,y1,y2,y3⟩:=frees4 HL2.out.b1))
    rw [HFIN.out]
    refine pp_set rfl rfl rfl rfl HL2.out.b1 (by omega) HL2.out.ev (t:=s0 0) rfl ?_
    exact ⟨rfl,rfl,rfl,HE.out⟩
   | ok S2 e2 =>
    rw [hr] at HC
    have HTN:=hid (show listI s (l.take (i + 1)) = .ok S2 (es ++ e2) by rw [HTK.out,HR.out,IR.next_ok,hr,IR.next_ok])
    clear hr
    go_wp2_with (go_at_call 56;((with_reducible refine (HC.out).mono ?_);rintro e w2 ⟨t,a,k,A2,n2,c2,es2,rfl,hE,hQ⟩;obtain ⟨rfl,rfl,rfl,hes⟩:=hQ.out;rw [List.append_assoc] at hes;subst hes;have HL2:=hid ((HL1.out.call hE.out).later (Bel.alloc w2 (.cells #[.int .i64 (t.c:Nat),.string (ofL t.n),.string (ofL t.a),.string (ofL t.p)] 74)));clear hE hQ;obtain ⟨k0,k1,k2,k3⟩:=cells4 HL2.out.b0;obtain ⟨y0,y1,y2,y3⟩:=frees4 HL2.out.b0))
    go_roundw
    case rel =>
     have hO:=only4p (w2.alloc (.cells #[.int .i64 (t.c:Nat),.string (ofL t.n),.string (ofL t.a),.string (ofL t.p)] 74)) w.heap.size (.int .i64 (t.c:Nat)) (.string (ofL t.n)) (.string (ofL t.a)) (.string (ofL t.p))
     have hK:=(((HL2.out.b0.set_ 0 (.int .i64 (t.c:Nat))).set_ 1 (.string (ofL t.n))).set_ 2 (.string (ofL t.a))).set_ 3 (.string (ofL t.p))
     simp only [List.set_cons_succ,List.set_cons_zero] at hK
     exact ⟨i + 1,t,A2,n2,c2,es ++ e2,by omega,by go_num,HTN,hid ⟨hK,HL2.out.b1.only hO (by simp),HL2.out.ev.own hO (Nat.le_refl _) HL2.out.b0 (by decide) (by decide)⟩⟩
    case measure => simp [intOf];omega
  ·obtain rfl:i = n:=by omega
   have HFIN:=hid (show listI s l = .ok S es by have h:=HR.out;rwa [HN.out,List.take_length] at h)
   obtain ⟨d0,d1,d2,d3⟩:=cells4 HL.out.b0
   obtain ⟨k0,k1,k2,k3⟩:=cells4 HL.out.b1
   obtain ⟨y0,y1,y2,y3⟩:=frees4 HL.out.b1
   go_wp2_with fail
   rw [HFIN.out]
   refine pp_set rfl rfl rfl rfl HL.out.b1 (by omega) HL.out.ev (t:=S) rfl ?_
   exact ⟨rfl,rfl,rfl,rfl⟩
theorem pnode_all (x:NT):PM x:=by
 refine NT.ind (M:=PM) (fun t h1 h2 => ?_) x
 intro B rr w A n c done s hs ht hA hz
 rw [tot_eq] at hz
 have hb:∀ s,Inv s→PLc B rr w s t.A t.c t.b:=fun s hs => plist_row t.b h1 B rr w s _ _ hs ht.body
 have hl:∀ s,Inv s→PLc B rr w s t.B t.d t.l:=fun s hs => plist_row t.l h2 B rr w s _ _ hs ht.els
 by_cases h0:t.k = 0
 ·exact pnode_text s hs t done B rr A n c w hA h0 ht.siB
 by_cases h1:t.k = 1
 ·exact pnode_print s hs t done B rr A n c w hA h1 (by omega)
 by_cases h2:t.k = 2
 ·exact pnode_if s hs t done B rr A n c w hA h2 (by omega) (hb s hs) (hl s hs)
 by_cases h3:t.k = 3
 ·exact pnode_range s hs t done B rr A n c w hA h3 (by omega) (hb s hs)
 by_cases h4:t.k = 4
 ·exact pnode_call s hs t done B rr A n c w hA h4
 by_cases h6:t.k = 6
 ·exact inode_define s hs t done B rr A n c w hA h6 (by omega) (hb (s0 0) Inv.init)
 ·exact inode_other s hs t done B rr A n c w hA ⟨h0,h1,h2,h3,h4,h6⟩
theorem plist_c {l:List NT} {X:Option Addr} {c0:Nat} {B:Nat} {w:World} (hX:Row w (·< B) X c0 l) (rr:Nat) (s:HS) (hs:Inv s):PLc B rr w s X c0 l:=plist_row l (fun x _ => pnode_all x) B rr w s X c0 hs hX
end Go.Proofs.YtpcapmdfjmpdiaaGreatDoor
