/- The program of layer 16: block -/
import Derived.Test.YtpcapmdfjmpdiaaGreatDoorMPg17
import Derived.Test.YtpcapmdfjmpdiaaGreatDoorMPf17
import Derived.Test.YtpcapmdfjmpdiaaGreatDoorMRlist
import Derived.Test.YtpcapmdfjmpdiaaGreatDoorMPd12
import Derived.Test.YtpcapmdfjmpdiaaGreatDoorMPl12
import Derived.Test.YtpcapmdfjmpdiaaGreatDoorMPf12
import Derived.Test.YtpcapmdfjmpdiaaGreatDoorMCt12
set_option linter.unusedVariables false
set_option linter.unusedSimpArgs false
set_option maxRecDepth 100000
set_option maxHeartbeats 6400000
open Go.Lib (hid)
namespace Go.Proofs.YtpcapmdfjmpdiaaGreatDoor
section
open Go.RowKit Go.BigFrame NT
structure P40 (w w1:World) (s u:HS) (x:NT):Prop where
 b0:Blk w1 w.heap.size 74 (sC s)
 b1:Blk w1 (w.heap.size + 1) 74 (sC u)
 b2:Blk w1 (w.heap.size + 1 + 1) 69 x.cs
 b3:Blk w1 (w.heap.size + 1 + 1 + 1) 74 [.int .i64 0,.string ⟨#[]⟩,.string ⟨#[]⟩,.string ⟨#[]⟩]
abbrev w4p (w:World) (s u:HS) (x:NT):World:=(((w.alloc (.cells #[.int .i64 (s.c:Nat),.string (ofL s.n),.string (ofL s.a),.string (ofL s.p)] 74)).alloc (.cells #[.int .i64 (u.c:Nat),.string (ofL u.n),.string (ofL u.a),.string (ofL u.p)] 74)).alloc (.cells #[.int .i64 x.k,.int .i64 x.a,.string x.s,.string x.p,.bool x.h,.bool x.e,.slice x.A x.b.length x.c,.slice x.B x.l.length x.d] 69)).alloc (.cells #[.int .i64 0,.string ⟨#[]⟩,.string ⟨#[]⟩,.string ⟨#[]⟩] 74)
theorem p40_start (w:World) (s u:HS) (x:NT):P40 w (w4p w s u x) s u x:=by
 refine ⟨(((Blk.new w 74 (sC s)).alloc _).alloc _).alloc _,((blk_at1h w _ 74 (sC u)).alloc _).alloc _,(blk_at2_16 w _ _ (T:=69) x.cs).alloc _,?_⟩
 have:=blk_at2_16 (w.alloc (.cells #[.int .i64 (s.c:Nat),.string (ofL s.n),.string (ofL s.a),.string (ofL s.p)] 74)) (.cells #[.int .i64 (u.c:Nat),.string (ofL u.n),.string (ofL u.a),.string (ofL u.p)] 74) (.cells #[.int .i64 x.k,.int .i64 x.a,.string x.s,.string x.p,.bool x.h,.bool x.e,.slice x.A x.b.length x.c,.slice x.B x.l.length x.d] 69) (T:=74) [.int .i64 0,.string ⟨#[]⟩,.string ⟨#[]⟩,.string ⟨#[]⟩]
 rw [show (w.alloc (.cells #[.int .i64 (s.c:Nat),.string (ofL s.n),.string (ofL s.a),.string (ofL s.p)] 74)).heap.size = w.heap.size + 1 by simp] at this
 exact this
theorem P40.later {w w1 w2:World} {s u:HS} {x:NT} (h:P40 w w1 s u x) (hb:Bel w1 w2):P40 w w2 s u x:=⟨h.b0.belh hb,h.b1.belh hb,h.b2.belh hb,h.b3.belh hb⟩
theorem P40.keep {B rr:Nat} {w w1 w2:World} {A:Option Addr} {n c:Nat} {es:List Nat} {s u:HS} {x:NT} (h:P40 w w1 s u x) (hA:An B rr w1 A n c es) (hO:Only (rr :: rowT A) w1 w2):P40 w w2 s u x :=
 ⟨hA.keep hO h.b0 (by decide) (by decide),hA.keep hO h.b1 (by decide) (by decide),hA.keep hO h.b2 (by decide) (by decide),hA.keep hO h.b3 (by decide) (by decide)⟩
theorem bel4_16 (w:World) (a b c d:Obj):Bel w ((((w.alloc a).alloc b).alloc c).alloc d):=(bel3_16 w a b c).trans (Bel.alloc _ _)
abbrev PLc (B rr:Nat) (w:World) (u:HS) (A:Option Addr) (c:Nat) (l:List NT):Prop:=∀ W A1 n1 c1 done1,Below B w W→An B rr W A1 n1 c1 done1→n1 + tots l≤100000 →
 Calls Tryz.prog 31 #[.pointer (some ⟨rr,0,none⟩),.agg #[.int .i64 (u.c:Nat),.string (ofL u.n),.string (ofL u.a),.string (ofL u.p)],.slice A l.length c] W (PP (listI u l) done1 B rr W A1)
theorem iblock_c (s u:HS) (x:NT) (done:List Nat) (B rr:Nat) (A:Option Addr) (n c:Nat) (w:World) (hA:An B rr w A n c done) (hle:n + tots x.b≤100000) (hl:PLc B rr w u x.A x.c x.b) :
  Calls Tryz.prog 87 #[.pointer (some ⟨rr,0,none⟩),.agg #[.int .i64 (s.c:Nat),.string (ofL s.n),.string (ofL s.a),.string (ofL s.p)],.agg #[.int .i64 (u.c:Nat),.string (ofL u.n),.string (ofL u.a),.string (ofL u.p)],nV x] w
   (PP ((listI u x.b).next fun s1 e1 => if eqH s1 u = true then .ok s e1 else .no x.a 16) done B rr w A):=by
 have HP0:=hid (p40_start w s u x)
 have HE0:=hid ((Ev.refl hA).bel (show Bel w (w4p w s u x) from bel4_16 w _ _ _ _))
 have HL:=hid (hl (w4p w s u x) A n c done (HE0.out.below hA) HE0.out.an hle)
 have hrr:=hA.blk.lt
 have hgp:=st_guard
 clear hle hA hl
 cases hr:listI u x.b with
 | no a1 e1 =>
  rw [hr] at HL
  have he:=listI_err hr
  have hk0:(e1:Int) ≠ 0:=by omega
  have hk1:((e1:Int) != 0) = true:=bne_iff_ne.2 hk0
  have HE:=hid (show e1 ≠ 0 by omega)
  clear hr he
  rw [IR.next_no]
  go_enter Tryz.func87,Tryz.ntmps87
  go_wp2_with (go_at_call 31;((with_reducible refine (HL.out).mono ?_);rintro e w2 ⟨t,a,k,A',n',c',es,rfl,hE,hQ⟩;obtain ⟨ht,rfl,rfl,hne⟩:=hQ.out;have HP2:=hid ((HP0.out.keep HE0.out.an hE.out.only).later (Bel.alloc w2 (.cells #[.int .i64 (t.c:Nat),.string (ofL t.n),.string (ofL t.a),.string (ofL t.p)] 74)));have HE2:=hid ((HE0.out.then hE.out).bel (Bel.alloc w2 (.cells #[.int .i64 (t.c:Nat),.string (ofL t.n),.string (ofL t.a),.string (ofL t.p)] 74)));clear hE hQ hne ht;obtain ⟨k0,k1,k2,k3⟩:=cells4 HP2.out.b3;obtain ⟨y0,y1,y2,y3⟩:=frees4 HP2.out.b3))
  refine pp_set rfl rfl rfl rfl HP2.out.b3 (by omega) HE2.out (t:=s0 0) rfl ?_
  exact ⟨rfl,rfl,rfl,HE.out⟩
 | ok s1 es1 =>
  rw [hr] at HL
  rw [IR.next_ok]
  clear hr
  cases hq:eqH s1 u with
  | true =>
   have hcmp:∀ W,(binOp .neq 74 (.agg #[.int .i64 (s1.c:Nat),.string (ofL s1.n),.string (ofL s1.a),.string (ofL s1.p)]) (.agg #[.int .i64 (u.c:Nat),.string (ofL u.n),.string (ofL u.a),.string (ofL u.p)])).run Tryz.prog W = .ok (.bool false) W:=fun W => by have h:=pst_neq s1 u W;rw [hq] at h;exact h
   rw [if_pos rfl]
   clear hq
   go_enter Tryz.func87,Tryz.ntmps87
   go_wp2_with (go_at_call 31;((with_reducible refine (HL.out).mono ?_);rintro e w2 ⟨t,a,k,A',n',c',es,rfl,hE,hQ⟩;obtain ⟨rfl,rfl,rfl,rfl⟩:=hQ.out;have HP2:=hid ((HP0.out.keep HE0.out.an hE.out.only).later (Bel.alloc w2 (.cells #[.int .i64 (t.c:Nat),.string (ofL t.n),.string (ofL t.a),.string (ofL t.p)] 74)));have HE2:=hid ((HE0.out.then hE.out).bel (Bel.alloc w2 (.cells #[.int .i64 (t.c:Nat),.string (ofL t.n),.string (ofL t.a),.string (ofL t.p)] 74)));clear hE hQ;obtain ⟨k0,k1,k2,k3⟩:=cells4 HP2.out.b3;obtain ⟨y0,y1,y2,y3⟩:=frees4 HP2.out.b3;obtain ⟨s0',s1',s2',s3'⟩:=cells4 HP2.out.b0;obtain ⟨u0',u1',u2',u3'⟩:=cells4 HP2.out.b1))
   refine pp_set rfl rfl rfl rfl HP2.out.b3 (by omega) HE2.out (t:=s) rfl ?_
   exact ⟨rfl,rfl,rfl,rfl⟩
  | false =>
   have hcmp:∀ W,(binOp .neq 74 (.agg #[.int .i64 (s1.c:Nat),.string (ofL s1.n),.string (ofL s1.a),.string (ofL s1.p)]) (.agg #[.int .i64 (u.c:Nat),.string (ofL u.n),.string (ofL u.a),.string (ofL u.p)])).run Tryz.prog W = .ok (.bool true) W:=fun W => by have h:=pst_neq s1 u W;rw [hq] at h;exact h
   rw [if_neg (by decide)]
   clear hq
   go_enter Tryz.func87,Tryz.ntmps87
   go_wp2_with (first
    | (go_at_call 31;((with_reducible refine (HL.out).mono ?_);rintro e w2 ⟨t,a,k,A',n',c',es,rfl,hE,hQ⟩;obtain ⟨rfl,rfl,rfl,rfl⟩:=hQ.out;have HP2:=hid ((HP0.out.keep HE0.out.an hE.out.only).later (Bel.alloc w2 (.cells #[.int .i64 (t.c:Nat),.string (ofL t.n),.string (ofL t.a),.string (ofL t.p)] 74)));have HE2:=hid ((HE0.out.then hE.out).bel (Bel.alloc w2 (.cells #[.int .i64 (t.c:Nat),.string (ofL t.n),.string (ofL t.a),.string (ofL t.p)] 74)));clear hE hQ;obtain ⟨u0',u1',u2',u3'⟩:=cells4 HP2.out.b1;obtain ⟨x0',x1',x2',x3',x4',x5',x6',x7'⟩:=cells8 HP2.out.b2))
    | (go_at_call 107;((with_reducible refine (fail_c x 16 _).mono ?_);rintro e w3 ⟨rfl,hb⟩;have HP3:=hid (HP2.out.later hb);have HE3:=hid (HE2.out.bel hb);clear hb;obtain ⟨k0,k1,k2,k3⟩:=cells4 HP3.out.b3;obtain ⟨y0,y1,y2,y3⟩:=frees4 HP3.out.b3)))
   refine pp_set rfl rfl rfl rfl HP3.out.b3 (by omega) HE3.out (t:=s0 0) rfl ?_
   exact ⟨rfl,rfl,rfl,by decide⟩
end
section
open Go.RowKit Go.BigFrame NT
theorem Ir.src_of {w w1:World} {A:Option Addr} {c:Nat} {l:List IN} (h:Ir w w1 A c l):Src w1 6 IN.cs A l:=h.1.src
theorem src_one {w:World} (x:IN):Src (w.alloc (.cells #[.int .i64 (x.o:Nat),.string x.s,.string x.p,.bool x.h,.int .i64 (x.e:Nat),.int .i64 (x.t:Nat)] 31)) 6 IN.cs (some ⟨w.heap.size,0,none⟩) [x] :=
 src_blk (f:=IN.cs) (z:=6) (m:=[x]) (Blk.new w 31 (IN.cs x)) (by rw [flat_one])
theorem Ir.old {w w0 w1 w2:World} {A A':Option Addr} {c c':Nat} {l l':List IN} (h:Ir w w1 A c l) (hlt:∀ k,k ∈ rowT A→k < w0.heap.size) (hI:Ir w0 w1 A' c' l') (hO:Only (rowT A') w1 w2):Ir w w2 A c l:=h.only hO (fun k hk hm => by have h1:=hlt k hk;have h2:=hI.2 k hm;omega)
section
variable {r B:Nat} {w:World} {N:Option Addr} {cn:Nat} {D:Option Addr} {cd:Nat} {E:Option Addr} {m ce:Nat} {ns:List ByteArray} {ads es:List Nat}
theorem dn_if0 (x:NT) (a:Nat) (hC:Cm r w N cn D cd E m ce ns ads es) (hk:x.k = 2) (he:x.e = false) (hB:B≤r) (hl:DLc r B w N cn D cd ns ads x.A x.c x.b) (hm:prns x.b≤es.length) (ha:a + 1 + sizs x.b≤90000) :
  Calls Tryz.prog 71 #[.pointer (some ⟨r,0,none⟩),nV17 x,.int .i64 (a:Nat)] w (DcP (nodeC (adZ ns ads) a es x) r w N cn D cd ns ads):=by
 rw [nodeC_eq,if_neg (by rw [hk];decide),if_neg (by rw [hk];decide),if_pos hk]
 have k0:(x.k == 0) = false:=by rw [hk];rfl
 have k1:(x.k == 1) = false:=by rw [hk];rfl
 have k2:(x.k == 2) = true:=by rw [hk];rfl
 have hrl:=hC.blk.lt
 have HRL:=hid hrl
 have HB1:=hid (Bel.alloc w (.cells #[.int .i64 x.k,.int .i64 x.a,.string x.s,.string x.p,.bool x.h,.bool x.e,.slice x.A x.b.length x.c,.slice x.B x.l.length x.d] 69))
 have HN1:=hid (show Blk (w.alloc (.cells #[.int .i64 x.k,.int .i64 x.a,.string x.s,.string x.p,.bool x.h,.bool x.e,.slice x.A x.b.length x.c,.slice x.B x.l.length x.d] 69)) w.heap.size 69 x.cs from Blk.new w 69 x.cs)
 obtain ⟨T2,hT2⟩:∃ T2,T2 = a + 1:=⟨_,rfl⟩
 have hcall:=hl (w.alloc (.cells #[.int .i64 x.k,.int .i64 x.a,.string x.s,.string x.p,.bool x.h,.bool x.e,.slice x.A x.b.length x.c,.slice x.B x.l.length x.d] 69)) E m ce es T2 (Below.mono HB1.out (by omega)) (hC.bel HB1.out) (by omega) (by omega)
 have hlen:=(listC_ok (adZ ns ads) x.b T2 es).len
 have hces:=(listC_ok (adZ ns ads) x.b T2 es).es
 rw [← hT2]
 obtain ⟨cb,hcb⟩:∃ cb,cb = listC (adZ ns ads) T2 es x.b:=⟨_,rfl⟩
 rw [← hcb] at hcall hlen hces ⊢
 obtain ⟨n1,hn1⟩:∃ n1,n1 = cb.1.length:=⟨_,rfl⟩
 obtain ⟨T3,hT3⟩:∃ T3,T3 = T2 + n1:=⟨_,rfl⟩
 have HC1:=hid hcall
 unfold DcP at HC1
 rw [← hn1] at HC1
 have b1:T2≤95000:=by omega
 have e1':(a:Int) + 1 = (T2:Int):=by omega
 have b2:T3≤95000:=by omega
 have e2':(T2:Int) + (n1:Int) = (T3:Int):=by omega
 have HL1:=hid hn1
 have HLA:=hid (show 1 + cb.1.length≤100000 by omega)
 have HLB:=hid (show n1 + 1 = 1 + n1 by omega)
 have HLC:=hid (fun x:IN => show ([x] ++ cb.1).length = n1 + 1 by simp;omega)
 have HT3:=hid (show T3 = a + 1 + cb.1.length by omega)
 have HE:=hid he
 clear hn1 hT2 hT3 hcb hk hm ha hl hC hlen hcall hces he
 go_enter Tryz.func71,Tryz.ntmps71
 go_wp2_with (first
  | (go_at_call 46;((with_reducible refine (HC1.out).mono ?_);rintro e w2 ⟨A1,c1,E1,m1,ce1,rfl,hI,hO,hC2⟩;have HI:=hid ((hI.out.since HB1.out.size).only ((Only.refl [] w2).alloc (.cells #[.int .i64 2,.string ⟨#[]⟩,.string x.p,.bool false,.int .i64 0,.int .i64 (T3:Nat)] 31)) (by simp));have HO:=hid ((((bel_only HB1.out).more (T:=[r]) (by simp)).trans hO.out).alloc (.cells #[.int .i64 2,.string ⟨#[]⟩,.string x.p,.bool false,.int .i64 0,.int .i64 (T3:Nat)] 31));have HC2:=hid (hC2.out.bel (Bel.alloc w2 (.cells #[.int .i64 2,.string ⟨#[]⟩,.string x.p,.bool false,.int .i64 0,.int .i64 (T3:Nat)] 31)));have HN2:=hid (HN1.out.only hO.out (by simp;omega));have HI4:=hid (show Ir w (w2.alloc (.cells #[.int .i64 2,.string ⟨#[]⟩,.string x.p,.bool false,.int .i64 0,.int .i64 (T3:Nat)] 31)) (some ⟨w2.heap.size,0,none⟩) 1 [⟨2,eB,x.p,false,0,T3⟩] from Ir.one (w:=w) (w1:=w2) ⟨2,eB,x.p,false,0,T3⟩ (Nat.le_trans HB1.out.size hO.out.size));have HSR:=hid HI.out.src_of;have HZ2:=hid (Nat.le_trans HB1.out.size (Nat.le_trans hO.out.size (Bel.alloc w2 (.cells #[.int .i64 2,.string ⟨#[]⟩,.string x.p,.bool false,.int .i64 0,.int .i64 (T3:Nat)] 31)).size));clear hI hO hC2;obtain ⟨x0',x1',x2',x3',x4',x5',x6',x7'⟩:=cells8 HN2.out;rw [HE.out] at x5'))
  | ((with_reducible refine wp_ins (n:=1) rfl (.tmp 63) (.tmp 64) rfl HI4.out rfl rfl A1 c1 cb.1 n1 HL1.out.symm rfl HSR.out HLA.out (n1 + 1) HLB.out HZ2.out ?_);intro A3 c3 w3 HI3 HO3))
 go_ret
 have hcode:(ifC a x.p x.e cb (fun a2 es2 => listC (adZ ns ads) a2 es2 x.l)).1 = [⟨2,eB,x.p,false,0,T3⟩] ++ cb.1:=by unfold ifC;rw [HE.out,if_neg (by decide),HT3.out];rfl
 have hces:(ifC a x.p x.e cb (fun a2 es2 => listC (adZ ns ads) a2 es2 x.l)).2 = cb.2:=by unfold ifC;rw [HE.out,if_neg (by decide)]
 have hlen:(ifC a x.p x.e cb (fun a2 es2 => listC (adZ ns ads) a2 es2 x.l)).1.length = n1 + 1:=by rw [hcode,HLC.out]
 have hI6:=HI3.out
 rw [← hcode] at hI6
 exact ⟨A3,c3,E1,m1,ce1,by rw [hlen];rfl,hid hI6,hid (ir_only HO.out HI4.out HO3.out),hid (by rw [hces];exact HC2.out.ins HI4.out HO3.out)⟩
theorem dn_if1 (x:NT) (a:Nat) (hC:Cm r w N cn D cd E m ce ns ads es) (hk:x.k = 2) (he:x.e = true) (hB:B≤r) (hl:DLc r B w N cn D cd ns ads x.A x.c x.b) (hl2:DLc r B w N cn D cd ns ads x.B x.d x.l) (hm:prns x.b + prns x.l≤es.length) (ha:a + 2 + sizs x.b + sizs x.l≤90000) :
  Calls Tryz.prog 71 #[.pointer (some ⟨r,0,none⟩),nV17 x,.int .i64 (a:Nat)] w (DcP (nodeC (adZ ns ads) a es x) r w N cn D cd ns ads):=by
 rw [nodeC_eq,if_neg (by rw [hk];decide),if_neg (by rw [hk];decide),if_pos hk]
 have k0:(x.k == 0) = false:=by rw [hk];rfl
 have k1:(x.k == 1) = false:=by rw [hk];rfl
 have k2:(x.k == 2) = true:=by rw [hk];rfl
 have hrl:=hC.blk.lt
 have HRL:=hid hrl
 have HB1:=hid (Bel.alloc w (.cells #[.int .i64 x.k,.int .i64 x.a,.string x.s,.string x.p,.bool x.h,.bool x.e,.slice x.A x.b.length x.c,.slice x.B x.l.length x.d] 69))
 have HN1:=hid (show Blk (w.alloc (.cells #[.int .i64 x.k,.int .i64 x.a,.string x.s,.string x.p,.bool x.h,.bool x.e,.slice x.A x.b.length x.c,.slice x.B x.l.length x.d] 69)) w.heap.size 69 x.cs from Blk.new w 69 x.cs)
 obtain ⟨T2,hT2⟩:∃ T2,T2 = a + 1:=⟨_,rfl⟩
 have hcall:=hl (w.alloc (.cells #[.int .i64 x.k,.int .i64 x.a,.string x.s,.string x.p,.bool x.h,.bool x.e,.slice x.A x.b.length x.c,.slice x.B x.l.length x.d] 69)) E m ce es T2 (Below.mono HB1.out (by omega)) (hC.bel HB1.out) (by omega) (by omega)
 have hlen:=(listC_ok (adZ ns ads) x.b T2 es).len
 have hces:=(listC_ok (adZ ns ads) x.b T2 es).es
 rw [← hT2]
 obtain ⟨cb,hcb⟩:∃ cb,cb = listC (adZ ns ads) T2 es x.b:=⟨_,rfl⟩
 rw [← hcb] at hcall hlen hces ⊢
 obtain ⟨n1,hn1⟩:∃ n1,n1 = cb.1.length:=⟨_,rfl⟩
 obtain ⟨T3,hT3⟩:∃ T3,T3 = T2 + n1:=⟨_,rfl⟩
 have HC1:=hid hcall
 unfold DcP at HC1
 rw [← hn1] at HC1
 obtain ⟨T4,hT4⟩:∃ T4,T4 = T3 + 1:=⟨_,rfl⟩
 have hlen2:=(listC_ok (adZ ns ads) x.l T4 cb.2).len
 have hcode0:ifC a x.p x.e cb (fun a2 es2 => listC (adZ ns ads) a2 es2 x.l) = (⟨2,eB,x.p,false,0,T4⟩ :: (cb.1 ++ ⟨3,eB,eB,false,0,T4 + (listC (adZ ns ads) T4 cb.2 x.l).1.length⟩ :: (listC (adZ ns ads) T4 cb.2 x.l).1),(listC (adZ ns ads) T4 cb.2 x.l).2):=by
  unfold ifC
  rw [he,if_pos rfl,show a + 2 + cb.1.length = T4 by omega]
 rw [hcode0]
 have HL2:=hid (fun W E m ce (hW:Below B w W) (hC:Cm r W N cn D cd E m ce ns ads cb.2) => hl2 W E m ce cb.2 T4 hW hC (by rw [hces,List.length_drop];omega) (by omega))
 obtain ⟨cr,hcr⟩:∃ cr,cr = listC (adZ ns ads) T4 cb.2 x.l:=⟨_,rfl⟩
 rw [← hcr] at HL2 hlen2 ⊢
 obtain ⟨n2,hn2⟩:∃ n2,n2 = cr.1.length:=⟨_,rfl⟩
 unfold DcP at HL2
 rw [← hn2] at HL2 ⊢
 obtain ⟨T5,hT5⟩:∃ T5,T5 = T4 + n2:=⟨_,rfl⟩
 rw [← hT5]
 have b1:T2≤95000:=by omega
 have e1':(a:Int) + 1 = (T2:Int):=by omega
 have b2:T3≤95000:=by omega
 have e2':(T2:Int) + (n1:Int) = (T3:Int):=by omega
 have b3:T4≤95000:=by omega
 have e3':(T3:Int) + 1 = (T4:Int):=by omega
 have b4:T5≤95000:=by omega
 have e4':(T4:Int) + (n2:Int) = (T5:Int):=by omega
 have HL1:=hid hn1
 have HM2:=hid hn2
 have HLA:=hid (show 1 + cb.1.length≤100000 by omega)
 have HLB:=hid (show n1 + 1 = 1 + n1 by omega)
 have HLC:=hid (fun x:IN => show ([x] ++ cb.1).length = n1 + 1 by simp;omega)
 have HLD:=hid (fun x:IN => show n1 + 1 + [x].length≤100000 by simp;omega)
 have HLE:=hid (fun x y:IN => show ([x] ++ cb.1 ++ [y]).length = n1 + 1 + 1 by simp;omega)
 have HLF:=hid (show n1 + 1 + 1 + cr.1.length≤100000 by omega)
 have HE:=hid he
 have HBR:=hid hB
 clear hn1 hn2 hT2 hT3 hT4 hT5 hcb hcr hk hm ha hl hl2 hC hlen hlen2 hcall hces he hcode0
 go_enter Tryz.func71,Tryz.ntmps71
 go_wp2_with (first
  | (go_at_call 46;((with_reducible refine (HC1.out).mono ?_);rintro e w2 ⟨A1,c1,E1,m1,ce1,rfl,hI,hO,hC2⟩;have HI:=hid (hI.out.since HB1.out.size);have HO:=hid (((bel_only HB1.out).more (T:=[r]) (by simp)).trans hO.out);have HC2:=hC2;have HN2:=hid (HN1.out.only hO.out (by simp;omega));have HCL:=hid (HL2.out w2 E1 m1 ce1 (HO.out.to_below (by have:=HRL.out;have:=HBR.out;omega) (by simp;exact HBR.out)) hC2.out);clear hI hO hC2;obtain ⟨x0',x1',x2',x3',x4',x5',x6',x7'⟩:=cells8 HN2.out;rw [HE.out] at x5'))
  | (go_at_call 46;((with_reducible refine (HCL.out).mono ?_);rintro e w3 ⟨A2,c2,E2,m2,ce2,rfl,hI,hO,hC3⟩;have HJ:=hid (HI.out.only hO.out (fun k hk hm => by rw [List.mem_singleton] at hm;subst hm;exact HI.out.ne HRL.out hk));have HK:=hid (hI.out.since HO.out.size);have HKL:=hid (hI.out.1.lt);have HO3:=hid ((HO.out.trans hO.out).alloc (.cells #[.int .i64 2,.string ⟨#[]⟩,.string x.p,.bool false,.int .i64 0,.int .i64 (T4:Nat)] 31));have HC3:=hid (hC3.out.bel (Bel.alloc w3 (.cells #[.int .i64 2,.string ⟨#[]⟩,.string x.p,.bool false,.int .i64 0,.int .i64 (T4:Nat)] 31)));have HN3:=hid (HN2.out.only hO.out (by simp;omega));have HZ3:=hid (Nat.le_trans HO.out.size hO.out.size);have HJ3:=hid (HJ.out.only ((Only.refl [] w3).alloc (.cells #[.int .i64 2,.string ⟨#[]⟩,.string x.p,.bool false,.int .i64 0,.int .i64 (T4:Nat)] 31)) (by simp));have HK3:=hid (HK.out.only ((Only.refl [] w3).alloc (.cells #[.int .i64 2,.string ⟨#[]⟩,.string x.p,.bool false,.int .i64 0,.int .i64 (T4:Nat)] 31)) (by simp));have HI4:=hid (show Ir w3 (w3.alloc (.cells #[.int .i64 2,.string ⟨#[]⟩,.string x.p,.bool false,.int .i64 0,.int .i64 (T4:Nat)] 31)) (some ⟨w3.heap.size,0,none⟩) 1 [⟨2,eB,x.p,false,0,T4⟩] from Ir.one (w:=w3) (w1:=w3) ⟨2,eB,x.p,false,0,T4⟩ (Nat.le_refl _));have HS3:=hid HJ3.out.src_of;have HZ4:=hid (Bel.alloc w3 (.cells #[.int .i64 2,.string ⟨#[]⟩,.string x.p,.bool false,.int .i64 0,.int .i64 (T4:Nat)] 31)).size;clear hI hO hC3;obtain ⟨z0',z1',z2',z3',z4',z5',z6',z7'⟩:=cells8 HN3.out))
  | ((with_reducible refine wp_ins (n:=1) rfl (.tmp 77) (.tmp 78) rfl HI4.out rfl rfl A1 c1 cb.1 n1 HL1.out.symm rfl HS3.out HLA.out (n1 + 1) HLB.out HZ4.out ?_);intro A5 c5 w5 HI5 HO5;have HK5:=hid ((HK3.out.old HKL.out HI4.out HO5.out).only ((Only.refl [] w5).alloc (.cells #[.int .i64 3,.string ⟨#[]⟩,.string ⟨#[]⟩,.bool false,.int .i64 0,.int .i64 (T5:Nat)] 31)) (by simp));have HO6:=hid ((ir_only HO3.out (HI4.out.since HZ3.out) HO5.out).alloc (.cells #[.int .i64 3,.string ⟨#[]⟩,.string ⟨#[]⟩,.bool false,.int .i64 0,.int .i64 (T5:Nat)] 31));have HC6:=hid ((HC3.out.ins HI4.out HO5.out).bel (Bel.alloc w5 (.cells #[.int .i64 3,.string ⟨#[]⟩,.string ⟨#[]⟩,.bool false,.int .i64 0,.int .i64 (T5:Nat)] 31)));have HI6:=hid (HI5.out.only ((Only.refl [] w5).alloc (.cells #[.int .i64 3,.string ⟨#[]⟩,.string ⟨#[]⟩,.bool false,.int .i64 0,.int .i64 (T5:Nat)] 31)) (by simp));have HS6:=hid (show Src (w5.alloc (.cells #[.int .i64 3,.string ⟨#[]⟩,.string ⟨#[]⟩,.bool false,.int .i64 0,.int .i64 (T5:Nat)] 31)) 6 IN.cs (some ⟨w5.heap.size,0,none⟩) [⟨3,eB,eB,false,0,T5⟩] from src_one ⟨3,eB,eB,false,0,T5⟩);have HZ6:=hid (Nat.le_trans HZ4.out (Nat.le_trans HO5.out.size (Bel.alloc w5 (.cells #[.int .i64 3,.string ⟨#[]⟩,.string ⟨#[]⟩,.bool false,.int .i64 0,.int .i64 (T5:Nat)] 31)).size)))
  | ((with_reducible refine wp_ins (n:=n1 + 1) rfl (.tmp 80) (.tmp 87) rfl HI6.out (HLC.out _) rfl (some ⟨w5.heap.size,0,none⟩) 1 [⟨3,eB,eB,false,0,T5⟩] 1 rfl rfl HS6.out (HLD.out _) (n1 + 1 + 1) rfl HZ6.out ?_);intro A7 c7 w7 HI7 HO7;have HK7:=hid (HK5.out.old HKL.out HI6.out HO7.out);have HS7:=hid HK7.out.src_of;have HO8:=hid (ir_only HO6.out (HI6.out.since HZ3.out) HO7.out);have HC7:=hid (HC6.out.ins HI6.out HO7.out);have HZ7:=hid (Nat.le_trans HZ6.out HO7.out.size))
  | ((with_reducible refine wp_ins (n:=n1 + 1 + 1) rfl (.tmp 89) (.tmp 90) rfl HI7.out (HLE.out _ _) rfl A2 c2 cr.1 n2 HM2.out.symm rfl HS7.out HLF.out (n1 + 1 + 1 + n2) rfl HZ7.out ?_);intro A9 c9 w9 HI9 HO9))
 go_ret
 have hcode:(⟨2,eB,x.p,false,0,T4⟩:IN) :: (cb.1 ++ ⟨3,eB,eB,false,0,T5⟩ :: cr.1) = [⟨2,eB,x.p,false,0,T4⟩] ++ cb.1 ++ [⟨3,eB,eB,false,0,T5⟩] ++ cr.1:=by simp
 have hlen:((⟨2,eB,x.p,false,0,T4⟩:IN) :: (cb.1 ++ ⟨3,eB,eB,false,0,T5⟩ :: cr.1)).length = n1 + 1 + 1 + n2:=by rw [hcode,List.length_append,HLE.out,HM2.out]
 have hI9:=HI9.out.since HZ3.out
 rw [← hcode] at hI9
 exact ⟨A9,c9,E2,m2,ce2,by rw [hlen];rfl,hid hI9,hid (ir_only HO8.out (HI7.out.since HZ3.out) HO9.out),hid (HC7.out.ins HI7.out HO9.out)⟩
end
end
section
open Go.RowKit Go.BigFrame NT
theorem plist_all {g:Nat} (m:Nat):ListQ g m:=by
 induction m using Nat.strongRecOn with
 | _ m ih => exact plist_of (fun n hn => pnode_of (ih n hn))
theorem doneP {f:Func} (hf:f.results = #[.cell 2 38,.cell 3 3,.cell 4 24]) {tmps:Array Value} {b1 b2 b3:Nat} {A:Option Addr} {n c:Nat} {i j:Int} {W:World} (p2:tmps.getD 2 undef = .pointer (some ⟨b1,0,none⟩)) (p3:tmps.getD 3 undef = .pointer (some ⟨b2,0,none⟩)) (p4:tmps.getD 4 undef = .pointer (some ⟨b3,0,none⟩))
  (h1:Blk W b1 38 [.slice A n c]) (h2:Blk W b2 3 [.int .i64 i]) (h3:Blk W b3 24 [.int .i64 j]):(results f tmps).run Tryz.prog W = .ok (.tuple #[.slice A n c,.int .i64 i,.int .i64 j]) W:=by
 have q2:tmps[2]?.getD undef = .pointer (some ⟨b1,0,none⟩):=by simpa using p2
 have q3:tmps[3]?.getD undef = .pointer (some ⟨b2,0,none⟩):=by simpa using p3
 have q4:tmps[4]?.getD undef = .pointer (some ⟨b3,0,none⟩):=by simpa using p4
 have c1:=h1.cell 0
 have c2:=h2.cell 0
 have c3:=h3.cell 0
 simp only [List.getElem?_cons_zero] at c1 c2 c3
 simp [results,hf,q2,q3,q4,go_sem,c1,c2,c3]
theorem parR_fin {ts:List Tok} {l:List NT} {c:Nat} (h:P ts 2 false 0 0 = .ok (l,[],c)):parR (.ok ts) = .ok l:=by
 unfold parR
 dsimp only
 rw [P_conv,h]
 rfl
theorem parR_rest {ts:List Tok} {l:List NT} {u:Tok} {r:List Tok} {c:Nat} (h:P ts 2 false 0 0 = .ok (l,u :: r,c)):parR (.ok ts) = .error (u.a,13):=by
 unfold parR
 dsimp only
 rw [P_conv,h]
 simp only [fin]
 by_cases hu:u.k = 7
 ·rw [if_pos hu,if_neg (fun h => by cases h.1)]
 ·rw [if_neg hu,if_pos (by trivial)]
theorem parR_fault {ts:List Tok} {e:Nat × Nat} (h:P ts 2 false 0 0 = .error e):parR (.ok ts) = .error e:=by
 unfold parR
 dsimp only
 rw [P_conv,h]
 rfl
def Three (b1 b2 b3:Nat) (v1 v2 v3:Value) (W w':World):Prop:=Only [b1,b2,b3] W w'∧Blk w' b1 38 [v1]∧Blk w' b2 3 [v2]∧Blk w' b3 24 [v3]
theorem Three.set1 {b1 b2 b3:Nat} {v1 v2 v3:Value} {W w':World} (h:Three b1 b2 b3 v1 v2 v3 W w') (n12:b2 ≠ b1) (n13:b3 ≠ b1):Three b1 b2 b3 v1 v2 v3 W (w'.setCell ⟨b1,0,none⟩ v1) :=
 ⟨h.1.setCell (.inl (by simp)) _,h.2.1.set_ 0 v1,h.2.2.1.far (p:=⟨b1,0,none⟩) n12 _,h.2.2.2.far (p:=⟨b1,0,none⟩) n13 _⟩
theorem Three.set2 {b1 b2 b3:Nat} {v1 v2 v3:Value} {W w':World} (h:Three b1 b2 b3 v1 v2 v3 W w') (n12:b1 ≠ b2) (n13:b3 ≠ b2):Three b1 b2 b3 v1 v2 v3 W (w'.setCell ⟨b2,0,none⟩ v2) :=
 ⟨h.1.setCell (.inl (by simp)) _,h.2.1.far (p:=⟨b2,0,none⟩) n12 _,h.2.2.1.set_ 0 v2,h.2.2.2.far (p:=⟨b2,0,none⟩) n13 _⟩
theorem Three.set3 {b1 b2 b3:Nat} {v1 v2 v3:Value} {W w':World} (h:Three b1 b2 b3 v1 v2 v3 W w') (n12:b1 ≠ b3) (n13:b2 ≠ b3):Three b1 b2 b3 v1 v2 v3 W (w'.setCell ⟨b3,0,none⟩ v3) :=
 ⟨h.1.setCell (.inl (by simp)) _,h.2.1.far (p:=⟨b3,0,none⟩) n12 _,h.2.2.1.far (p:=⟨b3,0,none⟩) n13 _,h.2.2.2.set_ 0 v3⟩
theorem Three.cells {b1 b2 b3:Nat} {v1 v2 v3:Value} {W w':World} (h:Three b1 b2 b3 v1 v2 v3 W w'):(w'.cell? ⟨b1,0,none⟩ = some v1∧w'.cell? ⟨b2,0,none⟩ = some v2∧w'.cell? ⟨b3,0,none⟩ = some v3) ∧
  w'.frozen? ⟨b1,0,none⟩ = false∧w'.frozen? ⟨b2,0,none⟩ = false∧w'.frozen? ⟨b3,0,none⟩ = false :=
 ⟨⟨h.2.1.cell 0,h.2.2.1.cell 0,h.2.2.2.cell 0⟩,h.2.1.free 0,h.2.2.1.free 0,h.2.2.2.free 0⟩
theorem parse_c (s:ByteArray) (r:LexR) (w:World) (hT:MX w) (hr:LexOf s r):Calls Tryz.prog 15 #[.string s] w (ParPost s (parR r) w):=by
 have HR:=hid (fun (W:World) (hb:Bel w W) => lex_c s r W (hT.bel hb) hr)
 have hmf:∀ (fn:Fn) (first cap:Array Value) (w:World),(Instr.makeFunc fn first cap).run Tryz.prog w = .ok (.func fn first cap) w:=fun _ _ _ _ => rfl
 have HB0:Hid (∀ o1 o2 o3,Bel w (((w.alloc o1).alloc o2).alloc o3)):=hid (fun o1 o2 o3 => ((Bel.alloc _ _).trans (Bel.alloc _ _)).trans (Bel.alloc _ _))
 have HA1:=hid (((Blk.new w 38 [.slice none 0 0]).alloc (.cells #[.int .i64 0] 3)).alloc (.cells #[.int .i64 0] 24))
 have HA2:=hid ((Blk.new (w.alloc (.cells #[.slice none 0 0] 38)) 3 [.int .i64 0]).alloc (.cells #[.int .i64 0] 24))
 have HA3:=hid (Blk.new ((w.alloc (.cells #[.slice none 0 0] 38)).alloc (.cells #[.int .i64 0] 3)) 24 [.int .i64 0])
 simp only [World.size_alloc] at HA2 HA3
 cases r with
 | error bc =>
  obtain ⟨b,c⟩:=bc
  have hc0:=lex_code hr
  have hc1:((c:Int) != 0) = true:=bne_iff_ne.2 (by omega)
  have hc2:¬ (c:Int) = 0:=by omega
  clear hr hc0
  go_enter_defers Tryz.func15,Tryz.ntmps15
  go_wp2_with (go_at_call 26;((with_reducible refine (HR.out _ (HB0.out _ _ _)).mono ?_);rintro e w1 hp;obtain ⟨hb,rfl⟩:=lex_err hp;have HB1:=hid ((HB0.out _ _ _).trans hb);have HC1:=hid (HA1.out.bel hb);have HC2:=hid (HA2.out.bel hb);have HC3:=hid (HA3.out.bel hb);clear hp hb;have c2:=HC2.out.cell 0;have f2:=HC2.out.free 0;have c3:∀ x,(w1.setCell ⟨w.heap.size + 1,0,none⟩ x).cell? ⟨w.heap.size + 1 + 1,0,none⟩ = some (.int .i64 0):=(fun x => (HC3.out.far (p:=⟨w.heap.size + 1,0,none⟩) (by show ¬ w.heap.size + 1 + 1 = w.heap.size + 1;omega) x).cell 0);have f3:∀ x,(w1.setCell ⟨w.heap.size + 1,0,none⟩ x).frozen? ⟨w.heap.size + 1 + 1,0,none⟩ = false:=(fun x => (HC3.out.far (p:=⟨w.heap.size + 1,0,none⟩) (by show ¬ w.heap.size + 1 + 1 = w.heap.size + 1;omega) x).free 0);have k3:∀ x y,((w1.setCell ⟨w.heap.size + 1,0,none⟩ x).setCell ⟨w.heap.size + 1 + 1,0,none⟩ y).cell? ⟨w.heap.size + 1 + 1,0,none⟩ = some y:=(fun x y => ((HC3.out.far (p:=⟨w.heap.size + 1,0,none⟩) (by show ¬ w.heap.size + 1 + 1 = w.heap.size + 1;omega) x).set_ 0 y).cell 0);simp only [List.getElem?_cons_zero] at c2))
  have HK:Hid (Three w.heap.size (w.heap.size + 1) (w.heap.size + 1 + 1) (.slice none 0 0) (.int .i64 b) (.int .i64 c) ((w1.setCell ⟨w.heap.size + 1,0,none⟩ (.int .i64 b)).setCell ⟨w.heap.size + 1 + 1,0,none⟩ (.int .i64 c)).drew ((w1.setCell ⟨w.heap.size + 1,0,none⟩ (.int .i64 b)).setCell ⟨w.heap.size + 1 + 1,0,none⟩ (.int .i64 c)).drew) :=
   hid ⟨Only.refl _ _,((HC1.out.far (p:=⟨w.heap.size + 1,0,none⟩) (by show ¬ w.heap.size = w.heap.size + 1;omega) _).far (p:=⟨w.heap.size + 1 + 1,0,none⟩) (by show ¬ w.heap.size = w.heap.size + 1 + 1;omega) _).drew,((HC2.out.set_ 0 _).far (p:=⟨w.heap.size + 1 + 1,0,none⟩) (by show ¬ w.heap.size + 1 = w.heap.size + 1 + 1;omega) _).drew,((HC3.out.far (p:=⟨w.heap.size + 1,0,none⟩) (by show ¬ w.heap.size + 1 + 1 = w.heap.size + 1;omega) _).set_ 0 _).drew⟩
  have HB2:Hid (Bel w ((w1.setCell ⟨w.heap.size + 1,0,none⟩ (.int .i64 b)).setCell ⟨w.heap.size + 1 + 1,0,none⟩ (.int .i64 c)).drew):=hid (bel_of_only ((((bel_only HB1.out).setCell (p:=⟨w.heap.size + 1,0,none⟩) (.inr (by simp)) _).setCell (p:=⟨w.heap.size + 1 + 1,0,none⟩) (.inr (by simp;omega)) _).drew))
  clear c2 f2 c3 f3 k3 HC1 HC2 HC3
  refine held_begin (S:=Three w.heap.size (w.heap.size + 1) (w.heap.size + 1 + 1) (.slice none 0 0) (.int .i64 b) (.int .i64 c) ((w1.setCell ⟨w.heap.size + 1,0,none⟩ (.int .i64 b)).setCell ⟨w.heap.size + 1 + 1,0,none⟩ (.int .i64 c)).drew) (by kernel_rfl) ?_
  generalize ((w1.setCell ⟨w.heap.size + 1,0,none⟩ (.int .i64 b)).setCell ⟨w.heap.size + 1 + 1,0,none⟩ (.int .i64 c)).drew = W at HK HB2 ⊢
  obtain ⟨b2,hb2⟩:∃ b2,b2 = w.heap.size + 1:=⟨_,rfl⟩
  obtain ⟨b3,hb3⟩:∃ b3,b3 = w.heap.size + 1 + 1:=⟨_,rfl⟩
  obtain ⟨b1,hb1⟩:∃ b1,b1 = w.heap.size:=⟨_,rfl⟩
  rw [← hb3,← hb2,← hb1] at HK ⊢
  have n12:b1 ≠ b2:=by omega
  have n13:b1 ≠ b3:=by omega
  have n23:b2 ≠ b3:=by omega
  have HBS:Hid (w.heap.size≤b1∧w.heap.size≤b2∧w.heap.size≤b3):=hid (by omega)
  clear hb1 hb2 hb3
  have p2:∀ X:Held (Three b1 b2 b3 (.slice none 0 0) (.int .i64 b) (.int .i64 c) W),X.w.cell? ⟨b2,0,none⟩ = some (.int .i64 b):=fun X => X.h.cells.1.2.1
  have p3:∀ X:Held (Three b1 b2 b3 (.slice none 0 0) (.int .i64 b) (.int .i64 c) W),X.w.cell? ⟨b3,0,none⟩ = some (.int .i64 c):=fun X => X.h.cells.1.2.2
  haveI:Nonempty (Held (Three b1 b2 b3 (.slice none 0 0) (.int .i64 b) (.int .i64 c) W)):=⟨⟨W,HK.out⟩⟩
  refine held_seg [true,true] 3 (by kernel_rfl) (by kernel_rfl) (by kernel_rfl) rfl HK.out ?_
  repeat (first | with_reducible refine wpMask_pass ?_ | (refine wpMask_want (by rfl) (fun K hK => ?_);go_big_quiet_op;refine hK _ ?_;clear hK K))
  with_reducible refine wpMask_nil ?_
  clear p2 p3
  obtain ⟨⟨x1,x2,x3⟩,y1,y2,y3⟩:=HK.out.cells
  refine held_store (w1:=W.setCell ⟨b1,0,none⟩ (.slice none 0 0)) 2 (by kernel_rfl) rfl (by rfl) (by go_simp) (HK.out.set1 n12.symm n13.symm) ?_
  have HK2:=hid (HK.out.set1 n12.symm n13.symm)
  generalize W.setCell ⟨b1,0,none⟩ (.slice none 0 0) = W1 at HK2 ⊢
  clear x1 x2 x3 y1 y2 y3
  simp only [List.getElem_toArray,List.getElem_cons_zero,List.getElem_cons_succ,Act.put,List.setIfInBounds_toArray,List.set_cons_zero,List.set_cons_succ]
  obtain ⟨⟨x1,x2,x3⟩,y1,y2,y3⟩:=HK2.out.cells
  refine held_store (w1:=W1.setCell ⟨b2,0,none⟩ (.int .i64 b)) 3 (by kernel_rfl) rfl (by rfl) (by go_simp) (HK2.out.set2 n12 n23.symm) ?_
  have HK3:=hid (HK2.out.set2 n12 n23.symm)
  generalize W1.setCell ⟨b2,0,none⟩ (.int .i64 b) = W2 at HK3 ⊢
  clear x1 x2 x3 y1 y2 y3
  simp only [List.getElem_toArray,List.getElem_cons_zero,List.getElem_cons_succ,Act.put,List.setIfInBounds_toArray,List.set_cons_zero,List.set_cons_succ]
  obtain ⟨⟨x1,x2,x3⟩,y1,y2,y3⟩:=HK3.out.cells
  refine held_store (w1:=W2.setCell ⟨b3,0,none⟩ (.int .i64 c)) 4 (by kernel_rfl) rfl (by rfl) (by go_simp) (HK3.out.set3 n13 n23) ?_
  have HK4:=hid (HK3.out.set3 n13 n23)
  generalize W2.setCell ⟨b3,0,none⟩ (.int .i64 c) = W3 at HK4 ⊢
  clear x1 x2 x3 y1 y2 y3
  simp only [List.getElem_toArray,List.getElem_cons_zero,List.getElem_cons_succ,Act.put,List.setIfInBounds_toArray,List.set_cons_zero,List.set_cons_succ]
  refine region_end (by kernel_rfl) ?_
  simp only [calm]
  go_wp2_with fail
  refine ⟨_,doneP rfl rfl rfl rfl HK4.out.2.1 HK4.out.2.2.1 HK4.out.2.2.2,?_⟩
  exact ⟨bel_of_only ((bel_only HB2.out).join HK4.out.1 (fun k hk => by have:=HBS.out;simp at hk;omega)),rfl⟩
 | ok ts =>
  have hG:=tsOk_of hr
  have hn:=hG.1
  have HIL:=hid (fun (g:Nat) (L:Option Addr) (cL:Nat) (W:World) (hP:Pq W g L cL ts 0) => plist_all ts.length L cL ts 0 0 W hP hG (Nat.le_refl _) (by decide) (by decide))
  clear hr hG
  go_enter_defers Tryz.func15,Tryz.ntmps15
  go_wp2_with (go_at_call 26;((with_reducible refine (HR.out _ (HB0.out _ _ _)).mono ?_);rintro e w1 hp;obtain ⟨hb,L,cL,rfl,hrow,hfr⟩:=lex_ok hp;have HRW:=hid hrow;have HB1:=hid ((HB0.out _ _ _).trans hb);have HC1:=hid (HA1.out.bel hb);have HC2:=hid (HA2.out.bel hb);have HC3:=hid (HA3.out.bel hb);clear hp hb hrow;have c2:=HC2.out.cell 0;have f2:=HC2.out.free 0;have c3:∀ x,(w1.setCell ⟨w.heap.size + 1,0,none⟩ x).cell? ⟨w.heap.size + 1 + 1,0,none⟩ = some (.int .i64 0):=(fun x => (HC3.out.far (p:=⟨w.heap.size + 1,0,none⟩) (by show ¬ w.heap.size + 1 + 1 = w.heap.size + 1;omega) x).cell 0);have f3:∀ x,(w1.setCell ⟨w.heap.size + 1,0,none⟩ x).frozen? ⟨w.heap.size + 1 + 1,0,none⟩ = false:=(fun x => (HC3.out.far (p:=⟨w.heap.size + 1,0,none⟩) (by show ¬ w.heap.size + 1 + 1 = w.heap.size + 1;omega) x).free 0);have k3:∀ x y,((w1.setCell ⟨w.heap.size + 1,0,none⟩ x).setCell ⟨w.heap.size + 1 + 1,0,none⟩ y).cell? ⟨w.heap.size + 1 + 1,0,none⟩ = some y:=(fun x y => ((HC3.out.far (p:=⟨w.heap.size + 1,0,none⟩) (by show ¬ w.heap.size + 1 + 1 = w.heap.size + 1;omega) x).set_ 0 y).cell 0);simp only [List.getElem?_cons_zero] at c2))
  have HFR:Hid (∀ k,k ∈ rowT L→w.heap.size + 3≤k∧k < w1.heap.size):=hid (fun k hk => ⟨by have:=hfr k hk;simp at this;omega,HRW.out.lt k hk⟩)
  clear hfr c2 f2 c3 f3 k3
  have hs1:w.heap.size + 3≤w1.heap.size:=by have:=HC3.out.lt;omega
  obtain ⟨b2,hb2⟩:∃ b2,b2 = w.heap.size + 1:=⟨_,rfl⟩
  obtain ⟨b3,hb3⟩:∃ b3,b3 = w.heap.size + 1 + 1:=⟨_,rfl⟩
  obtain ⟨b1,hb1⟩:∃ b1,b1 = w.heap.size:=⟨_,rfl⟩
  rw [← hb3] at HC3
  rw [← hb2] at HC2
  rw [← hb1] at HC1
  rw [← hb3,← hb2,← hb1]
  have n12:b1 ≠ b2:=by omega
  have n13:b1 ≠ b3:=by omega
  have n23:b2 ≠ b3:=by omega
  have hbl:b1 < w1.heap.size∧b2 < w1.heap.size∧b3 < w1.heap.size:=by omega
  have HBS:Hid (w.heap.size≤b1∧w.heap.size≤b2∧w.heap.size≤b3):=hid (by omega)
  have HAF:Hid (∀ k,k ∈ rowT L→k ≠ b1∧k ≠ b2∧k ≠ b3∧k < w1.heap.size):=hid (fun k hk => by have:=HFR.out k hk;omega)
  clear hb1 hb2 hb3
  have HV1:=hid (((HC1.out.far (p:=⟨b2,0,none⟩) n12 (.int .i64 s.size)).far (p:=⟨b3,0,none⟩) n13 (.int .i64 0)).alloc (.cells #[.slice L ts.length cL,.int .i64 0] 61))
  have HV2:=hid (((HC2.out.set_ 0 (.int .i64 s.size)).far (p:=⟨b3,0,none⟩) n23 (.int .i64 0)).alloc (.cells #[.slice L ts.length cL,.int .i64 0] 61))
  have HV3:=hid (((HC3.out.far (p:=⟨b2,0,none⟩) n23.symm (.int .i64 s.size)).set_ 0 (.int .i64 0)).alloc (.cells #[.slice L ts.length cL,.int .i64 0] 61))
  have hov:Only [b2,b3] w1 (((w1.setCell ⟨b2,0,none⟩ (.int .i64 s.size)).setCell ⟨b3,0,none⟩ (.int .i64 0)).alloc (.cells #[.slice L ts.length cL,.int .i64 0] 61)):=(((Only.refl [b2,b3] w1).setCell (.inl (by simp)) _).setCell (.inl (by simp)) _).alloc _
  have HBV:=hid (bel_of_only ((bel_only HB1.out).join hov (fun k hk => by have:=HBS.out;simp at hk;omega)))
  have hP:Pq (((w1.setCell ⟨b2,0,none⟩ (.int .i64 s.size)).setCell ⟨b3,0,none⟩ (.int .i64 0)).alloc (.cells #[.slice L ts.length cL,.int .i64 0] 61)) w1.heap.size L cL ts 0:=by
   refine ⟨?_,HRW.out.only hov (fun k hk => by have:=HAF.out k hk;simp;omega),fun h => by have:=HAF.out _ h;omega⟩
   have h:=Blk.new ((w1.setCell ⟨b2,0,none⟩ (.int .i64 s.size)).setCell ⟨b3,0,none⟩ (.int .i64 0)) 61 [.slice L ts.length cL,.int .i64 0]
   rw [show ((w1.setCell ⟨b2,0,none⟩ (.int .i64 s.size)).setCell ⟨b3,0,none⟩ (.int .i64 0)).heap.size = w1.heap.size by simp [World.setCell]] at h
   exact h
  have hVs:(((w1.setCell ⟨b2,0,none⟩ (.int .i64 s.size)).setCell ⟨b3,0,none⟩ (.int .i64 0)).alloc (.cells #[.slice L ts.length cL,.int .i64 0] 61)).heap.size = w1.heap.size + 1:=by simp [World.setCell]
  refine (HIL.out _ L cL _ hP).mono ?_
  rintro e w2 ⟨hO,hp⟩
  have hgb:w.heap.size≤w1.heap.size:=by omega
  clear hov hP HC1 HC2 HC3
  generalize ((w1.setCell ⟨b2,0,none⟩ (.int .i64 s.size)).setCell ⟨b3,0,none⟩ (.int .i64 0)).alloc (.cells #[.slice L ts.length cL,.int .i64 0] 61) = V at *
  have H1:=hid (HV1.out.only hO (by simp;omega))
  have H2:=hid (HV2.out.only hO (by simp;omega))
  have H3:=hid (HV3.out.only hO (by simp;omega))
  have HB2:=hid (bel_on1 HBV.out hO hgb)
  have hs2:w1.heap.size + 1≤w2.heap.size:=by have:=hO.size;omega
  simp only [List.set_cons_zero] at H2 H3
  clear hO HV1 HV2 HV3
  cases hpp:P ts 2 false 0 0 with
  | error ak =>
   obtain ⟨a,k⟩:=ak
   rw [hpp] at hp
   dsimp only at hp
   subst hp
   have HPP:=hid hpp
   clear hpp
   go_wp2_with fail
   refine leaves_cons (f:=27) (args:=#[.pointer (some ⟨b1,0,none⟩),.pointer (some ⟨b2,0,none⟩),.pointer (some ⟨b3,0,none⟩)]) (by simp) (by simp [go_sem]) ?_
   refine (catch_c b1 b2 b3 a k _ _ _ [] _ H1.out H2.out H3.out n12 n13 n23).mono ?_
   rintro e u' w9 ⟨rfl,rfl,hO9,j1,j2,j3⟩
   show Leaves _ _ _ _ [] .returning _
   refine ⟨_,doneP rfl rfl rfl rfl j1 j2 j3,?_⟩
   rw [parR_fault HPP.out]
   exact ⟨bel_of_only ((bel_only HB2.out).join hO9 (fun k hk => by have:=HBS.out;simp at hk;omega)),rfl⟩
  | ok x =>
   obtain ⟨l,rr,c'⟩:=x
   rw [hpp] at hp
   obtain ⟨B,cB,m,hers,hrow,rfl,⟨A',cA',hPs,hA'⟩,_⟩:=hp
   have HPP:=hid hpp
   have HE:=hid hers
   have HW:=hid hrow
   have HPS:=hid (hPs.only (w':=w2.setCell ⟨b1,0,none⟩ (.slice B m.length cB)) (S:=[b1]) ((Only.refl [b1] w2).setCell (.inl (by simp)) _) (by simp;omega) (fun k hk => by rw [hA'] at hk;have:=HAF.out k hk;simp;omega))
   have K1:=hid (H1.out.set_ 0 (.slice B m.length cB))
   have K2:=hid (H2.out.far (p:=⟨b1,0,none⟩) n12.symm (.slice B m.length cB))
   have K3:=hid (H3.out.far (p:=⟨b1,0,none⟩) n13.symm (.slice B m.length cB))
   have HB3:=hid (bel_of_only ((bel_only HB2.out).setCell (p:=⟨b1,0,none⟩) (.inr (by have:=HBS.out;simp;omega)) (.slice B m.length cB)))
   have x1:=H1.out.cell 0
   have y1:=H1.out.free 0
   simp only [List.getElem?_cons_zero] at x1
   simp only [List.set_cons_zero] at K1
   have q0:=HPS.out.cells.1
   clear hpp hers hrow hPs
   cases rr with
   | nil =>
    simp only [List.length_nil] at q0
    have z1:∀ x,(w2.setCell ⟨b1,0,none⟩ x).cell? ⟨b1,0,none⟩ = some x∧(w2.setCell ⟨b1,0,none⟩ x).frozen? ⟨b1,0,none⟩ = false:=fun x => ⟨(H1.out.set_ 0 x).cell 0,(H1.out.set_ 0 x).free 0⟩
    have z2:∀ x,(w2.setCell ⟨b1,0,none⟩ x).cell? ⟨b2,0,none⟩ = some (.int .i64 s.size)∧(w2.setCell ⟨b1,0,none⟩ x).frozen? ⟨b2,0,none⟩ = false:=fun x => ⟨(H2.out.far (p:=⟨b1,0,none⟩) n12.symm x).cell 0,(H2.out.far (p:=⟨b1,0,none⟩) n12.symm x).free 0⟩
    have z3:∀ x y,((w2.setCell ⟨b1,0,none⟩ x).setCell ⟨b1,0,none⟩ y).cell? ⟨b2,0,none⟩ = some (.int .i64 s.size)∧((w2.setCell ⟨b1,0,none⟩ x).setCell ⟨b1,0,none⟩ y).frozen? ⟨b2,0,none⟩ = false:=fun x y => ⟨((H2.out.far (p:=⟨b1,0,none⟩) n12.symm x).far (p:=⟨b1,0,none⟩) n12.symm y).cell 0,((H2.out.far (p:=⟨b1,0,none⟩) n12.symm x).far (p:=⟨b1,0,none⟩) n12.symm y).free 0⟩
    have z4:∀ x z,((w2.setCell ⟨b1,0,none⟩ x).setCell ⟨b2,0,none⟩ z).cell? ⟨b3,0,none⟩ = some (.int .i64 0)∧((w2.setCell ⟨b1,0,none⟩ x).setCell ⟨b2,0,none⟩ z).frozen? ⟨b3,0,none⟩ = false:=fun x z => ⟨((H3.out.far (p:=⟨b1,0,none⟩) n13.symm x).far (p:=⟨b2,0,none⟩) n23.symm z).cell 0,((H3.out.far (p:=⟨b1,0,none⟩) n13.symm x).far (p:=⟨b2,0,none⟩) n23.symm z).free 0⟩
    have z5:∀ x y z,(((w2.setCell ⟨b1,0,none⟩ x).setCell ⟨b1,0,none⟩ y).setCell ⟨b2,0,none⟩ z).cell? ⟨b3,0,none⟩ = some (.int .i64 0)∧(((w2.setCell ⟨b1,0,none⟩ x).setCell ⟨b1,0,none⟩ y).setCell ⟨b2,0,none⟩ z).frozen? ⟨b3,0,none⟩ = false:=fun x y z => ⟨(((H3.out.far (p:=⟨b1,0,none⟩) n13.symm x).far (p:=⟨b1,0,none⟩) n13.symm y).far (p:=⟨b2,0,none⟩) n23.symm z).cell 0,(((H3.out.far (p:=⟨b1,0,none⟩) n13.symm x).far (p:=⟨b1,0,none⟩) n13.symm y).far (p:=⟨b2,0,none⟩) n23.symm z).free 0⟩
    go_wp2_with fail
    have J1:Blk ((((w2.setCell ⟨b1,0,none⟩ (.slice B m.length cB)).setCell ⟨b1,0,none⟩ (.slice B m.length cB)).setCell ⟨b2,0,none⟩ (.int .i64 s.size)).setCell ⟨b3,0,none⟩ (.int .i64 0)) b1 38 [.slice B m.length cB]:=((K1.out.set_ 0 (.slice B m.length cB)).far (p:=⟨b2,0,none⟩) n12 _).far (p:=⟨b3,0,none⟩) n13 _
    have J2:Blk ((((w2.setCell ⟨b1,0,none⟩ (.slice B m.length cB)).setCell ⟨b1,0,none⟩ (.slice B m.length cB)).setCell ⟨b2,0,none⟩ (.int .i64 s.size)).setCell ⟨b3,0,none⟩ (.int .i64 0)) b2 3 [.int .i64 s.size]:=((K2.out.far (p:=⟨b1,0,none⟩) n12.symm _).set_ 0 (.int .i64 s.size)).far (p:=⟨b3,0,none⟩) n23 _
    have J3:Blk ((((w2.setCell ⟨b1,0,none⟩ (.slice B m.length cB)).setCell ⟨b1,0,none⟩ (.slice B m.length cB)).setCell ⟨b2,0,none⟩ (.int .i64 s.size)).setCell ⟨b3,0,none⟩ (.int .i64 0)) b3 24 [.int .i64 0]:=((K3.out.far (p:=⟨b1,0,none⟩) n13.symm _).far (p:=⟨b2,0,none⟩) n23.symm _).set_ 0 (.int .i64 0)
    have hJO:Only [b1,b2,b3] w2 ((((w2.setCell ⟨b1,0,none⟩ (.slice B m.length cB)).setCell ⟨b1,0,none⟩ (.slice B m.length cB)).setCell ⟨b2,0,none⟩ (.int .i64 s.size)).setCell ⟨b3,0,none⟩ (.int .i64 0)):=((((Only.refl [b1,b2,b3] w2).setCell (.inl (by simp)) _).setCell (.inl (by simp)) _).setCell (.inl (by simp)) _).setCell (.inl (by simp)) _
    clear x1 y1 q0 z1 z2 z3 z4 z5
    generalize ((((w2.setCell ⟨b1,0,none⟩ (.slice B m.length cB)).setCell ⟨b1,0,none⟩ (.slice B m.length cB)).setCell ⟨b2,0,none⟩ (.int .i64 s.size)).setCell ⟨b3,0,none⟩ (.int .i64 0)) = w5 at J1 J2 J3 hJO ⊢
    have HB5:=hid (bel_of_only ((bel_only HB2.out).join hJO (fun k hk => by have:=HBS.out;simp at hk;omega)))
    have hR5:Row w5 (fun q => V.heap.size≤q∧q < w2.heap.size) B cB m:=HW.out.onlyS hJO (fun q hq => ⟨by have:=hq.1;simp;omega,hq.2⟩) (fun q hq => hq)
    have hs5:=hJO.size
    refine leaves_cons (f:=27) (args:=#[.pointer (some ⟨b1,0,none⟩),.pointer (some ⟨b2,0,none⟩),.pointer (some ⟨b3,0,none⟩)]) (by simp) (by simp [go_sem]) ?_
    refine (catch_idle b1 b2 b3 _).mono ?_
    rintro e u' w9 ⟨rfl,rfl,hb9⟩
    show Leaves _ _ _ _ [] .returning _
    refine ⟨_,doneP rfl rfl rfl rfl (J1.bel hb9) (J2.bel hb9) (J3.bel hb9),?_⟩
    rw [parR_fin HPP.out]
    have hs9:=hb9.size
    exact ⟨HB5.out.trans hb9,B,cB,m,HE.out,hR5.onlyS (bel_only hb9) (fun q hq => ⟨by simp,by have:=hq.2;omega⟩) (fun q hq => ⟨by have:=hq.1;omega,by have:=hq.2;omega⟩),rfl⟩
   | cons u r2 =>
    obtain ⟨g1,o1,hA2,hg1,c0,c1,c2,c3,c4⟩:=HPS.out.tok
    subst hA2
    simp only [List.length_cons] at q0
    have hlen1:(0:Int) < (r2.length:Int) + 1:=by omega
    go_wp2_with fail
    refine leaves_cons (f:=27) (args:=#[.pointer (some ⟨b1,0,none⟩),.pointer (some ⟨b2,0,none⟩),.pointer (some ⟨b3,0,none⟩)]) (by simp) (by simp [go_sem]) ?_
    refine (catch_c b1 b2 b3 u.a 13 _ _ _ [] _ K1.out K2.out K3.out n12 n13 n23).mono ?_
    rintro e u' w9 ⟨rfl,rfl,hO9,j1,j2,j3⟩
    show Leaves _ _ _ _ [] .returning _
    refine ⟨_,doneP rfl rfl rfl rfl j1 j2 j3,?_⟩
    rw [parR_rest HPP.out]
    exact ⟨bel_of_only ((bel_only HB3.out).join hO9 (fun k hk => by have:=HBS.out;simp at hk;omega)),rfl⟩
end
end Go.Proofs.YtpcapmdfjmpdiaaGreatDoor
