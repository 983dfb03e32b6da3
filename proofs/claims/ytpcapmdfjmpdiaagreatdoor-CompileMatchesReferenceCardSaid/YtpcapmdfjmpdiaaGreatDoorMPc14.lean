/- The program of layer 16: branches -/
import Derived.Test.YtpcapmdfjmpdiaaGreatDoorMPa12
import Derived.Test.YtpcapmdfjmpdiaaGreatDoorMEr14
import Derived.Test.YtpcapmdfjmpdiaaGreatDoorMRc14
import Derived.Test.YtpcapmdfjmpdiaaGreatDoorMCt12
import Derived.Lib.SlicesS
import Derived.Test.YtpcapmdfjmpdiaaGreatDoorMKRow
set_option linter.unusedVariables false
set_option linter.unusedSimpArgs false
set_option maxRecDepth 100000
set_option maxHeartbeats 6400000
open Go.Lib (hid)
namespace Go.Proofs.YtpcapmdfjmpdiaaGreatDoor
section
open Go.RowKit Go.BigFrame NT
theorem branches_c (s:HS) (x:NT) (done:List Nat) (B rr:Nat) (A:Option Addr) (n c:Nat) (w:World) (hA:An B rr w A n c done) (hle:n + tots x.b + tots x.l≤100000) (hb:PLc B rr w s x.A x.c x.b) (hl:PLc B rr w s x.B x.d x.l) :
  Calls Tryz.prog 86 #[.pointer (some ⟨rr,0,none⟩),.agg #[.int .i64 (s.c:Nat),.string (ofL s.n),.string (ofL s.a),.string (ofL s.p)],nV x] w
   (PP ((listI s x.b).next fun s1 e1 => (listI s x.l).next fun s2 e2 => if eqH s1 s2 = true then .ok s1 (e1 ++ e2) else .no x.a 16) done B rr w A):=by
 have HP0:=hid (p30_start w s x)
 have HE0:=hid ((Ev.refl hA).bel (show Bel w (w3p w s x) from bel3_16 w _ _ _))
 have HL:=hid (hb (w3p w s x) A n c done (HE0.out.below hA) HE0.out.an (by omega))
 have HA:=hid hA
 have hrr:=hA.blk.lt
 have hgp:=st_guard
 clear hb
 cases hr:listI s x.b with
 | no a1 e1 =>
  rw [hr] at HL
  have he:=listI_err hr
  have hk0:(e1:Int) ≠ 0:=by omega
  have hk1:((e1:Int) != 0) = true:=bne_iff_ne.2 hk0
  have HE:=hid (show e1 ≠ 0 by omega)
  clear hr he hle hA hl
  rw [IR.next_no]
  go_enter Tryz.func86,Tryz.ntmps86
  go_wp2_with (go_at_call 31;((with_reducible refine (HL.out).mono ?_);rintro e w2 ⟨t,a,k,A',n',c',es,rfl,hE,hQ⟩;obtain ⟨ht,rfl,rfl,hne⟩:=hQ.out;have HP2:=hid ((HP0.out.keep HE0.out.an hE.out.only).later (Bel.alloc w2 (.cells #[.int .i64 (t.c:Nat),.string (ofL t.n),.string (ofL t.a),.string (ofL t.p)] 74)));have HE2:=hid ((HE0.out.then hE.out).bel (Bel.alloc w2 (.cells #[.int .i64 (t.c:Nat),.string (ofL t.n),.string (ofL t.a),.string (ofL t.p)] 74)));clear hE hQ hne ht;obtain ⟨k0,k1,k2,k3⟩:=cells4 HP2.out.b2;obtain ⟨y0,y1,y2,y3⟩:=frees4 HP2.out.b2))
  refine pp_set rfl rfl rfl rfl HP2.out.b2 (by omega) HE2.out (t:=s0 0) rfl ?_
  exact ⟨rfl,rfl,rfl,HE.out⟩
 | ok s1 es1 =>
  rw [hr] at HL
  rw [IR.next_ok]
  have HLE:=hid (listI_le hr)
  have HLN:=hid hle
  have HL2:=hid hl
  clear hr hle hA hl
  cases hr2:listI s x.l with
  | no a1 e1 =>
   unfold PLc at HL2
   simp only [hr2] at HL2
   have he:=listI_err hr2
   have hk0:(e1:Int) ≠ 0:=by omega
   have hk1:((e1:Int) != 0) = true:=bne_iff_ne.2 hk0
   have HE:=hid (show e1 ≠ 0 by omega)
   clear hr2 he
   rw [IR.next_no]
   go_enter Tryz.func86,Tryz.ntmps86
   go_wp2_with (first
    | (go_at_call 31;((with_reducible refine (HL.out).mono ?_);rintro e w2 ⟨t,a,k,A',n',c',es,rfl,hE,hQ⟩;obtain ⟨rfl,rfl,rfl,rfl⟩:=hQ.out;have HP2:=hid ((HP0.out.keep HE0.out.an hE.out.only).later (Bel.alloc w2 (.cells #[.int .i64 (t.c:Nat),.string (ofL t.n),.string (ofL t.a),.string (ofL t.p)] 74)));have HE2:=hid ((HE0.out.then hE.out).bel (Bel.alloc w2 (.cells #[.int .i64 (t.c:Nat),.string (ofL t.n),.string (ofL t.a),.string (ofL t.p)] 74)));have H9:=hid (Blk.new w2 74 (sC t));have HLL:=hid (HL2.out (w2.alloc (.cells #[.int .i64 (t.c:Nat),.string (ofL t.n),.string (ofL t.a),.string (ofL t.p)] 74)) A' n' c' (done ++ es1) (HE2.out.below HA.out) HE2.out.an (by have h1:=HE2.out.an.len;have h2:=HA.out.len;have h3:=HLE.out;have h4:=HLN.out;rw [List.length_append] at h1;omega));clear hE hQ;obtain ⟨s0',s1',s2',s3'⟩:=cells4 HP2.out.b0;obtain ⟨x0',x1',x2',x3',x4',x5',x6',x7'⟩:=cells8 HP2.out.b1))
    | (go_at_call 31;((with_reducible refine (HLL.out).mono ?_);rintro e w4 ⟨t2,a2,k2,A2,n2,c2,es2,rfl,hE,hQ⟩;obtain ⟨ht,rfl,rfl,hne⟩:=hQ.out;have HP4:=hid ((HP2.out.keep HE2.out.an hE.out.only).later (Bel.alloc w4 (.cells #[.int .i64 (t2.c:Nat),.string (ofL t2.n),.string (ofL t2.a),.string (ofL t2.p)] 74)));have HE4:=hid ((HE2.out.then hE.out).bel (Bel.alloc w4 (.cells #[.int .i64 (t2.c:Nat),.string (ofL t2.n),.string (ofL t2.a),.string (ofL t2.p)] 74)));clear hE hQ hne ht;obtain ⟨k0,k1,k2,k3⟩:=cells4 HP4.out.b2;obtain ⟨y0,y1,y2,y3⟩:=frees4 HP4.out.b2)))
   refine pp_set rfl rfl rfl rfl HP4.out.b2 (by omega) HE4.out (t:=s0 0) rfl ?_
   exact ⟨rfl,rfl,rfl,HE.out⟩
  | ok s2 es2 =>
   unfold PLc at HL2
   simp only [hr2] at HL2
   rw [IR.next_ok]
   clear hr2
   cases hq:eqH s1 s2 with
   | true =>
    have hcmp:∀ W,(binOp .neq 74 (.agg #[.int .i64 (s1.c:Nat),.string (ofL s1.n),.string (ofL s1.a),.string (ofL s1.p)]) (.agg #[.int .i64 (s2.c:Nat),.string (ofL s2.n),.string (ofL s2.a),.string (ofL s2.p)])).run Tryz.prog W = .ok (.bool false) W:=fun W => by have h:=pst_neq s1 s2 W;rw [hq] at h;exact h
    rw [if_pos rfl]
    clear hq
    go_enter Tryz.func86,Tryz.ntmps86
    go_wp2_with (first
     | (go_at_call 31;((with_reducible refine (HL.out).mono ?_);rintro e w2 ⟨t,a,k,A',n',c',es,rfl,hE,hQ⟩;obtain ⟨rfl,rfl,rfl,rfl⟩:=hQ.out;have HP2:=hid ((HP0.out.keep HE0.out.an hE.out.only).later (Bel.alloc w2 (.cells #[.int .i64 (t.c:Nat),.string (ofL t.n),.string (ofL t.a),.string (ofL t.p)] 74)));have HE2:=hid ((HE0.out.then hE.out).bel (Bel.alloc w2 (.cells #[.int .i64 (t.c:Nat),.string (ofL t.n),.string (ofL t.a),.string (ofL t.p)] 74)));have H9:=hid (Blk.new w2 74 (sC t));have HLL:=hid (HL2.out (w2.alloc (.cells #[.int .i64 (t.c:Nat),.string (ofL t.n),.string (ofL t.a),.string (ofL t.p)] 74)) A' n' c' (done ++ es1) (HE2.out.below HA.out) HE2.out.an (by have h1:=HE2.out.an.len;have h2:=HA.out.len;have h3:=HLE.out;have h4:=HLN.out;rw [List.length_append] at h1;omega));clear hE hQ;obtain ⟨s0',s1',s2',s3'⟩:=cells4 HP2.out.b0;obtain ⟨x0',x1',x2',x3',x4',x5',x6',x7'⟩:=cells8 HP2.out.b1))
     | (go_at_call 31;((with_reducible refine (HLL.out).mono ?_);rintro e w4 ⟨t2,a2,k2,A2,n2,c2,es2',rfl,hE,hQ⟩;obtain ⟨rfl,rfl,rfl,rfl⟩:=hQ.out;have HP4:=hid ((HP2.out.keep HE2.out.an hE.out.only).later (Bel.alloc w4 (.cells #[.int .i64 (t2.c:Nat),.string (ofL t2.n),.string (ofL t2.a),.string (ofL t2.p)] 74)));have HE4:=hid ((HE2.out.then hE.out).bel (Bel.alloc w4 (.cells #[.int .i64 (t2.c:Nat),.string (ofL t2.n),.string (ofL t2.a),.string (ofL t2.p)] 74)));have H94:=hid ((HE2.out.an.keep hE.out.only H9.out (by decide) (by decide)).belh (Bel.alloc w4 (.cells #[.int .i64 (t2.c:Nat),.string (ofL t2.n),.string (ofL t2.a),.string (ofL t2.p)] 74)));have H12:=hid (Blk.new w4 74 (sC t2));clear hE hQ;obtain ⟨p0,p1,p2,p3⟩:=cells4 H94.out;obtain ⟨k0,k1,k2,k3⟩:=cells4 HP4.out.b2;obtain ⟨y0,y1,y2,y3⟩:=frees4 HP4.out.b2)))
    refine pp_set rfl rfl rfl rfl HP4.out.b2 (by omega) HE4.out (t:=t) rfl ?_
    exact ⟨rfl,rfl,rfl,by rw [List.append_assoc]⟩
   | false =>
    have hcmp:∀ W,(binOp .neq 74 (.agg #[.int .i64 (s1.c:Nat),.string (ofL s1.n),.string (ofL s1.a),.string (ofL s1.p)]) (.agg #[.int .i64 (s2.c:Nat),.string (ofL s2.n),.string (ofL s2.a),.string (ofL s2.p)])).run Tryz.prog W = .ok (.bool true) W:=fun W => by have h:=pst_neq s1 s2 W;rw [hq] at h;exact h
    rw [if_neg (by decide)]
    clear hq
    go_enter Tryz.func86,Tryz.ntmps86
    go_wp2_with (first
     | (go_at_call 31;((with_reducible refine (HL.out).mono ?_);rintro e w2 ⟨t,a,k,A',n',c',es,rfl,hE,hQ⟩;obtain ⟨rfl,rfl,rfl,rfl⟩:=hQ.out;have HP2:=hid ((HP0.out.keep HE0.out.an hE.out.only).later (Bel.alloc w2 (.cells #[.int .i64 (t.c:Nat),.string (ofL t.n),.string (ofL t.a),.string (ofL t.p)] 74)));have HE2:=hid ((HE0.out.then hE.out).bel (Bel.alloc w2 (.cells #[.int .i64 (t.c:Nat),.string (ofL t.n),.string (ofL t.a),.string (ofL t.p)] 74)));have H9:=hid (Blk.new w2 74 (sC t));have HLL:=hid (HL2.out (w2.alloc (.cells #[.int .i64 (t.c:Nat),.string (ofL t.n),.string (ofL t.a),.string (ofL t.p)] 74)) A' n' c' (done ++ es1) (HE2.out.below HA.out) HE2.out.an (by have h1:=HE2.out.an.len;have h2:=HA.out.len;have h3:=HLE.out;have h4:=HLN.out;rw [List.length_append] at h1;omega));clear hE hQ;obtain ⟨s0',s1',s2',s3'⟩:=cells4 HP2.out.b0;obtain ⟨x0',x1',x2',x3',x4',x5',x6',x7'⟩:=cells8 HP2.out.b1))
     | (go_at_call 31;((with_reducible refine (HLL.out).mono ?_);rintro e w4 ⟨t2,a2,k2,A2,n2,c2,es2',rfl,hE,hQ⟩;obtain ⟨rfl,rfl,rfl,rfl⟩:=hQ.out;have HP4:=hid ((HP2.out.keep HE2.out.an hE.out.only).later (Bel.alloc w4 (.cells #[.int .i64 (t2.c:Nat),.string (ofL t2.n),.string (ofL t2.a),.string (ofL t2.p)] 74)));have HE4:=hid ((HE2.out.then hE.out).bel (Bel.alloc w4 (.cells #[.int .i64 (t2.c:Nat),.string (ofL t2.n),.string (ofL t2.a),.string (ofL t2.p)] 74)));have H94:=hid ((HE2.out.an.keep hE.out.only H9.out (by decide) (by decide)).belh (Bel.alloc w4 (.cells #[.int .i64 (t2.c:Nat),.string (ofL t2.n),.string (ofL t2.a),.string (ofL t2.p)] 74)));have H12:=hid (Blk.new w4 74 (sC t2));clear hE hQ;obtain ⟨p0,p1,p2,p3⟩:=cells4 H94.out;obtain ⟨z0',z1',z2',z3',z4',z5',z6',z7'⟩:=cells8 HP4.out.b1))
     | (go_at_call 107;((with_reducible refine (fail_c x 16 _).mono ?_);rintro e w5 ⟨rfl,hb⟩;have HP5:=hid (HP4.out.later hb);have HE5:=hid (HE4.out.bel hb);clear hb;obtain ⟨k0,k1,k2,k3⟩:=cells4 HP5.out.b2;obtain ⟨y0,y1,y2,y3⟩:=frees4 HP5.out.b2)))
    refine pp_set rfl rfl rfl rfl HP5.out.b2 (by omega) HE5.out (t:=s0 0) rfl ?_
    exact ⟨rfl,rfl,rfl,by decide⟩
end
section
open Go.RowKit Go.BigFrame NT
section
variable {w:World} {ops:Array Oper} {rest:List Oper} {o:Oper} {a:Act} {Q:Exit→Act→World→Prop}
theorem wp_rkMore (hgd:o.guard = none) (s x:Operand) (ho:o.op = .call { callee:=.builtin .append,args:=#[s,x],argTypes:=#[38,38] })
  {w0:World} {A:Option Addr} {n c:Nat} {l:List NT} (hA:RkAt w0 w A n c l) (hs:a.eval s = .slice A n c) (X:Option Addr) (d:Nat) (m:List NT) (k:Nat) (hk:m.length = k) (hx:a.eval x = .slice X k d) (hX:Src w 8 NT.cs X m) (hle:n + m.length≤100000) (N:Nat) (hN:N = n + k)
  (h:∀ A' c' w',Hid (RkAt w0 w' A' N c' (l ++ m))→Hid (Only (rowT A) w w')→Hid (∀ k,k ∈ rowT A'→k ∈ rowT A ∨ k = w.heap.size)→wpList Tryz.prog ops Q rest (a.put o.dst (.slice A' N c')) w') :
  wpList Tryz.prog ops Q (o :: rest) a w :=
 wp_kAppend hgd s x 38 ho 69 _ 8 104 NT.cs NT.cs_len NT.cs_one Tryz.underlying38 info_node14 cells_node14 (by decide) A c l n hA.len hs hA.row X d m k hk hx hX (by unfold maxLen;omega) (by omega) N hN
  (fun A' c' w' h1 h2 h3 => h A' c' w' (hid (by have:=hA.push h1.out h2 h3.out;rwa [hk,← hN] at this)) (hid h2) h3)
end
theorem nd_kept {w0 wr wz:World} {A:Option Addr} {q c:Nat} {done:List NT} {o:Obj} {T:TypeId} {L:List Value} (h:RkAt w0 wr A q c done) (hN:Blk (wr.alloc o) wr.heap.size T L) (o2:Obj) (hO:Only (rowT A) ((wr.alloc o).alloc o2) wz):Blk wz wr.heap.size T L :=
 (hN.alloc o2).only hO (fun hk => absurd (h.row.lt _ hk) (Nat.lt_irrefl _))
theorem nd_kept1 {w2 wz:World} {A:Option Addr} {g:Nat} {T:TypeId} {L:List Value} (hg:g ∉ rowT A) (hN:Blk w2 g T L) (hO:Only (rowT A) w2 wz):Blk wz g T L:=hN.only hO hg
abbrev DcC (w:World) (A:Option Addr) (n c:Nat) (l:List NT):Prop:=Calls Tryz.prog 30 #[.slice A n c] w (RcP l w)
def DcM (x:NT):Prop:=∀ (w:World),x.In w (Lt w)→x.tot≤100000→DcC w x.A x.b.length x.c x.b∧DcC w x.B x.l.length x.d x.l
theorem not_in_new {w0 wr w1:World} {A A':Option Addr} {q c:Nat} {done:List NT} {n:Nat} (h:RkAt w0 wr A q c done) (hn:n = wr.heap.size) (h2:∀ k,k ∈ rowT A'→k ∈ rowT A ∨ k = w1.heap.size) (hlt:n < w1.heap.size):n ∉ rowT A':=fun hk => by
 rcases h2 _ hk with h3 | h3
 ·have:=h.row.lt _ h3;omega
 ·omega
theorem dcalls_row (l:List NT) (ih:∀ x ∈ l,DcM x) (A:Option Addr) (c:Nat) (w:World) (hA:Row w (Lt w) A c l) (ht:tots l≤100000):DcC w A l.length c l:=by
 obtain ⟨n,hn⟩:∃ n,n = l.length:=⟨_,rfl⟩
 have hn5:=hA.len
 rw [← hn] at hn5 ⊢
 have HA:=hid hA
 have HI:=hid ih
 have HN:=hid hn
 have HT:=hid ht
 clear hA ih hn ht
 go_enter Tryz.func30,Tryz.ntmps30
 go_wp2_with fail
 go_loopw [3,8] (fun s3 s8 wr => ∃ (i:Nat) (A':Option Addr) (q c':Nat),i≤n∧s8 = .int .i64 i∧s3 = .slice A' q c'∧Hid (RkAt w wr A' q c' (callNs (l.take i)))) (fun _ s8 _ => n - (intOf s8).toNat)
 case atStart => exact ⟨0,none,0,0,Nat.zero_le _,rfl,rfl,hid ⟨KRow.nil _ _ _ _,rfl,by simp [rowT],Bel.refl _⟩⟩
 case round =>
  obtain ⟨i,A',q,c',hi,rfl,rfl,HRK⟩:=hrel
  by_cases hlt:i < n
  ·have hxt:=List.getElem?_eq_getElem (l:=l) (i:=i) (by have:=HN.out;omega)
   generalize l[i]'(by have:=HN.out;omega) = x at hxt
   have hxm:=List.mem_of_getElem? hxt
   obtain ⟨g,o,hAA,hg,ha⟩:=HA.out.cells hxt
   subst hAA
   have HXI:=hid (HA.out.2 x hxm)
   have hst:=tots_step hxt
   have hle1:tots (l.take (i + 1))≤100000:=by have h1:=HT.out;rw [← List.take_append_drop (i + 1) l,tots_append] at h1;omega
   have hte:=tot_eq x
   have hx1:x.tot≤100000:=by omega
   have HMX:=hid (fun W (hb:Bel w W) => HI.out x hxm W (HXI.out.bel hb) hx1)
   have HCB:=hid (fun W (hb:Bel w W) => (HMX.out W hb).1)
   have HCE:=hid (fun W (hb:Bel w W) => (HMX.out W hb).2)
   have hq:q≤tots (l.take i):=by have:=callNs_len (l.take i);have:=HRK.out.len;omega
   have hbl:=callNs_len x.b
   have hll:=callNs_len x.l
   have hcs:=callNs_step hxt
   rw [callN_eq] at hcs
   obtain ⟨a0,a1,a2,a3,a4,a5,a6,a7⟩:=ha wr HRK.out.bel
   have HBN:=hid (HRK.out.bel.trans (Bel.alloc wr (.cells #[.int .i64 x.k,.int .i64 x.a,.string x.s,.string x.p,.bool x.h,.bool x.e,.slice x.A x.b.length x.c,.slice x.B x.l.length x.d] 69)))
   have HNB:=hid (Blk.new wr 69 [.int .i64 x.k,.int .i64 x.a,.string x.s,.string x.p,.bool x.h,.bool x.e,.slice x.A x.b.length x.c,.slice x.B x.l.length x.d])
   have HM2:=hid (show q + (callN x).length≤100000 by rw [callN_eq,List.length_append,List.length_append];have:(if x.k = 4 then [x] else []).length≤1:=(by split <;> simp);omega)
   rw [callN_eq] at HM2
   by_cases hk:x.k = 4
   ·have k4:(x.k == 4) = true:=by rw [hk];rfl
    rw [if_pos hk] at hcs HM2
    have HCS:=hid hcs
    have HM0:=hid (show q + [x].length≤100000 by have:=HM2.out;simp at this ⊢;omega)
    have HM1:=hid (show q + 1 + (callNs x.b).length≤100000 by have:=HM2.out;simp at this ⊢;omega)
    have HM3:=hid (show q + 1 + (callNs x.b).length + (callNs x.l).length≤100000 by have:=HM2.out;simp at this ⊢;omega)
    have HR0:=hid ((HRK.out.later (Bel.alloc wr (.cells #[.int .i64 x.k,.int .i64 x.a,.string x.s,.string x.p,.bool x.h,.bool x.e,.slice x.A x.b.length x.c,.slice x.B x.l.length x.d] 69))).later (Bel.alloc (wr.alloc (.cells #[.int .i64 x.k,.int .i64 x.a,.string x.s,.string x.p,.bool x.h,.bool x.e,.slice x.A x.b.length x.c,.slice x.B x.l.length x.d] 69)) (.cells #[.int .i64 x.k,.int .i64 x.a,.string x.s,.string x.p,.bool x.h,.bool x.e,.slice x.A x.b.length x.c,.slice x.B x.l.length x.d] 69)))
    have HS0:=hid (src_blk (f:=NT.cs) (z:=8) (m:=[x]) (blk_at1 wr (.cells #[.int .i64 x.k,.int .i64 x.a,.string x.s,.string x.p,.bool x.h,.bool x.e,.slice x.A x.b.length x.c,.slice x.B x.l.length x.d] 69) 69 [.int .i64 x.k,.int .i64 x.a,.string x.s,.string x.p,.bool x.h,.bool x.e,.slice x.A x.b.length x.c,.slice x.B x.l.length x.d]) (by rw [flat_one];rfl))
    clear hxt hxm hg ha hst hle1 hte hx1 hq hbl hll hcs hk HXI HM2
    go_wp2_with (first
    | ((with_reducible refine wp_rkMore rfl (.tmp 15) (.tmp 17) rfl HR0.out rfl (some ⟨wr.heap.size + 1,0,none⟩) 1 [x] 1 rfl rfl HS0.out HM0.out (q + 1) rfl ?_);intro Az cz wz HRZ HOZ HKZ;have HNZ:=hid (nd_kept HRK.out HNB.out (.cells #[.int .i64 x.k,.int .i64 x.a,.string x.s,.string x.p,.bool x.h,.bool x.e,.slice x.A x.b.length x.c,.slice x.B x.l.length x.d] 69) HOZ.out);have HGZ:=hid (not_in_new HRK.out rfl HKZ.out (by simp;omega));have n6:=HNZ.out.cell 6;simp only [List.getElem?_cons_zero,List.getElem?_cons_succ] at n6;have HBZ:=hid HRZ.out.bel)
    | (go_at_call 30;((with_reducible refine (HCB.out _ HBZ.out).mono ?_);rintro e w1 ⟨X1,d1,rfl,HX1,HF1,HB1⟩;have HR1:=hid (HRZ.out.later HB1.out);have HS1:=hid HX1.out.src;have HN1:=hid (HNZ.out.bel HB1.out);clear HB1))
    | ((with_reducible refine wp_rkMore rfl (.tmp 19) (.tmp 22) rfl HR1.out rfl X1 d1 (callNs x.b) _ rfl rfl HS1.out HM1.out _ rfl ?_);intro A2 c2 w2 HR2 HO2 HK2;have HN2:=hid (nd_kept1 HGZ.out HN1.out HO2.out);have n7:=HN2.out.cell 7;simp only [List.getElem?_cons_zero,List.getElem?_cons_succ] at n7;have HBL2:=hid HR2.out.bel)
    | (go_at_call 30;((with_reducible refine (HCE.out _ HBL2.out).mono ?_);rintro e w3 ⟨X3,d3,rfl,HX3,HF3,HB3⟩;have HR3:=hid (HR2.out.later HB3.out);have HS3:=hid HX3.out.src;clear HB3))
    | ((with_reducible refine wp_rkMore rfl (.tmp 24) (.tmp 27) rfl HR3.out rfl X3 d3 (callNs x.l) _ rfl rfl HS3.out HM3.out _ rfl ?_);intro A4 c4 w4 HR4 HO4 HK4))
    go_roundw
    case rel => exact ⟨i + 1,A4,_,c4,by omega,by go_num,rfl,hid (by rw [HCS.out,← List.append_assoc,← List.append_assoc];exact HR4.out)⟩
    case measure => simp [intOf];omega
   ·have k4:(x.k == 4) = false:=by simpa using hk
    rw [if_neg hk,List.nil_append] at hcs HM2
    have HCS:=hid hcs
    have HM1:=hid (show q + (callNs x.b).length≤100000 by have:=HM2.out;simp at this ⊢;omega)
    have HM3:=hid (show q + (callNs x.b).length + (callNs x.l).length≤100000 by have:=HM2.out;simp at this ⊢;omega)
    have HRZ:=hid (HRK.out.later (Bel.alloc wr (.cells #[.int .i64 x.k,.int .i64 x.a,.string x.s,.string x.p,.bool x.h,.bool x.e,.slice x.A x.b.length x.c,.slice x.B x.l.length x.d] 69)))
    have HGZ:=hid (fun hk => absurd (HRK.out.row.lt _ hk) (Nat.lt_irrefl _):wr.heap.size ∉ rowT A')
    clear hxt hxm hg ha hst hle1 hte hx1 hq hbl hll hcs hk HXI HM2
    go_wp2_with (first
    | (go_at_call 30;((with_reducible refine (HCB.out _ HBN.out).mono ?_);rintro e w1 ⟨X1,d1,rfl,HX1,HF1,HB1⟩;have HR1:=hid (HRZ.out.later HB1.out);have HS1:=hid HX1.out.src;have HN1:=hid (HNB.out.bel HB1.out);clear HB1))
    | ((with_reducible refine wp_rkMore rfl (.tmp 19) (.tmp 22) rfl HR1.out rfl X1 d1 (callNs x.b) _ rfl rfl HS1.out HM1.out _ rfl ?_);intro A2 c2 w2 HR2 HO2 HK2;have HN2:=hid (nd_kept1 HGZ.out HN1.out HO2.out);have n7:=HN2.out.cell 7;simp only [List.getElem?_cons_zero,List.getElem?_cons_succ] at n7;have HBL2:=hid HR2.out.bel)
    | (go_at_call 30;((with_reducible refine (HCE.out _ HBL2.out).mono ?_);rintro e w3 ⟨X3,d3,rfl,HX3,HF3,HB3⟩;have HR3:=hid (HR2.out.later HB3.out);have HS3:=hid HX3.out.src;clear HB3))
    | ((with_reducible refine wp_rkMore rfl (.tmp 24) (.tmp 27) rfl HR3.out rfl X3 d3 (callNs x.l) _ rfl rfl HS3.out HM3.out _ rfl ?_);intro A4 c4 w4 HR4 HO4 HK4))
    go_roundw
    case rel => exact ⟨i + 1,A4,_,c4,by omega,by go_num,rfl,hid (by rw [HCS.out,← List.append_assoc];exact HR4.out)⟩
    case measure => simp [intOf];omega
  ·obtain rfl:i = n:=by omega
   have HRF:=hid (show RkAt w wr A' q c' (callNs l) by have h:=HRK.out;rwa [HN.out,List.take_length] at h)
   go_wp2_with fail
   go_ret
   exact ⟨A',c',by rw [HRF.out.len];rfl,hid HRF.out.row,hid HRF.out.fresh,hid HRF.out.bel⟩
theorem dcalls_all (x:NT):DcM x:=by
 refine NT.ind (M:=DcM) (fun t h1 h2 => ?_) x
 intro w ht hz
 rw [tot_eq] at hz
 exact ⟨dcalls_row t.b h1 _ _ w ht.body (by omega),dcalls_row t.l h2 _ _ w ht.els (by omega)⟩
theorem dcalls_c {l:List NT} {A:Option Addr} {c:Nat} {w:World} (hA:Row w (Lt w) A c l) (ht:tots l≤100000):DcC w A l.length c l:=dcalls_row l (fun x _ => dcalls_all x) A c w hA ht
structure Sp2 (w wr:World) (A:Option Addr) (q c:Nat) (D:List NT) (B:Option Addr) (p d:Nat) (M:List NT):Prop where
 a:RkAt w wr A q c D
 b:RkAt w wr B p d M
 apart:∀ k,k ∈ rowT A→k ∉ rowT B
theorem Sp2.swap {w wr:World} {A B:Option Addr} {q c p d:Nat} {D M:List NT} (h:Sp2 w wr A q c D B p d M):Sp2 w wr B p d M A q c D:=⟨h.b,h.a,fun k h1 h2 => h.apart k h2 h1⟩
theorem Sp2.later {w wr w2:World} {A B:Option Addr} {q c p d:Nat} {D M:List NT} (h:Sp2 w wr A q c D B p d M) (hb:Bel wr w2):Sp2 w w2 A q c D B p d M:=⟨h.a.later hb,h.b.later hb,h.apart⟩
theorem Sp2.push {w wr w2:World} {A A' B:Option Addr} {q c c' p d N:Nat} {D D' M:List NT} (h:Sp2 w wr A q c D B p d M) (hR:RkAt w w2 A' N c' D') (hO:Only (rowT A) wr w2) (hK:∀ k,k ∈ rowT A'→k ∈ rowT A ∨ k = wr.heap.size):Sp2 w w2 A' N c' D' B p d M:=by
 refine ⟨hR,⟨h.b.row.only hO (fun k hk hk2 => h.apart k hk2 hk),h.b.len,h.b.fresh,hR.bel⟩,fun k hk hk2 => ?_⟩
 rcases hK k hk with h1 | h1
 ·exact h.apart k h1 hk2
 ·have:=h.b.row.lt k hk2;omega
theorem defs_step {l:List NT} {i:Nat} {x:NT} (h:l[i]? = some x):(x.k = 6→defsN (l.take (i + 1)) = defsN (l.take i) ++ [x]∧mainN (l.take (i + 1)) = mainN (l.take i))∧(x.k ≠ 6→defsN (l.take (i + 1)) = defsN (l.take i)∧mainN (l.take (i + 1)) = mainN (l.take i) ++ [x]):=by
 rw [NT.take_step h]
 unfold defsN mainN
 rw [List.filter_append,List.filter_append]
 constructor
 ·intro hk
  have e:isDef x = true:=by unfold isDef;rw [hk];rfl
  simp [List.filter_cons,e]
 ·intro hk
  have e:isDef x = false:=by unfold isDef;simpa using hk
  simp [List.filter_cons,e]
theorem defs_len (l:List NT):(defsN l).length≤l.length:=List.length_filter_le _ _
theorem main_len (l:List NT):(mainN l).length≤l.length:=List.length_filter_le _ _
def SplitP (l:List NT) (w:World) (e:Ending) (w':World):Prop:=∃ A c B d,e = .returned (.tuple #[.slice A (defsN l).length c,.slice B (mainN l).length d])∧Hid (Sp2 w w' A (defsN l).length c (defsN l) B (mainN l).length d (mainN l))
theorem ndS (wr:World) (x:NT):Src ((wr.alloc (.cells #[.int .i64 x.k,.int .i64 x.a,.string x.s,.string x.p,.bool x.h,.bool x.e,.slice x.A x.b.length x.c,.slice x.B x.l.length x.d] 69)).alloc (.cells #[.int .i64 x.k,.int .i64 x.a,.string x.s,.string x.p,.bool x.h,.bool x.e,.slice x.A x.b.length x.c,.slice x.B x.l.length x.d] 69)) 8 NT.cs (some ⟨wr.heap.size + 1,0,none⟩) [x]:=src_blk (f:=NT.cs) (z:=8) (m:=[x]) (blk_at1 wr (.cells #[.int .i64 x.k,.int .i64 x.a,.string x.s,.string x.p,.bool x.h,.bool x.e,.slice x.A x.b.length x.c,.slice x.B x.l.length x.d] 69) 69 [.int .i64 x.k,.int .i64 x.a,.string x.s,.string x.p,.bool x.h,.bool x.e,.slice x.A x.b.length x.c,.slice x.B x.l.length x.d]) (by rw [flat_one];rfl)
theorem dsplit_c {l:List NT} {A:Option Addr} {c:Nat} {w:World} (hA:Row w (Lt w) A c l) (ht:l.length≤100000):Calls Tryz.prog 29 #[.slice A l.length c] w (SplitP l w):=by
 obtain ⟨n,hn⟩:∃ n,n = l.length:=⟨_,rfl⟩
 rw [← hn] at ht ⊢
 have HA:=hid hA
 have HN:=hid hn
 clear hA hn
 go_enter Tryz.func29,Tryz.ntmps29
 go_wp2_with fail
 go_loopw [2,3,8] (fun s2 s3 s8 wr => ∃ (i:Nat) (A':Option Addr) (q c':Nat) (B:Option Addr) (p d:Nat),i≤n∧s8 = .int .i64 i∧s2 = .slice A' q c'∧s3 = .slice B p d∧Hid (Sp2 w wr A' q c' (defsN (l.take i)) B p d (mainN (l.take i)))) (fun _ _ s8 _ => n - (intOf s8).toNat)
 case atStart => exact ⟨0,none,0,0,none,0,0,Nat.zero_le _,rfl,rfl,rfl,hid ⟨⟨KRow.nil _ _ _ _,rfl,by simp [rowT],Bel.refl _⟩,⟨KRow.nil _ _ _ _,rfl,by simp [rowT],Bel.refl _⟩,by simp [rowT]⟩⟩
 case round =>
  obtain ⟨i,A',q,c',B,p,d,hi,rfl,rfl,rfl,HSP⟩:=hrel
  by_cases hlt:i < n
  ·have hxt:=List.getElem?_eq_getElem (l:=l) (i:=i) (by have:=HN.out;omega)
   generalize l[i]'(by have:=HN.out;omega) = x at hxt
   obtain ⟨g,o,hAA,hg,ha⟩:=HA.out.cells hxt
   subst hAA
   obtain ⟨a0,a1,a2,a3,a4,a5,a6,a7⟩:=ha wr HSP.out.a.bel
   have HDS:=hid (defs_step hxt)
   have hq:q≤i:=by have h1:=HSP.out.a.len;have h2:=defs_len (l.take i);rw [List.length_take] at h2;omega
   have hp:p≤i:=by have h1:=HSP.out.b.len;have h2:=main_len (l.take i);rw [List.length_take] at h2;omega
   have HM1:=hid (show q + [x].length≤100000 by simp;omega)
   have HM2:=hid (show p + [x].length≤100000 by simp;omega)
   have HS0:=hid (ndS wr x)
   have HP0:=hid ((HSP.out.later (Bel.alloc wr (.cells #[.int .i64 x.k,.int .i64 x.a,.string x.s,.string x.p,.bool x.h,.bool x.e,.slice x.A x.b.length x.c,.slice x.B x.l.length x.d] 69))).later (Bel.alloc (wr.alloc (.cells #[.int .i64 x.k,.int .i64 x.a,.string x.s,.string x.p,.bool x.h,.bool x.e,.slice x.A x.b.length x.c,.slice x.B x.l.length x.d] 69)) (.cells #[.int .i64 x.k,.int .i64 x.a,.string x.s,.string x.p,.bool x.h,.bool x.e,.slice x.A x.b.length x.c,.slice x.B x.l.length x.d] 69)))
   clear hxt hg ha hq hp
   by_cases hk:x.k = 6
   ·have k6:(x.k == 6) = true:=by rw [hk];rfl
    have HE:=hid (HDS.out.1 hk)
    clear hk
    go_wp2_with ((with_reducible refine wp_rkMore rfl (.tmp 15) (.tmp 17) rfl HP0.out.a rfl (some ⟨wr.heap.size + 1,0,none⟩) 1 [x] 1 rfl rfl HS0.out HM1.out (q + 1) rfl ?_);intro Az cz wz HRZ HOZ HKZ)
    go_roundw
    case rel => exact ⟨i + 1,Az,q + 1,cz,B,p,d,by omega,by go_num,rfl,rfl,hid (by rw [HE.out.1,HE.out.2];exact HP0.out.push HRZ.out HOZ.out HKZ.out)⟩
    case measure => simp [intOf];omega
   ·have k6:(x.k == 6) = false:=by simpa using hk
    have HE:=hid (HDS.out.2 hk)
    clear hk
    go_wp2_with ((with_reducible refine wp_rkMore rfl (.tmp 19) (.tmp 21) rfl HP0.out.b rfl (some ⟨wr.heap.size + 1,0,none⟩) 1 [x] 1 rfl rfl HS0.out HM2.out (p + 1) rfl ?_);intro Az cz wz HRZ HOZ HKZ)
    go_roundw
    case rel => exact ⟨i + 1,A',q,c',Az,p + 1,cz,by omega,by go_num,rfl,rfl,hid (by rw [HE.out.1,HE.out.2];exact (HP0.out.swap.push HRZ.out HOZ.out HKZ.out).swap)⟩
    case measure => simp [intOf];omega
  ·obtain rfl:i = n:=by omega
   have HRF:=hid (show Sp2 w wr A' q c' (defsN l) B p d (mainN l) by have h:=HSP.out;rwa [HN.out,List.take_length] at h)
   go_wp2_with fail
   go_ret2
   exact ⟨A',c',B,d,by rw [HRF.out.a.len,HRF.out.b.len];rfl,hid (by rw [HRF.out.a.len,HRF.out.b.len];exact HRF.out)⟩
theorem defs_mem {l:List NT} {x:NT} (h:x ∈ defsN l):x ∈ l∧x.k = 6:=by
 unfold defsN isDef at h
 simpa using List.mem_filter.1 h
theorem mainK_c {l:List NT} {A:Option Addr} {c:Nat} {w:World} (hA:Row w (Lt w) A c l) (ht:l.length≤100000) :
  Calls Tryz.prog 41 #[.slice A l.length c] w fun e w' => ∃ B d,e = .returned (.slice B (mainN l).length d)∧RkAt w w' B (mainN l).length d (mainN l):=by
 have HSP:=hid (dsplit_c hA ht)
 clear hA
 go_enter Tryz.func41,Tryz.ntmps41
 go_wp2_with (go_at_call 29;((with_reducible refine HSP.out.mono ?_);rintro e w1 ⟨A1,c1,B1,d1,rfl,HS1⟩))
 go_ret
 exact ⟨B1,d1,rfl,HS1.out.b⟩
end
end Go.Proofs.YtpcapmdfjmpdiaaGreatDoor
