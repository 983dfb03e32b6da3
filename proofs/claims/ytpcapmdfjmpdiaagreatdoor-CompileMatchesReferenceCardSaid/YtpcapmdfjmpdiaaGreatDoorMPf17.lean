/- The program of layer 16: fail, call -/
import Derived.Test.YtpcapmdfjmpdiaaGreatDoorMPc17
import Derived.Test.YtpcapmdfjmpdiaaGreatDoorMRl16
import Derived.Test.YtpcapmdfjmpdiaaGreatDoorMDb17
import Derived.Test.YtpcapmdfjmpdiaaGreatDoorMPl12
set_option linter.unusedVariables false
set_option linter.unusedSimpArgs false
set_option maxRecDepth 100000
set_option maxHeartbeats 6400000
open Go.Lib (hid)
namespace Go.Proofs.YtpcapmdfjmpdiaaGreatDoor
section
open Go.RowKit Go.BigFrame NT
abbrev zSV:Value:=.agg #[.int .i64 0,.string ⟨#[]⟩,.string ⟨#[]⟩,.string ⟨#[]⟩]
theorem bel3_16 (w:World) (a b c:Obj):Bel w (((w.alloc a).alloc b).alloc c):=((Bel.alloc _ _).trans (Bel.alloc _ _)).trans (Bel.alloc _ _)
theorem blk_at2_16 (w:World) (a b:Obj) {T:TypeId} (L:List Value):Blk (((w.alloc a).alloc b).alloc (.cells L.toArray T)) (w.heap.size + 1 + 1) T L:=by
 have:=blk_at1h (w.alloc a) b T L
 rwa [show (w.alloc a).heap.size = w.heap.size + 1 by simp] at this
theorem fail_c (x:NT) (k:Int) (w:World):Calls Tryz.prog 107 #[nV x,.int .i64 k] w (PB zSV x.a k w):=by
 have HB0:=hid ((Bel.alloc w (.cells #[.int .i64 x.k,.int .i64 x.a,.string x.s,.string x.p,.bool x.h,.bool x.e,.slice x.A x.b.length x.c,.slice x.B x.l.length x.d] 69)).trans (Bel.alloc (w.alloc (.cells #[.int .i64 x.k,.int .i64 x.a,.string x.s,.string x.p,.bool x.h,.bool x.e,.slice x.A x.b.length x.c,.slice x.B x.l.length x.d] 69)) (.cells #[.int .i64 0,.string ⟨#[]⟩,.string ⟨#[]⟩,.string ⟨#[]⟩] 74)))
 have HN:=hid ((show Blk (w.alloc (.cells #[.int .i64 x.k,.int .i64 x.a,.string x.s,.string x.p,.bool x.h,.bool x.e,.slice x.A x.b.length x.c,.slice x.B x.l.length x.d] 69)) w.heap.size 69 x.cs from Blk.new w 69 x.cs).alloc (.cells #[.int .i64 0,.string ⟨#[]⟩,.string ⟨#[]⟩,.string ⟨#[]⟩] 74))
 have HR:=hid (blk_at1h w (.cells #[.int .i64 x.k,.int .i64 x.a,.string x.s,.string x.p,.bool x.h,.bool x.e,.slice x.A x.b.length x.c,.slice x.B x.l.length x.d] 69) 74 [.int .i64 0,.string ⟨#[]⟩,.string ⟨#[]⟩,.string ⟨#[]⟩])
 go_enter Tryz.func107,Tryz.ntmps107
 go_wp2_with fail
 refine region_begin (T:=[w.heap.size + 1]) (by kernel_rfl) ?_
 have HBd:=hid (HB0.out.trans (Bel.drew _))
 have HNd:=hid HN.out.drew
 have HRd:=hid HR.out.drew
 generalize (World.alloc _ (.cells #[.int .i64 0,.string ⟨#[]⟩,.string ⟨#[]⟩,.string ⟨#[]⟩] 74)).drew = W at HBd HNd HRd ⊢
 have c1:∀ X:Later [w.heap.size + 1] W,X.w.cell? ⟨w.heap.size,1,none⟩ = some (.int .i64 x.a):=fun X => (HNd.out.only X.h (by simp)).cell 1
 refine region_seg [false,true,true,true] 4 (by kernel_rfl) (by kernel_rfl) (by kernel_rfl) rfl (fun _ _ d _ _ h => by cases d <;> exact h) ?_
 repeat (first | with_reducible refine wpMask_pass ?_ | (refine wpMask_want (by rfl) (fun K hK => ?_);go_big_quiet_op;refine hK _ ?_;clear hK K))
 with_reducible refine wpMask_nil ?_
 refine region_make 0 (v:=zSV) (w1:=W) (by kernel_rfl) rfl (by rfl) (by go_simp) (Only.refl _ _) ?_
 simp only [List.getElem_toArray,List.getElem_cons_zero,List.getElem_cons_succ,Act.put,List.setIfInBounds_toArray,List.set_cons_zero,List.set_cons_succ]
 obtain ⟨k0,k1,k2,k3⟩:=cells4 HRd.out
 obtain ⟨y0,y1,y2,y3⟩:=frees4 HRd.out
 have hO:=only4p W (w.heap.size + 1) (.int .i64 0) (.string ⟨#[]⟩) (.string ⟨#[]⟩) (.string ⟨#[]⟩)
 have hK:=(((HRd.out.set_ 0 (.int .i64 0)).set_ 1 (.string ⟨#[]⟩)).set_ 2 (.string ⟨#[]⟩)).set_ 3 (.string ⟨#[]⟩)
 simp only [List.set_cons_succ,List.set_cons_zero] at hK
 have HK:=hid hK
 have HB4:=hid (bel_on1 HBd.out hO (by omega))
 refine region_store 4 (w1:=((((W.setCell ⟨w.heap.size + 1,0,none⟩ (.int .i64 0)).setCell ⟨w.heap.size + 1,1,none⟩ (.string ⟨#[]⟩)).setCell ⟨w.heap.size + 1,2,none⟩ (.string ⟨#[]⟩)).setCell ⟨w.heap.size + 1,3,none⟩ (.string ⟨#[]⟩))) (by kernel_rfl) rfl (by rfl) (by go_simp) hO ?_
 simp only [List.getElem_toArray,List.getElem_cons_zero,List.getElem_cons_succ,Act.put,List.setIfInBounds_toArray,List.set_cons_zero,List.set_cons_succ]
 clear c1 k0 k1 k2 k3 y0 y1 y2 y3 hO hK
 generalize ((((W.setCell ⟨w.heap.size + 1,0,none⟩ (.int .i64 0)).setCell ⟨w.heap.size + 1,1,none⟩ (.string ⟨#[]⟩)).setCell ⟨w.heap.size + 1,2,none⟩ (.string ⟨#[]⟩)).setCell ⟨w.heap.size + 1,3,none⟩ (.string ⟨#[]⟩)) = W4 at HK HB4 ⊢
 refine region_seg [false,false,false,false,false,true,true] 0 (by kernel_rfl) (by kernel_rfl) (by kernel_rfl) rfl (fun _ _ d _ _ h => by cases d <;> exact h) ?_
 repeat (first | with_reducible refine wpMask_pass ?_ | (refine wpMask_want (by rfl) (fun K hK => ?_);go_big_quiet_op;refine hK _ ?_;clear hK K))
 with_reducible refine wpMask_nil ?_
 refine region_end (by kernel_rfl) ?_
 go_wp2_with fail
 exact pb_blk rfl rfl rfl rfl HK.out HB4.out rfl
theorem call_c (s:HS) (x:NT) (w:World):Calls Tryz.prog 85 #[.agg #[.int .i64 (s.c:Nat),.string (ofL s.n),.string (ofL s.a),.string (ofL s.p)],nV x] w
  (if eqH s (s0 0) = true then PB (.agg #[.int .i64 (s.c:Nat),.string (ofL s.n),.string (ofL s.a),.string (ofL s.p)]) 0 0 w else PB zSV x.a 15 w):=by
 have hgp:=st_guard
 cases hq:eqH s (s0 0) with
 | true =>
  have hcmp:∀ W,(binOp .neq 74 (.agg #[.int .i64 (s.c:Nat),.string (ofL s.n),.string (ofL s.a),.string (ofL s.p)]) (.agg #[.int .i64 0,.string ⟨#[]⟩,.string ⟨#[]⟩,.string ⟨#[]⟩])).run Tryz.prog W = .ok (.bool false) W:=fun W => by have h:=pst_neq s (s0 0) W;rw [hq] at h;exact h
  rw [if_pos rfl]
  clear hq
  go_enter Tryz.func85,Tryz.ntmps85
  go_wp2_with fail
  exact pb_blk rfl rfl rfl rfl (blk_at2_16 w _ _ [.int .i64 (s.c:Nat),.string (ofL s.n),.string (ofL s.a),.string (ofL s.p)]) (bel3_16 w _ _ _) rfl
 | false =>
  have hcmp:∀ W,(binOp .neq 74 (.agg #[.int .i64 (s.c:Nat),.string (ofL s.n),.string (ofL s.a),.string (ofL s.p)]) (.agg #[.int .i64 0,.string ⟨#[]⟩,.string ⟨#[]⟩,.string ⟨#[]⟩])).run Tryz.prog W = .ok (.bool true) W:=fun W => by have h:=pst_neq s (s0 0) W;rw [hq] at h;exact h
  rw [if_neg (by decide)]
  clear hq
  have HR0:=hid (show Blk (((w.alloc (.cells #[.int .i64 (s.c:Nat),.string (ofL s.n),.string (ofL s.a),.string (ofL s.p)] 74)).alloc (.cells #[.int .i64 x.k,.int .i64 x.a,.string x.s,.string x.p,.bool x.h,.bool x.e,.slice x.A x.b.length x.c,.slice x.B x.l.length x.d] 69)).alloc (.cells #[.int .i64 0,.string ⟨#[]⟩,.string ⟨#[]⟩,.string ⟨#[]⟩] 74)) (w.heap.size + 1 + 1) 74 [.int .i64 0,.string ⟨#[]⟩,.string ⟨#[]⟩,.string ⟨#[]⟩] from blk_at2_16 w _ _ _)
  have HB0:=hid (show Bel w (((w.alloc (.cells #[.int .i64 (s.c:Nat),.string (ofL s.n),.string (ofL s.a),.string (ofL s.p)] 74)).alloc (.cells #[.int .i64 x.k,.int .i64 x.a,.string x.s,.string x.p,.bool x.h,.bool x.e,.slice x.A x.b.length x.c,.slice x.B x.l.length x.d] 69)).alloc (.cells #[.int .i64 0,.string ⟨#[]⟩,.string ⟨#[]⟩,.string ⟨#[]⟩] 74)) from bel3_16 w _ _ _)
  go_enter Tryz.func85,Tryz.ntmps85
  go_wp2_with (go_at_call 107;((with_reducible refine (fail_c x 15 _).mono ?_);rintro e w2 ⟨rfl,hb⟩;have HR:=hid (HR0.out.belh hb);have HB:=hid (HB0.out.trans hb);clear hb;obtain ⟨k0,k1,k2,k3⟩:=cells4 HR.out;obtain ⟨y0,y1,y2,y3⟩:=frees4 HR.out))
  have hK:=(((HR.out.set_ 0 (.int .i64 0)).set_ 1 (.string ⟨#[]⟩)).set_ 2 (.string ⟨#[]⟩)).set_ 3 (.string ⟨#[]⟩)
  simp only [List.set_cons_succ,List.set_cons_zero] at hK
  exact pb_blk rfl rfl rfl rfl hK (bel_on1 HB.out (only4p _ _ _ _ _ _) (by omega)) rfl
end
section
open Go.RowKit Go.BigFrame NT
def InP (r:List Nat × Int × Nat) (w:World) (e:Ending) (w':World):Prop:=Bel w w'∧∃ A n c,e = .returned (.tuple #[.slice A n c,.int .i64 r.2.1,.int .i64 (r.2.2:Nat)])∧Hid (Es w w' A n c r.1)
theorem InP.nil {a:Int} {k:Nat} {w:World} {e:Ending} {w':World} (he:e = .returned (.tuple #[.slice none 0 0,.int .i64 a,.int .i64 (k:Nat)])) (hb:Bel w w'):InP ([],a,k) w e w':=⟨hb,none,0,0,he,hid (Es.nil _ _)⟩
theorem last_of {l:List NT} (h:l ≠ []):∃ x,l[l.length - 1]? = some x∧(l.getLast?.map NT.a).getD 0 = x.a:=by
 have hl:0 < l.length:=List.length_pos_iff.2 h
 refine ⟨l[l.length - 1]'(by omega),List.getElem?_eq_getElem _,?_⟩
 rw [List.getLast?_eq_getElem?,List.getElem?_eq_getElem (by omega)]
 rfl
theorem Bel.drewN16 {w w':World} (h:Bel w w') (k:Nat):Bel w (w'.drewN k):=bel_of_only ((bel_only h).drewN k)
theorem rinfer_c {l:List NT} {A:Option Addr} {c:Nat} {w:World} (hA:Row w (Lt w) A c l) (ht:tots l≤100000):Calls Tryz.prog 43 #[.slice A l.length c] w (InP (inferI l) w):=by
 have HLI:=hid (show Calls Tryz.prog 70 #[.agg #[.int .i64 0,.string ⟨#[]⟩,.string ⟨#[]⟩,.string ⟨#[]⟩],.slice A l.length c] w (RnP (listI (s0 0) l) 0 w) from rlist_c hA ht (s0 0) Inv.init)
 have hln:=hA.len
 have hgr:=rst_guard16
 unfold inferI
 cases hr:listI (s0 0) l with
 | no a k =>
  rw [hr] at HLI
  have he:=listI_err hr
  have hk0:(k:Int) ≠ 0:=by omega
  have hk1:((k:Int) != 0) = true:=bne_iff_ne.2 hk0
  clear hr he hA ht
  go_enter Tryz.func43,Tryz.ntmps43
  go_wp2_with (go_at_call 70;((with_reducible refine (HLI.out).mono ?_);rintro e w2 ⟨hb,t1,A1,n1,c1,a1',e1',rfl,hq⟩;obtain ⟨rfl,rfl,hne⟩:=hq.out;have HB:=hid (hb.trans (Bel.alloc w2 (.cells #[.int .i64 (t1.c:Nat),.string (ofL t1.n),.string (ofL t1.a),.string (ofL t1.p),.slice A1 n1 c1,.int .i64 a1',.int .i64 (k:Nat)] 155)));clear hb hq hne))
  go_quiet (fail)
  go_wp2_with fail
  go_ret3
  exact InP.nil rfl (HB.out.drewN16 _)
 | ok s1 es1 =>
  rw [hr] at HLI
  dsimp only
  cases hq:eqH s1 (s0 0) with
  | true =>
   have hcmp:∀ W,(binOp .neq 153 (.agg #[.int .i64 (s1.c:Nat),.string (ofL s1.n),.string (ofL s1.a),.string (ofL s1.p)]) (.agg #[.int .i64 0,.string ⟨#[]⟩,.string ⟨#[]⟩,.string ⟨#[]⟩])).run Tryz.prog W = .ok (.bool false) W:=fun W => by have h:=rst_neq s1 (s0 0) W;rw [hq] at h;exact h
   clear hq hr hA ht
   rw [if_pos rfl]
   go_enter Tryz.func43,Tryz.ntmps43
   go_wp2_with (go_at_call 70;((with_reducible refine (HLI.out).mono ?_);rintro e w2 ⟨hb,t1,A1,n1,c1,a1',e1',rfl,hq⟩;obtain ⟨rfl,rfl,rfl,hes⟩:=hq.out;have HB:=hid (hb.trans (Bel.alloc w2 (.cells #[.int .i64 (t1.c:Nat),.string (ofL t1.n),.string (ofL t1.a),.string (ofL t1.p),.slice A1 n1 c1,.int .i64 0,.int .i64 0] 155)));have HE:=hid (hes.later (Bel.alloc w2 (.cells #[.int .i64 (t1.c:Nat),.string (ofL t1.n),.string (ofL t1.a),.string (ofL t1.p),.slice A1 n1 c1,.int .i64 0,.int .i64 0] 155)));clear hb hq hes))
   go_ret3
   exact ⟨HB.out,A1,n1,c1,rfl,HE⟩
  | false =>
   have hcmp:∀ W,(binOp .neq 153 (.agg #[.int .i64 (s1.c:Nat),.string (ofL s1.n),.string (ofL s1.a),.string (ofL s1.p)]) (.agg #[.int .i64 0,.string ⟨#[]⟩,.string ⟨#[]⟩,.string ⟨#[]⟩])).run Tryz.prog W = .ok (.bool true) W:=fun W => by have h:=rst_neq s1 (s0 0) W;rw [hq] at h;exact h
   have hne:l ≠ []:=by
    rintro rfl
    rw [listI_nil] at hr
    injection hr with h1 h2
    rw [← h1,eqH_self] at hq
    cases hq
   obtain ⟨x,hx,hxa⟩:=last_of hne
   obtain ⟨n,hn⟩:∃ n,n = l.length:=⟨_,rfl⟩
   have hn1:0 < n:=by rw [hn];exact List.length_pos_iff.2 hne
   obtain ⟨j,hj⟩:∃ j,j = l.length - 1:=⟨_,rfl⟩
   rw [← hj] at hx
   obtain ⟨g,o,rfl,hg,ha⟩:=hA.cells hx
   rw [hxa,if_neg (by decide)]
   rw [← hn] at hj hln HLI ⊢
   have hi1:IntKind.i64.wrap ((n:Int) - 1) = (j:Int):=(IntWalk.i64_in _ (by omega)).trans (by omega)
   have hi2:(n:Int) - 1 = (j:Int):=by omega
   have hi3:j < n:=by omega
   have HAA:=hid ha
   clear hq hr hA ht hx hxa hn hne ha hj
   go_enter Tryz.func43,Tryz.ntmps43
   go_wp2_with (go_at_call 70;((with_reducible refine (HLI.out).mono ?_);rintro e w2 ⟨hb,t1,A1,n1,c1,a1',e1',rfl,hq⟩;obtain ⟨rfl,rfl,rfl,hes⟩:=hq.out;have HB:=hid (hb.trans (Bel.alloc w2 (.cells #[.int .i64 (t1.c:Nat),.string (ofL t1.n),.string (ofL t1.a),.string (ofL t1.p),.slice A1 n1 c1,.int .i64 0,.int .i64 0] 155)));obtain ⟨b0,b1,b2,b3,b4,b5,b6,b7⟩:=HAA.out _ HB.out;clear hb hq hes))
   clear b0 b1 b2 b3 b4 b5 b6 b7
   refine region_begin (T:=[]) (by kernel_rfl) ?_
   have HBd:=hid (HB.out.trans (Bel.drew _))
   generalize (World.alloc w2 _).drew = W at HBd ⊢
   have b1:=fun X:Later [] W => (HAA.out X.w (HBd.out.trans (bel_of_only X.h))).2.1
   refine region_seg [true,true,true,true,true,true,true,true,true,true] 0 (by kernel_rfl) (by kernel_rfl) (by kernel_rfl) rfl (fun _ _ d _ _ h => by cases d <;> exact h) ?_
   repeat (first | with_reducible refine wpMask_pass ?_ | (refine wpMask_want (by rfl) (fun K hK => ?_);go_big_quiet_op;refine hK _ ?_;clear hK K))
   with_reducible refine wpMask_nil ?_
   refine region_end (by kernel_rfl) ?_
   go_wp2_with fail
   go_ret3
   exact InP.nil rfl HBd.out
end
section
open Go.RowKit Go.BigFrame NT
abbrev DLc (r B:Nat) (w0:World) (N:Option Addr) (cn:Nat) (D:Option Addr) (cd:Nat) (ns:List ByteArray) (ads:List Nat) (X:Option Addr) (c0:Nat) (l:List NT):Prop :=
 ∀ W E m ce es (a:Nat),Below B w0 W→Cm r W N cn D cd E m ce ns ads es→prns l≤es.length→a + sizs l≤90000→Calls Tryz.prog 46 #[.pointer (some ⟨r,0,none⟩),.slice X l.length c0,.int .i64 (a:Nat)] W (DcP (listC (adZ ns ads) a es l) r W N cn D cd ns ads)
section
variable {P:Program} {w:World} {ops:Array Oper} {rest:List Oper} {o:Oper} {a:Act} {Q:Exit→Act→World→Prop}
theorem wp_ins (hgd:o.guard = none) (s x:Operand) (ho:o.op = .call { callee:=.builtin .append,args:=#[s,x],argTypes:=#[23,23] })
  {w0:World} {A:Option Addr} {n c:Nat} {l:List IN} (hA:Ir w0 w A c l) (hn:l.length = n) (hs:a.eval s = .slice A n c) (X:Option Addr) (d:Nat) (m:List IN) (k:Nat) (hk:m.length = k) (hx:a.eval x = .slice X k d) (hX:Src w 6 IN.cs X m) (hle:n + m.length≤100000) (N:Nat) (hN:N = n + k) (hw:w0.heap.size≤w.heap.size)
  (h:∀ A' c' w',Hid (Ir w0 w' A' c' (l ++ m))→Hid (Only (rowT A) w w')→wpList Tryz.prog ops Q rest (a.put o.dst (.slice A' N c')) w') :
  wpList Tryz.prog ops Q (o :: rest) a w :=
 wp_kAppend hgd s x 23 ho 31 _ 6 64 IN.cs IN.cs_len IN.cs_one Tryz.underlying23 info_ins17 cells_ins17 (by decide) A c l n hn hs hA.1 X d m k hk hx hX (by unfold maxLen;omega) (by omega) N hN
  (fun A' c' w' h1 h2 h3 => h A' c' w' (hid ⟨h1.out,fun q hq => by
   rcases h3.out q hq with g | g
   ·exact hA.2 q g
   ·omega⟩) (hid h2))
end
theorem Ir.since {w0 w w1:World} {A:Option Addr} {c:Nat} {l:List IN} (h:Ir w w1 A c l) (hw:w0.heap.size≤w.heap.size):Ir w0 w1 A c l:=⟨h.1,fun k hk => Nat.le_trans hw (h.2 k hk)⟩
theorem Ir.ne {w w1:World} {A:Option Addr} {c:Nat} {l:List IN} {r:Nat} (h:Ir w w1 A c l) (hr:r < w.heap.size):r ∉ rowT A:=fun hk => by have:=h.2 r hk;omega
theorem kr_ne_blk {w:World} {e:TypeId} {z:Nat} {f:IN→List Value} {A:Option Addr} {c:Nat} {l:List IN} {g:Nat} {t:TypeId} {cs:List Value} (h:KRow w e z f A c l) (h':Blk w g t cs) (hne:t ≠ e):g ∉ rowT A:=by
 intro hk
 obtain ⟨ad,rfl,hg⟩:=mem_rowT.1 hk
 obtain ⟨g',o,cur,rfl,hb,_⟩:=RowK.some_ h ad rfl
 simp at hg
 subst hg
 exact h'.ne_ hb hne rfl
theorem kr_ne_row {w:World} {e e':TypeId} {z:Nat} {f:IN→List Value} {A A':Option Addr} {n' c c':Nat} {l:List IN} {xs':List Value} (h:KRow w e z f A c l) (h':RowAt w e' A' n' c' xs') (hne:e' ≠ e):∀ k,k ∈ rowT A'→k ∉ rowT A:=by
 intro k hk hk2
 obtain ⟨ad',rfl,he⟩:=mem_rowT.1 hk
 obtain ⟨g',o',cur',rfl,hb',_⟩:=h'.some_ ad' rfl
 simp at he
 subst he
 exact kr_ne_blk h hb' hne hk2
theorem Cm.ins {r:Nat} {w w1 w2:World} {N:Option Addr} {cn:Nat} {D:Option Addr} {cd:Nat} {E:Option Addr} {m ce:Nat} {ns:List ByteArray} {ads es:List Nat} {A:Option Addr} {c:Nat} {l:List IN} (h:Cm r w1 N cn D cd E m ce ns ads es) (hI:Ir w w1 A c l) (hO:Only (rowT A) w1 w2):Cm r w2 N cn D cd E m ce ns ads es :=
 ⟨h.blk.only hO (kr_ne_blk hI.1 h.blk (by decide)),h.rn.only hO (kr_ne_row hI.1 h.rn (by decide)),h.ra.only hO (kr_ne_row hI.1 h.ra (by decide)),h.re.only hO (kr_ne_row hI.1 h.re (by decide)),h.rm⟩
theorem ir_only {r:Nat} {w w1 w2:World} {A:Option Addr} {c:Nat} {l:List IN} (h:Only [r] w w1) (hI:Ir w w1 A c l) (hO:Only (rowT A) w1 w2):Only [r] w w2:=h.join hO (fun i hi => .inr (hI.2 i hi))
section
variable {r B:Nat} {w:World} {N:Option Addr} {cn:Nat} {D:Option Addr} {cd:Nat} {E:Option Addr} {m ce:Nat} {ns:List ByteArray} {ads es:List Nat}
theorem dn_range (x:NT) (a:Nat) (hC:Cm r w N cn D cd E m ce ns ads es) (hk:x.k = 3) (hm:prns x.b≤es.length) (ha:a + 2 + sizs x.b≤90000) (hB:B≤r) (hl:DLc r B w N cn D cd ns ads x.A x.c x.b) :
  Calls Tryz.prog 71 #[.pointer (some ⟨r,0,none⟩),nV17 x,.int .i64 (a:Nat)] w (DcP (nodeC (adZ ns ads) a es x) r w N cn D cd ns ads):=by
 rw [nodeC_eq,if_neg (by rw [hk];decide),if_neg (by rw [hk];decide),if_neg (by rw [hk];decide),if_pos hk]
 have k0:(x.k == 0) = false:=by rw [hk];rfl
 have k1:(x.k == 1) = false:=by rw [hk];rfl
 have k2:(x.k == 2) = false:=by rw [hk];rfl
 have k3:(x.k == 3) = true:=by rw [hk];rfl
 have hrl:=hC.blk.lt
 have HB1:=hid (Bel.alloc w (.cells #[.int .i64 x.k,.int .i64 x.a,.string x.s,.string x.p,.bool x.h,.bool x.e,.slice x.A x.b.length x.c,.slice x.B x.l.length x.d] 69))
 have HN1:=hid (show Blk (w.alloc (.cells #[.int .i64 x.k,.int .i64 x.a,.string x.s,.string x.p,.bool x.h,.bool x.e,.slice x.A x.b.length x.c,.slice x.B x.l.length x.d] 69)) w.heap.size 69 x.cs from Blk.new w 69 x.cs)
 have hcall:=hl (w.alloc (.cells #[.int .i64 x.k,.int .i64 x.a,.string x.s,.string x.p,.bool x.h,.bool x.e,.slice x.A x.b.length x.c,.slice x.B x.l.length x.d] 69)) E m ce es (a + 1) (Below.mono HB1.out (by omega)) (hC.bel HB1.out) hm (by omega)
 have hlen:=(listC_ok (adZ ns ads) x.b (a + 1) es).len
 obtain ⟨cb,hcb⟩:∃ cb,cb = listC (adZ ns ads) (a + 1) es x.b:=⟨_,rfl⟩
 rw [← hcb] at hcall hlen ⊢
 have hcl:cb.1.length + a≤90000:=by omega
 rw [show (((a + 1:Nat)):Int) = (a:Int) + 1 by omega] at hcall
 have HC1:=hid hcall
 have e1:IntKind.i64.wrap ((a:Int) + 1) = (a:Int) + 1:=IntWalk.i64_in _ (by omega)
 clear hcb hk hm ha hl hC hlen hcall
 obtain ⟨n1,hn1⟩:∃ n1,n1 = cb.1.length:=⟨_,rfl⟩
 rw [← hn1] at hcl
 have HL1:=hid hn1
 have HLA:=hid (show 1 + cb.1.length≤100000 by omega)
 have HLB:=hid (show n1 + 1 = 1 + n1 by omega)
 have HLC:=hid (fun x:IN => show ([x] ++ cb.1).length = n1 + 1 by simp;omega)
 have HLD:=hid (fun x:IN => show n1 + 1 + [x].length≤100000 by simp;omega)
 unfold DcP at HC1
 rw [← hn1] at HC1
 clear hn1
 obtain ⟨T1,hT1⟩:∃ T1,T1 = a + 2 + n1:=⟨_,rfl⟩
 obtain ⟨T2,hT2⟩:∃ T2,T2 = a + 1:=⟨_,rfl⟩
 have hT1':(a:Int) + 2 + (n1:Int) = (T1:Int):=by omega
 have hT2':(a:Int) + 1 = (T2:Int):=by omega
 have HT1:=hid hT1
 have HT2:=hid hT2
 clear hT1 hT2
 rw [hT2'] at HC1
 go_enter Tryz.func71,Tryz.ntmps71
 go_wp2_with (first
  | (go_at_call 46;((with_reducible refine (HC1.out).mono ?_);rintro e w2 ⟨A1,c1,E1,m1,ce1,rfl,hI,hO,hC2⟩;have HI:=hid ((hI.out.since HB1.out.size).only ((Only.refl [] w2).alloc (.cells #[.int .i64 4,.string ⟨#[]⟩,.string x.p,.bool false,.int .i64 0,.int .i64 (T1:Nat)] 31)) (by simp));have HO:=hid ((((bel_only HB1.out).more (T:=[r]) (by simp)).trans hO.out).alloc (.cells #[.int .i64 4,.string ⟨#[]⟩,.string x.p,.bool false,.int .i64 0,.int .i64 (T1:Nat)] 31));have HC2:=hid (hC2.out.bel (Bel.alloc w2 (.cells #[.int .i64 4,.string ⟨#[]⟩,.string x.p,.bool false,.int .i64 0,.int .i64 (T1:Nat)] 31)));have HN2:=hid (HN1.out.only hO.out (by simp;omega));have HI4:=hid (show Ir w (w2.alloc (.cells #[.int .i64 4,.string ⟨#[]⟩,.string x.p,.bool false,.int .i64 0,.int .i64 (T1:Nat)] 31)) (some ⟨w2.heap.size,0,none⟩) 1 [⟨4,eB,x.p,false,0,T1⟩] from Ir.one (w:=w) (w1:=w2) ⟨4,eB,x.p,false,0,T1⟩ (Nat.le_trans HB1.out.size hO.out.size));have HSR:=hid HI.out.1.src;have HZ2:=hid (Nat.le_trans HB1.out.size (Nat.le_trans hO.out.size (Bel.alloc w2 (.cells #[.int .i64 4,.string ⟨#[]⟩,.string x.p,.bool false,.int .i64 0,.int .i64 (T1:Nat)] 31)).size));clear hI hO hC2;obtain ⟨x0',x1',x2',x3',x4',x5',x6',x7'⟩:=cells8 HN2.out))
  | ((with_reducible refine wp_ins (n:=1) rfl (.tmp 108) (.tmp 109) rfl HI4.out rfl rfl A1 c1 cb.1 n1 HL1.out.symm rfl HSR.out HLA.out (n1 + 1) HLB.out HZ2.out ?_);intro A3 c3 w3 HI3 HO3;have HI5:=hid (HI3.out.only ((Only.refl [] w3).alloc (.cells #[.int .i64 5,.string ⟨#[]⟩,.string ⟨#[]⟩,.bool false,.int .i64 0,.int .i64 (T2:Nat)] 31)) (by simp));have HC5:=hid ((HC2.out.ins HI4.out HO3.out).bel (Bel.alloc w3 (.cells #[.int .i64 5,.string ⟨#[]⟩,.string ⟨#[]⟩,.bool false,.int .i64 0,.int .i64 (T2:Nat)] 31)));have HO5:=hid ((ir_only HO.out HI4.out HO3.out).alloc (.cells #[.int .i64 5,.string ⟨#[]⟩,.string ⟨#[]⟩,.bool false,.int .i64 0,.int .i64 (T2:Nat)] 31));have HS5:=hid (show Src (w3.alloc (.cells #[.int .i64 5,.string ⟨#[]⟩,.string ⟨#[]⟩,.bool false,.int .i64 0,.int .i64 (T2:Nat)] 31)) 6 IN.cs (some ⟨w3.heap.size,0,none⟩) [⟨5,eB,eB,false,0,T2⟩] from src_blk (f:=IN.cs) (z:=6) (m:=[⟨5,eB,eB,false,0,T2⟩]) (Blk.new w3 31 (IN.cs ⟨5,eB,eB,false,0,T2⟩)) (by rw [flat_one]));have HZ5:=hid (show w.heap.size≤(w3.alloc (.cells #[.int .i64 5,.string ⟨#[]⟩,.string ⟨#[]⟩,.bool false,.int .i64 0,.int .i64 (T2:Nat)] 31)).heap.size from Nat.le_trans HZ2.out (Nat.le_trans HO3.out.size (Bel.alloc w3 (.cells #[.int .i64 5,.string ⟨#[]⟩,.string ⟨#[]⟩,.bool false,.int .i64 0,.int .i64 (T2:Nat)] 31)).size)))
  | ((with_reducible refine wp_ins (n:=n1 + 1) rfl (.tmp 111) (.tmp 115) rfl HI5.out (HLC.out _) rfl (some ⟨w3.heap.size,0,none⟩) 1 [⟨5,eB,eB,false,0,T2⟩] 1 rfl rfl HS5.out (HLD.out _) (n1 + 1 + 1) rfl HZ5.out ?_);intro A6 c6 w6 HI6 HO6))
 go_ret
 have hcode:(rangeC a x.p cb).1 = [⟨4,eB,x.p,false,0,T1⟩] ++ cb.1 ++ [⟨5,eB,eB,false,0,T2⟩]:=by unfold rangeC;rw [HT1.out,HT2.out,HL1.out];rfl
 have hlen:(rangeC a x.p cb).1.length = n1 + 1 + 1:=by rw [hcode,List.length_append,HLC.out];rfl
 have hI6:=HI6.out
 rw [← hcode] at hI6
 exact ⟨A6,c6,E1,m1,ce1,by rw [hlen];rfl,hid hI6,hid (ir_only HO5.out HI5.out HO6.out),hid (HC5.out.ins HI5.out HO6.out)⟩
end
end
section
open Go.RowKit Go.BigFrame NT
section
variable {Q:Nat→Prop} {rr:Nat} {w:World} {v:AV}
theorem if_code {L:List IN} {n:Nat} (hn:n = L.length) (p:ByteArray) (cb:CE) (ce:CE) :
  stT (stT (L ++ [⟨2,eB,p,false,0,0⟩] ++ cb.1 ++ [⟨3,eB,eB,false,0,0⟩]) n (n + 2 + cb.1.length) ++ ce.1) (n + 1 + cb.1.length) (n + 2 + cb.1.length + ce.1.length) =
   L ++ (⟨2,eB,p,false,0,n + 2 + cb.1.length⟩ :: (cb.1 ++ ⟨3,eB,eB,false,0,n + 2 + cb.1.length + ce.1.length⟩ :: ce.1)):=by
 have h1:stT (L ++ [⟨2,eB,p,false,0,0⟩] ++ cb.1 ++ [⟨3,eB,eB,false,0,0⟩]) n (n + 2 + cb.1.length) = (L ++ ⟨2,eB,p,false,0,n + 2 + cb.1.length⟩ :: cb.1) ++ [⟨3,eB,eB,false,0,0⟩]:=by
  rw [List.append_assoc,List.append_assoc]
  refine (stT_at L (cb.1 ++ [⟨3,eB,eB,false,0,0⟩]) ⟨2,eB,p,false,0,0⟩ hn (n + 2 + cb.1.length)).trans ?_
  rw [List.append_assoc]
  rfl
 rw [h1,List.append_assoc]
 refine (stT_at (L ++ ⟨2,eB,p,false,0,n + 2 + cb.1.length⟩ :: cb.1) ce.1 ⟨3,eB,eB,false,0,0⟩ (by rw [List.length_append,List.length_cons,← hn];omega) _).trans ?_
 rw [List.append_assoc]
 rfl
theorem branches_else (x:NT) (h:As Q rr w v) (he:x.e = true) (hm:prns x.b + prns x.l≤v.es.length) (hle:v.L.length + 2 + sizs x.b + sizs x.l≤90000) (hkl:v.ks.length + sizs x.b + sizs x.l≤90000) (hl:PlM Q rr w v x.A x.c x.b) (hl2:PlM Q rr w v x.B x.d x.l) :
  Calls Tryz.prog 109 #[.pointer (some ⟨rr,0,none⟩),nV17 x] w (NdP Q rr w v (ifC v.L.length x.p true (listC Z0 (v.L.length + 1) v.es x.b) (fun a2 es2 => listC Z0 a2 es2 x.l)) (listK (v.L.length + 1) x.b ++ listK (v.L.length + 2 + sizs x.b) x.l)):=by
 have HND:=hid (show Blk (wN w x) w.heap.size 69 x.cs from Blk.new w 69 x.cs)
 obtain ⟨x0,x1,x2,x3,x4,x5,x6,x7⟩:=node_cells HND.out
 have HE0:=hid (ev_n h x)
 have HA0:=hid (as_n h x)
 have HL:=hid hl
 have HL2:=hid hl2
 obtain ⟨n,hn⟩:∃ n,n = v.L.length:=⟨_,rfl⟩
 have HN:=hid hn
 have HAD:=hid (show Calls Tryz.prog 67 #[.pointer (some ⟨rr,0,none⟩),.agg #[.int .i64 2,.string ⟨#[]⟩,.string x.p,.bool false,.int .i64 0,.int .i64 0]] (wN w x) _ from add_c (as_n h x) ⟨2,eB,x.p,false,0,0⟩ (by omega))
 have HA3:=hid (fun W v' (h':As Q rr W v') (hle':v'.L.length + 1≤100000) => show Calls Tryz.prog 67 #[.pointer (some ⟨rr,0,none⟩),.agg #[.int .i64 3,.string ⟨#[]⟩,.string ⟨#[]⟩,.bool false,.int .i64 0,.int .i64 0]] W (AsP Q rr W v' (.int .i64 (v'.L.length:Nat)) (v'.L ++ [⟨3,eB,eB,false,0,0⟩]) v'.es v'.ks) from add_c h' ⟨3,eB,eB,false,0,0⟩ hle')
 obtain ⟨cb,hcb⟩:∃ cb,cb = listC Z0 (v.L.length + 1) v.es x.b:=⟨_,rfl⟩
 have hok:=listC_ok Z0 x.b (v.L.length + 1) v.es
 have hkl1:=listK_len x.b (v.L.length + 1)
 rw [← hcb] at hok ⊢
 rw [← hn] at hcb hkl1
 have HCB:=hid hcb
 have HLEN:=hid hok.len
 have HES:=hid (show prns x.l≤cb.2.length by rw [hok.es,List.length_drop];omega)
 obtain ⟨ce,hce⟩:∃ ce,ce = listC Z0 (n + 2 + cb.1.length) cb.2 x.l:=⟨_,rfl⟩
 have HCE:=hid hce
 have HLEN2:=hid (show ce.1.length = sizs x.l by rw [hce];exact (listC_ok Z0 x.l _ _).len)
 have HIF:Hid (ifC n x.p true cb (fun a2 es2 => listC Z0 a2 es2 x.l) = (⟨2,eB,x.p,false,0,n + 2 + cb.1.length⟩ :: (cb.1 ++ ⟨3,eB,eB,false,0,n + 2 + cb.1.length + ce.1.length⟩ :: ce.1),ce.2)):=hid (by unfold ifC;rw [if_pos rfl];dsimp only;rw [← hce])
 rw [← hn] at HAD hle ⊢
 have HM:=hid (show prns x.b≤v.es.length by omega)
 have HLE:=hid hle
 have HKL:=hid hkl
 have HKK:=hid hkl1
 have HEE:=hid he
 clear h hl hl2 hn hcb hok hm hkl hce hkl1 he
 rw [HIF.out]
 clear HIF
 go_enter_defers Tryz.func109,Tryz.ntmps109
 go_wp2_with (first
  | (go_at_call 67;((with_reducible refine HAD.out.mono ?_);rintro e w2 ⟨rfl,v1,hE1,hS1⟩;have HE1:=hid (HE0.out.trans hE1.out);have hls1:v1.L.length = n + 1:=(by rw [hS1.out.L,List.length_append,← HN.out];rfl);have HN1:=hid (blk_kept HA0.out hE1.out HND.out);obtain ⟨x0',x1',x2',x3',x4',x5',x6',x7'⟩:=node_cells HN1.out;have HLC:Hid (Calls Tryz.prog 66 #[.pointer (some ⟨rr,0,none⟩),.slice x.A x.b.length x.c] w2 (NdP Q rr w2 v1 cb (listK (n + 1) x.b))):=hid (plc_at (HL.out w2 v1 HE1.out (by rw [hS1.out.es];exact HM.out) (by rw [hls1];have:=HLE.out;omega) (by rw [hS1.out.ks];have:=HKL.out;omega)) hls1 (by rw [hS1.out.es];exact HCB.out))))
  | (go_at_call 66;((with_reducible refine HLC.out.mono ?_);rintro e w3 ⟨rfl,v2,hE2,hS2⟩;have HE2:=hid (HE1.out.trans hE2.out);have HLS2:Hid (v2.L.length = n + 1 + cb.1.length):=hid (by rw [hS2.out.L,List.length_append,hls1]);have HN2:=hid (blk_kept hE1.out.st hE2.out HN1.out);obtain ⟨y0',y1',y2',y3',y4',y5',y6',y7'⟩:=node_cells HN2.out;rw [HEE.out] at y5'))
  | (go_at_call 67;((with_reducible refine (HA3.out w3 v2 hE2.out.st (by rw [HLS2.out];have:=HLE.out;have:=HLEN.out;omega)).mono ?_);rintro e w4 ⟨rfl,v3,hE3,hS3⟩;have HE3:=hid (HE2.out.trans hE3.out);have hls3:v3.L.length = n + 2 + cb.1.length:=(by rw [hS3.out.L,List.length_append,HLS2.out];show n + 1 + cb.1.length + 1 = _;omega);have HN3:=hid (blk_kept hE2.out.st hE3.out HN2.out)))
  | (go_at_call 124;((with_reducible refine (aim_c hE3.out.st n (by omega) (by rw [hls3];have:=HLE.out;have:=HLEN.out;omega)).mono ?_);rintro e w5 ⟨rfl,v4,hE4,hS4⟩;have HE4:=hid (HE3.out.trans hE4.out);have hls4:v4.L.length = n + 2 + cb.1.length:=(by rw [hS4.out.L,stT_len,hls3]);have hes4:v4.es = cb.2:=(by rw [hS4.out.es,hS3.out.es,hS2.out.es]);have HN4:=hid (blk_kept hE3.out.st hE4.out HN3.out);obtain ⟨z0',z1',z2',z3',z4',z5',z6',z7'⟩:=node_cells HN4.out;have hks4:v4.ks.length≤v.ks.length + sizs x.b:=(by rw [hS4.out.ks,hS3.out.ks,hS2.out.ks,hS1.out.ks,List.length_append];have:=HKK.out;omega);have HLE4:Hid (Calls Tryz.prog 66 #[.pointer (some ⟨rr,0,none⟩),.slice x.B x.l.length x.d] w5 (NdP Q rr w5 v4 ce (listK (n + 2 + cb.1.length) x.l))):=hid (plc_at (HL2.out w5 v4 HE4.out (by rw [hes4];exact HES.out) (by rw [hls4];have:=HLE.out;have:=HLEN.out;omega) (by have:=HKL.out;omega)) hls4 (by rw [hes4];exact HCE.out))))
  | (go_at_call 66;((with_reducible refine HLE4.out.mono ?_);rintro e w6 ⟨rfl,v5,hE5,hS5⟩;have HE5:=hid (HE4.out.trans hE5.out);have hls5:v5.L.length = n + 2 + cb.1.length + ce.1.length:=(by rw [hS5.out.L,List.length_append,hls4]))))
 refine leaves_cons (f:=124) (args:=#[.pointer (some ⟨rr,0,none⟩),.int .i64 (v2.L.length:Nat)]) (by simp) (by simp [go_sem]) ?_
 refine (aimD_c .returning hE5.out.st v2.L.length (by rw [HLS2.out,hls5];omega) (by rw [hls5];have:=HLE.out;have:=HLEN.out;have:=HLEN2.out;omega)).mono ?_
 rintro e u' w7 ⟨rfl,rfl,v6,hE6,hS6⟩
 refine ⟨_,results_none rfl _ _ _,?_⟩
 refine ⟨rfl,v6,hid (HE5.out.trans hE6.out),hid ⟨?_,?_,?_,?_⟩⟩
 ·rw [hS6.out.L,HLS2.out,hls5,hS5.out.L,hS4.out.L,hls3,hS3.out.L,hS2.out.L,hS1.out.L]
  exact if_code HN.out x.p cb ce
 ·rw [hS6.out.es,hS5.out.es]
 ·rw [hS6.out.ks,hS5.out.ks,hS4.out.ks,hS3.out.ks,hS2.out.ks,hS1.out.ks,List.append_assoc,HLEN.out]
 ·rw [hS6.out.M,hS5.out.M,hS4.out.M,hS3.out.M,hS2.out.M,hS1.out.M]
theorem plc_nil {W:World} {v:AV} {X:Option Addr} {c0:Nat} {l:List NT} (h:PlC Q rr W v X c0 l) (hl:l = []) :
  Calls Tryz.prog 66 #[.pointer (some ⟨rr,0,none⟩),.slice X l.length c0] W (NdP Q rr W v ([],v.es) []):=by
 unfold PlC at h
 subst hl
 rw [listC_nil,listK_nil] at h
 exact h
theorem branches_no (x:NT) (h:As Q rr w v) (he:x.e = false) (hx:x.l = []) (hm:prns x.b≤v.es.length) (hle:v.L.length + 1 + sizs x.b≤90000) (hkl:v.ks.length + sizs x.b≤90000) (hl:PlM Q rr w v x.A x.c x.b) (hl2:PlM Q rr w v x.B x.d x.l) :
  Calls Tryz.prog 109 #[.pointer (some ⟨rr,0,none⟩),nV17 x] w (NdP Q rr w v (ifC v.L.length x.p false (listC Z0 (v.L.length + 1) v.es x.b) (fun a2 es2 => listC Z0 a2 es2 x.l)) (listK (v.L.length + 1) x.b)):=by
 have HND:=hid (show Blk (wN w x) w.heap.size 69 x.cs from Blk.new w 69 x.cs)
 obtain ⟨x0,x1,x2,x3,x4,x5,x6,x7⟩:=node_cells HND.out
 have HE0:=hid (ev_n h x)
 have HA0:=hid (as_n h x)
 have HL:=hid hl
 have HL2:=hid hl2
 obtain ⟨n,hn⟩:∃ n,n = v.L.length:=⟨_,rfl⟩
 have HN:=hid hn
 have HAD:=hid (show Calls Tryz.prog 67 #[.pointer (some ⟨rr,0,none⟩),.agg #[.int .i64 2,.string ⟨#[]⟩,.string x.p,.bool false,.int .i64 0,.int .i64 0]] (wN w x) _ from add_c (as_n h x) ⟨2,eB,x.p,false,0,0⟩ (by omega))
 obtain ⟨cb,hcb⟩:∃ cb,cb = listC Z0 (v.L.length + 1) v.es x.b:=⟨_,rfl⟩
 have hok:=listC_ok Z0 x.b (v.L.length + 1) v.es
 have hkl1:=listK_len x.b (v.L.length + 1)
 rw [← hcb] at hok ⊢
 rw [← hn] at hcb hkl1
 have HCB:=hid hcb
 have HLEN:=hid hok.len
 have HIF:Hid (ifC n x.p false cb (fun a2 es2 => listC Z0 a2 es2 x.l) = (⟨2,eB,x.p,false,0,n + 1 + cb.1.length⟩ :: cb.1,cb.2)):=hid (by unfold ifC;rw [if_neg (by decide)])
 rw [← hn] at HAD hle ⊢
 have HM:=hid (show prns x.b≤v.es.length by omega)
 have HLE:=hid hle
 have HKL:=hid hkl
 have HKK:=hid hkl1
 have HEE:=hid he
 have HXL:=hid hx
 clear h hl hl2 hn hcb hok hm hkl hkl1 he hx
 rw [HIF.out]
 clear HIF
 go_enter_defers Tryz.func109,Tryz.ntmps109
 go_wp2_with (first
  | (go_at_call 67;((with_reducible refine HAD.out.mono ?_);rintro e w2 ⟨rfl,v1,hE1,hS1⟩;have HE1:=hid (HE0.out.trans hE1.out);have hls1:v1.L.length = n + 1:=(by rw [hS1.out.L,List.length_append,← HN.out];rfl);have HN1:=hid (blk_kept HA0.out hE1.out HND.out);obtain ⟨x0',x1',x2',x3',x4',x5',x6',x7'⟩:=node_cells HN1.out;have HLC:Hid (Calls Tryz.prog 66 #[.pointer (some ⟨rr,0,none⟩),.slice x.A x.b.length x.c] w2 (NdP Q rr w2 v1 cb (listK (n + 1) x.b))):=hid (plc_at (HL.out w2 v1 HE1.out (by rw [hS1.out.es];exact HM.out) (by rw [hls1];have:=HLE.out;omega) (by rw [hS1.out.ks];have:=HKL.out;omega)) hls1 (by rw [hS1.out.es];exact HCB.out))))
  | (go_at_call 66;((with_reducible refine HLC.out.mono ?_);rintro e w3 ⟨rfl,v2,hE2,hS2⟩;have HE2:=hid (HE1.out.trans hE2.out);have HLS2:Hid (v2.L.length = n + 1 + cb.1.length):=hid (by rw [hS2.out.L,List.length_append,hls1]);have HN2:=hid (blk_kept hE1.out.st hE2.out HN1.out);obtain ⟨y0',y1',y2',y3',y4',y5',y6',y7'⟩:=node_cells HN2.out;rw [HEE.out] at y5'))
  | (go_at_call 124;((with_reducible refine (aim_c hE2.out.st n (by rw [HLS2.out];omega) (by rw [HLS2.out];have:=HLE.out;have:=HLEN.out;omega)).mono ?_);rintro e w5 ⟨rfl,v4,hE4,hS4⟩;have HE4:=hid (HE2.out.trans hE4.out);have hls4:v4.L.length = n + 1 + cb.1.length:=(by rw [hS4.out.L,stT_len,HLS2.out]);have hes4:v4.es = cb.2:=(by rw [hS4.out.es,hS2.out.es]);have HN4:=hid (blk_kept hE2.out.st hE4.out HN2.out);obtain ⟨z0',z1',z2',z3',z4',z5',z6',z7'⟩:=node_cells HN4.out;have hks4:v4.ks.length≤v.ks.length + sizs x.b:=(by rw [hS4.out.ks,hS2.out.ks,hS1.out.ks,List.length_append];have:=HKK.out;omega);have HLE4:Hid (Calls Tryz.prog 66 #[.pointer (some ⟨rr,0,none⟩),.slice x.B x.l.length x.d] w5 (NdP Q rr w5 v4 ([],v4.es) [])):=hid (plc_nil (HL2.out w5 v4 HE4.out (by rw [HXL.out,prns_nil];omega) (by rw [HXL.out,sizs_nil,hls4];have:=HLE.out;have:=HLEN.out;omega) (by rw [HXL.out,sizs_nil];have:=HKL.out;omega)) HXL.out)))
  | (go_at_call 66;((with_reducible refine HLE4.out.mono ?_);rintro e w6 ⟨rfl,v5,hE5,hS5⟩;have HE5:=hid (HE4.out.trans hE5.out))))
 refine ⟨_,results_none rfl _ _ _,?_⟩
 refine ⟨rfl,v5,HE5,hid ⟨?_,?_,?_,?_⟩⟩
 ·rw [hS5.out.L,List.append_nil,hS4.out.L,HLS2.out,hS2.out.L,hS1.out.L,List.append_assoc]
  exact stT_at v.L cb.1 ⟨2,eB,x.p,false,0,0⟩ HN.out (n + 1 + cb.1.length)
 ·rw [hS5.out.es];exact hes4
 ·rw [hS5.out.ks,List.append_nil,hS4.out.ks,hS2.out.ks,hS1.out.ks]
 ·rw [hS5.out.M,hS4.out.M,hS2.out.M,hS1.out.M]
end
end
end Go.Proofs.YtpcapmdfjmpdiaaGreatDoor
