/- The program of layer 16: After and Infer -/
import Derived.Test.YtpcapmdfjmpdiaaGreatDoorMAl16
import Derived.Test.YtpcapmdfjmpdiaaGreatDoorMPf17
import Derived.Test.YtpcapmdfjmpdiaaGreatDoorMLn17
import Derived.Test.YtpcapmdfjmpdiaaGreatDoorMDb17
import Derived.Test.YtpcapmdfjmpdiaaGreatDoorMPa12
import Derived.Test.YtpcapmdfjmpdiaaGreatDoorMPg17
import Derived.Test.YtpcapmdfjmpdiaaGreatDoorMPc14
import Derived.Test.YtpcapmdfjmpdiaaGreatDoorMPf12
import Derived.Test.YtpcapmdfjmpdiaaGreatDoorMEr14
import Derived.Test.YtpcapmdfjmpdiaaGreatDoorMShaped11
set_option linter.unusedVariables false
set_option linter.unusedSimpArgs false
set_option maxRecDepth 100000
set_option maxHeartbeats 6400000
open Go.Lib (hid)
namespace Go.Proofs.YtpcapmdfjmpdiaaGreatDoor
section
open Go.RowKit Go.BigFrame NT
theorem Bel.trans_below {w w1 w2:World} (h:Bel w w1) (h2:Below w.heap.size w1 w2):Bel w w2:=Below.trans h h2
theorem an_new (w w1:World) (h:w.heap.size≤w1.heap.size):An w.heap.size w1.heap.size (w1.alloc (.cells #[.slice none 0 0] 72)) none 0 0 [] :=
 ⟨Blk.new w1 72 [.slice none 0 0],rfl,RowAt.nil _ _,h,by simp [rowT]⟩
theorem infer_c {l:List NT} {X:Option Addr} {c0:Nat} {w:World} (hX:Row w (Lt w) X c0 l) (ht:tots l≤100000) :
  Calls Tryz.prog 17 #[.slice X l.length c0] w (InP (inferI l) w):=by
 have HA:=hid (an_new w w (Nat.le_refl _))
 have HB:=hid (Bel.alloc w (.cells #[.slice none 0 0] 72))
 have HC:=hid (show Calls Tryz.prog 31 #[.pointer (some ⟨w.heap.size,0,none⟩),.agg #[.int .i64 0,.string ⟨#[]⟩,.string ⟨#[]⟩,.string ⟨#[]⟩],.slice X l.length c0] (w.alloc (.cells #[.slice none 0 0] 72)) (PP (listI (s0 0) l) [] w.heap.size w.heap.size (w.alloc (.cells #[.slice none 0 0] 72)) none) from plist_c hX w.heap.size (s0 0) Inv.init _ none 0 0 [] HB.out HA.out (by omega))
 have hln:=hX.len
 have hgp:=st_guard
 unfold inferI
 cases hr:listI (s0 0) l with
 | no a k =>
  rw [hr] at HC
  have he:=listI_err hr
  have hk0:(k:Int) ≠ 0:=by omega
  have hk1:((k:Int) != 0) = true:=bne_iff_ne.2 hk0
  clear hr he hX ht
  go_enter Tryz.func17,Tryz.ntmps17
  go_wp2_with (go_at_call 31;((with_reducible refine (HC.out).mono ?_);rintro e w2 ⟨t,a',k',A',n',c',es,rfl,hE,hQ⟩;obtain ⟨ht,rfl,rfl,hne⟩:=hQ.out;have HB2:=hid ((show Bel w w2 from HB.out.trans_below (hE.out.below HA.out)).trans (Bel.alloc w2 (.cells #[.int .i64 (t.c:Nat),.string (ofL t.n),.string (ofL t.a),.string (ofL t.p)] 74)));clear hE hQ hne ht))
  go_ret3
  exact InP.nil rfl HB2.out
 | ok s1 es1 =>
  rw [hr] at HC
  dsimp only
  cases hq:eqH s1 (s0 0) with
  | true =>
   have hcmp:∀ W,(binOp .neq 74 (.agg #[.int .i64 (s1.c:Nat),.string (ofL s1.n),.string (ofL s1.a),.string (ofL s1.p)]) (.agg #[.int .i64 0,.string ⟨#[]⟩,.string ⟨#[]⟩,.string ⟨#[]⟩])).run Tryz.prog W = .ok (.bool false) W:=fun W => by have h:=pst_neq s1 (s0 0) W;rw [hq] at h;exact h
   clear hq hr hX ht
   rw [if_pos rfl]
   go_enter Tryz.func17,Tryz.ntmps17
   go_wp2_with (go_at_call 31;((with_reducible refine (HC.out).mono ?_);rintro e w2 ⟨t,a',k',A',n',c',es,rfl,hE,hQ⟩;obtain ⟨rfl,rfl,rfl,hes⟩:=hQ.out;have HB2:=hid ((show Bel w w2 from HB.out.trans_below (hE.out.below HA.out)).trans (Bel.alloc w2 (.cells #[.int .i64 (t.c:Nat),.string (ofL t.n),.string (ofL t.a),.string (ofL t.p)] 74)));have HE2:=hid (hE.out.an.bel (Bel.alloc w2 (.cells #[.int .i64 (t.c:Nat),.string (ofL t.n),.string (ofL t.a),.string (ofL t.p)] 74)));rw [List.nil_append] at hes;subst hes;have d0:=HE2.out.blk.cell 0;clear hE hQ))
   go_ret3
   exact ⟨HB2.out,A',n',c',rfl,hid ⟨HE2.out.len,HE2.out.row,HE2.out.low⟩⟩
  | false =>
   have hcmp:∀ W,(binOp .neq 74 (.agg #[.int .i64 (s1.c:Nat),.string (ofL s1.n),.string (ofL s1.a),.string (ofL s1.p)]) (.agg #[.int .i64 0,.string ⟨#[]⟩,.string ⟨#[]⟩,.string ⟨#[]⟩])).run Tryz.prog W = .ok (.bool true) W:=fun W => by have h:=pst_neq s1 (s0 0) W;rw [hq] at h;exact h
   have hne:l ≠ []:=by
    rintro rfl
    rw [listI_nil] at hr
    injection hr with h1 h2
    rw [← h1,eqH_self] at hq
    cases hq
   obtain ⟨x,hx,hxa⟩:=last_of hne
   obtain ⟨n,hn⟩:∃ n,n = l.length:=⟨_,rfl⟩
   have hn1:0 < n:=by rw [hn];exact List.length_pos_iff.2 hne
   obtain ⟨j,hj⟩:∃ j,j = l.length - 1:=⟨_,rfl⟩
   rw [← hj] at hx
   obtain ⟨g,o,rfl,hg,ha⟩:=hX.cells hx
   rw [hxa,if_neg (by decide)]
   rw [← hn] at hj hln HC ⊢
   have hi1:IntKind.i64.wrap ((n:Int) - 1) = (j:Int):=(IntWalk.i64_in _ (by omega)).trans (by omega)
   have hi2:(n:Int) - 1 = (j:Int):=by omega
   have hi3:j < n:=by omega
   have HAA:=hid ha
   clear hq hr hX ht hx hxa hn hne ha hj
   go_enter Tryz.func17,Tryz.ntmps17
   go_wp2_with (go_at_call 31;((with_reducible refine (HC.out).mono ?_);rintro e w2 ⟨t,a',k',A',n',c',es,rfl,hE,hQ⟩;obtain ⟨rfl,rfl,rfl,hes⟩:=hQ.out;have HB2:=hid ((show Bel w w2 from HB.out.trans_below (hE.out.below HA.out)).trans (Bel.alloc w2 (.cells #[.int .i64 (t.c:Nat),.string (ofL t.n),.string (ofL t.a),.string (ofL t.p)] 74)));clear hE hQ hes))
   refine region_begin (T:=[]) (by kernel_rfl) ?_
   have HBd:=hid (HB2.out.trans (Bel.drew _))
   generalize (World.alloc w2 _).drew = W at HBd ⊢
   have b1:=fun X:Later [] W => (HAA.out X.w (HBd.out.trans (bel_of_only X.h))).2.1
   refine region_seg [true,true,true,true,true,true,true,true,true,true] 0 (by kernel_rfl) (by kernel_rfl) (by kernel_rfl) rfl (fun _ _ d _ _ h => by cases d <;> exact h) ?_
   repeat (first | with_reducible refine wpMask_pass ?_ | (refine wpMask_want (by rfl) (fun K hK => ?_);go_big_quiet_op;refine hK _ ?_;clear hK K))
   with_reducible refine wpMask_nil ?_
   refine region_end (by kernel_rfl) ?_
   go_wp2_with fail
   go_ret3
   exact InP.nil rfl HBd.out
end
section
open Go.RowKit Go.BigFrame NT
def CdP (r:List IN × Int × Nat) (w:World) (e:Ending) (w':World):Prop:=Bel w w'∧∃ A c,e = .returned (.tuple #[.slice A r.1.length c,.int .i64 r.2.1,.int .i64 (r.2.2:Nat)])∧Hid (Ir w w' A c r.1)
theorem CdP.nil {a:Int} {k:Nat} {w:World} {e:Ending} {w':World} (he:e = .returned (.tuple #[.slice none 0 0,.int .i64 a,.int .i64 (k:Nat)])) (hb:Bel w w'):CdP ([],a,k) w e w':=⟨hb,none,0,he,hid ⟨KRow.nil _ _ _ _,by simp [rowT]⟩⟩
def InQ (r:List Nat × Int × Nat) (w:World) (e:Ending) (w':World):Prop:=Bel w w'∧∃ A n c,e = .returned (.tuple #[.slice A n c,.int .i64 r.2.1,.int .i64 (r.2.2:Nat)])∧Hid (n = r.1.length∧RowAt w' 3 A n c (vin17 r.1)∧∀ k,k ∈ rowT A→w.heap.size≤k)
end
section
open Go.RowKit Go.BigFrame NT
theorem NT.In.low17 {B:Nat} {w w':World} {t:NT} (h:t.In w (·< B)) (hb:Below B w w'):t.In w' (·< B):=h.same (fun _ hg => hg) fun g p hg => Below.cell (p:=⟨g,p,none⟩) hb hg
theorem NT.Row.low17 {B:Nat} {w w':World} {A:Option Addr} {c:Nat} {l:List NT} (h:Row w (·< B) A c l) (hb:Below B w w'):Row w' (·< B) A c l:=h.same (fun _ hg => hg) fun g p hg => Below.cell (p:=⟨g,p,none⟩) hb hg
def DM (x:NT):Prop:=∀ (r B:Nat) (w:World) (N:Option Addr) (cn:Nat) (D:Option Addr) (cd:Nat) (E:Option Addr) (m ce:Nat) (ns:List ByteArray) (ads es:List Nat) (a:Nat),x.In w (·< B)→B≤r→Cm r w N cn D cd E m ce ns ads es→ns.length = ads.length→prn x≤es.length→a + siz x≤90000 →
 Calls Tryz.prog 71 #[.pointer (some ⟨r,0,none⟩),nV17 x,.int .i64 (a:Nat)] w (DcP (nodeC (adZ ns ads) a es x) r w N cn D cd ns ads)
structure DlAt (r:Nat) (w wr:World) (N:Option Addr) (cn:Nat) (D:Option Addr) (cd:Nat) (ns:List ByteArray) (ads:List Nat) (A:Option Addr) (q c:Nat) (E:Option Addr) (m ce:Nat) (ck:CE):Prop where
 ir:Ir w wr A c ck.1
 q:ck.1.length = q
 only:Only [r] w wr
 cm:Cm r wr N cn D cd E m ce ns ads ck.2
theorem sizs_take17 {l:List NT} {i:Nat} {x:NT} (h:l[i]? = some x):sizs (l.take i) + siz x≤sizs l∧prns (l.take i) + prn x≤prns l:=by
 have hi:=(List.getElem?_eq_some_iff.1 h)
 have e:l = l.take i ++ x :: l.drop (i + 1):=by
  obtain ⟨h1,h2⟩:=hi
  conv => lhs;rw [← List.take_append_drop i l,List.drop_eq_getElem_cons h1,h2]
 have h1:=congrArg sizs e
 have h2:=congrArg prns e
 rw [sizs_append,sizs_cons] at h1
 rw [prns_append,prns_cons] at h2
 omega
theorem dlist_row (l:List NT) (ih:∀ x ∈ l,DM x) (r B:Nat) (w:World) (N:Option Addr) (cn:Nat) (D:Option Addr) (cd:Nat) (ns:List ByteArray) (ads:List Nat) (X:Option Addr) (c0:Nat) (hB:B≤r) (hX:Row w (·< B) X c0 l) (hna:ns.length = ads.length):DLc r B w N cn D cd ns ads X c0 l:=by
 intro w' E m ce es a hbw hC hp ha
 replace hX:=hX.low17 hbw
 clear hbw w
 revert w'
 intro w hC hX
 obtain ⟨n,hn⟩:∃ n,n = l.length:=⟨_,rfl⟩
 have hn5:=hX.len
 rw [← hn] at hn5 ⊢
 have HX:=hid hX
 have HI:=hid ih
 have HN:=hid hn
 have HP:=hid hp
 have HA:=hid ha
 have HBR:=hid hB
 have HNA:=hid hna
 have HRL:=hid hC.blk.lt
 obtain ⟨R,hR⟩:∃ R,R = listC (adZ ns ads) a es l:=⟨_,rfl⟩
 rw [← hR]
 have HR:=hid hR
 have HST:=hid (show DlAt r w w N cn D cd ns ads none 0 0 E m ce (listC (adZ ns ads) a es (l.take 0)) by rw [List.take_zero,listC_nil];exact ⟨⟨KRow.nil _ _ _ _,by simp [rowT]⟩,rfl,Only.refl _ _,hC⟩)
 have ha9:a≤90000:=by omega
 clear hX ih hn hp ha hB hna hC hR
 go_enter Tryz.func46,Tryz.ntmps46
 go_wp2_with fail
 go_loopw [7,8] (fun s7 s8 wr => ∃ (i:Nat) (A:Option Addr) (q c:Nat) (E':Option Addr) (m' ce':Nat),i≤n∧s8 = .int .i64 i∧s7 = .slice A q c∧Hid (DlAt r w wr N cn D cd ns ads A q c E' m' ce' (listC (adZ ns ads) a es (l.take i)))) (fun _ s8 _ => n - (intOf s8).toNat)
 case atStart => exact ⟨0,none,0,0,E,m,ce,Nat.zero_le _,rfl,rfl,HST⟩
 case round =>
  obtain ⟨i,A,q,c,E',m',ce',hin,rfl,rfl,HL⟩:=hrel
  by_cases hlt:i < n
  ·have hxt:=List.getElem?_eq_getElem (l:=l) (i:=i) (by have:=HN.out;omega)
   generalize l[i]'(by have:=HN.out;omega) = x at hxt
   have hxm:=List.mem_of_getElem? hxt
   obtain ⟨g0,o,hAA,hg,hc,hxin⟩:=HX.out.at_ hxt
   subst hAA
   obtain ⟨hs1,hs2⟩:=sizs_take17 hxt
   have hok:=listC_ok (adZ ns ads) (l.take i) a es
   have hq:q = sizs (l.take i):=by rw [← HL.out.q,hok.len]
   have hbe:Below B w wr:=HL.out.only.to_below (by have:=HRL.out;have:=HBR.out;omega) (by simp;exact HBR.out)
   obtain ⟨T,hT⟩:∃ T,T = a + q:=⟨_,rfl⟩
   have hcall:=HI.out x hxm r B wr N cn D cd E' m' ce' ns ads _ T (hxin.low17 hbe) HBR.out HL.out.cm HNA.out (by have:=HP.out;rw [hok.es,List.length_drop];omega) (by have:=HA.out;omega)
   have htk:=listC_take (ad:=adZ ns ads) hxt a es
   have hcl:=(nodeC_ok (adZ ns ads) x T (listC (adZ ns ads) a es (l.take i)).2).len
   have e1:(a:Int) + (q:Int) = (T:Int):=by omega
   have b1:T≤95000:=by have:=HA.out;omega
   unfold seqC at htk
   dsimp only at htk
   rw [HL.out.q,← hT] at htk
   obtain ⟨cx,hcx⟩:∃ cx,cx = nodeC (adZ ns ads) T (listC (adZ ns ads) a es (l.take i)).2 x:=⟨_,rfl⟩
   rw [← hcx] at hcall htk hcl
   obtain ⟨n1,hn1⟩:∃ n1,n1 = cx.1.length:=⟨_,rfl⟩
   unfold DcP at hcall
   rw [← hn1] at hcall
   have HC1:=hid hcall
   have HTK:=hid htk
   have HL1:=hid hn1
   have HLA:=hid (show q + cx.1.length≤100000 by have:=HA.out;omega)
   obtain ⟨b0,b1',b2,b3,b4,b5,b6,b7⟩:=(hc.same (w':=wr) fun p => Below.cell (p:=⟨g0,p,none⟩) hbe hg).all
   clear hxt hxm hg hc hxin hs1 hs2 hok hq hbe hT hcall htk hcl hcx hn1
   go_wp2_with (first
    | (go_at_call 71;((with_reducible refine (HC1.out).mono ?_);rintro e w2 ⟨A1,c1,E1,m1,ce1,rfl,hI,hO,hC2⟩;have HJ:=hid (HL.out.ir.only hO.out (fun k hk hm => by rw [List.mem_singleton] at hm;subst hm;exact HL.out.ir.ne HRL.out hk));have HQ:=hid HL.out.q;have HS:=hid hI.out.src_of;have HO:=hid (HL.out.only.trans hO.out);have HC2:=hC2;have HZ:=hid (HL.out.only.trans hO.out).size;clear hI hO hC2))
    | ((with_reducible refine wp_ins (n:=q) rfl (.tmp 15) (.tmp 25) rfl HJ.out HQ.out rfl A1 c1 cx.1 n1 HL1.out.symm rfl HS.out HLA.out (q + n1) rfl HZ.out ?_);intro A3 c3 w3 HI3 HO3))
   go_roundw
   case rel =>
    refine ⟨i + 1,A3,q + n1,c3,E1,m1,ce1,by omega,by go_num,rfl,hid ?_⟩
    rw [HTK.out]
    exact ⟨HI3.out,by show (_ ++ cx.1).length = _;rw [List.length_append,HQ.out,HL1.out],ir_only HO.out HJ.out HO3.out,HC2.out.ins HJ.out HO3.out⟩
   case measure => simp [intOf];omega
  ·obtain rfl:i = n:=by omega
   have HF:=hid (show DlAt r w wr N cn D cd ns ads A q c E' m' ce' R by have h:=HL.out;rwa [HN.out,List.take_length,← HR.out] at h)
   go_wp2_with fail
   go_ret
   exact ⟨A,c,E',m',ce',by rw [HF.out.q];rfl,hid HF.out.ir,hid HF.out.only,hid HF.out.cm⟩
theorem dnode_all (x:NT):DM x:=by
 refine NT.ind (M:=DM) (fun t h1 h2 => ?_) x
 intro r B w N cn D cd E m ce ns ads es a ht hB hC hna hp ha
 have hb:=dlist_row t.b h1 r B w N cn D cd ns ads _ _ hB ht.body hna
 have hl:=dlist_row t.l h2 r B w N cn D cd ns ads _ _ hB ht.els hna
 rw [prn_eq] at hp
 rw [siz_eq] at ha
 by_cases h0:t.k = 0
 ·exact dn_text t a hC h0
 by_cases h1:t.k = 1
 ·exact dn_print t a hC h1 (by rw [if_pos h1] at hp;exact hp)
 by_cases h2:t.k = 2
 ·rw [if_neg h1,if_pos h2] at hp
  rw [if_pos h2] at ha
  by_cases he:t.e = true
  ·rw [if_pos he] at hp ha
   exact dn_if1 t a hC h2 he hB hb hl hp (by omega)
  ·rw [if_neg he] at hp ha
   exact dn_if0 t a hC h2 (by simpa using he) hB hb (by omega) (by omega)
 by_cases h3:t.k = 3
 ·rw [if_neg h1,if_neg h2,if_pos h3] at hp
  rw [if_neg h2,if_pos h3] at ha
  exact dn_range t a hC h3 hp (by omega) hB hb
 by_cases h4:t.k = 4
 ·exact dn_call t a hC h4 hna
 by_cases h5:t.k = 5
 ·exact dn_flush t a hC h5
 ·exact dn_other t a hC ⟨h0,h1,h2,h3,h4,h5⟩
theorem dlist_c {l:List NT} {r B:Nat} {w:World} {X:Option Addr} {c0:Nat} (hB:B≤r) (hX:Row w (·< B) X c0 l) (N:Option Addr) (cn:Nat) (D:Option Addr) (cd:Nat) {ns:List ByteArray} {ads:List Nat} (hna:ns.length = ads.length):DLc r B w N cn D cd ns ads X c0 l :=
 dlist_row l (fun x _ => dnode_all x) r B w N cn D cd ns ads X c0 hB hX hna
end
section
open Go.RowKit Go.BigFrame NT
abbrev CoC (l:List NT) (A:Option Addr) (c:Nat) (w:World):Prop:=Calls Tryz.prog 22 #[.slice A l.length c] w (CdP (codeN l) w)
theorem rcode_check {l:List NT} {A:Option Addr} {c:Nat} {w:World} (hA:Row w (Lt w) A c l) (ht:tots l≤100000) (hk:(checkN l).2 ≠ 0):CoC l A c w:=by
 have HCK:=hid (rcheck14_c hA ht)
 have hn5:=hA.len
 have hR:codeN l = ([],checkN l):=by unfold codeN;rw [if_pos hk]
 unfold CoC
 rw [hR]
 generalize checkN l = R at hk HCK
 obtain ⟨a,k⟩:=R
 dsimp only at hk HCK
 have hk1:((k:Int) != 0) = true:=bne_iff_ne.2 (by omega)
 clear hA ht hR hk
 go_enter Tryz.func22,Tryz.ntmps22
 go_wp2_with (go_at_call 42;((with_reducible refine (HCK.out).mono ?_);rintro e w2 ⟨rfl,hb⟩;have HB:=hid hb;clear hb))
 go_ret3
 exact CdP.nil rfl HB.out
theorem rcode_infer {l:List NT} {A:Option Addr} {c:Nat} {w:World} (hA:Row w (Lt w) A c l) (ht:tots l≤100000) (hk0:(checkN l).2 = 0) (hk:(inferI l).2.2 ≠ 0)
  (hI:∀ W,Row W (Lt W) A c l→Calls Tryz.prog 43 #[.slice A l.length c] W (InQ (inferI l) W)):CoC l A c w:=by
 have HCK:=hid (rcheck14_c hA ht)
 have HA:=hid hA
 have HI:=hid hI
 have hn5:=hA.len
 have hR:codeN l = ([],(inferI l).2):=by unfold codeN;rw [if_neg (by simpa using hk0),if_pos hk]
 unfold CoC
 rw [hR]
 generalize checkN l = R at hk0 HCK
 generalize inferI l = I at hk HI
 obtain ⟨a,k⟩:=R
 obtain ⟨es,b,m⟩:=I
 dsimp only at hk0 hk HCK HI
 subst hk0
 have hk1:((m:Int) != 0) = true:=bne_iff_ne.2 (by omega)
 clear hA ht hR hk hI
 go_enter Tryz.func22,Tryz.ntmps22
 go_wp2_with (first
  | (go_at_call 42;((with_reducible refine (HCK.out).mono ?_);rintro e w2 ⟨rfl,hb⟩;have HB:=hid hb;clear hb))
  | (go_at_call 43;((with_reducible refine (HI.out _ (HA.out.bel HB.out)).mono ?_);rintro e w3 ⟨hb,A3,n3,c3,rfl,hE⟩;have HB3:=hid (HB.out.trans hb);clear hb hE)))
 go_ret3
 exact CdP.nil rfl HB3.out
end
section
open Go.RowKit Go.BigFrame NT
def Bs17 (w:World) (E0:Option Addr) (Bo:Option Addr) (cb:Nat) (bl:List (List Nat)):Prop:=∃ bs:List Value,RowAt w 42 Bo bl.length cb bs∧∀ (j:Nat) (b:List Nat),bl[j]? = some b→∃ A c,bs[j]? = some (Value.slice A b.length c)∧RowAt w 3 A b.length c (vin17 b)∧∀ k,k ∈ rowT A→k ∈ rowT E0
structure CoR (r:Nat) (w wr:World) (E0:Option Addr) (E:Option Addr) (ce:Nat) (el:List Nat) (M:Option Addr) (cm:Nat) (ml:List Nat) (Bo:Option Addr) (cb:Nat) (bl:List (List Nat)) (N:Option Addr) (cn:Nat) (ns:List ByteArray) (D:Option Addr) (cd:Nat) (ads:List Nat):Prop where
 bel:Bel w wr
 rl:w.heap.size≤r
 blk:Blk wr r 114 [.slice N ns.length cn,.slice D ads.length cd,.slice none 0 0]
 rn:RowAt wr 9 N ns.length cn (vst ns)
 ra:RowAt wr 3 D ads.length cd (vin17 ads)
 re:RowAt wr 3 E el.length ce (vin17 el)
 rm:RowAt wr 3 M ml.length cm (vin17 ml)
 rb:Bs17 wr E0 Bo cb bl
 eE:∀ k,k ∈ rowT E→k ∈ rowT E0
 eL:∀ k,k ∈ rowT E0→k < wr.heap.size
 oN:∀ k,k ∈ rowT N→w.heap.size≤k
 oD:∀ k,k ∈ rowT D→w.heap.size≤k
 oM:∀ k,k ∈ rowT M→w.heap.size≤k
 oB:∀ k,k ∈ rowT Bo→w.heap.size≤k
 mE:∀ k,k ∈ rowT M→k ∉ rowT E0
 dE:∀ k,k ∈ rowT D→k ∉ rowT E0
 dM:∀ k,k ∈ rowT D→k ∉ rowT M
theorem Bs17.keep {w w':World} {E0 Bo:Option Addr} {cb:Nat} {bl:List (List Nat)} (h:Bs17 w E0 Bo cb bl) {S:List Nat} (ho:Only S w w') (h1:∀ k,k ∈ rowT Bo→k ∉ S) (h2:∀ k,k ∈ rowT E0→k ∉ S):Bs17 w' E0 Bo cb bl:=by
 obtain ⟨bs,hb,hj⟩:=h
 refine ⟨bs,hb.only ho h1,fun j b hb => ?_⟩
 obtain ⟨A,c,e1,e2,e3⟩:=hj j b hb
 exact ⟨A,c,e1,e2.only ho fun k hk => h2 k (e3 k hk),e3⟩
theorem Bs17.row {w:World} {E0 Bo:Option Addr} {cb:Nat} {bl:List (List Nat)} (h:Bs17 w E0 Bo cb bl) {e:TypeId} {A:Option Addr} {n c:Nat} {xs:List Value} (hr:RowAt w e A n c xs) (he:e ≠ 42):(∀ k,k ∈ rowT Bo→k ∉ rowT A)∧∀ k,k ∈ rowT A→k ∉ rowT Bo:=by
 obtain ⟨bs,hb,_⟩:=h
 exact ⟨hb.ne hr (Ne.symm he),hr.ne hb he⟩
section
variable {r:Nat} {w wr w1 w2:World} {E0 E:Option Addr} {ce:Nat} {el:List Nat} {M:Option Addr} {cm:Nat} {ml:List Nat} {Bo:Option Addr} {cb:Nat} {bl:List (List Nat)} {N:Option Addr} {cn:Nat} {ns:List ByteArray} {D:Option Addr} {cd:Nat} {ads:List Nat}
theorem CoR.later (h:CoR r w wr E0 E ce el M cm ml Bo cb bl N cn ns D cd ads) (hb:Bel wr w1):CoR r w w1 E0 E ce el M cm ml Bo cb bl N cn ns D cd ads:=by
 have ho:=bel_only hb
 have no:∀ (A:Option Addr) (k:Nat),k ∈ rowT A→k ∉ ([]:List Nat):=fun _ _ _ h => by cases h
 exact ⟨h.bel.trans hb,h.rl,h.blk.bel hb,h.rn.only ho (no _),h.ra.only ho (no _),h.re.only ho (no _),h.rm.only ho (no _),h.rb.keep ho (no _) (no _),h.eE,fun k hk => Nat.lt_of_lt_of_le (h.eL k hk) hb.size,h.oN,h.oD,h.oM,h.oB,h.mE,h.dE,h.dM⟩
theorem CoR.eNS (h:CoR r w wr E0 E ce el M cm ml Bo cb bl N cn ns D cd ads) {S:List Nat} (hS:∀ k,k ∈ rowT E0→k ∉ S):∀ k,k ∈ rowT E→k ∉ S:=fun k hk => hS k (h.eE k hk)
theorem only_bel17 (hb:Bel w wr) {S:List Nat} (ho:Only S wr w1) (hS:∀ k,k ∈ S→w.heap.size≤k):Bel w w1:=Only.below hb ho hb.size hS
theorem CoR.main (h:CoR r w wr E0 E ce el M cm ml Bo cb bl N cn ns D cd ads) {M':Option Addr} {c':Nat} {x:List Nat} (hr:RowAt w1 3 M' (ml ++ x).length c' (vin17 (ml ++ x))) (ho:Only (rowT M) wr w1) (hk:∀ k,k ∈ rowT M'→k ∈ rowT M ∨ wr.heap.size≤k) :
  CoR r w w1 E0 E ce el M' c' (ml ++ x) Bo cb bl N cn ns D cd ads:=by
 have hEM:∀ k,k ∈ rowT E0→k ∉ rowT M:=fun k h1 h2 => h.mE k h2 h1
 have hrM:=h.rm.ne_blk h.blk (by decide)
 refine ⟨only_bel17 h.bel ho h.oM,h.rl,h.blk.only ho hrM,h.rn.only ho (h.rn.ne h.rm (by decide)),h.ra.only ho h.dM,h.re.only ho (h.eNS hEM),hr,h.rb.keep ho (h.rb.row h.rm (by decide)).1 hEM,h.eE,fun k hk => Nat.lt_of_lt_of_le (h.eL k hk) ho.size,h.oN,h.oD,fun k hm => ?_,h.oB,fun k hm he => ?_,h.dE,fun k hd hm => ?_⟩
 ·rcases hk k hm with g | g
  ·exact h.oM k g
  ·exact Nat.le_trans h.bel.size g
 ·rcases hk k hm with g | g
  ·exact h.mE k g he
  ·have:=h.eL k he;omega
 ·rcases hk k hm with g | g
  ·exact h.dM k hd g
  ·have:=h.ra.lt k hd;omega
theorem CoR.cut (h:CoR r w wr E0 E ce el M cm ml Bo cb bl N cn ns D cd ads) (k:Nat) (hk:k≤el.length):CoR r w wr E0 (cutA ce k 1 E) (ce - k) (el.drop k) M cm ml Bo cb bl N cn ns D cd ads :=
 ⟨h.bel,h.rl,h.blk,h.rn,h.ra,by have:=h.re.cut k hk;rwa [← vin17_drop,← List.length_drop] at this,h.rm,h.rb,by rw [rowT_cut];exact h.eE,h.eL,h.oN,h.oD,h.oM,h.oB,h.mE,h.dE,h.dM⟩
theorem CoR.bodies (h:CoR r w wr E0 E ce el M cm ml Bo cb bl N cn ns D cd ads) {k:Nat} (hkl:k≤el.length) {B':Option Addr} {c':Nat} {bs:List Value} (hbs:∀ (j:Nat) (b:List Nat),bl[j]? = some b→∃ A c,bs[j]? = some (Value.slice A b.length c)∧RowAt wr 3 A b.length c (vin17 b)∧∀ k,k ∈ rowT A→k ∈ rowT E0)
  (hl:bs.length = bl.length) (hr:RowAt w1 42 B' (bl.length + 1) c' (bs ++ [Value.slice E k ce])) (ho:Only (rowT Bo) wr w1) (hk:∀ k,k ∈ rowT B'→k ∈ rowT Bo ∨ wr.heap.size≤k) :
  CoR r w w1 E0 E ce el M cm ml B' c' (bl ++ [el.take k]) N cn ns D cd ads:=by
 obtain ⟨bs0,hb0,_⟩:=h.rb
 have hrB:=hb0.ne_blk h.blk (by decide)
 refine ⟨only_bel17 h.bel ho h.oB,h.rl,h.blk.only ho hrB,h.rn.only ho (h.rn.ne hb0 (by decide)),h.ra.only ho (h.ra.ne hb0 (by decide)),h.re.only ho (h.re.ne hb0 (by decide)),h.rm.only ho (h.rm.ne hb0 (by decide)),⟨bs ++ [Value.slice E k ce],by rw [List.length_append];exact hr,fun j b hj => ?_⟩,h.eE,fun k hk => Nat.lt_of_lt_of_le (h.eL k hk) ho.size,h.oN,h.oD,h.oM,fun q hq => ?_,h.mE,h.dE,h.dM⟩
 ·rw [List.getElem?_append] at hj
  split at hj
  ·rename_i hlt
   obtain ⟨A,c,e1,e2,e3⟩:=hbs j b hj
   exact ⟨A,c,by rw [List.getElem?_append_left (by omega)];exact e1,e2.only ho (e2.ne hb0 (by decide)),e3⟩
  ·rename_i hlt
   have h0:j - bl.length = 0:=by
    have:=(List.getElem?_eq_some_iff.1 hj).1
    simp at this
    omega
   rw [h0] at hj
   injection hj with hj
   subst hj
   have hlen:(el.take k).length = k:=by rw [List.length_take,Nat.min_eq_left hkl]
   refine ⟨E,ce,?_,?_,h.eE⟩
   ·rw [List.getElem?_append_right (by omega),hl,h0,hlen]
    rfl
   ·rw [hlen]
    have:=(h.re.only ho (h.re.ne hb0 (by decide))).first k hkl
    rwa [← vin17_take] at this
 ·rcases hk q hq with g | g
  ·exact h.oB q g
  ·exact Nat.le_trans h.bel.size g
theorem CoR.names (h:CoR r w wr E0 E ce el M cm ml Bo cb bl N cn ns D cd ads) {N':Option Addr} {c':Nat} {nm:ByteArray} (hr:RowAt w1 9 N' (ns.length + 1) c' (vst ns ++ [.string nm])) (ho:Only (rowT N) wr w1) (hk:∀ k,k ∈ rowT N'→k ∈ rowT N ∨ wr.heap.size≤k) :
  CoR r w (w1.setCell ⟨r,0,none⟩ (.slice N' (ns.length + 1) c')) E0 E ce el M cm ml Bo cb bl N' c' (ns ++ [nm]) D cd ads:=by
 obtain ⟨bs0,hb0,hbj⟩:=h.rb
 have hrN:=h.rn.ne_blk h.blk (by decide)
 have hb1:=h.blk.only ho hrN
 have hb2:=hb1.set_ 0 (.slice N' (ns.length + 1) c')
 have hS1:∀ {e:TypeId} {A:Option Addr} {n c:Nat} {xs:List Value},RowAt w1 e A n c xs→e ≠ 114→RowAt (w1.setCell ⟨r,0,none⟩ (.slice N' (ns.length + 1) c')) e A n c xs:=fun hA he => hA.far (hA.ne_blk hb1 (Ne.symm he)) _
 have hO2:Only [r] w1 (w1.setCell ⟨r,0,none⟩ (.slice N' (ns.length + 1) c')):=(Only.refl [r] w1).setCell (.inl (by simp)) _
 have hsz:=hO2.size
 refine ⟨only_bel17 (only_bel17 h.bel ho h.oN) hO2 (by simpa using h.rl),h.rl,?_,?_,hS1 (h.ra.only ho (h.ra.ne h.rn (by decide))) (by decide),hS1 (h.re.only ho (h.re.ne h.rn (by decide))) (by decide),hS1 (h.rm.only ho (h.rm.ne h.rn (by decide))) (by decide),⟨bs0,hS1 (hb0.only ho (hb0.ne h.rn (by decide))) (by decide),fun j b hj => ?_⟩,h.eE,fun k hk => Nat.lt_of_lt_of_le (h.eL k hk) (Nat.le_trans ho.size hsz),fun q hq => ?_,h.oD,h.oM,h.oB,h.mE,h.dE,h.dM⟩
 ·rw [List.length_append]
  exact hb2
 ·rw [List.length_append]
  have:=hS1 hr (by decide)
  unfold vst
  rw [List.map_append]
  exact this
 ·obtain ⟨A,c,e1,e2,e3⟩:=hbj j b hj
  exact ⟨A,c,e1,hS1 (e2.only ho (e2.ne h.rn (by decide))) (by decide),e3⟩
 ·rcases hk q hq with g | g
  ·exact h.oN q g
  ·exact Nat.le_trans h.bel.size g
theorem CoR.addrs (h:CoR r w wr E0 E ce el M cm ml Bo cb bl N cn ns D cd ads) {D':Option Addr} {c':Nat} {a:Nat} (hr:RowAt w1 3 D' (ads.length + 1) c' (vin17 ads ++ [.int .i64 (a:Nat)])) (ho:Only (rowT D) wr w1) (hk:∀ k,k ∈ rowT D'→k ∈ rowT D ∨ wr.heap.size≤k) :
  CoR r w (w1.setCell ⟨r,1,none⟩ (.slice D' (ads.length + 1) c')) E0 E ce el M cm ml Bo cb bl N cn ns D' c' (ads ++ [a]):=by
 obtain ⟨bs0,hb0,hbj⟩:=h.rb
 have hrD:=h.ra.ne_blk h.blk (by decide)
 have hb1:=h.blk.only ho hrD
 have hb2:=hb1.set_ 1 (.slice D' (ads.length + 1) c')
 have hS1:∀ {e:TypeId} {A:Option Addr} {n c:Nat} {xs:List Value},RowAt w1 e A n c xs→e ≠ 114→RowAt (w1.setCell ⟨r,1,none⟩ (.slice D' (ads.length + 1) c')) e A n c xs:=fun hA he => hA.far (hA.ne_blk hb1 (Ne.symm he)) _
 have hO2:Only [r] w1 (w1.setCell ⟨r,1,none⟩ (.slice D' (ads.length + 1) c')):=(Only.refl [r] w1).setCell (.inl (by simp)) _
 have hsz:=hO2.size
 have hED:∀ k,k ∈ rowT E0→k ∉ rowT D:=fun k h1 h2 => h.dE k h2 h1
 have hMD:∀ k,k ∈ rowT M→k ∉ rowT D:=fun k h1 h2 => h.dM k h2 h1
 refine ⟨only_bel17 (only_bel17 h.bel ho h.oD) hO2 (by simpa using h.rl),h.rl,?_,hS1 (h.rn.only ho (h.rn.ne h.ra (by decide))) (by decide),?_,hS1 (h.re.only ho (h.eNS hED)) (by decide),hS1 (h.rm.only ho hMD) (by decide),⟨bs0,hS1 (hb0.only ho (hb0.ne h.ra (by decide))) (by decide),fun j b hj => ?_⟩,h.eE,fun k hk => Nat.lt_of_lt_of_le (h.eL k hk) (Nat.le_trans ho.size hsz),h.oN,fun q hq => ?_,h.oM,h.oB,h.mE,fun q hq he => ?_,fun q hq hm => ?_⟩
 ·rw [List.length_append]
  exact hb2
 ·rw [List.length_append,vin17_append]
  exact hS1 hr (by decide)
 ·obtain ⟨A,c,e1,e2,e3⟩:=hbj j b hj
  exact ⟨A,c,e1,hS1 (e2.only ho fun k hk => hED k (e3 k hk)) (by decide),e3⟩
 ·rcases hk q hq with g | g
  ·exact h.oD q g
  ·exact Nat.le_trans h.bel.size g
 ·rcases hk q hq with g | g
  ·exact h.dE q g he
  ·have:=h.eL q he;omega
 ·rcases hk q hq with g | g
  ·exact h.dM q g hm
  ·have:=h.rm.lt q hm;omega
end
end
section
open Go.RowKit Go.BigFrame NT
theorem As.esc {Q:Nat→Prop} {rr:Nat} {w:World} {v:AV} (h:As Q rr w v) {A:Option Addr} {n c:Nat} {es:List Nat} (hn:n = es.length) (hE:RowAt w 3 A n c (vin es)) :
  Ev17 Q rr w v (w.setCell ⟨rr,1,none⟩ (.slice A n c)) { v with E:=A,ce:=c,es:=es }:=by
 subst hn
 have hO:Only [rr] w (w.setCell ⟨rr,1,none⟩ (.slice A es.length c)):=(Only.refl _ _).setCell (.inl (by simp)) _
 refine ⟨⟨h.blk.set_ 1 (.slice A es.length c),?_,?_,?_,fun g hg => ⟨by have:=hO.size;have:=(h.fr g hg).1;omega,(h.fr g hg).2⟩⟩,hO.more (fun k hk => by rw [List.mem_singleton] at hk;simp [hk]),fun k hk => .inl hk,fun k hk => .inl hk⟩
 ·exact h.code.only hO (fun k hk hm => by rw [List.mem_singleton] at hm;subst hm;exact h.ne_ra hk)
 ·exact hE.only hO (fun k hk hm => by
   rw [List.mem_singleton] at hm
   subst hm
   exact hE.ne_blk h.blk (by decide) hk)
 ·exact h.calls.only hO (fun k hk hm => by rw [List.mem_singleton] at hm;subst hm;exact h.ne_rk hk)
section
variable {Q:Nat→Prop} {rr:Nat} {w:World} {v:AV}
theorem part_c {l:List NT} {X:Option Addr} {c0:Nat} (op:Nat) (h:As Q rr w v) (hX:Row w Q X c0 l) (hw:∀ x,x ∈ l→∃ n,Wk n x) (ht:tots l≤100000) {es:List Nat} (hi:inferI l = (es,0,0)) (hm:prns l≤es.length) (hle:v.L.length + sizs l≤80000) (hkl:v.ks.length + sizs l≤80000) :
  Calls Tryz.prog 40 #[.pointer (some ⟨rr,0,none⟩),.slice X l.length c0,.int .i64 (op:Nat)] w
   (AsP Q rr w v (.tuple #[]) (v.L ++ ((listC Z0 v.L.length es l).1 ++ [⟨op,eB,eB,false,0,0⟩])) (listC Z0 v.L.length es l).2 (v.ks ++ listK v.L.length l)):=by
 obtain ⟨n,hn⟩:∃ n,n = l.length:=⟨_,rfl⟩
 have hn5:=hX.len
 have HIN:=hid (infer_c (hX.same (Q':=Lt w) (fun g hg => (h.fr g hg).1) (fun _ _ _ => rfl)) ht)
 have HX:=hid hX
 have HLI:=hid (fun (W:World) (v':AV) (h':As Q rr W v') (hr:Row W Q X c0 l) => plist17_c h' hr hw)
 have HAD:=hid (fun W v' (h':As Q rr W v') (hle':v'.L.length + 1≤100000) => show Calls Tryz.prog 67 #[.pointer (some ⟨rr,0,none⟩),.agg #[.int .i64 (op:Nat),.string ⟨#[]⟩,.string ⟨#[]⟩,.bool false,.int .i64 0,.int .i64 0]] W (AsP Q rr W v' (.int .i64 (v'.L.length:Nat)) (v'.L ++ [⟨op,eB,eB,false,0,0⟩]) v'.es v'.ks) from add_c h' ⟨op,eB,eB,false,0,0⟩ hle')
 have HA:=hid h
 have HOK:=hid (listC_ok Z0 l v.L.length es)
 have HM:=hid hm
 have HLE:=hid hle
 have HKL:=hid hkl
 rw [hi] at HIN
 unfold PlC at HLI
 rw [← hn] at hn5 HIN HLI ⊢
 clear h hX hw ht hi hm hle hkl hn
 go_enter Tryz.func40,Tryz.ntmps40
 go_wp2_with (first
  | (go_at_call 17;((with_reducible refine HIN.out.mono ?_);rintro e w2 ⟨hb,A2,n2,c2,rfl,hE⟩;have HA2:=hid (HA.out.bel hb);have HE2:=hid ((Ev17.refl HA.out).bel hb);have HT2:=hid (HA2.out.esc hE.out.1 hE.out.2.1);have HE3:=hid (HE2.out.trans HT2.out);have g1:=HA2.out.blk.cell 1;have f1:=HA2.out.blk.free 1;clear hb hE))
  | (go_at_call 66;((with_reducible refine (HLI.out _ _ HE3.out.st (HE3.out.row HA.out HX.out) HM.out (by have:=HLE.out;show v.L.length + _≤_;omega) (by have:=HKL.out;show v.ks.length + _≤_;omega)).mono ?_);rintro e w4 ⟨rfl,v4,hE4,hS4⟩;have HE4:=hid (HE3.out.trans hE4.out);have hl4:v4.L.length≤80000:=(by rw [hS4.out.L,List.length_append];show v.L.length + (listC Z0 v.L.length es l).1.length≤_;rw [HOK.out.len];exact HLE.out)))
  | (go_at_call 67;((with_reducible refine (HAD.out w4 v4 hE4.out.st (by omega)).mono ?_);rintro e w5 ⟨rfl,v5,hE5,hS5⟩)))
 go_end0
 refine ⟨rfl,v5,hid (HE4.out.trans hE5.out),hid ⟨?_,?_,?_,?_⟩⟩
 ·rw [hS5.out.L,hS4.out.L,List.append_assoc]
 ·rw [hS5.out.es,hS4.out.es]
 ·rw [hS5.out.ks,hS4.out.ks]
 ·rw [hS5.out.M,hS4.out.M]
end
end
section
open Go.RowKit Go.BigFrame Go.Maps NT
theorem zeroBool14 (w:World):(zeroValue 4).run Tryz.prog w = .ok (.bool false) w:=by kernel_rfl
section
variable {w:World} {ops:Array Oper} {rest:List Oper} {o:Oper} {a:Act} {Q:Exit→Act→World→Prop}
theorem wp_lenF (hgd:o.guard = none) (m:Operand) (t:TypeId) (hop:o.op = Op.call { callee:=Callee.builtin Builtin.len,args:=#[m],argTypes:=#[t] }) (e:TypeId) (ht:Tryz.prog.underlying t = some (.map 9 e))
  (M n:Nat) (F:List ByteArray) (hm:a.eval m = .map (some M)) (h:SMap w M n (fF F)) (hn:F.Nodup) (k:Nat) (hk:F.length = k)
  (hK:wpList Tryz.prog ops Q rest (a.put o.dst (.int .i64 k)) w):wpList Tryz.prog ops Q (o :: rest) a w:=by
 obtain ⟨D,hown,hp⟩:=h.perm hn
 have hsz:Maps.size D = k:=by rw [size_strKeys,hp.length_eq,List.length_map,hk]
 rw [← hsz] at hK
 exact wpList_len_own _ hgd m t hop _ e ht RVal M n D hm hown hK
end
theorem fF_bool (F:List ByteArray) (k:ByteArray):(fF F k).getD (.bool false) = .bool (hasN F k):=by
 unfold fF
 cases hasN F k <;> rfl
theorem in_s14 {w:World} {Q:Nat→Prop} {x:NT} (h:x.In w Q):x.s.size≤maxLen:=by
 cases h with
 | mk _ _ _ hs _ _ _ _ _ => unfold reachBytes at hs;unfold maxLen;omega
theorem callN_in {w:World} {Q:Nat→Prop} (t:NT):t.In w Q→∀ x,x ∈ callN t→x.In w Q:=by
 refine NT.ind (M:=fun t => t.In w Q→∀ x,x ∈ callN t→x.In w Q) (fun t h1 h2 ht => ?_) t
 have key:∀ l:List NT,(∀ y,y ∈ l→y.In w Q)→(∀ y,y ∈ l→y.In w Q→∀ x,x ∈ callN y→x.In w Q)→∀ x,x ∈ callNs l→x.In w Q:=by
  intro l
  induction l with
  | nil => intro _ _ x hx;rw [callNs_nil] at hx;cases hx
  | cons y l ih =>
   intro hi hk x hx
   rw [callNs_cons] at hx
   rcases List.mem_append.1 hx with h | h
   ·exact hk y (by simp) (hi y (by simp)) x h
   ·exact ih (fun z hz => hi z (by simp [hz])) (fun z hz => hk z (by simp [hz])) x h
 intro x hx
 rw [callN_eq] at hx
 rcases List.mem_append.1 hx with h | h
 ·split at h
  ·rw [List.mem_singleton] at h;subst h;exact ht
  ·cases h
 ·rcases List.mem_append.1 h with h | h
  ·exact key _ ht.body.2 h1 x h
  ·exact key _ ht.els.2 h2 x h
theorem callNs_in {w:World} {Q:Nat→Prop} {A:Option Addr} {c:Nat} {l:List NT} (h:Row w Q A c l):∀ x,x ∈ callNs l→x.In w Q:=by
 obtain ⟨h0,h⟩:=h
 clear h0
 induction l with
 | nil => intro x hx;rw [callNs_nil] at hx;cases hx
 | cons y l ih =>
  intro x hx
  rw [callNs_cons] at hx
  rcases List.mem_append.1 hx with h1 | h1
  ·exact callN_in y (h y (by simp)) x h1
  ·exact ih (fun z hz => h z (by simp [hz])) x h1
def DupAt (D:List NT) (i:Nat):Prop:=dupN [] D = dupN ((D.take i).map NT.s) (D.drop i)∧((D.take i).map NT.s).Nodup
theorem DupAt.start (D:List NT):DupAt D 0:=⟨by simp,by simp⟩
theorem DupAt.at_ {D:List NT} {i:Nat} {x:NT} (h:DupAt D i) (hx:D[i]? = some x) :
  (hasN ((D.take i).map NT.s) x.s = true→dupN [] D = some (x.a,12)) ∧
  (hasN ((D.take i).map NT.s) x.s = false→i = 64→dupN [] D = some (x.a,14)) ∧
  (hasN ((D.take i).map NT.s) x.s = false→i ≠ 64→DupAt D (i + 1)):=by
 have hi:=(List.getElem?_eq_some_iff.1 hx).1
 have hd:D.drop i = x :: D.drop (i + 1):=by
  rw [List.drop_eq_getElem_cons hi]
  rw [List.getElem?_eq_getElem hi] at hx
  injection hx with hx
  rw [hx]
 have hl:((D.take i).map NT.s).length = i:=by rw [List.length_map,List.length_take];omega
 have h1:dupN [] D = (if hasN ((D.take i).map NT.s) x.s = true then some (x.a,12) else if ((D.take i).map NT.s).length = 64 then some (x.a,14) else dupN ((D.take i).map NT.s ++ [x.s]) (D.drop (i + 1))):=by rw [h.1,hd,dupN]
 rw [hl] at h1
 refine ⟨fun hh => ?_,fun hh h6 => ?_,fun hh h6 => ⟨?_,?_⟩⟩
 ·rw [h1,if_pos hh]
 ·rw [h1,if_neg (by rw [hh];decide),if_pos h6]
 ·rw [h1,if_neg (by rw [hh];decide),if_neg h6,NT.take_step hx,List.map_append]
  rfl
 ·rw [NT.take_step hx,List.map_append,List.nodup_append]
  refine ⟨h.2,by simp,fun a ha b hb e => ?_⟩
  simp only [List.map_cons,List.map_nil,List.mem_singleton] at hb
  subst hb
  subst e
  rw [hasN_iff.2 ha] at hh
  cases hh
theorem DupAt.end_ {D:List NT} {n:Nat} (h:DupAt D n) (hn:n = D.length):dupN [] D = none:=by
 rw [h.1,hn,List.drop_length]
 rfl
theorem bad_step {l cs:List NT} {i:Nat} {x:NT} (h:(cs.take i).find? (badCall l) = none) (hx:cs[i]? = some x):(badCall l x = true→cs.find? (badCall l) = some x)∧(badCall l x = false→(cs.take (i + 1)).find? (badCall l) = none):=by
 have hi:=(List.getElem?_eq_some_iff.1 hx).1
 have hl:cs = cs.take i ++ x :: cs.drop (i + 1):=by
  rw [List.getElem?_eq_getElem hi] at hx
  injection hx with hx
  conv => lhs;rw [← List.take_append_drop i cs,List.drop_eq_getElem_cons hi,hx]
 constructor
 ·intro hb
  rw [hl,List.find?_append,h,Option.none_or,List.find?_cons,hb]
 ·intro hb
  rw [NT.take_step hx,List.find?_append,h,Option.none_or,List.find?_cons,hb]
  rfl
theorem checkN_dupE {l:List NT} {r:Int × Nat} (h:dupN [] (defsN l) = some r):checkN l = r:=by unfold checkN;rw [h]
theorem checkN_badE {l:List NT} {t:NT} (h:dupN [] (defsN l) = none) (hb:(callNs l).find? (badCall l) = some t):checkN l = (t.a,11):=by unfold checkN;rw [h];dsimp only;rw [hb]
theorem checkN_okE {l:List NT} (h:dupN [] (defsN l) = none) (hb:(callNs l).find? (badCall l) = none):checkN l = (0,0):=by unfold checkN;rw [h];dsimp only;rw [hb]
theorem dcheckK_c {l:List NT} {A:Option Addr} {c:Nat} {w:World} (hA:Row w (Lt w) A c l) (ht:tots l≤5000) :
  Calls Tryz.prog 16 #[.slice A l.length c] w fun e w' => Bel w w'∧e = .returned (.tuple #[.int .i64 (checkN l).1,.int .i64 ((checkN l).2:Nat)]):=by
 have hll:l.length≤100000:=by have:=cnts_le_len l;have:=cnts_le l;omega
 have HSP:=hid (dsplit_c hA hll)
 have hdl:=defs_len l
 have HCA:=hid (fun W (hb:Bel w W) => dcalls_c (hA.bel hb) (show tots l≤100000 by omega))
 obtain ⟨D,hD⟩:∃ q,q = defsN l:=⟨_,rfl⟩
 rw [← hD] at hdl
 obtain ⟨n,hn⟩:∃ q,q = D.length:=⟨_,rfl⟩
 have hn5:n≤100000:=by omega
 have hkl:=callNs_len l
 have HKL:=hid (show (callNs l).length≤100000 by omega)
 have HKS:=hid (fun x (hx:x ∈ l) => in_s14 (hA.2 x hx))
 have HCK:=hid (fun x (hx:x ∈ callNs l) => in_s14 (callNs_in hA x hx))
 have HN:=hid hn
 have HD:=hid hD
 have hmm:=@run_makeMap Tryz.prog
 clear hA hn hD hdl ht hll hkl
 go_enter Tryz.func16,Tryz.ntmps16
 go_wp2_with (go_at_call 29;((with_reducible refine HSP.out.mono ?_);rintro e w1 ⟨A1,c1,B1,d1,rfl,HS1⟩;rw [← HD.out,← HN.out] at HS1 ⊢))
 have HM0:=hid (SMap.made w1)
 have HB0:=hid (Bel.alloc w1 (.map #[] 0))
 obtain ⟨M,hM⟩:∃ q,q = w1.heap.size:=⟨_,rfl⟩
 have HM:=hid hM
 rw [← hM] at HM0 ⊢
 clear hM hmm
 generalize w1.alloc (.map #[] 0) = w2 at HM0 HB0 ⊢
 go_loopw [19] (fun s19 wr => ∃ i:Nat,i≤n∧s19 = .int .i64 i∧Hid (DupAt D i)∧Hid (SMap wr M i (fF ((D.take i).map NT.s)))∧Hid (Bel w1 wr)) (fun s19 _ => n - (intOf s19).toNat)
 case atStart => exact ⟨0,Nat.zero_le _,rfl,hid (DupAt.start D),hid (HM0.out.congr fun k => fF_nil k),HB0⟩
 case round =>
  obtain ⟨i,hi,rfl,HDU,HMP,HBW⟩:=hrel
  by_cases hlt:i < n
  ·obtain ⟨x,hx⟩:∃ x,D[i]? = some x:=⟨_,List.getElem?_eq_getElem (by have:=HN.out;omega)⟩
   have hxl:x ∈ l:=(defs_mem (l:=l) (by rw [← HD.out];exact List.mem_of_getElem? hx)).1
   obtain ⟨g,o,hAA,hg,hcc⟩:=(HS1.out.a.row.only (bel_only HBW.out) (by simp)).at_ NT.cs_len hx (by decide)
   subst hAA
   obtain ⟨a0,a1,a2,a3,a4,a5,a6,a7⟩:=Cells.all (t:=x) hcc
   have HBA:=hid (Bel.alloc wr (.cells #[.int .i64 x.k,.int .i64 x.a,.string x.s,.string x.p,.bool x.h,.bool x.e,.slice x.A x.b.length x.c,.slice x.B x.l.length x.d] 69))
   have HXS:=hid (HKS.out x hxl)
   have HAT:=hid (HDU.out.at_ hx)
   have HMA:=hid (HMP.out.alloc (.cells #[.int .i64 x.k,.int .i64 x.a,.string x.s,.string x.p,.bool x.h,.bool x.e,.slice x.A x.b.length x.c,.slice x.B x.l.length x.d] 69))
   have HST:=hid (show (D.take (i + 1)).map NT.s = (D.take i).map NT.s ++ [x.s] by rw [NT.take_step hx,List.map_append];rfl)
   have HND:=hid HDU.out.2
   have HLE:=hid (show ((D.take i).map NT.s).length = i by rw [List.length_map,List.length_take];have:=HN.out;omega)
   have HDE:=hid (show ∀ r,dupN [] D = some r→checkN l = r from fun r h => checkN_dupE (by rw [← HD.out];exact h))
   have HBF:=hid (HS1.out.a.bel.trans (HBW.out.trans HBA.out))
   clear hx hxl hg hcc
   cases hh:hasN ((D.take i).map NT.s) x.s with
   | true =>
    have HE:=hid (HDE.out _ (HAT.out.1 hh))
    have HV:=hid (show (fF ((D.take i).map NT.s) x.s).getD (.bool false) = .bool true by rw [fF_bool,hh])
    clear hh
    go_wp2_with ((with_reducible refine wp_look rfl (.tmp 24) (.tmp 26) 67 rfl 4 Tryz.underlying67 (.bool false) zeroBool14 M i (fF ((D.take i).map NT.s)) rfl HMA.out x.s rfl HXS.out (.bool true) HV.out ?_))
    go_ret2
    rw [HE.out]
    exact ⟨HBF.out,rfl⟩
   | false =>
    have HV:=hid (show (fF ((D.take i).map NT.s) x.s).getD (.bool false) = .bool false by rw [fF_bool,hh])
    by_cases h64:i = 64
    ·subst h64
     have HE:=hid (HDE.out _ (HAT.out.2.1 hh rfl))
     clear hh
     go_wp2_with (first
      | ((with_reducible refine wp_look rfl (.tmp 24) (.tmp 26) 67 rfl 4 Tryz.underlying67 (.bool false) zeroBool14 M 64 (fF ((D.take 64).map NT.s)) rfl HMA.out x.s rfl HXS.out (.bool false) HV.out ?_))
      | ((with_reducible refine wp_lenF rfl (.tmp 31) 67 rfl 4 Tryz.underlying67 M 64 ((D.take 64).map NT.s) rfl HMA.out HND.out 64 HLE.out ?_)))
     go_ret2
     rw [HE.out]
     exact ⟨HBF.out,rfl⟩
    ·have HE:=hid (HAT.out.2.2 hh h64)
     have h64b:((i:Int) == 64) = false:=by simpa using (by omega:¬ (i:Int) = 64)
     clear hh
     go_wp2_with (first
      | ((with_reducible refine wp_look rfl (.tmp 24) (.tmp 26) 67 rfl 4 Tryz.underlying67 (.bool false) zeroBool14 M i (fF ((D.take i).map NT.s)) rfl HMA.out x.s rfl HXS.out (.bool false) HV.out ?_))
      | ((with_reducible refine wp_lenF rfl (.tmp 31) 67 rfl 4 Tryz.underlying67 M i ((D.take i).map NT.s) rfl HMA.out HND.out i HLE.out ?_))
      | ((with_reducible refine wp_store rfl (.tmp 36) (.tmp 38) (.const (.bool true)) 67 rfl 4 Tryz.underlying67 M i (fF ((D.take i).map NT.s)) rfl HMA.out (by unfold maxLen;omega) x.s rfl HXS.out (.bool true) rfl ?_);intro wz HMZ hgz;have HGZ:=hid hgz;clear hgz))
     go_roundw
     case rel => exact ⟨i + 1,by omega,by go_num,HE,hid (HMZ.out.congr fun k => by rw [HST.out];exact fF_push _ _ _),hid (Below.grown (HBW.out.trans HBA.out) HGZ.out (HBW.out.trans HBA.out).size (fun j hj => by cases hj;exact Nat.le_of_eq HM.out.symm))⟩
     case measure => simp [intOf];omega
  ·obtain rfl:i = n:=by omega
   have HDN:=hid (show dupN [] (defsN l) = none by rw [← HD.out];exact HDU.out.end_ HN.out)
   have HMF:=hid (show SMap wr M i (fF (namesN l)) by have h:=HMP.out;have e:D.take i = D:=(by rw [HN.out,List.take_length]);rw [e] at h;unfold namesN;rw [← HD.out];exact h)
   have HBR:=hid (HS1.out.a.bel.trans HBW.out)
   have HCC:=hid (HCA.out _ HBR.out)
   clear hlt
   go_wp2_with (go_at_call 30;((with_reducible refine HCC.out.mono ?_);rintro e w3 ⟨Y,y,rfl,HY1,HYF,HB3⟩;obtain ⟨cs,hcs⟩:∃ q,q = callNs l:=⟨_,rfl⟩;have hkl:=HKL.out;rw [← hcs] at HY1 hkl ⊢;obtain ⟨cn,hcn⟩:∃ q,q = cs.length:=⟨_,rfl⟩;rw [← hcn] at hkl ⊢;have HCS:=hid hcs;have HCN:=hid hcn;clear hcs hcn))
   have HM3:=hid (HMF.out.bel HB3.out)
   go_loopw [43] (fun s43 wq => ∃ j:Nat,j≤cn∧s43 = .int .i64 j∧Hid ((cs.take j).find? (badCall l) = none)∧Hid (Bel w3 wq)) (fun s43 _ => cn - (intOf s43).toNat)
   case atStart => exact ⟨0,Nat.zero_le _,rfl,hid rfl,hid (Bel.refl _)⟩
   case round =>
    obtain ⟨j,hj,rfl,HFN,HBJ⟩:=hrel
    by_cases hlt:j < cn
    ·obtain ⟨x,hx⟩:∃ x,cs[j]? = some x:=⟨_,List.getElem?_eq_getElem (by have:=HCN.out;omega)⟩
     have HXS:=hid (HCK.out x (by rw [← HCS.out];exact List.mem_of_getElem? hx))
     obtain ⟨g,o,hAA,hg,hcc⟩:=(HY1.out.only (bel_only HBJ.out) (by simp)).at_ NT.cs_len hx (by decide)
     subst hAA
     obtain ⟨a0,a1,a2,a3,a4,a5,a6,a7⟩:=Cells.all (t:=x) hcc
     have HST:=hid (bad_step HFN.out hx)
     rename World => wj
     have HBA:=hid (Bel.alloc wj (.cells #[.int .i64 x.k,.int .i64 x.a,.string x.s,.string x.p,.bool x.h,.bool x.e,.slice x.A x.b.length x.c,.slice x.B x.l.length x.d] 69))
     have HMA:=hid ((HM3.out.bel HBJ.out).bel HBA.out)
     have HBF:=hid (((HBR.out.trans HB3.out).trans HBJ.out).trans HBA.out)
     clear hx hg hcc
     cases hh:hasN (namesN l) x.s with
     | true =>
      have HE:=hid (HST.out.2 (by unfold badCall;rw [hh];rfl))
      have HV:=hid (show (fF (namesN l) x.s).getD (.bool false) = .bool true by rw [fF_bool,hh])
      clear hh
      go_wp2_with ((with_reducible refine wp_look rfl (.tmp 47) (.tmp 49) 67 rfl 4 Tryz.underlying67 (.bool false) zeroBool14 M i (fF (namesN l)) rfl HMA.out x.s rfl HXS.out (.bool true) HV.out ?_))
      go_roundw
      case rel => exact ⟨j + 1,by omega,by go_num,HE,hid (HBJ.out.trans HBA.out)⟩
      case measure => simp [intOf];omega
     | false =>
      have HE:=hid (checkN_badE HDN.out (by rw [← HCS.out];exact HST.out.1 (by unfold badCall;rw [hh];rfl)))
      have HV:=hid (show (fF (namesN l) x.s).getD (.bool false) = .bool false by rw [fF_bool,hh])
      clear hh
      go_wp2_with ((with_reducible refine wp_look rfl (.tmp 47) (.tmp 49) 67 rfl 4 Tryz.underlying67 (.bool false) zeroBool14 M i (fF (namesN l)) rfl HMA.out x.s rfl HXS.out (.bool false) HV.out ?_))
      go_ret2
      rw [HE.out]
      exact ⟨HBF.out,rfl⟩
    ·obtain rfl:j = cn:=by omega
     have HE:=hid (checkN_okE HDN.out (by rw [← HCS.out];have h:=HFN.out;rwa [HCN.out,List.take_length] at h))
     have HBF:=hid ((HBR.out.trans HB3.out).trans HBJ.out)
     go_wp2_with fail
     go_ret2
     rw [HE.out]
     exact ⟨HBF.out,rfl⟩
end
section
open Go.RowKit Go.BigFrame NT
abbrev PcC (l:List NT) (A:Option Addr) (c:Nat) (w:World):Prop:=Calls Tryz.prog 21 #[.slice A l.length c] w (CdP (codeN l) w)
theorem pcode_check {l:List NT} {A:Option Addr} {c:Nat} {w:World} (hA:Row w (Lt w) A c l) (ht:tots l≤5000) (hk:(checkN l).2 ≠ 0):PcC l A c w:=by
 have HCK:=hid (dcheckK_c hA ht)
 have hR:codeN l = ([],checkN l):=by unfold codeN;rw [if_pos hk]
 unfold PcC
 rw [hR]
 generalize checkN l = R at hk HCK
 obtain ⟨a,k⟩:=R
 dsimp only at hk HCK
 have hk1:((k:Int) != 0) = true:=bne_iff_ne.2 (by omega)
 clear hA ht hR hk
 go_enter Tryz.func21,Tryz.ntmps21
 go_wp2_with (go_at_call 16;((with_reducible refine (HCK.out).mono ?_);rintro e w2 ⟨hb,rfl⟩;have HB:=hid hb;clear hb))
 go_ret3
 exact CdP.nil rfl HB.out
theorem pcode_infer {l:List NT} {A:Option Addr} {c:Nat} {w:World} (hA:Row w (Lt w) A c l) (ht:tots l≤5000) (hk0:(checkN l).2 = 0) (hk:(inferI l).2.2 ≠ 0):PcC l A c w:=by
 have HCK:=hid (dcheckK_c hA ht)
 have HA:=hid hA
 have HI:=hid (fun (W:World) (h:Row W (Lt W) A c l) => infer_c h (by omega))
 have hR:codeN l = ([],(inferI l).2):=by unfold codeN;rw [if_neg (by simpa using hk0),if_pos hk]
 unfold PcC
 rw [hR]
 generalize checkN l = R at hk0 HCK
 generalize inferI l = I at hk HI
 obtain ⟨a,k⟩:=R
 obtain ⟨es,b,m⟩:=I
 dsimp only at hk0 hk HCK HI
 subst hk0
 have hk1:((m:Int) != 0) = true:=bne_iff_ne.2 (by omega)
 clear hA ht hR hk
 go_enter Tryz.func21,Tryz.ntmps21
 go_wp2_with (first
  | (go_at_call 16;((with_reducible refine (HCK.out).mono ?_);rintro e w2 ⟨hb,rfl⟩;have HB:=hid hb;clear hb))
  | (go_at_call 17;((with_reducible refine (HI.out _ (HA.out.bel HB.out)).mono ?_);rintro e w3 ⟨hb,A3,n3,c3,rfl,hE⟩;have HB3:=hid (HB.out.trans hb);clear hb hE)))
 go_ret3
 exact CdP.nil rfl HB3.out
theorem SMap.not_blk {w:World} {M n:Nat} {f:ByteArray→Option Value} (h:SMap w M n f) {g:Nat} {t:TypeId} {cs:List Value} (hB:Blk w g t cs):M ≠ g:=by
 rintro rfl
 obtain ⟨D,h1,_⟩:=h
 obtain ⟨es,clock,e,_⟩:=h1
 unfold Blk at hB
 rw [hB] at e
 cases e
theorem As.ne_map {Q:Nat→Prop} {rr:Nat} {w:World} {v:AV} (h:As Q rr w v) {M n:Nat} {f:ByteArray→Option Value} (hM:SMap w M n f):M ∉ v.T rr∧M ∉ rowT v.E:=by
 refine ⟨?_,fun hk => ?_⟩
 ·rw [List.mem_cons,List.mem_append,not_or,not_or]
  refine ⟨hM.not_blk h.blk,fun hk => ?_,fun hk => ?_⟩
  ·obtain ⟨ad,ha,hg⟩:=mem_rowT.1 hk
   obtain ⟨g',o,cur,rfl,hb,_⟩:=RowK.some_ h.code ad ha
   exact hM.not_blk hb hg.symm
  ·obtain ⟨ad,ha,hg⟩:=mem_rowT.1 hk
   obtain ⟨g',o,cur,rfl,hb,_⟩:=RowK.some_ h.calls ad ha
   exact hM.not_blk hb hg.symm
 ·obtain ⟨ad,ha,hg⟩:=mem_rowT.1 hk
  obtain ⟨g',o,cur,rfl,hb,_⟩:=h.escs.some_ ad ha
  exact hM.not_blk hb hg.symm
theorem As.far {Q:Nat→Prop} {rr:Nat} {w w':World} {v:AV} (h:As Q rr w v) {M:Nat} (hO:Only [M] w w') (h1:M ∉ v.T rr) (h2:M ∉ rowT v.E):As Q rr w' v:=by
 have ne:∀ k,k ∈ v.T rr→k ∉ [M]:=fun k hk hm => by rw [List.mem_singleton] at hm;subst hm;exact h1 hk
 exact ⟨h.blk.only hO (ne rr (by simp)),h.code.only hO (fun k hk => ne k (by simp [hk])),h.escs.only hO (fun k hk hm => by rw [List.mem_singleton] at hm;subst hm;exact h2 hk),h.calls.only hO (fun k hk => ne k (by simp [hk])),fun g hg => ⟨by have:=hO.size;have:=(h.fr g hg).1;omega,(h.fr g hg).2⟩⟩
theorem As.weaken {Q Q2:Nat→Prop} {rr:Nat} {w:World} {v:AV} (h:As Q rr w v) (hq:∀ g,Q2 g→Q g):As Q2 rr w v:=⟨h.blk,h.code,h.escs,h.calls,fun g hg => h.fr g (hq g hg)⟩
structure CgS (w:World) (rr M:Nat) (wr:World) (v:AV) (k:Nat) (f:ByteArray→Option Value) (L:List IN) (ks:List CK):Prop where
 st:As (Lt w) rr wr v
 bel:Bel w wr
 lo:w.heap.size≤rr
 loM:w.heap.size≤M
 vM:v.M = M
 lowA:∀ q,q ∈ rowT v.A→w.heap.size≤q
 lowK:∀ q,q ∈ rowT v.K→w.heap.size≤q
 map:SMap wr M k f
 L:v.L = L
 ks:v.ks = ks
section
variable {w:World} {rr M:Nat} {wr:World} {v:AV} {k:Nat} {f:ByteArray→Option Value} {L:List IN} {ks:List CK}
theorem CgS.later (h:CgS w rr M wr v k f L ks) {w2:World} (hb:Bel wr w2):CgS w rr M w2 v k f L ks:=⟨h.st.bel hb,h.bel.trans hb,h.lo,h.loM,h.vM,h.lowA,h.lowK,h.map.bel hb,h.L,h.ks⟩
theorem CgS.low (h:CgS w rr M wr v k f L ks):∀ q,q ∈ v.T rr→w.heap.size≤q:=fun q hq => by
 rcases List.mem_cons.1 hq with rfl | hq
 ·exact h.lo
 ·rcases List.mem_append.1 hq with hq | hq
  ·exact h.lowA q hq
  ·exact h.lowK q hq
theorem CgS.call (h:CgS w rr M wr v k f L ks) {w2:World} {v2:AV} (hE:Ev17 (Lt w) rr wr v w2 v2) {L2:List IN} {es2:List Nat} {ks2:List CK} (hS:St17 v2 L2 es2 ks2 v.M):CgS w rr M w2 v2 k f L2 ks2 :=
 ⟨hE.st,bel_of_only ((bel_only h.bel).join hE.only (fun q hq => .inr (h.low q hq))),h.lo,h.loM,hS.M.trans h.vM,fun q hq => by
  rcases hE.subA q hq with g | g
  ·exact h.lowA q g
  ·exact Nat.le_trans h.bel.size g,fun q hq => by
  rcases hE.subK q hq with g | g
  ·exact h.lowK q g
  ·exact Nat.le_trans h.bel.size g,h.map.only hE.only (h.st.ne_map h.map).1,hS.L,hS.ks⟩
theorem CgS.store (h:CgS w rr M wr v k f L ks) {w2:World} {k2:Nat} {f2:ByteArray→Option Value} (hg:wr.grownBy w2 (some M)) (hM:SMap w2 M k2 f2):CgS w rr M w2 v k2 f2 L ks:=by
 have hO:Only [M] wr w2:=(Only.refl _ _).grown hg (fun q hq => by cases hq;exact .inl (by simp))
 obtain ⟨h1,h2⟩:=h.st.ne_map h.map
 exact ⟨h.st.far hO h1 h2,bel_of_only ((bel_only h.bel).join hO (fun q hq => by rw [List.mem_singleton] at hq;subst hq;exact .inr h.loM)),h.lo,h.loM,h.vM,h.lowA,h.lowK,hM,h.L,h.ks⟩
theorem CgS.grow (h:CgS w rr M wr v k f L ks) {k2:Nat} (hk:k≤k2):CgS w rr M wr v k2 f L ks:=⟨h.st,h.bel,h.lo,h.loM,h.vM,h.lowA,h.lowK,h.map.mono hk,h.L,h.ks⟩
end
theorem zeroInt17 (w:World):(zeroValue 3).run Tryz.prog w = .ok (.int .i64 0) w:=by kernel_rfl
end
section
open NT
theorem strip_k (t:NT):t.strip.k = t.k:=by cases t;simp [strip,k]
theorem strip_s (t:NT):t.strip.s = t.s:=by cases t;simp [strip,s]
theorem strip_p (t:NT):t.strip.p = t.p:=by cases t;simp [strip,p]
theorem strip_h (t:NT):t.strip.h = t.h:=by cases t;simp [strip,h]
theorem strip_e (t:NT):t.strip.e = t.e:=by cases t;simp [strip,e]
theorem strip_b (t:NT):t.strip.b = strips t.b:=by cases t;simp [strip,b]
theorem strip_l (t:NT):t.strip.l = strips t.l:=by cases t;simp [strip,l]
theorem listC_strips_of (ad:ByteArray→Nat) (l:List NT) (h:∀ x,x ∈ l→∀ a es,nodeC ad a es x.strip = nodeC ad a es x):∀ a es,listC ad a es (strips l) = listC ad a es l:=by
 induction l with
 | nil => intro a es;rw [strips_nil]
 | cons x l ih =>
  intro a es
  rw [strips_cons,listC_cons,listC_cons,h x (by simp) a es]
  unfold seqC
  simp only [ih (fun y hy => h y (by simp [hy]))]
theorem nodeC_strip (ad:ByteArray→Nat) (t:NT):∀ a es,nodeC ad a es t.strip = nodeC ad a es t:=by
 refine ind (M:=fun t => ∀ a es,nodeC ad a es t.strip = nodeC ad a es t) (fun t hb hl a es => ?_) t
 rw [nodeC_eq,nodeC_eq,strip_k,strip_s,strip_p,strip_h,strip_e,strip_b,strip_l]
 simp only [listC_strips_of ad t.b hb,listC_strips_of ad t.l hl]
theorem listC_strips (ad:ByteArray→Nat) (l:List NT) (a:Nat) (es:List Nat):listC ad a es (strips l) = listC ad a es l:=listC_strips_of ad l (fun x _ => nodeC_strip ad x) a es
theorem sizs_strips (l:List NT):sizs (strips l) = sizs l:=by
 rw [← (listC_ok Z0 (strips l) 0 []).len,listC_strips,(listC_ok Z0 l 0 []).len]
theorem prns_strips_of:∀ (l:List NT),(∀ x,x ∈ l→x.strip.prn = x.prn)→prns (strips l) = prns l
 | [],_ => by rw [strips_nil]
 | x :: l,h => by rw [strips_cons,prns_cons,prns_cons,h x (by simp),prns_strips_of l (fun y hy => h y (by simp [hy]))]
theorem prn_strip (t:NT):t.strip.prn = t.prn:=by
 refine ind (M:=fun t => t.strip.prn = t.prn) (fun t hb hl => ?_) t
 rw [prn_eq,prn_eq,strip_k,strip_e,strip_b,strip_l,prns_strips_of t.b hb,prns_strips_of t.l hl]
theorem prf_strip (t:NT):prf t.strip = prf t:=by
 unfold prf
 rw [strip_k,strip_b,prns_strips_of t.b (fun x _ => prn_strip x),prn_strip]
theorem dfs_strips:∀ (l:List NT) (es:List Nat),dfs (strips l) es = (dfs l es).map fun d => (d.1.strip,d.2)
 | [],es => by rw [strips_nil];rfl
 | x :: l,es => by
  rw [strips_cons,dfs_cons,dfs_cons,strip_k,prf_strip,dfs_strips l]
  split
  ·rw [List.map_cons]
  ·rfl
theorem mainE_cons (x:NT) (l:List NT) (es:List Nat):mainE (x :: l) es = if x.k = 6 then mainE l (es.drop (prf x)) else es.take (prf x) ++ mainE l (es.drop (prf x)):=by rw [mainE]
theorem mainE_strips:∀ (l:List NT) (es:List Nat),mainE (strips l) es = mainE l es
 | [],es => by rw [strips_nil]
 | x :: l,es => by rw [strips_cons,mainE_cons,mainE_cons,strip_k,prf_strip,mainE_strips l]
theorem adr_strip:∀ (ds:List (NT × List Nat)) (a:Nat) (nm:ByteArray),adr (ds.map fun d => (d.1.strip,d.2)) a nm = adr ds a nm
 | [],_,_ => rfl
 | d :: r,a,nm => by
  rw [List.map_cons]
  unfold adr
  rw [adr_strip r,strip_s,strip_b,sizs_strips]
theorem defsC_strip (ad:ByteArray→Nat):∀ (ds:List (NT × List Nat)) (a:Nat),defsC ad (ds.map fun d => (d.1.strip,d.2)) a = defsC ad ds a
 | [],_ => rfl
 | d :: r,a => by
  rw [List.map_cons]
  unfold defsC
  rw [defsC_strip ad r,strip_b,sizs_strips,listC_strips]
theorem codeW_strips (l:List NT) (es:List Nat):codeW (strips l) es = codeW l es:=by
 have h:adr (dfs (strips l) es) (sizs (strips l) + 1) = adr (dfs l es) (sizs l + 1):=by
  funext nm
  rw [dfs_strips,adr_strip,sizs_strips]
 unfold codeW
 rw [h,dfs_strips,mainE_strips,listC_strips,defsC_strip,sizs_strips]
theorem codeW_ers (l:List NT) (es:List Nat):codeW (ers l) es = codeW l es:=by rw [← codeW_strips (ers l),strips_ers,codeW_strips]
theorem codeN_ers (l:List NT):codeN (ers l) = codeN l:=by unfold codeN;rw [checkN_ers,inferI_ers,codeW_ers]
end
end Go.Proofs.YtpcapmdfjmpdiaaGreatDoor
