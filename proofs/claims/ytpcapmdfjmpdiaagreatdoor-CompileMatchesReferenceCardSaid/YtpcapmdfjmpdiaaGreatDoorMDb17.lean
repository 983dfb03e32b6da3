/- The reference of layer 17: node, kind by kind (text, print, call, flush, others). -/
import Derived.Test.YtpcapmdfjmpdiaaGreatDoorMRc14
set_option linter.unusedVariables false
set_option linter.unusedSimpArgs false
set_option maxRecDepth 100000
set_option maxHeartbeats 3200000
open Go.Lib (hid)
namespace Go.Proofs.YtpcapmdfjmpdiaaGreatDoor
open Go.RowKit Go.BigFrame NT
attribute [local go_sem ↓] sliced_cut
abbrev nV17 (t:NT):Value:=.agg #[.int .i64 t.k,.int .i64 t.a,.string t.s,.string t.p,.bool t.h,.bool t.e,.slice t.A t.b.length t.c,.slice t.B t.l.length t.d]
theorem info_ins17:(Tryz.prog.info? 31).map (fun i => (i.zero,i.size,i.bytes)) = some (some (.agg #[.int .i64 0,.string ByteArray.empty,.string ByteArray.empty,.bool false,.int .i64 0,.int .i64 0]),6,64):=by kernel_rfl
theorem cells_ins17:(Value.agg #[.int .i64 0,.string ByteArray.empty,.string ByteArray.empty,.bool false,.int .i64 0,.int .i64 0]).cells.size = 6:=by kernel_rfl
def Ir (w w':World) (A:Option Addr) (c:Nat) (l:List IN):Prop:=KRow w' 31 6 IN.cs A c l∧∀ k,k ∈ rowT A→w.heap.size≤k
theorem Ir.only {w w1 w2:World} {A:Option Addr} {c:Nat} {l:List IN} {S:List Nat} (h:Ir w w1 A c l) (ho:Only S w1 w2) (hS:∀ k,k ∈ rowT A→k ∉ S):Ir w w2 A c l:=⟨h.1.only ho hS,h.2⟩
theorem Ir.one {w w1:World} (x:IN) (hw:w.heap.size≤w1.heap.size):Ir w (w1.alloc (.cells #[.int .i64 (x.o:Nat),.string x.s,.string x.p,.bool x.h,.int .i64 (x.e:Nat),.int .i64 (x.t:Nat)] 31)) (some ⟨w1.heap.size,0,none⟩) 1 [x] :=
 ⟨KRow.of_blk (l:=[x]) (by rw [flat_one];exact Blk.new w1 31 x.cs) IN.cs_len (by show 1≤maxLen;decide),by rw [rowT_some];simp;exact hw⟩
theorem Ir.oneN {w:World} (o:Obj) (x:IN):Ir w ((w.alloc o).alloc (.cells #[.int .i64 (x.o:Nat),.string x.s,.string x.p,.bool x.h,.int .i64 (x.e:Nat),.int .i64 (x.t:Nat)] 31)) (some ⟨w.heap.size + 1,0,none⟩) 1 [x]:=by
 have:=Ir.one (w:=w) (w1:=w.alloc o) x (Bel.alloc w o).size
 rwa [show (w.alloc o).heap.size = w.heap.size + 1 by simp] at this
theorem Cm.took {r:Nat} {w:World} {N:Option Addr} {cn:Nat} {D:Option Addr} {cd:Nat} {E:Option Addr} {m ce:Nat} {ns:List ByteArray} {ads:List Nat} {e0:Nat} {rest:List Nat} (h:Cm r w N cn D cd E m ce ns ads (e0 :: rest)) :
  Cm r (w.setCell ⟨r,2,none⟩ (.slice (cutA ce 1 1 E) (m - 1) (ce - 1))) N cn D cd (cutA ce 1 1 E) (m - 1) (ce - 1) ns ads rest:=by
 have hO:Only [r] w (w.setCell ⟨r,2,none⟩ (.slice (cutA ce 1 1 E) (m - 1) (ce - 1))):=(Only.refl _ _).setCell (.inl (by simp)) _
 have hm:1≤m:=by rw [h.rm];simp
 have hcut:=h.re.cut 1 hm
 have keep:∀ {t:TypeId} {A:Option Addr} {n c:Nat} {xs:List Value},t ≠ 114→RowAt w t A n c xs→RowAt (w.setCell ⟨r,2,none⟩ (.slice (cutA ce 1 1 E) (m - 1) (ce - 1))) t A n c xs:=fun ht hr =>
  hr.only hO (fun k hk hm => by rw [List.mem_singleton] at hm;subst hm;exact hr.ne_blk h.blk (fun e => ht e.symm) hk)
 refine ⟨by have:=h.blk.set_ 2 (.slice (cutA ce 1 1 E) (m - 1) (ce - 1));simpa using this,keep (by decide) h.rn,keep (by decide) h.ra,keep (by decide) hcut,?_⟩
 rw [h.rm];simp
theorem Bel.drew16 (w:World):Bel w w.drew:=(Below.refl _ _).drew
def DcP (code:CE) (r:Nat) (w:World) (N:Option Addr) (cn:Nat) (D:Option Addr) (cd:Nat) (ns:List ByteArray) (ads:List Nat) (e:Ending) (w':World):Prop :=
 ∃ A c E' m' ce',e = .returned (.slice A code.1.length c)∧Hid (Ir w w' A c code.1)∧Hid (Only [r] w w')∧Hid (Cm r w' N cn D cd E' m' ce' ns ads code.2)
section
variable {r:Nat} {w:World} {N:Option Addr} {cn:Nat} {D:Option Addr} {cd:Nat} {E:Option Addr} {m ce:Nat} {ns:List ByteArray} {ads es:List Nat}
abbrev wN (w:World) (x:NT):World:=w.alloc (.cells #[.int .i64 x.k,.int .i64 x.a,.string x.s,.string x.p,.bool x.h,.bool x.e,.slice x.A x.b.length x.c,.slice x.B x.l.length x.d] 69)
theorem dn_one {w:World} (o:Obj) (x:IN) {es':List Nat} (hC:Cm r w N cn D cd E m ce ns ads es') {e:Ending} (he:e = .returned (.slice (some ⟨w.heap.size + 1,0,none⟩) 1 1)) :
  DcP ([x],es') r w N cn D cd ns ads e ((w.alloc o).alloc (.cells #[.int .i64 (x.o:Nat),.string x.s,.string x.p,.bool x.h,.int .i64 (x.e:Nat),.int .i64 (x.t:Nat)] 31)):=by
 have hb:=(Bel.alloc w o).trans (Bel.alloc (w.alloc o) (.cells #[.int .i64 (x.o:Nat),.string x.s,.string x.p,.bool x.h,.int .i64 (x.e:Nat),.int .i64 (x.t:Nat)] 31))
 exact ⟨_,1,E,m,ce,he,hid (Ir.oneN o x),hid ((bel_only hb).more (by simp)),hid (hC.bel hb)⟩
theorem dn_one1 {w w1:World} (hO:Only [r] w w1) (hz:w1.heap.size = w.heap.size) (o:Obj) (x:IN) {es':List Nat} (hC:Cm r w1 N cn D cd E m ce ns ads es') {e:Ending} (he:e = .returned (.slice (some ⟨w.heap.size + 1,0,none⟩) 1 1)) :
  DcP ([x],es') r w N cn D cd ns ads e ((w1.alloc o).alloc (.cells #[.int .i64 (x.o:Nat),.string x.s,.string x.p,.bool x.h,.int .i64 (x.e:Nat),.int .i64 (x.t:Nat)] 31)):=by
 have hb:=(Bel.alloc w1 o).trans (Bel.alloc (w1.alloc o) (.cells #[.int .i64 (x.o:Nat),.string x.s,.string x.p,.bool x.h,.int .i64 (x.e:Nat),.int .i64 (x.t:Nat)] 31))
 have hi:=Ir.oneN (w:=w1) o x
 rw [hz] at hi
 exact ⟨_,1,E,m,ce,he,hid ⟨hi.1,fun k hk => by rw [← hz];exact hi.2 k hk⟩,hid (hO.join (bel_only hb) (by simp)),hid (hC.bel hb)⟩
theorem dn_text (x:NT) (a:Nat) (hC:Cm r w N cn D cd E m ce ns ads es) (hk:x.k = 0) :
  Calls Tryz.prog 71 #[.pointer (some ⟨r,0,none⟩),nV17 x,.int .i64 (a:Nat)] w (DcP (nodeC (adZ ns ads) a es x) r w N cn D cd ns ads):=by
 rw [nodeC_eq,if_pos hk]
 have k0:(x.k == 0) = true:=by rw [hk];rfl
 have HC:=hid hC
 clear hC hk
 go_enter Tryz.func71,Tryz.ntmps71
 go_wp2_with fail
 go_ret
 exact dn_one _ ⟨0,x.s,eB,false,0,0⟩ HC.out rfl
theorem dn_flush (x:NT) (a:Nat) (hC:Cm r w N cn D cd E m ce ns ads es) (hk:x.k = 5) :
  Calls Tryz.prog 71 #[.pointer (some ⟨r,0,none⟩),nV17 x,.int .i64 (a:Nat)] w (DcP (nodeC (adZ ns ads) a es x) r w N cn D cd ns ads):=by
 rw [nodeC_eq,if_neg (by rw [hk];decide),if_neg (by rw [hk];decide),if_neg (by rw [hk];decide),if_neg (by rw [hk];decide),if_neg (by rw [hk];decide),if_pos hk]
 have k0:(x.k == 0) = false:=by rw [hk];rfl
 have k1:(x.k == 1) = false:=by rw [hk];rfl
 have k2:(x.k == 2) = false:=by rw [hk];rfl
 have k3:(x.k == 3) = false:=by rw [hk];rfl
 have k4:(x.k == 4) = false:=by rw [hk];rfl
 have k5:(x.k == 5) = true:=by rw [hk];rfl
 have HC:=hid hC
 clear hC hk
 go_enter Tryz.func71,Tryz.ntmps71
 go_wp2_with fail
 go_ret
 exact dn_one _ ⟨8,eB,eB,false,0,0⟩ HC.out rfl
theorem dn_other (x:NT) (a:Nat) (hC:Cm r w N cn D cd E m ce ns ads es) (hk:x.k ≠ 0∧x.k ≠ 1∧x.k ≠ 2∧x.k ≠ 3∧x.k ≠ 4∧x.k ≠ 5) :
  Calls Tryz.prog 71 #[.pointer (some ⟨r,0,none⟩),nV17 x,.int .i64 (a:Nat)] w (DcP (nodeC (adZ ns ads) a es x) r w N cn D cd ns ads):=by
 rw [nodeC_eq,if_neg (by omega),if_neg (by omega),if_neg (by omega),if_neg (by omega),if_neg (by omega),if_neg (by omega)]
 have k0:(x.k == 0) = false:=by have:=hk;simp only [beq_eq_false_iff_ne];omega
 have k1:(x.k == 1) = false:=by have:=hk;simp only [beq_eq_false_iff_ne];omega
 have k2:(x.k == 2) = false:=by have:=hk;simp only [beq_eq_false_iff_ne];omega
 have k3:(x.k == 3) = false:=by have:=hk;simp only [beq_eq_false_iff_ne];omega
 have k4:(x.k == 4) = false:=by have:=hk;simp only [beq_eq_false_iff_ne];omega
 have k5:(x.k == 5) = false:=by have:=hk;simp only [beq_eq_false_iff_ne];omega
 have HC:=hid hC
 clear hC hk
 go_enter Tryz.func71,Tryz.ntmps71
 go_wp2_with fail
 go_ret
 exact ⟨none,0,E,m,ce,rfl,hid ⟨KRow.nil _ _ _ _,by simp [rowT]⟩,hid ((bel_only (Bel.alloc _ _)).more (by simp)),hid (HC.out.bel (Bel.alloc _ _))⟩
theorem dn_print (x:NT) (a:Nat) (hC:Cm r w N cn D cd E m ce ns ads es) (hk:x.k = 1) (hm:1≤es.length) :
  Calls Tryz.prog 71 #[.pointer (some ⟨r,0,none⟩),nV17 x,.int .i64 (a:Nat)] w (DcP (nodeC (adZ ns ads) a es x) r w N cn D cd ns ads):=by
 rw [nodeC_eq,if_neg (by rw [hk];decide),if_pos hk]
 have k0:(x.k == 0) = false:=by rw [hk];rfl
 have k1:(x.k == 1) = true:=by rw [hk];rfl
 obtain ⟨e0,rest,rfl⟩:∃ e0 rest,es = e0 :: rest:=by
  cases es with
  | nil => simp at hm
  | cons e0 rest => exact ⟨e0,rest,rfl⟩
 have hC1:=hC.bel (Bel.alloc w (.cells #[.int .i64 x.k,.int .i64 x.a,.string x.s,.string x.p,.bool x.h,.bool x.e,.slice x.A x.b.length x.c,.slice x.B x.l.length x.d] 69))
 obtain ⟨g,o,rfl,hc⟩:=hC1.re.cell (j:=0) (u:=.int .i64 (e0:Nat)) rfl
 rw [Nat.add_zero] at hc
 have hb2:=hC1.blk.cell 2
 have hf2:=hC1.blk.free 2
 have hmm:=hC1.rm
 have hle:=hC1.re.le
 have hmx:=hC1.re.max
 unfold maxLen at hmx
 have hlt:=hC.blk.lt
 have HC:=hid hC
 have HM:=hid hmm
 have hm1:1≤m:=by rw [hmm];simp
 clear hC hC1 hk hm hmm
 go_enter Tryz.func71,Tryz.ntmps71
 go_wp2_with fail
 go_ret
 exact dn_one1 ((Only.refl [r] w).setCell (.inl (by simp)) _) (by simp [World.setCell]) _ ⟨1,eB,x.p,false,e0,0⟩ HC.out.took rfl
theorem dn_call (x:NT) (a:Nat) (hC:Cm r w N cn D cd E m ce ns ads es) (hk:x.k = 4) (hl:ns.length = ads.length) :
  Calls Tryz.prog 71 #[.pointer (some ⟨r,0,none⟩),nV17 x,.int .i64 (a:Nat)] w (DcP (nodeC (adZ ns ads) a es x) r w N cn D cd ns ads):=by
 rw [nodeC_eq,if_neg (by rw [hk];decide),if_neg (by rw [hk];decide),if_neg (by rw [hk];decide),if_neg (by rw [hk];decide),if_pos hk]
 have k0:(x.k == 0) = false:=by rw [hk];rfl
 have k1:(x.k == 1) = false:=by rw [hk];rfl
 have k2:(x.k == 2) = false:=by rw [hk];rfl
 have k3:(x.k == 3) = false:=by rw [hk];rfl
 have k4:(x.k == 4) = true:=by rw [hk];rfl
 have HC:=hid hC
 have HN:=hid (Blk.new w 69 x.cs)
 have HB:=hid (Bel.alloc w (.cells #[.int .i64 x.k,.int .i64 x.a,.string x.s,.string x.p,.bool x.h,.bool x.e,.slice x.A x.b.length x.c,.slice x.B x.l.length x.d] 69))
 have HL:=hid hl
 clear hC hk hl
 go_enter Tryz.func71,Tryz.ntmps71
 go_wp2_with fail
 obtain ⟨W,hW⟩:∃ W,W = (wN w x).drew:=⟨_,rfl⟩
 have HBd:=hid (show Bel w W by rw [hW];exact HB.out.trans (Bel.drew16 _))
 have HCd:=hid (HC.out.bel HBd.out)
 have HNd:=hid (show Blk W w.heap.size 69 x.cs by rw [hW];exact HN.out.drew)
 have HSZ:=hid (show W.heap.size = w.heap.size + 1 by rw [hW];show (wN w x).heap.size = _;simp)
 refine region_begin (T:=[]) (by kernel_rfl) ?_
 rw [show (World.drew _) = W from hW.symm]
 clear hW
 have c2:∀ X:Later [] W,X.w.cell? ⟨w.heap.size,2,none⟩ = some (.string x.s):=fun X => (HNd.out.bel (bel_of_only X.h)).cell 2
 have c3:∀ X:Later [] W,X.w.cell? ⟨w.heap.size,3,none⟩ = some (.string x.p):=fun X => (HNd.out.bel (bel_of_only X.h)).cell 3
 have c4:∀ X:Later [] W,X.w.cell? ⟨w.heap.size,4,none⟩ = some (.bool x.h):=fun X => (HNd.out.bel (bel_of_only X.h)).cell 4
 refine region_seg [true,true,true,true,true,true,true] 4 (by kernel_rfl) (by kernel_rfl) (by kernel_rfl) rfl (fun _ _ d _ _ h => by cases d <;> exact h) ?_
 repeat (first | with_reducible refine wpMask_pass ?_ | (refine wpMask_want (by rfl) (fun K hK => ?_);go_big_quiet_op;refine hK _ ?_;clear hK K))
 with_reducible refine wpMask_nil ?_
 clear c2 c3 c4
 refine region_call 7 (by kernel_rfl) rfl (by rfl) (by go_simp;exact ⟨rfl,rfl⟩) ?_
 (with_reducible refine (addr_c HCd.out HL.out x.s).mono ?_);rintro e w2 ⟨rfl,rfl⟩;refine ⟨_,rfl,Only.refl _ _,?_⟩
 simp only [List.getElem_toArray,List.getElem_cons_zero,List.getElem_cons_succ,Act.put,List.setIfInBounds_toArray,List.set_cons_zero,List.set_cons_succ]
 obtain ⟨t,ht⟩:∃ t,t = adZ ns ads x.s:=⟨_,rfl⟩
 rw [← ht]
 refine region_make 8 (v:=.agg #[.int .i64 6,.string ⟨#[]⟩,.string x.p,.bool x.h,.int .i64 0,.int .i64 (t:Nat)]) (w1:=w2) (by kernel_rfl) rfl (by rfl) (by go_simp) (Only.refl _ _) ?_
 simp only [List.getElem_toArray,List.getElem_cons_zero,List.getElem_cons_succ,Act.put,List.setIfInBounds_toArray,List.set_cons_zero,List.set_cons_succ]
 refine region_make 9 (v:=.slice (some ⟨w2.heap.size,0,none⟩) 1 1) (w1:=w2.alloc (.cells #[.int .i64 6,.string ⟨#[]⟩,.string x.p,.bool x.h,.int .i64 0,.int .i64 (t:Nat)] 31)) (by kernel_rfl) rfl (by rfl) (by go_simp) ((Only.refl _ _).alloc _) ?_
 simp only [List.getElem_toArray,List.getElem_cons_zero,List.getElem_cons_succ,Act.put,List.setIfInBounds_toArray,List.set_cons_zero,List.set_cons_succ]
 refine region_seg [false,false,false,false,false,false,false,false,false,false,true] 0 (by kernel_rfl) (by kernel_rfl) (by kernel_rfl) rfl (fun _ _ d _ _ h => by cases d <;> exact h) ?_
 repeat (first | with_reducible refine wpMask_pass ?_ | (refine wpMask_want (by rfl) (fun K hK => ?_);go_big_quiet_op;refine hK _ ?_;clear hK K))
 with_reducible refine wpMask_nil ?_
 refine region_end (by kernel_rfl) ?_
 go_wp2_with fail
 go_ret
 subst ht
 have hb:=HBd.out.trans (Bel.alloc w2 (.cells #[.int .i64 6,.string ⟨#[]⟩,.string x.p,.bool x.h,.int .i64 0,.int .i64 (adZ ns ads x.s:Nat)] 31))
 exact ⟨_,1,E,m,ce,rfl,hid (Ir.one (w:=w) (w1:=w2) ⟨6,eB,x.p,x.h,0,adZ ns ads x.s⟩ HBd.out.size),hid ((bel_only hb).more (by simp)),hid (HC.out.bel hb)⟩
end
end Go.Proofs.YtpcapmdfjmpdiaaGreatDoor
