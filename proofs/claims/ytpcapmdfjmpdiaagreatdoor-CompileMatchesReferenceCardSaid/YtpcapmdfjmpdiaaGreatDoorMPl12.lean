/- slices.Equal of instructions -/
import Derived.Test.YtpcapmdfjmpdiaaGreatDoorMEr14
import Derived.Test.YtpcapmdfjmpdiaaGreatDoorMPc17
import Derived.Test.YtpcapmdfjmpdiaaGreatDoorMPd17
import Derived.Test.YtpcapmdfjmpdiaaGreatDoorMPd12
import Derived.Test.YtpcapmdfjmpdiaaGreatDoorMCt12
import Derived.Test.YtpcapmdfjmpdiaaGreatDoorMPf12
set_option linter.unusedVariables false
set_option linter.unusedSimpArgs false
set_option maxRecDepth 100000
set_option maxHeartbeats 6400000
open Go.Lib (hid)
namespace Go.Proofs.YtpcapmdfjmpdiaaGreatDoor
section
open Go.RowKit Go.BigFrame NT
instance:DecidableEq XI:=fun x y => by
 cases x;cases y
 simp only [XI.mk.injEq]
 infer_instance
theorem ins_neq (x y:XI) (w:World):(binOp .neq 31 (.agg #[.int .i64 x.o,.string x.s,.string x.p,.bool x.h,.int .i64 x.e,.int .i64 x.t]) (.agg #[.int .i64 y.o,.string y.s,.string y.p,.bool y.h,.int .i64 y.e,.int .i64 y.t])).run Tryz.prog w = .ok (.bool (!decide (x = y))) w:=by
 have u3:=Tryz.underlying3
 have a3:=Tryz.isAgg3
 have z3:=Tryz.sizeOf3
 have u9:=Tryz.underlying9
 have a9:=Tryz.isAgg9
 have z9:=Tryz.sizeOf9
 have u4:=Tryz.underlying4
 have a4:=Tryz.isAgg4
 have z4:=Tryz.sizeOf4
 have hS:Tryz.prog.underlying 31 = some (.struct (Tryz.prog.fieldsOf 31)):=by kernel_rfl
 have hp:Tryz.prog.stoodInHeld 31 = false:=by kernel_rfl
 rw [run_neq_struct,show (10000:Nat) = 9999 + 1 from rfl,run_equalIn_agg w 9999 31 _ _ hS hp]
 simp only [Program.fieldsOf,Tryz.underlying31]
 go_simp
 obtain ⟨xo,xs,xp,xh,xe,xt⟩:=x
 obtain ⟨yo,ys,yp,yh,ye,yt⟩:=y
 simp only [XI.mk.injEq,toL_beq17]
 have hl:∀ a b:ByteArray,(a.toList = b.toList) = (a = b):=fun a b => by
  have h:=toL_beq17 a b
  rw [Bool.eq_iff_iff,beq_iff_eq,decide_eq_true_iff] at h
  exact propext h
 simp only [hl]
 by_cases h1:xo = yo <;> by_cases h2:xs = ys <;> by_cases h3:xp = yp <;> by_cases h4:xh = yh <;> by_cases h5:xe = ye <;> by_cases h6:xt = yt <;> simp [h1,h2,h3,h4,h5,h6]
theorem list_ext_of17 {α:Type} {l m:List α} (hlen:l.length = m.length) (h:∀ (i:Nat) (x y:α),l[i]? = some x→m[i]? = some y→x = y):l = m:=by
 apply List.ext_getElem?
 intro i
 by_cases hi:i < l.length
 ·rw [List.getElem?_eq_getElem hi,List.getElem?_eq_getElem (by omega)]
  rw [h i _ _ (List.getElem?_eq_getElem hi) (List.getElem?_eq_getElem (by omega))]
 ·rw [List.getElem?_eq_none (by omega),List.getElem?_eq_none (by omega)]
theorem insEqual_c {w:World} {A B:Option Addr} {c d:Nat} {l m:List XI} (hA:Xr w A c l) (hB:Xr w B d m) (hl:l.length≤1000000000) (hm:m.length≤1000000000) :
  Calls Tryz.prog 12 #[.slice A l.length c,.slice B m.length d] w fun e w' => e = .returned (.bool (decide (l = m)))∧Bel w w':=by
 obtain ⟨R,hR⟩:∃ R,R = decide (l = m):=⟨_,rfl⟩
 rw [← hR]
 obtain ⟨n,hn⟩:∃ n,n = l.length:=⟨_,rfl⟩
 obtain ⟨k,hk⟩:∃ k,k = m.length:=⟨_,rfl⟩
 rw [← hn] at hl ⊢
 rw [← hk] at hm ⊢
 have HN:=hid hn
 have HK:=hid hk
 have HA:=hid hA
 have HB:=hid hB
 have HR:=hid hR
 have hcmp:=ins_neq
 clear hA hB hn hk hR
 by_cases hnk:n = k
 ·subst hnk
  go_enter Tryz.func12,Tryz.ntmps12
  go_wp2_with fail
  go_loopw [13] (fun s13 wr => ∃ i:Nat,i≤n∧s13 = .int .i64 i∧Hid (∀ j x y,j < i→l[j]? = some x→m[j]? = some y→x = y)∧Hid (Bel w wr)) (fun s13 _ => n - (intOf s13).toNat)
  case atStart => exact ⟨0,Nat.zero_le _,rfl,hid (fun j x y hj => by omega),hid (Bel.refl _)⟩
  case round =>
   obtain ⟨i,hin,rfl,HS,HW⟩:=hrel
   by_cases hlt:i < n
   ·have hx:=List.getElem?_eq_getElem (l:=l) (i:=i) (by have:=HN.out;omega)
    generalize l[i]'(by have:=HN.out;omega) = x at hx
    have hy:=List.getElem?_eq_getElem (l:=m) (i:=i) (by have:=HK.out;omega)
    generalize m[i]'(by have:=HK.out;omega) = y at hy
    obtain ⟨g1,o1,rfl,hc1⟩:=HA.out.2 i x hx
    obtain ⟨g2,o2,rfl,hc2⟩:=HB.out.2 i y hy
    have HX:=hid hx
    have HY:=hid hy
    have HC1:=hid hc1
    have HC2:=hid hc2
    have HWd:=hid (HW.out.trans (Bel.drew16 wr))
    clear hx hy hc1 hc2
    go_wp2_with fail
    refine region_begin (T:=[]) (by kernel_rfl) ?_
    have a0:=fun X:Later [] wr.drew => HC1.out X.w (HWd.out.trans (bel_of_only X.h)) 0 _ rfl
    have a1:=fun X:Later [] wr.drew => HC1.out X.w (HWd.out.trans (bel_of_only X.h)) 1 _ rfl
    have a2:=fun X:Later [] wr.drew => HC1.out X.w (HWd.out.trans (bel_of_only X.h)) 2 _ rfl
    have a3:=fun X:Later [] wr.drew => HC1.out X.w (HWd.out.trans (bel_of_only X.h)) 3 _ rfl
    have a4:=fun X:Later [] wr.drew => HC1.out X.w (HWd.out.trans (bel_of_only X.h)) 4 _ rfl
    have a5:=fun X:Later [] wr.drew => HC1.out X.w (HWd.out.trans (bel_of_only X.h)) 5 _ rfl
    have b0:=fun X:Later [] wr.drew => HC2.out X.w (HWd.out.trans (bel_of_only X.h)) 0 _ rfl
    have b1:=fun X:Later [] wr.drew => HC2.out X.w (HWd.out.trans (bel_of_only X.h)) 1 _ rfl
    have b2:=fun X:Later [] wr.drew => HC2.out X.w (HWd.out.trans (bel_of_only X.h)) 2 _ rfl
    have b3:=fun X:Later [] wr.drew => HC2.out X.w (HWd.out.trans (bel_of_only X.h)) 3 _ rfl
    have b4:=fun X:Later [] wr.drew => HC2.out X.w (HWd.out.trans (bel_of_only X.h)) 4 _ rfl
    have b5:=fun X:Later [] wr.drew => HC2.out X.w (HWd.out.trans (bel_of_only X.h)) 5 _ rfl
    simp only [Nat.add_zero] at a0 b0
    refine region_seg [true,true,true,true,true,true,true,true,true] 0 (by kernel_rfl) (by kernel_rfl) (by kernel_rfl) rfl (fun _ _ d _ _ h => by cases d <;> exact h) ?_
    repeat (first | with_reducible refine wpMask_pass ?_ | (refine wpMask_want (by rfl) (fun K hK => ?_);go_big_quiet_op;refine hK _ ?_;clear hK K))
    with_reducible refine wpMask_nil ?_
    refine region_end (by kernel_rfl) ?_
    clear a0 a1 a2 a3 a4 a5 b0 b1 b2 b3 b4 b5
    obtain ⟨bq,hbq⟩:∃ bq,bq = !decide (x = y):=⟨_,rfl⟩
    rw [← hbq]
    have HBQ:=hid hbq
    clear hbq hcmp
    cases bq with
    | false =>
     have HXY:Hid (x = y):=hid (by have h:=HBQ.out;simpa using h)
     go_wp2_with fail
     go_roundw
     case rel =>
      refine ⟨i + 1,by omega,by go_num,hid (fun j z u hj hz hu => ?_),HWd⟩
      by_cases hji:j = i
      ·subst hji
       rw [HX.out] at hz
       rw [HY.out] at hu
       injection hz with hz
       injection hu with hu
       subst hz hu
       exact HXY.out
      ·exact HS.out j z u (by omega) hz hu
     case measure => simp [intOf];omega
    | true =>
     have HXY:Hid (¬ x = y):=hid (by have h:=HBQ.out;simpa using h)
     have hR0:R = false:=by
      rw [HR.out]
      refine decide_eq_false (fun e => HXY.out ?_)
      have h1:=HX.out
      rw [e,HY.out] at h1
      injection h1 with h1
      exact h1.symm
     subst hR0
     go_wp2_with fail
     go_ret
     exact ⟨rfl,HWd.out⟩
   ·obtain rfl:i = n:=by omega
    have hR1:R = true:=by
     rw [HR.out]
     exact decide_eq_true (list_ext_of17 (by rw [← HN.out,← HK.out]) (fun j x y hx hy => HS.out j x y (by have:=(List.getElem?_eq_some_iff.1 hx).1;have:=HN.out;omega) hx hy))
    subst hR1
    go_wp2_with fail
    go_ret
    exact ⟨rfl,HW.out⟩
 ·have hne:¬ (n:Int) = (k:Int):=by omega
  have hR0:R = false:=by
   rw [HR.out]
   exact decide_eq_false (fun e => hnk (by rw [HN.out,HK.out,e]))
  subst hR0
  clear hnk
  go_enter Tryz.func12,Tryz.ntmps12
  go_wp2_with fail
  go_ret
  exact ⟨rfl,Bel.refl _⟩
theorem insEqual_n {w:World} {A B:Option Addr} {c d n k:Nat} {l m:List XI} (hA:Xr w A c l) (hB:Xr w B d m) (hn:l.length = n) (hk:m.length = k) (hl:n≤1000000000) (hm:k≤1000000000) :
  Calls Tryz.prog 12 #[.slice A n c,.slice B k d] w fun e w' => e = .returned (.bool (decide (l = m)))∧Bel w w':=by
 subst hn hk
 exact insEqual_c hA hB hl hm
end
section
open Go.RowKit Go.BigFrame NT
abbrev PlC (Q:Nat→Prop) (rr:Nat) (W:World) (v:AV) (X:Option Addr) (c0:Nat) (l:List NT):Prop:=Calls Tryz.prog 66 #[.pointer (some ⟨rr,0,none⟩),.slice X l.length c0] W (NdP Q rr W v (listC Z0 v.L.length v.es l) (listK v.L.length l))
def PlM (Q:Nat→Prop) (rr:Nat) (w:World) (v0:AV) (X:Option Addr) (c0:Nat) (l:List NT):Prop :=
 ∀ W v,Ev17 Q rr w v0 W v→prns l≤v.es.length→v.L.length + sizs l≤90000→v.ks.length + sizs l≤90000→PlC Q rr W v X c0 l
theorem blk_kept {Q:Nat→Prop} {rr:Nat} {w W:World} {v0 v:AV} (h0:As Q rr w v0) (h:Ev17 Q rr w v0 W v) {x:NT} {g:Nat} (hN:Blk w g 69 x.cs):Blk W g 69 x.cs:=h0.keep h hN (by decide) (by decide) (by decide)
theorem plc_at {Q:Nat→Prop} {rr:Nat} {W:World} {v:AV} {X:Option Addr} {c0:Nat} {l:List NT} (h:PlC Q rr W v X c0 l) {n:Nat} {cb:CE} (hn:v.L.length = n) (hc:cb = listC Z0 n v.es l) :
  Calls Tryz.prog 66 #[.pointer (some ⟨rr,0,none⟩),.slice X l.length c0] W (NdP Q rr W v cb (listK n l)):=by
 subst hn hc
 exact h
section
variable {Q:Nat→Prop} {rr:Nat} {w:World} {v:AV}
theorem loop_c (x:NT) (h:As Q rr w v) (hm:prns x.b≤v.es.length) (hle:v.L.length + 2 + sizs x.b≤90000) (hkl:v.ks.length + sizs x.b≤90000) (hl:PlM Q rr w v x.A x.c x.b) :
  Calls Tryz.prog 110 #[.pointer (some ⟨rr,0,none⟩),nV17 x] w (NdP Q rr w v (rangeC v.L.length x.p (listC Z0 (v.L.length + 1) v.es x.b)) (listK (v.L.length + 1) x.b)):=by
 have HND:=hid (show Blk (wN w x) w.heap.size 69 x.cs from Blk.new w 69 x.cs)
 obtain ⟨x0,x1,x2,x3,x4,x5,x6,x7⟩:=node_cells HND.out
 have HE0:=hid (ev_n h x)
 have HA0:=hid (as_n h x)
 have HL:=hid hl
 obtain ⟨n,hn⟩:∃ n,n = v.L.length:=⟨_,rfl⟩
 have HN:=hid hn
 have HAD:=hid (show Calls Tryz.prog 67 #[.pointer (some ⟨rr,0,none⟩),.agg #[.int .i64 4,.string ⟨#[]⟩,.string x.p,.bool false,.int .i64 0,.int .i64 0]] (wN w x) _ from add_c (as_n h x) ⟨4,eB,x.p,false,0,0⟩ (by omega))
 obtain ⟨cb,hcb⟩:∃ cb,cb = listC Z0 (v.L.length + 1) v.es x.b:=⟨_,rfl⟩
 have hlen:=(listC_ok Z0 x.b (v.L.length + 1) v.es).len
 rw [← hcb] at hlen ⊢
 rw [← hn] at hcb
 have HCB:=hid hcb
 have HLEN:=hid hlen
 rw [← hn] at HAD hle ⊢
 obtain ⟨T1,hT1⟩:∃ T1,T1 = n + 1:=⟨_,rfl⟩
 have hn1:IntKind.i64.wrap ((n:Int) + 1) = (T1:Int):=(IntWalk.i64_in _ (by omega)).trans (by omega)
 have hn2:(n:Int) + 1 = (T1:Int):=by omega
 have HT1:=hid hT1
 clear hT1
 have HA5:=hid (fun W v' (h':As Q rr W v') (hle':v'.L.length + 1≤100000) => show Calls Tryz.prog 67 #[.pointer (some ⟨rr,0,none⟩),.agg #[.int .i64 5,.string ⟨#[]⟩,.string ⟨#[]⟩,.bool false,.int .i64 0,.int .i64 (T1:Nat)]] W (AsP Q rr W v' (.int .i64 (v'.L.length:Nat)) (v'.L ++ [⟨5,eB,eB,false,0,T1⟩]) v'.es v'.ks) from add_c h' ⟨5,eB,eB,false,0,T1⟩ hle')
 have HM:=hid hm
 have HLE:=hid hle
 have HKL:=hid hkl
 clear h hl hn hcb hlen hm hkl
 go_enter Tryz.func110,Tryz.ntmps110
 go_wp2_with (first
  | (go_at_call 67;((with_reducible refine HAD.out.mono ?_);rintro e w2 ⟨rfl,v1,hE1,hS1⟩;have HE1:=hid (HE0.out.trans hE1.out);have hls1:v1.L.length = n + 1:=(by rw [hS1.out.L,List.length_append,← HN.out];rfl);have HN1:=hid (blk_kept HA0.out hE1.out HND.out);obtain ⟨x0',x1',x2',x3',x4',x5',x6',x7'⟩:=node_cells HN1.out;have HLC:Hid (Calls Tryz.prog 66 #[.pointer (some ⟨rr,0,none⟩),.slice x.A x.b.length x.c] w2 (NdP Q rr w2 v1 cb (listK (n + 1) x.b))):=hid (plc_at (HL.out w2 v1 HE1.out (by rw [hS1.out.es];exact HM.out) (by rw [hls1];have:=HLE.out;omega) (by rw [hS1.out.ks];exact HKL.out)) hls1 (by rw [hS1.out.es];exact HCB.out))))
  | (go_at_call 66;((with_reducible refine HLC.out.mono ?_);rintro e w3 ⟨rfl,v2,hE2,hS2⟩;have HE2:=hid (HE1.out.trans hE2.out);have hls2:v2.L.length = n + 1 + cb.1.length:=(by rw [hS2.out.L,List.length_append,hls1])))
  | (go_at_call 67;((with_reducible refine (HA5.out w3 v2 hE2.out.st (by rw [hls2];have:=HLE.out;have:=HLEN.out;omega)).mono ?_);rintro e w4 ⟨rfl,v3,hE3,hS3⟩;have HE3:=hid (HE2.out.trans hE3.out);have hls3:v3.L.length = n + 2 + cb.1.length:=(by rw [hS3.out.L,List.length_append,hls2];show n + 1 + cb.1.length + 1 = _;omega)))
  | (go_at_call 124;((with_reducible refine (aim_c hE3.out.st n (by omega) (by rw [hls3];have:=HLE.out;have:=HLEN.out;omega)).mono ?_);rintro e w5 ⟨rfl,v4,hE4,hS4⟩)))
 go_end0
 refine ⟨rfl,v4,hid (HE3.out.trans hE4.out),hid ⟨?_,?_,?_,?_⟩⟩
 ·rw [hS4.out.L,hls3,hS3.out.L,hS2.out.L,hS1.out.L,List.append_assoc,List.append_assoc]
  refine (stT_at v.L (cb.1 ++ [⟨5,eB,eB,false,0,T1⟩]) ⟨4,eB,x.p,false,0,0⟩ HN.out (n + 2 + cb.1.length)).trans ?_
  rw [HT1.out]
  rfl
 ·rw [hS4.out.es,hS3.out.es,hS2.out.es];rfl
 ·rw [hS4.out.ks,hS3.out.ks,hS2.out.ks,hS1.out.ks]
 ·rw [hS4.out.M,hS3.out.M,hS2.out.M,hS1.out.M]
end
end
section
open Go.RowKit Go.BigFrame NT
def leftQ (g:Nat) (w:World):Nat:=match w.cell? ⟨g,0,none⟩ with
 | some (.slice _ n _) => n
 | _ => 0
theorem leftQ_eq {g n c:Nat} {A:Option Addr} {w:World} (h:w.cell? ⟨g,0,none⟩ = some (.slice A n c)):leftQ g w = n:=by
 unfold leftQ;rw [h]
structure LqAt (g:Nat) (A:Option Addr) (ts:List Tok) (w:World) (d c:Nat) (wr:World) (B:Option Addr) (q cB:Nat) (done:List NT) (A':Option Addr) (cA':Nat) (tr:List Tok) (cr:Nat):Prop where
 ps:Pq wr g A' cA' tr cr
 same:rowT A' = rowT A
 row:KRow wr 69 8 NT.cs B cB done
 len:done.length = q
 few:q + tr.length≤ts.length
 fresh:∀ b,b ∈ rowT B→w.heap.size≤b
 deep:∀ x,x ∈ done→x.In wr (fun b => w.heap.size≤b∧b < wr.heap.size∧b ∉ rowT B)
 only:Only [g] w wr
 val:P ts 2 false d c = PR.pre (ers done) (P tr 2 false d cr)
 suf:∃ k,tr = ts.drop k
theorem LqAt.row_ {g:Nat} {A:Option Addr} {ts:List Tok} {w:World} {d c:Nat} {wr:World} {B:Option Addr} {q cB:Nat} {done:List NT} {A':Option Addr} {cA':Nat} {tr:List Tok} {cr:Nat} (h:LqAt g A ts w d c wr B q cB done A' cA' tr cr) (hj:ts.length≤100000):Row wr (Fr w wr) B cB done :=
 NT.row_of h.row (by have:=h.len;have:=h.few;omega) (fun b hb => ⟨h.fresh b hb,h.row.lt b hb⟩) (fun x hx => (h.deep x hx).same (fun b hb => ⟨hb.1,hb.2.1⟩) (fun _ _ _ => rfl))
theorem LqAt.push {g:Nat} {A:Option Addr} {ts:List Tok} {w:World} {d c:Nat} {V w1 w4:World} {B B2:Option Addr} {q cB c2:Nat} {done:List NT} {A' A2:Option Addr} {cA' cA2:Nat} {t:Tok} {r r':List Tok} {cr c':Nat} {x y:NT} {o1:Obj}
  (h:LqAt g A ts w d c V B q cB done A' cA' (t :: r) cr) (h7:t.k ≠ 7) (h8:t.k ≠ 8) (hd:d≤32) (hcr:cr≤4096) (hg:g < w.heap.size) (hO:Only [g] V w1) (he:y.er = x) (hy:y.In w1 (Fr V w1)) (hP:Pq w1 g A2 cA2 r' c') (hA2:rowT A2 = rowT A') (hr':∃ k,r' = r.drop k) (hNX:NX t r d cr = .ok (x,r',c'))
  (hR:KRow w4 69 8 NT.cs B2 c2 (done ++ [y])) (hO4:Only (rowT B) (w1.alloc o1) w4) (hK:∀ k,k ∈ rowT B2→k ∈ rowT B ∨ k = (w1.alloc o1).heap.size) (hL:∀ k,k ∈ rowT A→k < w.heap.size) :
  LqAt g A ts w d c w4 B2 (q + 1) c2 (done ++ [y]) A2 cA2 r' c'∧c'≤4096∧r'.length < (t :: r).length:=by
 have hgd:=nx_good hNX hcr hd
 have hlen:=hgd.1
 have hVw:w.heap.size≤V.heap.size:=h.only.size
 have hV1:V.heap.size≤w1.heap.size:=hO.size
 have hsz2:(w1.alloc o1).heap.size = w1.heap.size + 1:=by simp
 have h4s:w1.heap.size + 1≤w4.heap.size:=by have:=hO4.size;omega
 have hAf:=h.fresh
 have hAl:=h.row.lt
 have hO2:Only [g] V (w1.alloc o1):=hO.alloc o1
 have hO3:Only (rowT B) w1 w4:=((Only.refl (rowT B) w1).alloc o1).trans hO4
 have key:∀ b,w.heap.size≤b→b < w1.heap.size→b ∉ rowT B→b ∉ rowT B2:=by
  intro b h1 h2 h3 h4
  rcases hK b h4 with h5 | h5
  ·exact h3 h5
  ·omega
 refine ⟨⟨?_,hA2.trans h.same,hR,by rw [List.length_append,h.len];rfl,by have:=h.few;simp only [List.length_cons] at this;omega,?_,?_,?_,?_,?_⟩,hgd.2,by simp;omega⟩
 ·refine hP.only hO3 (fun hk => by have:=hAf g hk;omega) (fun k hk hk2 => by rw [hA2,h.same] at hk;have:=hL k hk;have:=hAf k hk2;omega)
 ·intro b hb
  rcases hK b hb with h5 | h5
  ·exact hAf b h5
  ·omega
 ·intro z hz
  rcases List.mem_append.1 hz with hz | hz
  ·have h1:=(h.deep z hz).onlyS (Q':=fun b => w.heap.size≤b∧b < V.heap.size∧b ∉ rowT B) hO (fun b hb => ⟨by simp;omega,hb.2.1⟩) (fun b hb => hb)
   exact h1.onlyS hO3 (fun b hb => ⟨hb.2.2,by omega⟩) (fun b hb => ⟨hb.1,by omega,key b hb.1 (by omega) hb.2.2⟩)
  ·simp at hz;subst hz
   refine hy.onlyS hO3 (fun b hb => ⟨fun hk => by have:=hAl b hk;have:=hb.1;omega,hb.2⟩) (fun b hb => ⟨by have:=hb.1;omega,by have:=hb.2;omega,key b (by have:=hb.1;omega) hb.2 (fun hk => by have:=hAl b hk;have:=hb.1;omega)⟩)
 ·exact (h.only.trans hO2).join hO4 (fun k hk => .inr (hAf k hk))
 ·rw [h.val,P_nx h7 h8,hNX]
  dsimp only
  rw [pre_cons,ers_snoc,he]
 ·obtain ⟨k1,e1⟩:=h.suf
  obtain ⟨k2,e2⟩:=hr'
  exact ⟨k1 + 1 + k2,by rw [e2,tail_of e1,List.drop_drop]⟩
theorem LqAt.done_ {g:Nat} {A:Option Addr} {ts:List Tok} {w:World} {d c:Nat} {W:World} {B:Option Addr} {q cB:Nat} {done:List NT} {A':Option Addr} {cA':Nat} {tr:List Tok} {cr:Nat} (h:LqAt g A ts w d c W B q cB done A' cA' tr cr) (hr:P tr 2 false d cr = .ok ([],tr,cr)) (hj:ts.length≤100000) :
  ListPq g A ts w (P ts 2 false d c) (.returned (.slice B q cB)) W:=by
 rw [h.val,hr]
 exact ⟨h.only,B,cB,done,by simp,h.row_ hj,by rw [h.len],⟨A',cA',h.ps,h.same⟩,h.suf⟩
theorem LqAt.fault {g:Nat} {A:Option Addr} {ts:List Tok} {w:World} {d c:Nat} {W W2:World} {B:Option Addr} {q cB:Nat} {done:List NT} {A':Option Addr} {cA':Nat} {tr:List Tok} {cr a k:Nat} (h:LqAt g A ts w d c W B q cB done A' cA' tr cr) (hr:P tr 2 false d cr = .error (a,k)) (hO:Only [g] w W2) :
  ListPq g A ts w (P ts 2 false d c) (pan a k) W2:=by
 rw [h.val,hr]
 exact ⟨hO,rfl⟩
theorem plist_of {g m:Nat} (IN:∀ n,n < m→NodeQ g n):ListQ g m:=by
 intro A cA ts d c w hP hG hlen hd hc
 have hgl:=hP.blk.lt
 have HRT:Hid (∀ k,k ∈ rowT A→k < w.heap.size):=hid (fun k hk => hP.row.lt k hk)
 have HIN:=hid (fun (A':Option Addr) (cA':Nat) (t:Tok) (r:List Tok) (cr:Nat) (W:World) (h1:Pq W g A' cA' (t :: r) cr) (h2:TsOk (t :: r)) (h3:(t :: r).length≤ts.length) (h4:cr≤4096) => IN r.length (by simp at h3;omega) A' cA' t r d cr W h1 h2 (Nat.le_refl _) hd h4)
 have HST:Hid (LqAt g A ts w d c w none 0 0 [] A cA ts c):=hid ⟨hP,rfl,KRow.nil _ _ _ _,rfl,by omega,by simp [rowT],(fun x hx => by cases hx),Only.refl _ _,by simp [ers,pre_nil],0,by simp⟩
 have HGT:=hid hG
 have hN7:ts.length≤70000:=hG.1
 clear hP IN hG
 go_enter Tryz.func28,Tryz.ntmps28
 go_wp2_with fail
 go_loopw [5] (fun s5 wr => ∃ (B:Option Addr) (q cB:Nat) (done:List NT) (A':Option Addr) (cA':Nat) (tr:List Tok) (cr:Nat),s5 = .slice B q cB∧cr≤4096∧Hid (LqAt g A ts w d c wr B q cB done A' cA' tr cr)) (fun _ wr => leftQ g wr)
 case atStart => exact ⟨none,0,0,[],A,cA,ts,c,rfl,hc,HST⟩
 case round =>
  obtain ⟨B,q,cB,done,A',cA',tr,cr,rfl,hcr,HLI⟩:=hrel
  have HLF:Hid (leftQ g wr = tr.length):=hid (leftQ_eq HLI.out.ps.cells.1)
  obtain ⟨q0,q1⟩:=HLI.out.ps.cells
  cases tr with
  | nil =>
   simp only [List.length_nil] at q0
   go_wp2_with fail
   go_ret
   exact HLI.out.done_ rfl (by omega)
  | cons t r =>
   have hts:TsOk (t :: r):=by obtain ⟨k,hk⟩:=HLI.out.suf;rw [hk];exact HGT.out.drop k
   have HTS:=hid hts
   obtain ⟨g1,o1,hA',hg1,c0,c1,c2,c3,c4⟩:=HLI.out.ps.tok
   subst hA'
   simp only [List.length_cons] at q0
   have hrl:r.length + 1≤70000:=hts.1
   have hlen1:(0:Int) < (r.length:Int) + 1:=by omega
   clear hts
   by_cases h7:t.k = 7
   ·have k7:((t.k:Int) != 7) = false:=by rw [h7];rfl
    have HK7:=hid h7
    clear h7
    go_wp2_with fail
    go_ret
    exact HLI.out.done_ (by rw [P_else HK7.out,if_pos ⟨rfl,rfl⟩]) (by omega)
   have k7:((t.k:Int) != 7) = true:=bne_iff_ne.2 (by omega)
   by_cases h8:t.k = 8
   ·have k8:((t.k:Int) != 8) = false:=by rw [h8];rfl
    have HK8:=hid h8
    clear h8 h7
    go_wp2_with fail
    go_ret
    exact HLI.out.done_ (by rw [P_end HK8.out,if_neg (by decide)]) (by omega)
   have k8:((t.k:Int) != 8) = true:=bne_iff_ne.2 (by omega)
   have hfew:=HLI.out.few
   go_wp2_with fail
   refine (HIN.out _ cA' t r cr wr HLI.out.ps HTS.out (by omega) hcr).mono ?_
   rintro e w1 ⟨hO,hp⟩
   have HO1:=hid hO
   cases hnx:NX t r d cr with
   | error ak =>
    obtain ⟨a,k⟩:=ak
    rw [hnx] at hp
    dsimp only at hp
    subst hp
    have HNX:=hid hnx
    clear hnx hO
    go_wp2_with fail
    refine ⟨rfl,?_⟩
    exact HLI.out.fault (by rw [P_nx h7 h8,HNX.out]) (HLI.out.only.trans HO1.out)
   | ok x =>
    obtain ⟨x,r',c'⟩:=x
    rw [hnx] at hp
    obtain ⟨y,he,hy,rfl,⟨A2,cA2,hP2,hA2⟩,hr'⟩:=hp
    have HNX:=hid hnx
    have HE:=hid he
    have HY:=hid hy
    have HP2:=hid hP2
    have HA2:=hid hA2
    have HR':=hid hr'
    have HQL:=hid HLI.out.len
    have hq5:q≤70000:=by omega
    have HAL:=hid ((HLI.out.row.only hO (fun k hk => by have:=HLI.out.fresh k hk;simp;omega)).alloc (.cells #[.int .i64 y.k,.int .i64 y.a,.string y.s,.string y.p,.bool y.h,.bool y.e,.slice y.A y.b.length y.c,.slice y.B y.l.length y.d] 69))
    have HTX:Hid ([.int .i64 y.k,.int .i64 y.a,.string y.s,.string y.p,.bool y.h,.bool y.e,.slice y.A y.b.length y.c,.slice y.B y.l.length y.d] = y.cs):=hid rfl
    have HBK:=hid (Blk.new w1 69 [.int .i64 y.k,.int .i64 y.a,.string y.s,.string y.p,.bool y.h,.bool y.e,.slice y.A y.b.length y.c,.slice y.B y.l.length y.d])
    clear hnx he hy hP2 hA2 hr' hO
    go_wp2_with ((with_reducible refine wp_ndL rfl (.tmp 32) (.tmp 36) rfl B q cB done HQL.out rfl HAL.out w1.heap.size _ _ HTX.out rfl HBK.out (by omega) ?_);intro B2 c2 w4 HR4 HO4 HK4;have HPU:=hid (HLI.out.push h7 h8 hd hcr hgl HO1.out HE.out HY.out HP2.out HA2.out HR'.out HNX.out HR4.out HO4.out HK4.out HRT.out);clear HR4 HO4 HK4)
    have HLN:Hid (leftQ g w4 = r'.length):=hid (leftQ_eq HPU.out.1.ps.cells.1)
    have hlt:=HPU.out.2.2
    have hc'4:=HPU.out.2.1
    have HPL:=hid HPU.out.1
    go_roundw
    case rel => exact ⟨B2,q + 1,c2,_,A2,cA2,r',c',by go_num,hc'4,HPL⟩
    case measure => rw [HLN.out,HLF.out];exact hlt
end
section
open Go.RowKit Go.BigFrame NT
theorem assert_flt (a k:Nat) (w:World):(Instr.typeAssert (.iface 58 (.agg #[.int .i64 a,.int .i64 k])) 20 58 true).run Tryz.prog w = .ok (.tuple #[.agg #[.int .i64 a,.int .i64 k],.bool true]) w:=by kernel_rfl
theorem assert_nil (w:World):(Instr.typeAssert .nilIface 20 58 true).run Tryz.prog w = .ok (.tuple #[.agg #[.int .i64 0,.int .i64 0],.bool false]) w:=by kernel_rfl
theorem catch_c (b1 b2 b3 a k:Nat) (v1 v2 v3:Value) (older:List PanicEntry) (w:World) (h1:Blk w b1 38 [v1]) (h2:Blk w b2 3 [v2]) (h3:Blk w b3 24 [v3]) (n12:b1 ≠ b2) (n13:b1 ≠ b3) (n23:b2 ≠ b3) :
  CallsD Tryz.prog 27 #[.pointer (some ⟨b1,0,none⟩),.pointer (some ⟨b2,0,none⟩),.pointer (some ⟨b3,0,none⟩)] (.panicking ({ v:=.iface 58 (.agg #[.int .i64 a,.int .i64 k]),recovered:=false } :: older)) w fun e u' w' =>
   e = .returned (.tuple #[])∧u' = .panicking ({ v:=.iface 58 (.agg #[.int .i64 a,.int .i64 k]),recovered:=true } :: older)∧Only [b1,b2,b3] w w' ∧
    Blk w' b1 38 [.slice none 0 0]∧Blk w' b2 3 [.int .i64 a]∧Blk w' b3 24 [.int .i64 k]:=by
 refine callsD_of_wpS Tryz.func27 rfl fun c₀ cs hu => ?_
 simp only [Tryz.ntmps27,List.size_toArray,List.length_cons,List.length_nil,Nat.reduceAdd,Nat.reduceSub,Array.replicate_succ,Array.replicate_zero,List.push_toArray,List.append_toArray,List.nil_append,List.cons_append]
 apply wpS_seq
 refine wpS_region_recover (cs':={ c₀ with mode:=.panicking ({ v:=.iface 58 (.agg #[.int .i64 a,.int .i64 k]),recovered:=true } :: older) } :: cs) rfl (by rfl) (by rfl) (.iface 58 (.agg #[.int .i64 a,.int .i64 k])) (.inl (by simp only [recoverD,hu])) ?_
 simp only [Act.put,List.setIfInBounds_toArray,List.set_cons_zero,List.set_cons_succ]
 have hta:=assert_flt a k
 go_wp2_with fail
 simp only [Exit.thenS]
 refine wpS_of_wp ?_
 clear hta
 have HW:=hid (Blk.new w 58 [.int .i64 a,.int .i64 k]).drew
 have H1:=hid (h1.alloc (.cells #[.int .i64 a,.int .i64 k] 58)).drew
 have H2:=hid (h2.alloc (.cells #[.int .i64 a,.int .i64 k] 58)).drew
 have H3:=hid (h3.alloc (.cells #[.int .i64 a,.int .i64 k] 58)).drew
 have hn1:¬ w.heap.size = b1:=by have:=h1.lt;omega
 have hn2:¬ w.heap.size = b2:=by have:=h2.lt;omega
 have hn3:¬ w.heap.size = b3:=by have:=h3.lt;omega
 have HO:Hid (Only [b1,b2,b3] w (w.alloc (.cells #[.int .i64 a,.int .i64 k] 58)).drew):=hid (((Only.refl _ _).alloc _).drew)
 clear h1 h2 h3
 go_wp2_with fail
 refine region_begin (T:=[b1,b2,b3]) (by kernel_rfl) ?_
 generalize (w.alloc (.cells #[.int .i64 a,.int .i64 k] 58)).drew = W at HW H1 H2 H3 HO ⊢
 have p0:∀ X:Later [b1,b2,b3] W,X.w.cell? ⟨w.heap.size,0,none⟩ = some (.int .i64 a):=fun X => (HW.out.only X.h (by simp;exact ⟨hn1,hn2,hn3⟩)).cell 0
 have p1:∀ X:Later [b1,b2,b3] W,X.w.cell? ⟨w.heap.size,1,none⟩ = some (.int .i64 k):=fun X => (HW.out.only X.h (by simp;exact ⟨hn1,hn2,hn3⟩)).cell 1
 refine region_seg [true,true,true,true] 3 (by kernel_rfl) (by kernel_rfl) (by kernel_rfl) rfl (fun _ _ d _ _ h => by cases d <;> exact h) ?_
 repeat (first | with_reducible refine wpMask_pass ?_ | (refine wpMask_want (by rfl) (fun K hK => ?_);go_big_quiet_op;refine hK _ ?_;clear hK K))
 with_reducible refine wpMask_nil ?_
 clear p0 p1
 have x1:=H1.out.cell 0
 have y1:=H1.out.free 0
 simp only [List.getElem?_cons_zero] at x1
 refine region_store (w1:=W.setCell ⟨b1,0,none⟩ (.slice none 0 0)) 4 (by kernel_rfl) rfl (by rfl) (by go_simp) ((Only.refl _ _).setCell (.inl (by simp)) _) ?_
 simp only [List.getElem_toArray,List.getElem_cons_zero,List.getElem_cons_succ,Act.put,List.setIfInBounds_toArray,List.set_cons_zero,List.set_cons_succ]
 have K1:=hid (H1.out.set_ 0 (.slice none 0 0))
 have K2:=hid (H2.out.far (p:=⟨b1,0,none⟩) (fun h => n12 h.symm) (.slice none 0 0))
 have K3:=hid (H3.out.far (p:=⟨b1,0,none⟩) (fun h => n13 h.symm) (.slice none 0 0))
 have KO:=hid (HO.out.setCell (p:=⟨b1,0,none⟩) (.inl (by simp)) (.slice none 0 0))
 clear x1 y1 H1 H2 H3 HO HW
 generalize W.setCell ⟨b1,0,none⟩ (.slice none 0 0) = W1 at K1 K2 K3 KO ⊢
 have x1:=K2.out.cell 0
 have y1:=K2.out.free 0
 simp only [List.getElem?_cons_zero] at x1
 refine region_store (w1:=W1.setCell ⟨b2,0,none⟩ (.int .i64 a)) 5 (by kernel_rfl) rfl (by rfl) (by go_simp) ((Only.refl _ _).setCell (.inl (by simp)) _) ?_
 simp only [List.getElem_toArray,List.getElem_cons_zero,List.getElem_cons_succ,Act.put,List.setIfInBounds_toArray,List.set_cons_zero,List.set_cons_succ]
 have H1:=hid (K1.out.far (p:=⟨b2,0,none⟩) n12 (.int .i64 a))
 have H2:=hid (K2.out.set_ 0 (.int .i64 a))
 have H3:=hid (K3.out.far (p:=⟨b2,0,none⟩) (fun h => n23 h.symm) (.int .i64 a))
 have HO:=hid (KO.out.setCell (p:=⟨b2,0,none⟩) (.inl (by simp)) (.int .i64 a))
 clear x1 y1 K1 K2 K3 KO
 generalize W1.setCell ⟨b2,0,none⟩ (.int .i64 a) = W2 at H1 H2 H3 HO ⊢
 have x1:=H3.out.cell 0
 have y1:=H3.out.free 0
 simp only [List.getElem?_cons_zero] at x1
 refine region_store (w1:=W2.setCell ⟨b3,0,none⟩ (.int .i64 k)) 6 (by kernel_rfl) rfl (by rfl) (by go_simp) ((Only.refl _ _).setCell (.inl (by simp)) _) ?_
 simp only [List.getElem_toArray,List.getElem_cons_zero,List.getElem_cons_succ,Act.put,List.setIfInBounds_toArray,List.set_cons_zero,List.set_cons_succ]
 have K1:=hid (H1.out.far (p:=⟨b3,0,none⟩) n13 (.int .i64 k))
 have K2:=hid (H2.out.far (p:=⟨b3,0,none⟩) n23 (.int .i64 k))
 have K3:=hid (H3.out.set_ 0 (.int .i64 k))
 have KO:=hid (HO.out.setCell (p:=⟨b3,0,none⟩) (.inl (by simp)) (.int .i64 k))
 clear x1 y1 H1 H2 H3 HO
 generalize W2.setCell ⟨b3,0,none⟩ (.int .i64 k) = W3 at K1 K2 K3 KO ⊢
 refine region_end (by kernel_rfl) ?_
 simp (config:={zetaDelta:=true}) only [bodyPostS]
 exact ⟨trivial,_,rfl,_,results_none rfl _ _ _,rfl,rfl,KO.out,K1.out,K2.out,K3.out⟩
theorem catch_idle (b1 b2 b3:Nat) (w:World) :
  CallsD Tryz.prog 27 #[.pointer (some ⟨b1,0,none⟩),.pointer (some ⟨b2,0,none⟩),.pointer (some ⟨b3,0,none⟩)] .returning w fun e u' w' =>
   e = .returned (.tuple #[])∧u' = .returning∧Bel w w':=by
 refine callsD_of_wpS Tryz.func27 rfl fun c₀ cs hu => ?_
 simp only [Tryz.ntmps27,List.size_toArray,List.length_cons,List.length_nil,Nat.reduceAdd,Nat.reduceSub,Array.replicate_succ,Array.replicate_zero,List.push_toArray,List.append_toArray,List.nil_append,List.cons_append]
 apply wpS_seq
 refine wpS_region_recover (cs':=c₀ :: cs) rfl (by rfl) (by rfl) .nilIface (.inr ⟨by simp only [recoverD,hu],rfl,rfl⟩) ?_
 simp only [Act.put,List.setIfInBounds_toArray,List.set_cons_zero,List.set_cons_succ]
 have hta:=assert_nil
 go_wp2_with fail
 simp only [Exit.thenS]
 refine wpS_of_wp ?_
 clear hta
 have hB:Bel w (w.alloc (.cells #[.int .i64 0,.int .i64 0] 58)):=Bel.alloc _ _
 go_wp2_with fail
 have hc:c₀ :: cs = { c₀ with mode:=.returning } :: cs:=by rw [← hu]
 simp (config:={zetaDelta:=true}) only [bodyPostS]
 exact ⟨trivial,_,hc,_,results_none rfl _ _ _,rfl,rfl,hB⟩
end
end Go.Proofs.YtpcapmdfjmpdiaaGreatDoor
