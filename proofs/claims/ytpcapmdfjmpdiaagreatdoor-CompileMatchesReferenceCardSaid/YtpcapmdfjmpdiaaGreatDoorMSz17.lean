/- The reference of layer 17: size and prints. -/
import Derived.Test.YtpcapmdfjmpdiaaGreatDoorMRc14
set_option linter.unusedVariables false
set_option linter.unusedSimpArgs false
set_option maxRecDepth 100000
set_option maxHeartbeats 6400000
open Go.Lib (hid)
namespace Go.Proofs.YtpcapmdfjmpdiaaGreatDoor
open Go.RowKit Go.BigFrame NT
namespace NT
mutual
def szr:NT→Nat | mk k _ _ _ _ e _ _ b _ _ l => if k = 6 then 0 else if k = 2 then 1 + szrs b + szrs l + (if e = true then 1 else 0) else if k = 3 then 2 + szrs b else 1
def szrs:List NT→Nat | [] => 0 | x :: r => szr x + szrs r
end
mutual
def prr:NT→Nat | mk k _ _ _ _ _ _ _ b _ _ l => (if k = 1 then 1 else 0) + (prrs b + prrs l)
def prrs:List NT→Nat | [] => 0 | x :: r => prr x + prrs r
end
theorem szr_eq (t:NT):t.szr = if t.k = 6 then 0 else if t.k = 2 then 1 + szrs t.b + szrs t.l + (if t.e = true then 1 else 0) else if t.k = 3 then 2 + szrs t.b else 1:=by cases t;rw [szr];rfl
theorem prr_eq (t:NT):t.prr = (if t.k = 1 then 1 else 0) + (prrs t.b + prrs t.l):=by cases t;rw [prr];rfl
theorem szrs_nil:szrs [] = 0:=by simp [szrs]
theorem szrs_cons (x:NT) (r:List NT):szrs (x :: r) = szr x + szrs r:=by simp [szrs]
theorem szrs_append:∀ l m:List NT,szrs (l ++ m) = szrs l + szrs m
 | [],m => by simp [szrs_nil]
 | x :: l,m => by rw [List.cons_append,szrs_cons,szrs_cons,szrs_append l m];omega
theorem prrs_nil:prrs [] = 0:=by simp [prrs]
theorem prrs_cons (x:NT) (r:List NT):prrs (x :: r) = prr x + prrs r:=by simp [prrs]
theorem prrs_append:∀ l m:List NT,prrs (l ++ m) = prrs l + prrs m
 | [],m => by simp [prrs_nil]
 | x :: l,m => by rw [List.cons_append,prrs_cons,prrs_cons,prrs_append l m];omega
theorem szr_bound (t:NT):szr t≤3 * tot t∧prr t≤tot t:=by
 have key:∀ l:List NT,(∀ x,x ∈ l→szr x≤3 * tot x∧prr x≤tot x)→szrs l≤3 * tots l∧prrs l≤tots l:=by
  intro l
  induction l with
  | nil => intro _;simp [szrs_nil,prrs_nil,tots_nil]
  | cons x l ih =>
   intro h
   have h1:=h x (by simp)
   have h2:=ih fun y hy => h y (by simp [hy])
   rw [szrs_cons,prrs_cons,tots_cons]
   omega
 refine NT.ind (M:=fun t => szr t≤3 * tot t∧prr t≤tot t) (fun t hb hl => ?_) t
 have h1:=key _ hb
 have h2:=key _ hl
 rw [szr_eq,prr_eq,tot_eq]
 constructor
 ·split
  ·omega
  split
  ·split <;> omega
  split <;> omega
 ·split <;> omega
theorem szrs_bound:∀ l:List NT,szrs l≤3 * tots l∧prrs l≤tots l
 | [] => by simp [szrs_nil,prrs_nil,tots_nil]
 | x :: l => by
  have h1:=szr_bound x
  have h2:=szrs_bound l
  rw [szrs_cons,prrs_cons,tots_cons]
  omega
theorem szrs_step {l:List NT} {i:Nat} {x:NT} (h:l[i]? = some x):szrs (l.take (i + 1)) = szrs (l.take i) + x.szr∧prrs (l.take (i + 1)) = prrs (l.take i) + x.prr:=by
 rw [take_step h,szrs_append,szrs_cons,szrs_nil,prrs_append,prrs_cons,prrs_nil];omega
end NT
theorem Bel.drew17 (w:World):Bel w w.drew:=(Below.refl _ _).drew
abbrev Cssize (w:World) (A:Option Addr) (n c:Nat) (r:Nat):Prop:=Calls Tryz.prog 44 #[.slice A n c] w fun e w' => e = .returned (.int .i64 (r:Nat))∧Bel w w'
def Msize (x:NT):Prop:=∀ (w:World),x.In w (Lt w)→x.tot≤100000→Cssize w x.A x.b.length x.c (szrs x.b)∧Cssize w x.B x.l.length x.d (szrs x.l)
theorem size_row (l:List NT) (ih:∀ x ∈ l,Msize x) (A:Option Addr) (c:Nat) (w:World) (hA:Row w (Lt w) A c l) (ht:tots l≤100000):Cssize w A l.length c (szrs l):=by
 obtain ⟨n,hn⟩:∃ n,n = l.length:=⟨_,rfl⟩
 have hn5:=hA.len
 rw [← hn] at hn5 ⊢
 have HA:=hid hA
 have HI:=hid ih
 have HN:=hid hn
 have HT:=hid ht
 clear hA ih hn ht
 go_enter Tryz.func44,Tryz.ntmps44
 go_wp2_with fail
 go_loopw [3,4] (fun s3 s4 wr => ∃ i q:Nat,i≤n∧s3 = .int .i64 q∧s4 = .int .i64 i∧Hid (q = szrs (l.take i))∧Hid (Bel w wr)) (fun _ s4 _ => n - (intOf s4).toNat)
 case atStart => exact ⟨0,0,Nat.zero_le _,rfl,rfl,hid (by rw [List.take_zero];simp [szrs]),hid (Bel.refl _)⟩
 case round =>
  obtain ⟨i,q,hin,rfl,rfl,HQ,HB⟩:=hrel
  by_cases hlt:i < n
  ·have hxt:=List.getElem?_eq_getElem (l:=l) (i:=i) (by have:=HN.out;omega)
   generalize l[i]'(by have:=HN.out;omega) = x at hxt
   have hxm:=List.mem_of_getElem? hxt
   obtain ⟨g,o,hAA,hg,ha⟩:=HA.out.cells hxt
   subst hAA
   have HXI:=hid (HA.out.2 x hxm)
   have hst:=tots_step hxt
   have hle1:tots (l.take (i + 1))≤100000:=by have h1:=HT.out;rw [← List.take_append_drop (i + 1) l,tots_append] at h1;omega
   have hte:=tot_eq x
   have hx1:x.tot≤100000:=by omega
   have HMX:=hid (fun W (hb:Bel w W) => HI.out x hxm W (HXI.out.bel hb) hx1)
   have hqb:q≤300000:=by have h1:=szrs_bound (l.take i);have:=HQ.out;omega
   have hsb:=szrs_bound x.b
   have hsl:=szrs_bound x.l
   have hstep:=szrs_step hxt
   obtain ⟨SB,hSB⟩:∃ SB,SB = szrs x.b:=⟨_,rfl⟩
   obtain ⟨SL,hSL⟩:∃ SL,SL = szrs x.l:=⟨_,rfl⟩
   have hb1:SB≤300000:=by omega
   have hl1:SL≤300000:=by omega
   have HCB:=hid (fun W (hb:Bel w W) => show Cssize W x.A x.b.length x.c SB by rw [hSB];exact (HMX.out W hb).1)
   have HCL:=hid (fun W (hb:Bel w W) => show Cssize W x.B x.l.length x.d SL by rw [hSL];exact (HMX.out W hb).2)
   have heq:=szr_eq x
   rw [← hSB,← hSL] at heq
   have HAA:=hid ha
   have HST:=hid (show szrs (l.take (i + 1)) = q + x.szr by rw [hstep.1,HQ.out])
   obtain ⟨a0,a1,a2,a3,a4,a5,a6,a7⟩:=ha wr HB.out
   clear hxt hxm hg ha hst hle1 hte hx1 hsb hsl hstep hSB hSL HXI
   by_cases h6:x.k = 6
   ·have k6:(x.k == 6) = true:=by rw [h6];rfl
    rw [if_pos h6] at heq
    have HEQ:=hid heq
    clear heq h6
    go_wp2_with fail
    go_roundw
    case rel => exact ⟨i + 1,q,by omega,rfl,by go_num,hid (by rw [HST.out,HEQ.out];rfl),HB⟩
    case measure => simp [intOf];omega
   have k6:(x.k == 6) = false:=by simpa using h6
   rw [if_neg h6] at heq
   by_cases h2:x.k = 2
   ·have k2:(x.k == 2) = true:=by rw [h2];rfl
    rw [if_pos h2] at heq
    have HEQ:=hid heq
    clear heq h6 h2
    go_wp2_with fail
    clear a0 a1 a2 a3 a4 a5 a6 a7
    refine region_begin (T:=[]) (by kernel_rfl) ?_
    have HBd:=hid (HB.out.trans (Bel.drew17 _))
    generalize wr.drew = W at HBd ⊢
    have c5:=fun X:Later [] W => (HAA.out X.w (HBd.out.trans (bel_of_only X.h))).2.2.2.2.2.2.1
    have c6:=fun X:Later [] W => (HAA.out X.w (HBd.out.trans (bel_of_only X.h))).2.2.2.2.2.2.2
    refine region_seg [true,true,true,true,true,true,false,false,true,true,true,true,true] 6 (by kernel_rfl) (by kernel_rfl) (by kernel_rfl) rfl (fun _ _ d _ _ h => by cases d <;> exact h) ?_
    repeat (first | with_reducible refine wpMask_pass ?_ | (refine wpMask_want (by rfl) (fun K hK => ?_);go_big_quiet_op;refine hK _ ?_;clear hK K))
    with_reducible refine wpMask_nil ?_
    clear c5 c6
    refine region_call 6 (by kernel_rfl) rfl (by rfl) (by go_simp;exact ⟨rfl,rfl⟩) ?_
    (with_reducible refine (HCB.out _ HBd.out).mono ?_);rintro e w2 ⟨rfl,hb⟩;refine ⟨_,rfl,bel_only hb,?_⟩
    simp only [List.getElem_toArray,List.getElem_cons_zero,List.getElem_cons_succ,Act.put,List.setIfInBounds_toArray,List.set_cons_zero,List.set_cons_succ]
    have HB2:=hid (HBd.out.trans hb)
    clear hb
    refine region_seg [false,false,false,false,false,false,false,true] 4 (by kernel_rfl) (by kernel_rfl) (by kernel_rfl) rfl (fun _ _ d _ _ h => by cases d <;> exact h) ?_
    repeat (first | with_reducible refine wpMask_pass ?_ | (refine wpMask_want (by rfl) (fun K hK => ?_);go_big_quiet_op;refine hK _ ?_;clear hK K))
    with_reducible refine wpMask_nil ?_
    refine region_call 13 (by kernel_rfl) rfl (by rfl) (by go_simp;exact ⟨rfl,rfl⟩) ?_
    (with_reducible refine (HCL.out _ HB2.out).mono ?_);rintro e w3 ⟨rfl,hb⟩;refine ⟨_,rfl,bel_only hb,?_⟩
    simp only [List.getElem_toArray,List.getElem_cons_zero,List.getElem_cons_succ,Act.put,List.setIfInBounds_toArray,List.set_cons_zero,List.set_cons_succ]
    have HB3:=hid (HB2.out.trans hb)
    clear hb
    refine region_seg [false,false,false,false,false,false,false,false,false,false,false,false,false,false,true,true,true] 0 (by kernel_rfl) (by kernel_rfl) (by kernel_rfl) rfl (fun _ _ d _ _ h => by cases d <;> exact h) ?_
    repeat (first | with_reducible refine wpMask_pass ?_ | (refine wpMask_want (by rfl) (fun K hK => ?_);go_big_quiet_op;refine hK _ ?_;clear hK K))
    with_reducible refine wpMask_nil ?_
    refine region_end (by kernel_rfl) ?_
    obtain ⟨a0,a1,a2,a3,a4,a5,a6,a7⟩:=HAA.out w3 HB3.out
    cases he:x.e
    all_goals rw [he] at a5
    all_goals have HE:=hid he
    all_goals clear he
    case' false =>
     go_wp2_with fail
     go_roundw
     case rel => exact ⟨i + 1,q + (1 + SB + SL),by omega,by go_num,by go_num,hid (by rw [HST.out,HEQ.out,HE.out];simp),HB3⟩
     case measure => simp [intOf];omega
    case' true =>
     go_wp2_with fail
     go_roundw
     case rel => exact ⟨i + 1,q + (1 + SB + SL) + 1,by omega,by go_num,by go_num,hid (by rw [HST.out,HEQ.out,HE.out];simp;omega),HB3⟩
     case measure => simp [intOf];omega
   have k2:(x.k == 2) = false:=by simpa using h2
   rw [if_neg h2] at heq
   by_cases h3:x.k = 3
   ·have k3:(x.k == 3) = true:=by rw [h3];rfl
    rw [if_pos h3] at heq
    have HEQ:=hid heq
    clear heq h6 h2 h3
    go_wp2_with (go_at_call 44;((with_reducible refine (HCB.out _ HB.out).mono ?_);rintro e w2 ⟨rfl,hb⟩;have HB2:=hid (HB.out.trans hb);clear hb))
    go_roundw
    case rel => exact ⟨i + 1,q + (2 + SB),by omega,by go_num,by go_num,hid (by rw [HST.out,HEQ.out]),HB2⟩
    case measure => simp [intOf];omega
   have k3:(x.k == 3) = false:=by simpa using h3
   rw [if_neg h3] at heq
   have HEQ:=hid heq
   clear heq h6 h2 h3
   go_wp2_with fail
   go_roundw
   case rel => exact ⟨i + 1,q + 1,by omega,by go_num,by go_num,hid (by rw [HST.out,HEQ.out]),HB⟩
   case measure => simp [intOf];omega
  ·obtain rfl:i = n:=by omega
   have HRF:=hid (show q = szrs l by have h:=HQ.out;rwa [HN.out,List.take_length] at h)
   go_wp2_with fail
   go_ret
   exact ⟨by rw [HRF.out];rfl,HB.out⟩
theorem size_all (x:NT):Msize x:=by
 refine NT.ind (M:=Msize) (fun t h1 h2 => ?_) x
 intro w ht hz
 rw [tot_eq] at hz
 exact ⟨size_row t.b h1 _ _ w ht.body (by omega),size_row t.l h2 _ _ w ht.els (by omega)⟩
theorem rsize_c {l:List NT} {A:Option Addr} {c:Nat} {w:World} (hA:Row w (Lt w) A c l) (ht:tots l≤100000):Cssize w A l.length c (szrs l):=size_row l (fun x _ => size_all x) A c w hA ht
abbrev Csprints (w:World) (A:Option Addr) (n c:Nat) (r:Nat):Prop:=Calls Tryz.prog 45 #[.slice A n c] w fun e w' => e = .returned (.int .i64 (r:Nat))∧Bel w w'
def Mprints (x:NT):Prop:=∀ (w:World),x.In w (Lt w)→x.tot≤100000→Csprints w x.A x.b.length x.c (prrs x.b)∧Csprints w x.B x.l.length x.d (prrs x.l)
theorem prints_row (l:List NT) (ih:∀ x ∈ l,Mprints x) (A:Option Addr) (c:Nat) (w:World) (hA:Row w (Lt w) A c l) (ht:tots l≤100000):Csprints w A l.length c (prrs l):=by
 obtain ⟨n,hn⟩:∃ n,n = l.length:=⟨_,rfl⟩
 have hn5:=hA.len
 rw [← hn] at hn5 ⊢
 have HA:=hid hA
 have HI:=hid ih
 have HN:=hid hn
 have HT:=hid ht
 clear hA ih hn ht
 go_enter Tryz.func45,Tryz.ntmps45
 go_wp2_with fail
 go_loopw [3,4] (fun s3 s4 wr => ∃ i q:Nat,i≤n∧s3 = .int .i64 q∧s4 = .int .i64 i∧Hid (q = prrs (l.take i))∧Hid (Bel w wr)) (fun _ s4 _ => n - (intOf s4).toNat)
 case atStart => exact ⟨0,0,Nat.zero_le _,rfl,rfl,hid (by rw [List.take_zero];simp [prrs]),hid (Bel.refl _)⟩
 case round =>
  obtain ⟨i,q,hin,rfl,rfl,HQ,HB⟩:=hrel
  by_cases hlt:i < n
  ·have hxt:=List.getElem?_eq_getElem (l:=l) (i:=i) (by have:=HN.out;omega)
   generalize l[i]'(by have:=HN.out;omega) = x at hxt
   have hxm:=List.mem_of_getElem? hxt
   obtain ⟨g,o,hAA,hg,ha⟩:=HA.out.cells hxt
   subst hAA
   have HXI:=hid (HA.out.2 x hxm)
   have hst:=tots_step hxt
   have hle1:tots (l.take (i + 1))≤100000:=by have h1:=HT.out;rw [← List.take_append_drop (i + 1) l,tots_append] at h1;omega
   have hte:=tot_eq x
   have hx1:x.tot≤100000:=by omega
   have HMX:=hid (fun W (hb:Bel w W) => HI.out x hxm W (HXI.out.bel hb) hx1)
   have hqb:q≤300000:=by have h1:=szrs_bound (l.take i);have:=HQ.out;omega
   have hsb:=szrs_bound x.b
   have hsl:=szrs_bound x.l
   have hstep:=szrs_step hxt
   obtain ⟨SB,hSB⟩:∃ SB,SB = prrs x.b:=⟨_,rfl⟩
   obtain ⟨SL,hSL⟩:∃ SL,SL = prrs x.l:=⟨_,rfl⟩
   have hb1:SB≤300000:=by omega
   have hl1:SL≤300000:=by omega
   have HCB:=hid (fun W (hb:Bel w W) => show Csprints W x.A x.b.length x.c SB by rw [hSB];exact (HMX.out W hb).1)
   have HCL:=hid (fun W (hb:Bel w W) => show Csprints W x.B x.l.length x.d SL by rw [hSL];exact (HMX.out W hb).2)
   have heq:=prr_eq x
   rw [← hSB,← hSL] at heq
   have HAA:=hid ha
   have HST:=hid (show prrs (l.take (i + 1)) = q + x.prr by rw [hstep.2,HQ.out])
   obtain ⟨a0,a1,a2,a3,a4,a5,a6,a7⟩:=ha wr HB.out
   clear hxt hxm hg ha hst hle1 hte hx1 hsb hsl hstep hSB hSL HXI
   obtain ⟨d,hd⟩:∃ d:Nat,d = if x.k = 1 then 1 else 0:=⟨_,rfl⟩
   rw [← hd] at heq
   have HEQ:=hid heq
   clear heq
   by_cases h1:x.k = 1
   all_goals
    first
     | (have k1:(x.k == 1) = true:=by rw [h1];rfl)
     | (have k1:(x.k == 1) = false:=by simpa using h1)
    first
     | rw [if_pos h1] at hd
     | rw [if_neg h1] at hd
    subst hd
    clear h1
    go_wp2_with fail
    clear a0 a1 a2 a3 a4 a5 a6 a7
    refine region_begin (T:=[]) (by kernel_rfl) ?_
    have HBd:=hid (HB.out.trans (Bel.drew17 _))
    generalize wr.drew = W at HBd ⊢
    have c5:=fun X:Later [] W => (HAA.out X.w (HBd.out.trans (bel_of_only X.h))).2.2.2.2.2.2.1
    have c6:=fun X:Later [] W => (HAA.out X.w (HBd.out.trans (bel_of_only X.h))).2.2.2.2.2.2.2
    refine region_seg [true,true,true,true,true,true,false,true,true,true,true,true] 5 (by kernel_rfl) (by kernel_rfl) (by kernel_rfl) rfl (fun _ _ d _ _ h => by cases d <;> exact h) ?_
    repeat (first | with_reducible refine wpMask_pass ?_ | (refine wpMask_want (by rfl) (fun K hK => ?_);go_big_quiet_op;refine hK _ ?_;clear hK K))
    with_reducible refine wpMask_nil ?_
    clear c5 c6
    refine region_call 6 (by kernel_rfl) rfl (by rfl) (by go_simp;exact ⟨rfl,rfl⟩) ?_
    (with_reducible refine (HCB.out _ HBd.out).mono ?_);rintro e w2 ⟨rfl,hb⟩;refine ⟨_,rfl,bel_only hb,?_⟩
    simp only [List.getElem_toArray,List.getElem_cons_zero,List.getElem_cons_succ,Act.put,List.setIfInBounds_toArray,List.set_cons_zero,List.set_cons_succ]
    have HB2:=hid (HBd.out.trans hb)
    clear hb
    refine region_call 12 (by kernel_rfl) rfl (by rfl) (by go_simp;exact ⟨rfl,rfl⟩) ?_
    (with_reducible refine (HCL.out _ HB2.out).mono ?_);rintro e w3 ⟨rfl,hb⟩;refine ⟨_,rfl,bel_only hb,?_⟩
    simp only [List.getElem_toArray,List.getElem_cons_zero,List.getElem_cons_succ,Act.put,List.setIfInBounds_toArray,List.set_cons_zero,List.set_cons_succ]
    have HB3:=hid (HB2.out.trans hb)
    clear hb
    refine region_seg [false,false,false,false,false,false,false,false,false,false,false,false,false,true,true,true] 0 (by kernel_rfl) (by kernel_rfl) (by kernel_rfl) rfl (fun _ _ d _ _ h => by cases d <;> exact h) ?_
    repeat (first | with_reducible refine wpMask_pass ?_ | (refine wpMask_want (by rfl) (fun K hK => ?_);go_big_quiet_op;refine hK _ ?_;clear hK K))
    with_reducible refine wpMask_nil ?_
    refine region_end (by kernel_rfl) ?_
    go_wp2_with fail
    go_roundw
    case rel =>
     first
      | exact ⟨i + 1,q + (SB + SL),by omega,by go_num,by go_num,hid (by rw [HST.out,HEQ.out];omega),HB3⟩
      | exact ⟨i + 1,q + 1 + (SB + SL),by omega,by go_num,by go_num,hid (by rw [HST.out,HEQ.out];omega),HB3⟩
    case measure => simp [intOf];omega
  ·obtain rfl:i = n:=by omega
   have HRF:=hid (show q = prrs l by have h:=HQ.out;rwa [HN.out,List.take_length] at h)
   go_wp2_with fail
   go_ret
   exact ⟨by rw [HRF.out];rfl,HB.out⟩
theorem prints_all (x:NT):Mprints x:=by
 refine NT.ind (M:=Mprints) (fun t h1 h2 => ?_) x
 intro w ht hz
 rw [tot_eq] at hz
 exact ⟨prints_row t.b h1 _ _ w ht.body (by omega),prints_row t.l h2 _ _ w ht.els (by omega)⟩
theorem rprints_c {l:List NT} {A:Option Addr} {c:Nat} {w:World} (hA:Row w (Lt w) A c l) (ht:tots l≤100000):Csprints w A l.length c (prrs l):=prints_row l (fun x _ => prints_all x) A c w hA ht
end Go.Proofs.YtpcapmdfjmpdiaaGreatDoor
