/- The program of layer 16: print -/
import Derived.Test.YtpcapmdfjmpdiaaGreatDoorMPf17
import Derived.Test.YtpcapmdfjmpdiaaGreatDoorMEr14
import Derived.Test.YtpcapmdfjmpdiaaGreatDoorMKRow
import Derived.Test.YtpcapmdfjmpdiaaGreatDoorMRc14
set_option linter.unusedVariables false
set_option linter.unusedSimpArgs false
set_option maxRecDepth 100000
set_option maxHeartbeats 6400000
open Go.Lib (hid)
namespace Go.Proofs.YtpcapmdfjmpdiaaGreatDoor
section
open Go.RowKit Go.BigFrame NT
theorem Ev.push {B rr:Nat} {w W w6:World} {A0 A A':Option Addr} {n c m c' N:Nat} {es new:List Nat} (h:Ev B rr w A0 W A n c es) (hm:m = new.length) (hN:N = n + m) (hR:RowAt w6 3 A' N c' (vin es ++ vin new)) (hO:Only (rowT A) W w6)
  (hK:∀ k,k ∈ rowT A'→k ∈ rowT A ∨ W.heap.size≤k):Ev B rr w A0 (w6.setCell ⟨rr,0,none⟩ (.slice A' N c')) A' N c' (es ++ new):=by
 have hX:Blk w6 rr 72 [.slice A n c]:=h.an.blk.only hO (h.an.row.ne_blk h.an.blk (by decide))
 have hO7:Only [rr] w6 (w6.setCell ⟨rr,0,none⟩ (.slice A' N c')):=(Only.refl _ _).setCell (.inl (by simp)) _
 have hr:=hR.ne_blk hX (by decide)
 refine ⟨⟨by have:=hX.set_ 0 (.slice A' N c');simpa using this,by rw [List.length_append,← h.an.len,← hm,hN],?_,h.an.lo,fun k hk => ?_⟩,?_,fun k hk => ?_⟩
 ·rw [vin_append]
  exact hR.only hO7 (fun k hk hm => by rw [List.mem_singleton] at hm;subst hm;exact hr hk)
 ·rcases hK k hk with h1 | h1
  ·exact h.an.low k h1
  ·exact Nat.le_trans h.an.size h1
 ·refine (h.only.join hO (fun i hi => ?_)).setCell (.inl (by simp)) _
  exact (h.sub i hi).imp (fun h => List.mem_cons_of_mem _ h) id
 ·rcases hK k hk with h1 | h1
  ·exact h.sub k h1
  ·exact .inr (Nat.le_trans h.only.size h1)
structure P30 (w w1:World) (s:HS) (x:NT):Prop where
 b0:Blk w1 w.heap.size 74 (sC s)
 b1:Blk w1 (w.heap.size + 1) 69 x.cs
 b2:Blk w1 (w.heap.size + 1 + 1) 74 [.int .i64 0,.string ⟨#[]⟩,.string ⟨#[]⟩,.string ⟨#[]⟩]
abbrev w3p (w:World) (s:HS) (x:NT):World:=((w.alloc (.cells #[.int .i64 (s.c:Nat),.string (ofL s.n),.string (ofL s.a),.string (ofL s.p)] 74)).alloc (.cells #[.int .i64 x.k,.int .i64 x.a,.string x.s,.string x.p,.bool x.h,.bool x.e,.slice x.A x.b.length x.c,.slice x.B x.l.length x.d] 69)).alloc (.cells #[.int .i64 0,.string ⟨#[]⟩,.string ⟨#[]⟩,.string ⟨#[]⟩] 74)
theorem p30_start (w:World) (s:HS) (x:NT):P30 w (w3p w s x) s x :=
 ⟨((Blk.new w 74 (sC s)).alloc _).alloc _,(blk_at1h w _ 69 x.cs).alloc _,blk_at2_16 w _ _ _⟩
theorem P30.later {w w1 w2:World} {s:HS} {x:NT} (h:P30 w w1 s x) (hb:Bel w1 w2):P30 w w2 s x:=⟨h.b0.belh hb,h.b1.belh hb,h.b2.belh hb⟩
theorem P30.keep {B rr:Nat} {w w1 w2:World} {A:Option Addr} {n c:Nat} {es:List Nat} {s:HS} {x:NT} (h:P30 w w1 s x) (hA:An B rr w1 A n c es) (hO:Only (rr :: rowT A) w1 w2):P30 w w2 s x :=
 ⟨hA.keep hO h.b0 (by decide) (by decide),hA.keep hO h.b1 (by decide) (by decide),hA.keep hO h.b2 (by decide) (by decide)⟩
theorem P30.row {w w1 w2:World} {A:Option Addr} {n c:Nat} {xs:List Value} {s:HS} {x:NT} (h:P30 w w1 s x) (hA:RowAt w1 3 A n c xs) (hO:Only (rowT A) w1 w2):P30 w w2 s x :=
 ⟨h.b0.only hO (hA.ne_blk h.b0 (by decide)),h.b1.only hO (hA.ne_blk h.b1 (by decide)),h.b2.only hO (hA.ne_blk h.b2 (by decide))⟩
theorem print_c (s:HS) (hi:Inv s) (x:NT) (done:List Nat) (B rr:Nat) (A:Option Addr) (n c:Nat) (w:World) (hA:An B rr w A n c done) (hle:n + 1≤100000) :
  Calls Tryz.prog 84 #[.pointer (some ⟨rr,0,none⟩),.agg #[.int .i64 (s.c:Nat),.string (ofL s.n),.string (ofL s.a),.string (ofL s.p)],nV x] w
   (PP (if (escS s).2 = true then .ok s [(escS s).1] else .no x.a 15) done B rr w A):=by
 have HES:=hid (fun W => show Calls Tryz.prog 106 #[.agg #[.int .i64 (s.c:Nat),.string (ofL s.n),.string (ofL s.a),.string (ofL s.p)]] W _ from pesc_c s hi W)
 generalize escS s = q at HES ⊢
 obtain ⟨ke,be⟩:=q
 have HP0:=hid (p30_start w s x)
 have HE0:=hid ((Ev.refl hA).bel (show Bel w (w3p w s x) from bel3_16 w _ _ _))
 have hrr:=hA.blk.lt
 obtain ⟨i0,ji,jz0,jz1,jz2⟩:=info_int16
 have HI0:=hid ji
 have HZ0:=hid jz0
 have HZ1:=hid jz1
 have HZ2:=hid jz2
 have HH1:=hid (show n + 1≤maxLen by unfold maxLen;omega)
 have HH2:=hid (show (n + 1) * 8≤140737488355328 by omega)
 clear ji jz0 jz1 jz2 hle hA
 cases be
 case' false =>
  rw [if_neg (by simp)]
  go_enter Tryz.func84,Tryz.ntmps84
  go_wp2_with (first
   | (go_at_call 106;((with_reducible refine (HES.out _).mono ?_);rintro e w2 ⟨rfl,hb⟩;have HP1:=hid (HP0.out.later hb);have HE1:=hid (HE0.out.bel hb);clear hb;obtain ⟨x0',x1',x2',x3',x4',x5',x6',x7'⟩:=cells8 HP1.out.b1))
   | (go_at_call 107;((with_reducible refine (fail_c x 15 _).mono ?_);rintro e w3 ⟨rfl,hb⟩;have HP2:=hid (HP1.out.later hb);have HE2:=hid (HE1.out.bel hb);clear hb;obtain ⟨k0,k1,k2,k3⟩:=cells4 HP2.out.b2;obtain ⟨y0,y1,y2,y3⟩:=frees4 HP2.out.b2)))
  exact pp_set rfl rfl rfl rfl HP2.out.b2 (by omega) HE2.out (t:=s0 0) rfl ⟨rfl,rfl,rfl,by decide⟩
 case' true =>
  rw [if_pos rfl]
  go_enter Tryz.func84,Tryz.ntmps84
  go_wp2_with (first
   | (go_at_call 106;((with_reducible refine (HES.out _).mono ?_);rintro e w2 ⟨rfl,hb⟩;have HP1:=hid ((HP0.out.later hb).later (Bel.alloc w2 (.cells #[.int .i64 (ke:Nat)] 3)));have HE1:=hid ((HE0.out.bel hb).bel (Bel.alloc w2 (.cells #[.int .i64 (ke:Nat)] 3)));have g0:=(HE0.out.bel hb).an.blk.cell 0;have HRD:=hid HE1.out.an.row;have HRX:=hid (RowAt.reads (RowAt.of_blk (Blk.new w2 3 [.int .i64 (ke:Nat)]) (by show 1≤maxLen;decide)));have HAX:=hid HE1.out.an.blk;have HNX:=hid (HE1.out.an.row.ne_blk HE1.out.an.blk (by decide));clear hb))
   | ((with_reducible refine wp_rowAppend rfl (.tmp 27) (.tmp 29) 42 rfl 3 i0 _ 8 Tryz.underlying42 HI0.out HZ0.out HZ1.out HZ2.out rfl A n c (vin done) rfl HRD.out _ (some ⟨w2.heap.size,0,none⟩) 1 1 (vin [ke]) rfl HRX.out (vin_one _) HH1.out HH2.out (n + 1) rfl ?_);intro A' c' w6 HR6 hO6 HK6;have HE6:=hid (Ev.push HE1.out (new:=[ke]) rfl rfl HR6.out hO6 HK6.out);have HP6:=hid (HP1.out.row HRD.out hO6);have HX6:=hid (HAX.out.only hO6 HNX.out);have g6:=HX6.out.cell 0;have f6:=HX6.out.free 0;obtain ⟨k0,k1,k2,k3⟩:=cells4 HP6.out.b2;obtain ⟨y0,y1,y2,y3⟩:=frees4 HP6.out.b2;obtain ⟨s0',s1',s2',s3'⟩:=cells4 HP6.out.b0))
  exact pp_set rfl rfl rfl rfl (HP6.out.b2.only ((Only.refl [rr] _).setCell (.inl (by simp)) _) (by simp;omega)) (by omega) HE6.out (t:=s) rfl ⟨rfl,rfl,rfl,rfl⟩
end
section
open Go.RowKit Go.BigFrame NT
theorem hasN_take {ns:List ByteArray} {i:Nat} {x nm:ByteArray} (h:hasN (ns.take i) nm = false) (hx:ns[i]? = some x):(x = nm→hasN ns nm = true)∧(x ≠ nm→hasN (ns.take (i + 1)) nm = false):=by
 constructor
 ·intro e
  rw [hasN_iff,← e]
  exact List.mem_of_getElem? hx
 ·intro e
  rw [← Bool.not_eq_true,hasN_iff] at h ⊢
  rw [List.take_add_one,hx]
  intro hm
  rcases List.mem_append.1 hm with hm | hm
  ·exact h hm
  ·simp at hm;exact e hm.symm
theorem rhas_c {w:World} {N:Option Addr} {cn:Nat} {ns:List ByteArray} (h:RowAt w 9 N ns.length cn (vst ns)) (nm:ByteArray) :
  Calls Tryz.prog 68 #[.slice N ns.length cn,.string nm] w fun e w' => e = .returned (.bool (hasN ns nm))∧w' = w:=by
 obtain ⟨R,hR⟩:∃ R,R = hasN ns nm:=⟨_,rfl⟩
 rw [← hR]
 obtain ⟨n,hn⟩:∃ n,n = ns.length:=⟨_,rfl⟩
 have hm:n≤maxLen:=by rw [hn];exact Nat.le_trans h.le h.max
 unfold maxLen at hm
 have HN:=hid h
 rw [← hn]
 have HL:=hid hn
 have HR:=hid hR
 clear h hn hR
 go_enter Tryz.func68,Tryz.ntmps68
 go_wp2_with fail
 go_loopw [5] (fun s5 wr => ∃ i:Nat,i≤n∧s5 = .int .i64 i∧Hid (hasN (ns.take i) nm = false)∧wr = w) (fun s5 _ => n - (intOf s5).toNat)
 case atStart => exact ⟨0,Nat.zero_le _,rfl,hid rfl,rfl⟩
 case round =>
  obtain ⟨i,hin,rfl,HP,rfl⟩:=hrel
  by_cases hlt:i < n
  ·have hx:=List.getElem?_eq_getElem (l:=ns) (i:=i) (by have:=HL.out;omega)
   generalize ns[i]'(by have:=HL.out;omega) = x at hx
   obtain ⟨g1,o1,rfl,hc1⟩:=HN.out.cell (j:=i) (u:=.string x) (by unfold vst;rw [List.getElem?_map,hx];rfl)
   have HX:=hid hx
   clear hx
   by_cases he:x = nm
   ·have hb:(x.toList == nm.toList) = true:=by rw [he];exact beq_self_eq_true _
    have hRy:R = true:=by rw [HR.out];exact (hasN_take HP.out HX.out).1 he
    subst hRy
    clear he
    go_wp2_with fail
    go_ret
    exact ⟨rfl,rfl⟩
   ·have hb:(x.toList == nm.toList) = false:=by rw [toL_beq17,decide_eq_false he]
    have HE:=hid he
    clear he
    go_wp2_with fail
    go_roundw
    case rel => exact ⟨i + 1,by omega,by go_num,hid ((hasN_take HP.out HX.out).2 HE.out),trivial⟩
    case measure => simp [intOf];omega
  ·obtain rfl:i = n:=by omega
   have hR0:R = false:=by have h:=HP.out;rw [HL.out,List.take_length] at h;rw [HR.out,h]
   subst hR0
   go_wp2_with fail
   go_ret
   exact ⟨rfl,rfl⟩
theorem info_str17:∃ i,Tryz.prog.info? 9 = some i∧i.zero = some (.string ByteArray.empty)∧i.size = 1∧i.bytes = 16:=by
 refine ⟨_,rfl,?_,?_,?_⟩ <;> kernel_rfl
theorem defs_step17 {l:List NT} {i:Nat} {x:NT} (h:l[i]? = some x):defsN (l.drop i) = if x.k = 6 then x :: defsN (l.drop (i + 1)) else defsN (l.drop (i + 1)):=by
 obtain ⟨hi,hv⟩:=List.getElem?_eq_some_iff.1 h
 rw [List.drop_eq_getElem_cons hi,hv]
 unfold defsN
 rw [List.filter_cons]
 unfold isDef
 by_cases hk:x.k = 6
 ·rw [if_pos (by simpa using hk),if_pos hk]
 ·rw [if_neg (by simpa using hk),if_neg hk]
theorem find_step {l:List NT} {p:NT→Bool} {i:Nat} {x:NT} (h:l[i]? = some x) (hn:(l.take i).find? p = none):(p x = true→l.find? p = some x)∧(p x = false→(l.take (i + 1)).find? p = none):=by
 constructor
 ·intro hp
  obtain ⟨hi,hv⟩:=List.getElem?_eq_some_iff.1 h
  conv => lhs;rw [← List.take_append_drop i l,List.drop_eq_getElem_cons hi,hv]
  rw [List.find?_append,hn,Option.none_or,List.find?_cons,hp]
 ·intro hp
  rw [List.take_add_one,h,List.find?_append,hn,Option.none_or]
  show List.find? p [x] = none
  rw [List.find?_cons,hp]
  rfl
structure HcAt (w wr:World) (l:List NT) (i:Nat) (N:Option Addr) (q c:Nat) (seen:List ByteArray):Prop where
 row:RowAt wr 9 N q c (vst seen)
 len:q = seen.length
 le:q≤64
 fresh:∀ k,k ∈ rowT N→w.heap.size≤k
 bel:Bel w wr
 dup:dupN [] (defsN l) = dupN seen (defsN (l.drop i))
 names:(defsN l).map NT.s = seen ++ (defsN (l.drop i)).map NT.s
theorem rcheck14_c {l:List NT} {A:Option Addr} {c:Nat} {w:World} (hA:Row w (Lt w) A c l) (ht:tots l≤100000) :
  Calls Tryz.prog 42 #[.slice A l.length c] w fun e w' => e = .returned (.tuple #[.int .i64 (checkN l).1,.int .i64 ((checkN l).2:Nat)])∧Bel w w':=by
 obtain ⟨R,hR⟩:∃ R,R = checkN l:=⟨_,rfl⟩
 rw [← hR]
 have HRC:=hid (fun W (hb:Bel w W) => rcalls_c (hA.bel hb) ht)
 obtain ⟨n,hn⟩:∃ n,n = l.length:=⟨_,rfl⟩
 have hn5:=hA.len
 unfold RcC at HRC
 rw [← hn] at hn5 HRC ⊢
 have HA:=hid hA
 have HN:=hid hn
 have HT:=hid ht
 have HR:=hid hR
 obtain ⟨i0,ji,jz0,jz1,jz2⟩:=info_str17
 have HI0:=hid ji
 have HZ0:=hid jz0
 have HZ1:=hid jz1
 have HZ2:=hid jz2
 clear ji jz0 jz1 jz2 hA hn ht hR
 go_enter Tryz.func42,Tryz.ntmps42
 go_wp2_with fail
 go_loopw [4,5] (fun s4 s5 wr => ∃ (i:Nat) (N:Option Addr) (q c':Nat) (seen:List ByteArray),i≤n∧s5 = .int .i64 i∧s4 = .slice N q c'∧Hid (HcAt w wr l i N q c' seen)) (fun _ s5 _ => n - (intOf s5).toNat)
 case atStart => exact ⟨0,none,0,0,[],Nat.zero_le _,rfl,rfl,hid ⟨RowAt.nil _ _,rfl,Nat.zero_le _,by simp [rowT],Bel.refl _,rfl,rfl⟩⟩
 case round =>
  obtain ⟨i,N,q,c',seen,hin,rfl,rfl,HS⟩:=hrel
  by_cases hlt:i < n
  ·have hxt:=List.getElem?_eq_getElem (l:=l) (i:=i) (by have:=HN.out;omega)
   generalize l[i]'(by have:=HN.out;omega) = x at hxt
   obtain ⟨g,o,hAA,hg,ha⟩:=HA.out.cells hxt
   subst hAA
   have hds:=defs_step17 hxt
   obtain ⟨a0,a1,a2,a3,a4,a5,a6,a7⟩:=ha wr HS.out.bel
   have HAA:=hid ha
   have hq64:=HS.out.le
   clear hxt hg ha
   by_cases hk:x.k = 6
   ·have k6:(x.k != 6) = false:=by rw [hk];rfl
    rw [if_pos hk] at hds
    have HDS:=hid hds
    have HH:=hid (fun nm => rhas_c (show RowAt wr 9 N seen.length c' (vst seen) by rw [← HS.out.len];exact HS.out.row) nm)
    rw [← HS.out.len] at HH
    obtain ⟨bh,hbh⟩:∃ b,b = hasN seen x.s:=⟨_,rfl⟩
    have HBH:=hid (show Calls Tryz.prog 68 #[.slice N q c',.string x.s] wr (fun e w' => e = .returned (.bool bh)∧w' = wr) by rw [hbh];exact HH.out x.s)
    have HB:=hid hbh
    clear hds hk hbh HH
    cases bh with
    | true =>
     have hRR:R = (x.a,12):=by
      rw [HR.out]
      unfold checkN
      rw [HS.out.dup,HDS.out]
      unfold dupN
      rw [if_pos HB.out.symm]
     subst hRR
     go_wp2_with (go_at_call 68;((with_reducible refine (HBH.out).mono ?_);rintro e w2 ⟨rfl,hw⟩;rw [hw];clear hw w2))
     go_ret2
     exact ⟨rfl,HS.out.bel⟩
    | false =>
     by_cases h64:q = 64
     ·have hRR:R = (x.a,14):=by
       rw [HR.out]
       unfold checkN
       rw [HS.out.dup,HDS.out]
       unfold dupN
       rw [if_neg (by rw [← HB.out];decide),if_pos (by rw [← HS.out.len];exact h64)]
      subst hRR
      subst h64
      go_wp2_with (go_at_call 68;((with_reducible refine (HBH.out).mono ?_);rintro e w2 ⟨rfl,hw⟩;rw [hw];clear hw w2))
      go_ret2
      exact ⟨rfl,HS.out.bel⟩
     ·have hb64:((q:Int) == 64) = false:=by rw [beq_eq_false_iff_ne];omega
      have HB64:=hid h64
      have HRD:=hid (HS.out.row.only ((Only.refl [] wr).alloc (.cells #[.string x.s] 9)) (fun _ _ h => by cases h))
      have HRX:=hid (RowAt.reads (RowAt.of_blk (Blk.new wr 9 [.string x.s]) (by show 1≤maxLen;decide)))
      have HH1:=hid (show q + 1≤maxLen by unfold maxLen;omega)
      have HH2:=hid (show (q + 1) * 16≤140737488355328 by omega)
      have HH3:=hid (show ∀ u ∈ ([.string x.s]:List Value),u.oneCell' = true from fun u hu => by rw [List.mem_singleton] at hu;subst hu;rfl)
      clear h64
      go_wp2_with (first
       | (go_at_call 68;((with_reducible refine (HBH.out).mono ?_);rintro e w2 ⟨rfl,hw⟩;rw [hw];clear hw w2))
       | ((with_reducible refine wp_rowAppend rfl (.tmp 40) (.tmp 46) 112 rfl 9 i0 _ 16 Tryz.underlying112 HI0.out HZ0.out HZ1.out HZ2.out rfl N q c' (vst seen) rfl HRD.out _ (some ⟨wr.heap.size,0,none⟩) 1 1 [.string x.s] rfl HRX.out HH3.out HH1.out HH2.out (q + 1) rfl ?_);intro A' c'' w6 HR6 hO6 HK6;have HO6:=hid hO6;clear hO6))
      go_roundw
      case rel =>
       refine ⟨i + 1,A',q + 1,c'',seen ++ [x.s],by omega,by go_num,rfl,hid ⟨?_,?_,?_,?_,?_,?_,?_⟩⟩
       ·have:=HR6.out
        unfold vst
        rw [List.map_append]
        exact this
       ·rw [List.length_append,HS.out.len];rfl
       ·have:=HB64.out;omega
       ·intro k hk
        rcases HK6.out k hk with h | h
        ·exact HS.out.fresh k h
        ·have h1:=HS.out.bel.size
         have h2:=(Bel.alloc wr (.cells #[.string x.s] 9)).size
         omega
       ·exact bel_onK14 (HS.out.bel.trans (Bel.alloc _ _)) HO6.out HS.out.fresh
       ·rw [HS.out.dup,HDS.out]
        conv => lhs;unfold dupN
        rw [if_neg (by rw [← HB.out];decide),if_neg (by rw [← HS.out.len];exact HB64.out)]
       ·rw [HS.out.names,HDS.out,List.map_cons,List.append_assoc];rfl
      case measure => simp [intOf];omega
   ·have k6:(x.k != 6) = true:=bne_iff_ne.2 hk
    rw [if_neg hk] at hds
    have HDS:=hid hds
    clear hds hk
    go_wp2_with fail
    go_roundw
    case rel => exact ⟨i + 1,N,q,c',seen,by omega,by go_num,rfl,hid ⟨HS.out.row,HS.out.len,HS.out.le,HS.out.fresh,HS.out.bel,by rw [HS.out.dup,HDS.out],by rw [HS.out.names,HDS.out]⟩⟩
    case measure => simp [intOf];omega
  ·obtain rfl:i = n:=by omega
   have hdn:defsN (l.drop i) = []:=by rw [HN.out,List.drop_length];rfl
   have hdup:dupN [] (defsN l) = none:=by rw [HS.out.dup,hdn];rfl
   have hnm:namesN l = seen:=by unfold namesN;rw [HS.out.names,hdn];simp
   have HH:=hid (fun W (hb:Bel wr W) nm => rhas_c (show RowAt W 9 N seen.length c' (vst seen) by rw [← HS.out.len];exact HS.out.row.only (bel_only hb) (fun _ _ h => by cases h)) nm)
   rw [← HS.out.len] at HH
   have hR2:R = match (callNs l).find? (badCall l) with | some t => (t.a,11) | none => (0,0):=by
    rw [HR.out];unfold checkN;rw [hdup];rfl
   have HR2:=hid hR2
   have HBW:=hid HS.out.bel
   have HBC:=hid (show ∀ t:NT,badCall l t = !hasN seen t.s from fun t => by unfold badCall;rw [hnm])
   have hqm:q≤64:=HS.out.le
   clear hdn hdup hnm hR2
   go_wp2_with (go_at_call 69;((with_reducible refine (HRC.out _ HBW.out).mono ?_);rintro e w2 ⟨X,d,rfl,hX,hF,hb⟩;have HX:=hid hX.out;have HB2:=hid hb.out;clear hX hF hb))
   obtain ⟨m,hm⟩:∃ m,m = (callNs l).length:=⟨_,rfl⟩
   have HM:=hid hm
   have hmb:m≤100000:=by have:=callNs_len l;have:=HT.out;omega
   rw [← hm]
   clear hm
   go_loopw [7] (fun s7 wq => ∃ j:Nat,j≤m∧s7 = .int .i64 j∧Hid (((callNs l).take j).find? (badCall l) = none)∧wq = w2) (fun s7 _ => m - (intOf s7).toNat)
   case atStart => exact ⟨0,Nat.zero_le _,rfl,hid rfl,rfl⟩
   case round =>
    obtain ⟨j,hjm,rfl,HF,rfl⟩:=hrel
    by_cases hj:j < m
    ·have hyt:=List.getElem?_eq_getElem (l:=callNs l) (i:=j) (by have:=HM.out;omega)
     generalize (callNs l)[j]'(by have:=HM.out;omega) = y at hyt
     obtain ⟨g,o,rfl,hg,hc⟩:=HX.out.at_ NT.cs_len hyt (by decide)
     have b1:=hc 1 _ rfl
     have b2:=hc 2 _ rfl
     have HY:=hid hyt
     obtain ⟨bh,hbh⟩:∃ b,b = hasN seen y.s:=⟨_,rfl⟩
     have HBH:=hid (show Calls Tryz.prog 68 #[.slice N q c',.string y.s] wr (fun e w' => e = .returned (.bool bh)∧w' = wr) by rw [hbh];exact HH.out wr HB2.out y.s)
     have HB:=hid hbh
     clear hc hg hyt hbh
     cases bh with
     | true =>
      go_wp2_with (go_at_call 68;((with_reducible refine (HBH.out).mono ?_);rintro e w3 ⟨rfl,hw⟩;rw [hw];clear hw w3))
      go_roundw
      case rel => exact ⟨j + 1,by omega,by go_num,hid ((find_step HY.out HF.out).2 (by rw [HBC.out,← HB.out];rfl)),trivial⟩
      case measure => simp [intOf];omega
     | false =>
      have hRR:R = (y.a,11):=by rw [HR2.out,(find_step HY.out HF.out).1 (by rw [HBC.out,← HB.out];rfl)]
      subst hRR
      go_wp2_with (go_at_call 68;((with_reducible refine (HBH.out).mono ?_);rintro e w3 ⟨rfl,hw⟩;rw [hw];clear hw w3))
      go_ret2
      exact ⟨rfl,HBW.out.trans HB2.out⟩
    ·obtain rfl:j = m:=by omega
     have hRR:R = (0,0):=by
      have h:=HF.out
      rw [HM.out,List.take_length] at h
      rw [HR2.out,h]
     subst hRR
     go_wp2_with fail
     go_ret2
     exact ⟨rfl,HBW.out.trans HB2.out⟩
end
section
open Go.RowKit Go.BigFrame NT
section
variable {Q:Nat→Prop} {rr:Nat} {w:World} {v:AV}
theorem pn_if (x:NT) (hk:x.k = 2) {code:CE} {ks:List CK} (h:As Q rr w v) (hc:Calls Tryz.prog 109 #[.pointer (some ⟨rr,0,none⟩),nV17 x] (wN w x) (NdP Q rr (wN w x) v code ks)) :
  Calls Tryz.prog 92 #[.pointer (some ⟨rr,0,none⟩),nV17 x] w (NdP Q rr w v code ks):=by
 have k0:(x.k == 0) = false:=by rw [hk];rfl
 have k1:(x.k == 1) = false:=by rw [hk];rfl
 have k2:(x.k == 2) = true:=by rw [hk];rfl
 obtain ⟨x0,x1,x2,x3,x4,x5,x6,x7⟩:=node_cells (show Blk (wN w x) w.heap.size 69 x.cs from Blk.new w 69 x.cs)
 have HC:=hid hc
 have HE:=hid (ev_n h x)
 clear h hk hc
 go_enter Tryz.func92,Tryz.ntmps92
 go_wp2_with (go_at_call 109;((with_reducible refine HC.out.mono ?_);rintro e w2 ⟨rfl,v',hE,hS⟩))
 go_end0
 exact asP_then HE.out rfl ⟨rfl,v',hE,hS⟩
theorem pn_range (x:NT) (hk:x.k = 3) {code:CE} {ks:List CK} (h:As Q rr w v) (hc:Calls Tryz.prog 110 #[.pointer (some ⟨rr,0,none⟩),nV17 x] (wN w x) (NdP Q rr (wN w x) v code ks)) :
  Calls Tryz.prog 92 #[.pointer (some ⟨rr,0,none⟩),nV17 x] w (NdP Q rr w v code ks):=by
 have k0:(x.k == 0) = false:=by rw [hk];rfl
 have k1:(x.k == 1) = false:=by rw [hk];rfl
 have k2:(x.k == 2) = false:=by rw [hk];rfl
 have k3:(x.k == 3) = true:=by rw [hk];rfl
 obtain ⟨x0,x1,x2,x3,x4,x5,x6,x7⟩:=node_cells (show Blk (wN w x) w.heap.size 69 x.cs from Blk.new w 69 x.cs)
 have HC:=hid hc
 have HE:=hid (ev_n h x)
 clear h hk hc
 go_enter Tryz.func92,Tryz.ntmps92
 go_wp2_with (go_at_call 110;((with_reducible refine HC.out.mono ?_);rintro e w2 ⟨rfl,v',hE,hS⟩))
 go_end0
 exact asP_then HE.out rfl ⟨rfl,v',hE,hS⟩
end
def PM17 (x:NT):Prop:=∀ (Q:Nat→Prop) (rr:Nat) (w:World) (v:AV) (n:Bool),Wk n x→As Q rr w v→x.In w Q→x.prn≤v.es.length→v.L.length + x.siz≤90000→v.ks.length + x.siz≤90000→PnC Q rr w v x
section
variable {Q:Nat→Prop} {rr:Nat} {w:World} {v:AV}
theorem plist17_row (l:List NT) (ih:∀ x ∈ l,PM17 x) (hw:∀ x,x ∈ l→∃ n,Wk n x) (X:Option Addr) (c0:Nat) (h:As Q rr w v) (hX:Row w Q X c0 l) (hm:prns l≤v.es.length) (hle:v.L.length + sizs l≤90000) (hkl:v.ks.length + sizs l≤90000):PlC Q rr w v X c0 l:=by
 unfold PlC
 obtain ⟨n,hn⟩:∃ n,n = l.length:=⟨_,rfl⟩
 have hn5:=hX.len
 rw [← hn] at hn5 ⊢
 have HX:=hid hX
 have HI:=hid ih
 have HW:=hid hw
 have HN:=hid hn
 have HA:=hid h
 have HM:=hid hm
 have HLE:=hid hle
 have HKL:=hid hkl
 have HST:=hid (Ev17.refl h)
 clear hX ih hw hn h hm hle hkl
 go_enter Tryz.func66,Tryz.ntmps66
 go_wp2_with fail
 go_loopw [8] (fun s8 wr => ∃ (i:Nat) (v':AV),i≤n∧s8 = .int .i64 i∧Hid (Ev17 Q rr w v wr v')∧Hid (St17 v' (v.L ++ (listC Z0 v.L.length v.es (l.take i)).1) (listC Z0 v.L.length v.es (l.take i)).2 (v.ks ++ listK v.L.length (l.take i)) v.M)) (fun s8 _ => n - (intOf s8).toNat)
 case atStart => exact ⟨0,v,Nat.zero_le _,rfl,HST,hid ⟨by rw [List.take_zero,listC_nil,List.append_nil],by rw [List.take_zero,listC_nil],by rw [List.take_zero,listK_nil,List.append_nil],rfl⟩⟩
 case round =>
  obtain ⟨i,v',hin,rfl,HE,HS⟩:=hrel
  by_cases hlt:i < n
  ·have hxt:=List.getElem?_eq_getElem (l:=l) (i:=i) (by have:=HN.out;omega)
   generalize l[i]'(by have:=HN.out;omega) = x at hxt
   have hxm:=List.mem_of_getElem? hxt
   obtain ⟨g0,o,hAA,hg,hc,hxin⟩:=HX.out.at_ hxt
   subst hAA
   obtain ⟨m,hwk⟩:=HW.out x hxm
   have hs1:=sizs_take hxt
   have hp1:=prns_take hxt
   have hs2:=sizs_take_le l (i + 1)
   have hp2:=prns_take_le l (i + 1)
   have hok:=listC_ok Z0 (l.take i) v.L.length v.es
   have hkl:=listK_len (l.take i) v.L.length
   have hls:v'.L.length = v.L.length + sizs (l.take i):=by rw [HS.out.L,List.length_append,hok.len]
   have HC:=hid (HI.out x hxm Q rr (wN wr x) v' m hwk (as_n HE.out.st x) ((HE.out.in_ HA.out hxin).same (fun _ h => h) (fun g p hg => Below.cell (p:=⟨g,p,none⟩) (Bel.alloc wr _) (HE.out.st.fr g hg).1))
    (by rw [HS.out.es,hok.es,List.length_drop];have:=HM.out;omega) (by rw [hls];have:=HLE.out;omega) (by rw [HS.out.ks,List.length_append];have:=HKL.out;omega))
   unfold PnC at HC
   have HT1:=hid (listC_take (ad:=Z0) hxt v.L.length v.es)
   have HT2:=hid (listK_take hxt v.L.length)
   have HEN:=hid (HE.out.bel (Bel.alloc wr (.cells #[.int .i64 x.k,.int .i64 x.a,.string x.s,.string x.p,.bool x.h,.bool x.e,.slice x.A x.b.length x.c,.slice x.B x.l.length x.d] 69)))
   have HLS:=hid hls
   have HOK:=hid hok.len
   obtain ⟨b0,b1,b2,b3,b4,b5,b6,b7⟩:=(hc.same (w':=wr) fun p => HE.out.q HA.out g0 p hg).all
   clear hxt hxm hg hc hxin hwk hs1 hp1 hs2 hp2 hok hkl hls
   go_wp2_with (go_at_call 92;((with_reducible refine HC.out.mono ?_);rintro e w2 ⟨rfl,v2,hE2,hS2⟩))
   go_roundw
   case rel =>
    refine ⟨i + 1,v2,by omega,by go_num,hid (HEN.out.trans hE2.out),hid ⟨?_,?_,?_,?_⟩⟩
    ·rw [hS2.out.L,HT1.out,HLS.out,HS.out.es,HS.out.L,List.append_assoc,← HOK.out]
     rfl
    ·rw [hS2.out.es,HT1.out,HLS.out,HS.out.es,← HOK.out]
     rfl
    ·rw [hS2.out.ks,HT2.out,HLS.out,HS.out.ks,List.append_assoc]
    ·rw [hS2.out.M,HS.out.M]
   case measure => simp [intOf];omega
  ·obtain rfl:i = n:=by omega
   have HF:Hid (St17 v' (v.L ++ (listC Z0 v.L.length v.es l).1) (listC Z0 v.L.length v.es l).2 (v.ks ++ listK v.L.length l) v.M):=by have h:=HS;rwa [HN.out,List.take_length] at h
   go_wp2_with fail
   go_end0
   exact ⟨rfl,v',HE,HF⟩
end
theorem pnode17_all (x:NT):PM17 x:=by
 refine NT.ind (M:=PM17) (fun t h1 h2 => ?_) x
 intro Q rr w v n hw h hx hp hs hk
 have hbw:∀ y,y ∈ t.b→∃ m,Wk m y:=fun y hy => ⟨true,hw.body y hy⟩
 have hlw:∀ y,y ∈ t.l→∃ m,Wk m y:=fun y hy => ⟨true,hw.els y hy⟩
 obtain ⟨f1,f2,f3,f4,f5,f6⟩:=hw.facts
 have HA:=as_n h t
 have hxn:t.In (wN w t) Q:=hx.same (fun _ h => h) (fun g p hg => Below.cell (p:=⟨g,p,none⟩) (Bel.alloc w _) (h.fr g hg).1)
 have HB:PlM Q rr (wN w t) v t.A t.c t.b:=fun W v' hE a b c => plist17_row t.b h1 hbw t.A t.c hE.st (hE.row HA hxn.body) a b c
 have HL:PlM Q rr (wN w t) v t.B t.d t.l:=fun W v' hE a b c => plist17_row t.l h2 hlw t.B t.d hE.st (hE.row HA hxn.els) a b c
 have hsz:=siz_eq t
 have hpr:=prn_eq t
 have hk6:t.k = 0 ∨ t.k = 1 ∨ t.k = 2 ∨ t.k = 3 ∨ t.k = 4 ∨ t.k = 5 ∨ t.k = 6:=by omega
 rcases hk6 with g | g | g | g | g | g | g
 ·rw [g] at hsz
  simp at hsz
  exact pn_text t h g (by omega)
 ·rw [g] at hsz hpr
  simp at hsz hpr
  exact pn_print t h g (by omega) (by omega)
 ·rw [g] at hsz hpr
  simp at hsz hpr
  unfold PnC
  rw [nodeC_eq,if_neg (by omega),if_neg (by omega),if_pos g,nodeK_eq,if_pos g]
  cases he:t.e with
  | true =>
   rw [he] at hsz hpr
   simp at hsz hpr
   rw [if_pos rfl]
   exact pn_if t g h (branches_else t HA he (by omega) (by omega) (by omega) HB HL)
  | false =>
   rw [he] at hsz hpr
   simp at hsz hpr
   rw [if_neg (by decide),List.append_nil]
   exact pn_if t g h (branches_no t HA he (f4 he) (by omega) (by omega) (by omega) HB HL)
 ·rw [g] at hsz hpr
  simp at hsz hpr
  unfold PnC
  rw [nodeC_eq,if_neg (by omega),if_neg (by omega),if_neg (by omega),if_pos g,nodeK_eq,if_neg (by omega),if_pos g]
  exact pn_range t g h (loop_c t HA (by omega) (by omega) (by omega) HB)
 ·rw [g] at hsz
  simp at hsz
  exact pn_call t h g (by omega) (by omega)
 ·rw [g] at hsz
  simp at hsz
  exact pn_flush t h g (by omega)
 ·exact pn_other t h (by omega)
theorem plist17_c {Q:Nat→Prop} {rr:Nat} {w:World} {v:AV} {l:List NT} {X:Option Addr} {c0:Nat} (h:As Q rr w v) (hX:Row w Q X c0 l) (hw:∀ x,x ∈ l→∃ n,Wk n x) (hm:prns l≤v.es.length) (hle:v.L.length + sizs l≤90000) (hkl:v.ks.length + sizs l≤90000):PlC Q rr w v X c0 l :=
 plist17_row l (fun x _ => pnode17_all x) hw X c0 h hX hm hle hkl
end
end Go.Proofs.YtpcapmdfjmpdiaaGreatDoor
