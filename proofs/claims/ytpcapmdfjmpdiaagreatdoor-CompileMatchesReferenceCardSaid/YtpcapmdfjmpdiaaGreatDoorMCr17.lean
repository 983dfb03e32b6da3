/- The reference of layer 17: Code's first loop. -/
import Derived.Test.YtpcapmdfjmpdiaaGreatDoorMSr17
import Derived.Test.YtpcapmdfjmpdiaaGreatDoorMRc14
set_option linter.unusedVariables false
set_option linter.unusedSimpArgs false
set_option maxRecDepth 100000
set_option maxHeartbeats 12800000
open Go.Lib (hid)
namespace Go.Proofs.YtpcapmdfjmpdiaaGreatDoor
open Go.RowKit Go.BigFrame NT
attribute [local go_sem ↓] sliced_cut run_min2 run_max2
attribute [local go_sem] cutA_zero
theorem Row.one_at {w:World} {Q:Nat→Prop} {g o c:Nat} {l:List NT} (h:Row w Q (some ⟨g,o,none⟩) c l) {i:Nat} {x:NT} (hx:l[i]? = some x):Row w Q (some ⟨g,o + i * 8,none⟩) (c - i) [x]:=by
 have hi:=(List.getElem?_eq_some_iff.1 hx).1
 obtain ⟨⟨h1,h2,h3⟩,h4⟩:=h.1
 obtain ⟨g',o',e,hg,hc⟩:=h4 (by omega)
 injection e with e
 injection e with e1 e2
 subst e1 e2
 refine ⟨⟨⟨?_,by omega,?_⟩,fun _ => ⟨g,o + i * 8,rfl,hg,fun j y hy => ?_⟩⟩,fun y hy => ?_⟩
 ·show 1≤c - i
  omega
 ·show 1 * 104≤reachBytes
  unfold reachBytes
  omega
 ·have hj:j = 0:=by
   have:=(List.getElem?_eq_some_iff.1 hy).1
   simpa using this
  subst hj
  injection hy with hy
  subst hy
  rw [Nat.zero_mul,Nat.add_zero]
  exact hc i x hx
 ·rw [List.mem_singleton] at hy
  subst hy
  exact h.2 _ (List.mem_of_getElem? hx)
theorem info_int17:∃ i,Tryz.prog.info? 3 = some i∧i.zero = some (.int .i64 0)∧i.size = 1∧i.bytes = 8:=by
 refine ⟨_,rfl,?_,?_,?_⟩ <;> kernel_rfl
theorem vin17_one (l:List Nat):∀ u,u ∈ vin17 l→u.oneCell' = true:=by
 intro u hu
 unfold vin17 at hu
 obtain ⟨k,_,rfl⟩:=List.mem_map.1 hu
 rfl
theorem mainE_le:∀ (l:List NT) (es:List Nat),(mainE l es).length≤es.length
 | [],es => Nat.zero_le _
 | x :: l,es => by
  have ih:=mainE_le l (es.drop (prf x))
  rw [List.length_drop] at ih
  unfold mainE
  split
  ·omega
  ·rw [List.length_append,List.length_take]
   omega
theorem info_ints17:∃ i,Tryz.prog.info? 42 = some i∧i.zero = some (.slice none 0 0)∧i.size = 1∧i.bytes = 24:=by
 refine ⟨_,rfl,?_,?_,?_⟩ <;> kernel_rfl
theorem tots_len17 (l:List NT):l.length≤tots l:=Nat.le_trans (cnts_le_len l) (cnts_le l)
theorem dfs_le (l:List NT) (es:List Nat):(dfs l es).length≤l.length:=by
 have h:=congrArg List.length (dfs_fst l es)
 rw [List.length_map] at h
 rw [h]
 exact List.length_filter_le _ _
theorem dsz_le4:∀ (l:List NT) (es:List Nat),(∀ x,x ∈ l→Wk false x)→dsz (dfs l es)≤4 * tots l
 | [],es,_ => Nat.zero_le _
 | x :: l,es,hw => by
  have ih:=dsz_le4 l (es.drop (prf x)) fun y hy => hw y (by simp [hy])
  have h1:=(szrs_bound x.b).1
  rw [(wk_szrs (hw x (by simp)).body).1] at h1
  have h2:=tot_eq x
  unfold dfs
  rw [show tots (x :: l) = tot x + tots l by simp [tots]]
  split
  ·show sizs x.b + 1 + dsz (dfs l (es.drop (prf x)))≤_
   omega
  ·omega
theorem tots_take17 (l:List NT) (i:Nat):tots (l.take i)≤tots l:=by
 conv => rhs;rw [← List.take_append_drop i l]
 rw [tots_append]
 omega
def CkOk17 (l:List NT) (a:Int):Prop:=checkN l = (a,0)
theorem Bs17.set {w:World} {E0 Bo:Option Addr} {cb:Nat} {bl:List (List Nat)} (h:Bs17 w E0 Bo cb bl) {r:Nat} {cs:List Value} (hb:Blk w r 114 cs) (o:Nat) (v:Value):Bs17 (w.setCell ⟨r,o,none⟩ v) E0 Bo cb bl:=by
 obtain ⟨bs,h1,h2⟩:=h
 refine ⟨bs,h1.far (h1.ne_blk hb (by decide)) _,fun j b hj => ?_⟩
 obtain ⟨A,c,e1,e2,e3⟩:=h2 j b hj
 exact ⟨A,c,e1,e2.far (e2.ne_blk hb (by decide)) _,e3⟩
theorem Cm.setE {r:Nat} {w:World} {N:Option Addr} {cn:Nat} {D:Option Addr} {cd:Nat} {E E':Option Addr} {m ce m' ce':Nat} {ns:List ByteArray} {ads es es':List Nat} (h:Cm r w N cn D cd E m ce ns ads es) (hr:RowAt w 3 E' m' ce' (vin17 es')) (hm:m' = es'.length) :
  Cm r (w.setCell ⟨r,2,none⟩ (.slice E' m' ce')) N cn D cd E' m' ce' ns ads es' :=
 ⟨h.blk.set_ 2 _,h.rn.far (h.rn.ne_blk h.blk (by decide)) _,h.ra.far (h.ra.ne_blk h.blk (by decide)) _,hr.far (hr.ne_blk h.blk (by decide)) _,hm⟩
structure CoB (r:Nat) (w wr:World) (E0:Option Addr) (N:Option Addr) (cn:Nat) (D:Option Addr) (cd:Nat) (Bo:Option Addr) (cb:Nat) (ds:List (NT × List Nat)) (a:Nat) (A:Option Addr) (q c:Nat) (E:Option Addr) (m ce:Nat) (es':List Nat) (code:List IN):Prop where
 bel:Bel w wr
 cm:Cm r wr N cn D cd E m ce (nmsOf ds) (adsOf ds a) es'
 ir:Ir w wr A c code
 q:code.length = q
 bs:Bs17 wr E0 Bo cb (ds.map fun d => d.2)
theorem Bs17.call {w w':World} {E0 Bo:Option Addr} {cb:Nat} {bl:List (List Nat)} (h:Bs17 w E0 Bo cb bl) {r:Nat} {cs:List Value} (hb:Blk w r 114 cs) (ho:Only [r] w w'):Bs17 w' E0 Bo cb bl:=by
 obtain ⟨bs,h1,h2⟩:=h
 have key:∀ {e:TypeId} {A:Option Addr} {n c:Nat} {xs:List Value},RowAt w e A n c xs→114 ≠ e→RowAt w' e A n c xs:=fun hA he => hA.only ho fun k hk hm => by
  rw [List.mem_singleton] at hm
  subst hm
  exact hA.ne_blk hb he hk
 refine ⟨bs,key h1 (by decide),fun j b hj => ?_⟩
 obtain ⟨A,c,e1,e2,e3⟩:=h2 j b hj
 exact ⟨A,c,e1,key e2 (by decide),e3⟩
theorem Bs17.ins {w w1 w2:World} {E0 Bo:Option Addr} {cb:Nat} {bl:List (List Nat)} (h:Bs17 w1 E0 Bo cb bl) {A:Option Addr} {c:Nat} {l:List IN} (hI:Ir w w1 A c l) (hO:Only (rowT A) w1 w2):Bs17 w2 E0 Bo cb bl:=by
 obtain ⟨bs,h1,h2⟩:=h
 refine ⟨bs,h1.only hO (kr_ne_row hI.1 h1 (by decide)),fun j b hj => ?_⟩
 obtain ⟨A,c,e1,e2,e3⟩:=h2 j b hj
 exact ⟨A,c,e1,e2.only hO (kr_ne_row hI.1 e2 (by decide)),e3⟩
theorem Bs17.bel {w w':World} {E0 Bo:Option Addr} {cb:Nat} {bl:List (List Nat)} (h:Bs17 w E0 Bo cb bl) (hb:Bel w w'):Bs17 w' E0 Bo cb bl :=
 h.keep (bel_only hb) (fun _ _ h => by cases h) (fun _ _ h => by cases h)
theorem dsz_take_le:∀ (ds:List (NT × List Nat)) (j:Nat),dsz (ds.take j)≤dsz ds
 | [],j => by rw [List.take_nil];exact Nat.le_refl _
 | d :: r,0 => Nat.zero_le _
 | d :: r,j + 1 => by
  have:=dsz_take_le r j
  show sizs d.1.b + 1 + dsz (r.take j)≤sizs d.1.b + 1 + dsz r
  omega
theorem dsz_take {ds:List (NT × List Nat)} {j:Nat} {d:NT × List Nat} (h:ds[j]? = some d):dsz (ds.take (j + 1)) = dsz (ds.take j) + (sizs d.1.b + 1):=by
 have e:ds.take (j + 1) = ds.take j ++ [d]:=by rw [List.take_add_one,h];rfl
 rw [e,dsz_snoc]
structure CoAt (r:Nat) (w wr:World) (l:List NT) (es:List Nat) (E0:Option Addr) (i:Nat) (E:Option Addr) (ne ce:Nat) (M:Option Addr) (nm cm:Nat) (Bo:Option Addr) (nb cb wh:Nat):Prop where
 ex:∃ N cn D cd,CoR r w wr E0 E ce (es.drop (pfx l i)) M cm (mainE (l.take i) es) Bo cb ((dfs (l.take i) es).map fun d => d.2) N cn (nmsOf (dfs (l.take i) es)) D cd (adsOf (dfs (l.take i) es) (sizs l + 1))
 ne:ne = (es.drop (pfx l i)).length
 nm:nm = (mainE (l.take i) es).length
 nb:nb = (dfs (l.take i) es).length
 wh:wh = sizs l + 1 + dsz (dfs (l.take i) es)
theorem rcode_loop {l:List NT} {A:Option Addr} {c:Nat} {w:World} (hA:Row w (Lt w) A c l) (ht5:tots l≤10000) (hk0:(checkN l).2 = 0) (hk:(inferI l).2.2 = 0) (hw:∀ x,x ∈ l→Wk false x)
  (hI:∀ W,Row W (Lt W) A c l→Calls Tryz.prog 43 #[.slice A l.length c] W (InQ (inferI l) W)):CoC l A c w:=by
 have ht:tots l≤100000:=Nat.le_trans ht5 (by decide)
 have HCK:=hid (rcheck14_c hA ht)
 have HA:=hid hA
 have HI:=hid hI
 have HW:=hid hw
 have HT:=hid ht5
 have hn5:=hA.len
 obtain ⟨es,hes⟩:∃ es,es = (inferI l).1:=⟨_,rfl⟩
 have hR:codeN l = (codeW l es,0,0):=by unfold codeN;rw [if_neg (by simpa using hk0),if_neg (by simpa using hk),hes]
 unfold CoC
 rw [hR]
 have hlen:=inferI_len (n:=false) hw (es:=es) (a:=(inferI l).2.1) (by rw [hes,← hk])
 have HL:=hid hlen
 have HSZ:=hid (fun W (hb:Bel w W) => rsize_c (hA.bel hb) ht)
 have hszs:=wk_szrs hw
 have hszb:=szrs_bound l
 rw [hszs.1] at HSZ hszb
 have HS:=hid hszs
 obtain ⟨R,hRR⟩:∃ R,R = checkN l:=⟨_,rfl⟩
 rw [← hRR] at hk0 HCK
 obtain ⟨ra,rk⟩:=R
 generalize inferI l = I at hes hk HI HL
 obtain ⟨es',ib,im⟩:=I
 dsimp only at hes hk0 hk HCK HI HL
 subst hk0 hes hk
 have HCKN:=hid (show CkOk17 l ra from hRR.symm)
 clear hRR
 have hib:=HL.out.2.1
 subst hib
 obtain ⟨n,hn⟩:∃ n,n = l.length:=⟨_,rfl⟩
 obtain ⟨z,hz⟩:∃ z,z = sizs l:=⟨_,rfl⟩
 rw [← hz] at HSZ hszb
 unfold Cssize at HSZ
 rw [← hn] at HSZ HCK HI hn5 ⊢
 have HN:=hid hn
 have HZ:=hid hz
 have hz3:z≤300000:=by omega
 obtain ⟨i0,ji,jz0,jz1,jz2⟩:=info_int17
 have HI0:=hid ji
 have HZ0:=hid jz0
 have HZ1:=hid jz1
 have HZ2:=hid jz2
 clear ji jz0 jz1 jz2
 clear hA ht ht5 hR hI hw hlen hszs hn hz
 go_enter Tryz.func22,Tryz.ntmps22
 go_wp2_with (first
  | (go_at_call 42;((with_reducible refine (HCK.out).mono ?_);rintro e w2 ⟨rfl,hb⟩;have HB:=hid hb;clear hb))
  | (go_at_call 43;((with_reducible refine (HI.out _ (HA.out.bel HB.out)).mono ?_);rintro e w3 ⟨hb,A3,n3,c3,rfl,hE⟩;have HB3:=hid (HB.out.trans hb);have HE:=hid (show n3 = es.length∧RowAt w3 3 A3 n3 c3 (vin17 es)∧∀ k,k ∈ rowT A3→w2.heap.size≤k from hE.out);have HB4:=hid (HB3.out.trans (Bel.alloc w3 (.cells #[.slice none 0 0,.slice none 0 0,.slice none 0 0] 114)));clear hb hE))
  | (go_at_call 44;((with_reducible refine (HSZ.out _ HB4.out).mono ?_);rintro e w4 ⟨rfl,hb⟩;have HB5:=hid (HB4.out.trans hb);have HB34:=hid hb;clear hb)))
 go_loopw [7,9,10,11,12] (fun s7 s9 s10 s11 s12 wr => ∃ (i:Nat) (E:Option Addr) (ne ce:Nat) (M:Option Addr) (nm cm:Nat) (Bo:Option Addr) (nb cb wh:Nat),i≤n∧s12 = .int .i64 i∧s7 = .slice E ne ce∧s9 = .slice M nm cm∧s10 = .slice Bo nb cb∧s11 = .int .i64 wh∧Hid (CoAt w3.heap.size w wr l es A3 i E ne ce M nm cm Bo nb cb wh)) (fun _ _ _ _ s12 _ => n - (intOf s12).toNat)
 case atStart =>
  refine ⟨0,A3,n3,c3,none,0,0,none,0,0,z + 1,Nat.zero_le _,rfl,rfl,rfl,rfl,by go_num,hid ⟨⟨none,0,none,0,?_⟩,?_,rfl,rfl,?_⟩⟩
  ·obtain ⟨e1,e2,e3⟩:=HE.out
   have hb:=HB5.out
   have hbl:=(Bel.alloc w3 (.cells #[.slice none 0 0,.slice none 0 0,.slice none 0 0] 114)).trans HB34.out
   have hew:es.drop (pfx l 0) = es:=rfl
   rw [hew]
   exact ⟨hb,HB3.out.size,(Blk.new w3 114 [.slice none 0 0,.slice none 0 0,.slice none 0 0]).bel HB34.out,RowAt.nil _ _,RowAt.nil _ _,by have:=e2.only (bel_only hbl) (fun _ _ h => by cases h);rwa [e1] at this,RowAt.nil _ _,⟨[],RowAt.nil _ _,fun j b hj => by simp [dfs] at hj⟩,fun k hk => hk,fun k hk => Nat.lt_of_lt_of_le (e2.lt k hk) hbl.size,
    by simp [rowT],by simp [rowT],by simp [rowT],by simp [rowT],by simp [rowT],by simp [rowT],by simp [rowT]⟩
  ·exact HE.out.1
  ·show z + 1 = sizs l + 1 + dsz []
   rw [HZ.out]
   rfl
 case round =>
  obtain ⟨i,E,ne,ce,M,nm,cm,Bo,nb,cb,wh,hin,rfl,rfl,rfl,rfl,rfl,HC⟩:=hrel
  by_cases hlt:i < n
  ·have hxt:=List.getElem?_eq_getElem (l:=l) (i:=i) (by have:=HN.out;omega)
   generalize l[i]'(by have:=HN.out;omega) = x at hxt
   obtain ⟨g,o,hAA,hg,ha⟩:=HA.out.cells hxt
   subst hAA
   have hcn:n≤c:=by have:=HA.out.1.1.1;have:=HN.out;omega
   have hcut:cutA c i 8 (some ⟨g,o,none⟩) = some ⟨g,o + i * 8,none⟩:=by unfold cutA;rw [if_neg (by omega)];show some (Addr.add _ _) = _;rw [add_at]
   have hb:=HC.out.ex
   obtain ⟨N,cn,D,cd,hR⟩:=hb
   obtain ⟨K,hK⟩:∃ K,K = prf x:=⟨_,rfl⟩
   have HXT:=hid hxt
   have HK:=hid hK
   have HCR:=hid hR
   have HWX:=hid (HW.out x (List.mem_of_getElem? hxt))
   have HPR:=hid (show Csprints wr (some ⟨g,o + i * 8,none⟩) 1 (c - i) K by
    have h1:=rprints_c (l:=[x]) (w:=wr) (Row.one_at (HA.out.bel hR.bel) hxt) (by have:=tots_step hxt;have h1:=HT.out;rw [← List.take_append_drop (i + 1) l,tots_append] at h1;simp [tots];omega)
    rw [prrs_cons,prrs_nil,(wk_counts x _ (HW.out x (List.mem_of_getElem? hxt))).2,← hK] at h1
    exact h1)
   unfold Csprints at HPR
   have HAA:=hid ha
   have hKe:K≤ne:=by have h1:=pfx_le hxt;have h2:=HC.out.ne;have h3:=HL.out.1;rw [List.length_drop] at h2;omega
   have hEc:ne≤ce:=by rw [HC.out.ne];exact hR.re.le
   have hem:es.length≤100000:=by have h3:=HL.out.1;have h4:=HS.out.2;have h5:=HT.out;omega
   have hne:ne≤100000:=by have h2:=HC.out.ne;rw [List.length_drop] at h2;omega
   have HM5:=hid (show nm + K≤200000 by
    have h2:=HC.out.nm
    have h3:=mainE_le (l.take i) es
    omega)
   have HH1:=hid (show nm + K≤maxLen by have:=HM5.out;unfold maxLen;omega)
   have HH2:=hid (show (nm + K) * 8≤140737488355328 by have:=HM5.out;omega)
   clear hxt hg ha hR hK hem
   by_cases hk6:x.k = 6
   ·have kb:(x.k == 6) = true:=beq_iff_eq.2 hk6
    have HK6:=hid hk6
    clear hk6
    obtain ⟨j0,kj,kz0,kz1,kz2⟩:=info_ints17
    have HJ0:=hid kj
    have HY0:=hid kz0
    have HY1:=hid kz1
    have HY2:=hid kz2
    clear kj kz0 kz1 kz2
    have hnb:nb≤1000000:=by have:=HC.out.nb;have h2:=dfs_le (l.take i) es;have h3:=tots_len17 l;have h4:=HT.out;rw [List.length_take] at h2;have:=HN.out;omega
    have HB1:=hid (show ∀ u ∈ ([.slice E K ce]:List Value),u.oneCell' = true from fun u hu => by rw [List.mem_singleton] at hu;subst hu;rfl)
    have HB2:=hid (show nb + 1≤maxLen by unfold maxLen;omega)
    have HB3:=hid (show (nb + 1) * 24≤140737488355328 by omega)
    have HNB:=hid hnb
    obtain ⟨SB,hSB⟩:∃ SB,SB = sizs x.b:=⟨_,rfl⟩
    have hxt9:x.tot≤100000:=by have h1:=tots_step HXT.out;have h2:=tots_take17 l (i + 1);have h3:=HT.out;omega
    have hxb9:tots x.b≤100000:=by have h2:=tot_eq x;omega
    have HSB:=hid (fun W (hb:Bel w W) => show Cssize W x.A x.b.length x.c SB by
     have h:=rsize_c (((HA.out.2 x (List.mem_of_getElem? HXT.out)).bel hb).body) hxb9
     rw [(wk_szrs HWX.out.body).1,← hSB] at h
     exact h)
    unfold Cssize at HSB
    have hSB3:SB≤300000:=by have h1:=(szrs_bound x.b).1;rw [(wk_szrs HWX.out.body).1] at h1;omega
    have hwh:wh≤1000000:=by have h1:=dsz_le4 (l.take i) es (fun y hy => HW.out y (List.mem_of_mem_take hy));have h2:=tots_take17 l i;have h3:=HC.out.wh;have h4:=HT.out;have h5:=HZ.out;omega
    have HSQ:=hid hSB
    clear hSB hxt9 hxb9
    go_wp2_with (first
     | (go_at_call 45;((with_reducible refine (HPR.out).mono ?_);rintro e w5 ⟨rfl,hb⟩;have HB6:=hid hb;have HC5:=hid (HCR.out.later hb);obtain ⟨a0,a1,a2,a3,a4,a5,a6,a7⟩:=HAA.out w5 (HCR.out.bel.trans hb);obtain ⟨bs,hbs,hbj⟩:=(HC5.out.later (Bel.alloc w5 (.cells #[.slice E K ce] 42))).rb;have HBJ:=hid hbj;have HRB:=hid (show RowAt (w5.alloc (.cells #[.slice E K ce] 42)) 42 Bo nb cb bs by rw [HC.out.nb];rw [List.length_map] at hbs;exact hbs);have HBX:=hid (RowAt.reads (RowAt.of_blk (Blk.new w5 42 [.slice E K ce]) (by show 1≤maxLen;decide)));clear hb hbs hbj))
     | ((with_reducible refine wp_rowAppend rfl (.tmp 60) (.tmp 64) 115 rfl 42 j0 _ 24 Tryz.underlying115 HJ0.out HY0.out HY1.out HY2.out rfl Bo nb cb bs rfl HRB.out _ (some ⟨w5.heap.size,0,none⟩) 1 1 [.slice E K ce] rfl HBX.out HB1.out HB2.out HB3.out (nb + 1) rfl ?_);intro B' cb' w6 HR6 hO6 HK6';have HO6:=hid hO6;clear hO6))
    have hel:(es.drop (pfx l i)).length = ne:=HC.out.ne.symm
    have hbl:((dfs (l.take i) es).map fun d => d.2).length = nb:=by rw [List.length_map];exact HC.out.nb.symm
    have HC6:=hid (((HC5.out.later (Bel.alloc w5 (.cells #[.slice E K ce] 42))).bodies (k:=K) (by rw [hel];exact hKe) (bs:=bs) HBJ.out (by rw [hbl];exact HRB.out.len) (by rw [hbl];exact HR6.out) HO6.out HK6'.out).later (Bel.drew16 w6))
    have hnl:(nmsOf (dfs (l.take i) es)).length = nb:=by rw [nmsOf_len];exact HC.out.nb.symm
    have hal:(adsOf (dfs (l.take i) es) (sizs l + 1)).length = nb:=by rw [adsOf_len];exact HC.out.nb.symm
    clear a0 a1 a2 a3 a4 a5 a6 a7
    refine region_begin (T:=w3.heap.size :: rowT N) (by kernel_rfl) ?_
    generalize w6.drew = W at HC6 ⊢
    have hTN:∀ k,k ∈ w3.heap.size :: rowT N→w.heap.size≤k:=by
     intro k hk
     rcases List.mem_cons.1 hk with rfl | hk
     ·exact HC6.out.rl
     ·exact HC6.out.oN k hk
    have t2:=fun x:Later (w3.heap.size :: rowT N) W => (HAA.out x.w (only_bel17 HC6.out.bel x.h hTN)).2.2.1
    have c0:W.cell? ⟨w3.heap.size,0,none⟩ = some (.slice N nb cn):=by rw [← hnl];exact HC6.out.blk.cell 0
    have c0':(W.alloc (.cells #[.string x.s] 9)).cell? ⟨w3.heap.size,0,none⟩ = some (.slice N nb cn):=by rw [← hnl];exact (HC6.out.blk.alloc _).cell 0
    refine region_seg [true,true,true,true,false,true,true,true,true,true] 6 (by kernel_rfl) (by kernel_rfl) (by kernel_rfl) rfl (fun _ _ d _ _ h => by cases d <;> exact h) ?_
    repeat (first | with_reducible refine wpMask_pass ?_ | (refine wpMask_want (by rfl) (fun K hK => ?_);go_big_quiet_op;refine hK _ ?_;clear hK K))
    with_reducible refine wpMask_nil ?_
    refine wpAnyH_all (rs:=[4,10]) (by kernel_rfl) (by simp) (fun q hq => ?_)
    simp only [List.mem_cons,List.not_mem_nil,or_false] at hq
    rcases hq with rfl | rfl
    refine op_make (v:=.slice N nb cn) (w1:=W) rfl (by rfl) (by go_simp) (Only.refl _ _) ?_
    simp only [List.getElem_toArray,List.getElem_cons_zero,List.getElem_cons_succ,Act.put,List.setIfInBounds_toArray,List.set_cons_zero,List.set_cons_succ]
    refine region_make 10 (v:=.slice (some ⟨W.heap.size,0,none⟩) 1 1) (w1:=W.alloc (.cells #[.string x.s] 9)) (by kernel_rfl) rfl (by rfl) (by go_simp) ((Only.refl _ _).alloc _) ?_
    simp only [List.getElem_toArray,List.getElem_cons_zero,List.getElem_cons_succ,Act.put,List.setIfInBounds_toArray,List.set_cons_zero,List.set_cons_succ]
    rotate_left
    refine op_make (v:=.slice (some ⟨W.heap.size,0,none⟩) 1 1) (w1:=W.alloc (.cells #[.string x.s] 9)) rfl (by rfl) (by go_simp) ((Only.refl _ _).alloc _) ?_
    simp only [List.getElem_toArray,List.getElem_cons_zero,List.getElem_cons_succ,Act.put,List.setIfInBounds_toArray,List.set_cons_zero,List.set_cons_succ]
    refine region_make 4 (v:=.slice N nb cn) (w1:=W.alloc (.cells #[.string x.s] 9)) (by kernel_rfl) rfl (by rfl) (by go_simp) (Only.refl _ _) ?_
    simp only [List.getElem_toArray,List.getElem_cons_zero,List.getElem_cons_succ,Act.put,List.setIfInBounds_toArray,List.set_cons_zero,List.set_cons_succ]
    rotate_left
    all_goals
     obtain ⟨k0,sj,sz0,sz1,sz2⟩:=info_str17
     have HRD:=RowAt.reads (RowAt.of_blk (Blk.new W 9 [.string x.s]) (by show 1≤maxLen;decide))
     have HCA:=hid (HC6.out.later (Bel.alloc W (.cells #[.string x.s] 9)))
     have hrn:=HCA.out.rn
     rw [hnl] at hrn
     have hone:∀ u ∈ ([.string x.s]:List Value),u.oneCell' = true:=fun u hu => by rw [List.mem_singleton] at hu;subst hu;rfl
     refine region_rowAppend_at 11 (by kernel_rfl) rfl (by rfl) (.tmp 70) (.tmp 76) 112 rfl 9 k0 _ 16 Tryz.underlying112 sj sz0 sz1 sz2 rfl N nb cn _ rfl hrn _ (some ⟨W.heap.size,0,none⟩) 1 1 [.string x.s] rfl HRD hone (by unfold maxLen;omega) (by omega) (nb + 1) rfl (fun g hg => by simp [hg]) ?_
     intro A' c' w7 HR7 hO7 HK7 hT7
     simp only [List.getElem_toArray,List.getElem_cons_zero,List.getElem_cons_succ,Act.put,List.setIfInBounds_toArray,List.set_cons_zero,List.set_cons_succ]
     have hb7:=HCA.out.blk.only hO7 (HCA.out.rn.ne_blk HCA.out.blk (by decide))
     have f2:=hb7.free 0
     have c2':=hb7.cell 0
     refine region_seg [false,false,false,false,false,false,false,false,false,false,false,false,true,true] 1 (by kernel_rfl) (by kernel_rfl) (by kernel_rfl) rfl (fun _ _ d _ _ h => by cases d <;> exact h) ?_
     repeat (first | with_reducible refine wpMask_pass ?_ | (refine wpMask_want (by rfl) (fun K hK => ?_);go_big_quiet_op;refine hK _ ?_;clear hK K))
     with_reducible refine wpMask_nil ?_
     refine region_store 14 (w1:=w7.setCell ⟨w3.heap.size,0,none⟩ (.slice A' (nb + 1) c')) (by kernel_rfl) rfl (by rfl) (by go_simp) ((Only.refl _ _).setCell (.inl (by simp)) _) ?_
     refine region_end (by kernel_rfl) ?_
     have HC8:=hid (HCA.out.names (N':=A') (c':=c') (nm:=x.s) (by rw [hnl];exact HR7.out) hO7 (fun k hk => (HK7.out k hk).imp id (fun h => by omega)))
     rw [hnl] at HC8
     clear f2 c2' hb7 c0 c0' t2
     generalize w7.setCell ⟨w3.heap.size,0,none⟩ (.slice A' (nb + 1) c') = W8 at HC8 ⊢
     have c1:W8.cell? ⟨w3.heap.size,1,none⟩ = some (.slice D nb cd):=by rw [← hal];exact HC8.out.blk.cell 1
     have HC9:=hid (HC8.out.later (Bel.alloc W8 (.cells #[.int .i64 (wh:Nat)] 3)))
     have HRA:=hid (show RowAt (W8.alloc (.cells #[.int .i64 (wh:Nat)] 3)) 3 D nb cd _ by rw [← hal];exact HC9.out.ra)
     have HRW:=hid (RowAt.reads (RowAt.of_blk (Blk.new W8 3 [.int .i64 (wh:Nat)]) (by show 1≤maxLen;decide)))
     have HW1:=hid (show ∀ u ∈ ([.int .i64 (wh:Nat)]:List Value),u.oneCell' = true from fun u hu => by rw [List.mem_singleton] at hu;subst hu;rfl)
     have HW3:=hid (show (nb + 1) * 8≤140737488355328 by omega)
     clear HRD hrn hone sj sz0 sz1 sz2
     go_wp2_with (first
      | ((with_reducible refine wp_rowAppend rfl (.tmp 84) (.tmp 86) 42 rfl 3 i0 _ 8 Tryz.underlying42 HI0.out HZ0.out HZ1.out HZ2.out rfl D nb cd _ rfl HRA.out _ (some ⟨W8.heap.size,0,none⟩) 1 1 [.int .i64 (wh:Nat)] rfl HRW.out HW1.out HB2.out HW3.out (nb + 1) rfl ?_);intro D' cd' w9 HR9 hO9 HK9;have HO9:=hid hO9;have HC10:=hid (HC9.out.addrs (D':=D') (c':=cd') (a:=wh) (by rw [hal];exact HR9.out) HO9.out HK9.out);rw [hal] at HC10;have hb9:=HC9.out.blk.only HO9.out (HC9.out.ra.ne_blk HC9.out.blk (by decide));have f9:=hb9.free 1;have c9:=hb9.cell 1;have a6:=(HAA.out _ HC10.out.bel).2.2.2.2.2.2.1;clear hb9 hO9)
      | (go_at_call 44;((with_reducible refine (HSB.out _ HC10.out.bel).mono ?_);rintro e w10 ⟨rfl,hb⟩;have HC11:=hid (HC10.out.later hb);clear hb)))
     go_roundw
     case rel =>
      refine ⟨i + 1,cutA ce K 1 E,ne - K,ce - K,M,nm,cm,B',nb + 1,cb',wh + (SB + 1),by omega,by go_num,rfl,rfl,rfl,by go_num,hid ?_⟩
      have hc:=HC11.out.cut K (by rw [hel];exact hKe)
      have d1:dfs (l.take (i + 1)) es = dfs (l.take i) es ++ [(x,(es.drop (pfx l i)).take K)]:=by rw [dfs_take HXT.out,if_pos HK6.out,← HK.out]
      have m1:mainE (l.take (i + 1)) es = mainE (l.take i) es:=by rw [mainE_take HXT.out,if_pos HK6.out,List.append_nil]
      have p1:=pfx_step HXT.out
      rw [← HK.out] at p1
      have e1:((dfs (l.take (i + 1)) es).map fun d => d.2) = ((dfs (l.take i) es).map fun d => d.2) ++ [(es.drop (pfx l i)).take K]:=by rw [d1,List.map_append];rfl
      have e2:nmsOf (dfs (l.take (i + 1)) es) = nmsOf (dfs (l.take i) es) ++ [x.s]:=by unfold nmsOf;rw [d1,List.map_append];rfl
      have e3:adsOf (dfs (l.take (i + 1)) es) (sizs l + 1) = adsOf (dfs (l.take i) es) (sizs l + 1) ++ [wh]:=by rw [d1,adsOf_snoc,← HC.out.wh]
      refine ⟨⟨A',c',D',cd',?_⟩,?_,?_,?_,?_⟩
      ·rw [e1,e2,e3,m1,p1,← List.drop_drop]
       exact hc
      ·rw [p1,← List.drop_drop,List.length_drop,hel]
      ·rw [m1];exact HC.out.nm
      ·rw [d1,List.length_append,← HC.out.nb];rfl
      ·rw [d1,dsz_snoc]
       have h1:=HC.out.wh
       have h2:=HSQ.out
       show wh + (SB + 1) = sizs l + 1 + (dsz (dfs (l.take i) es) + (sizs x.b + 1))
       omega
     case measure => simp [intOf];omega
   ·have kb:(x.k == 6) = false:=beq_eq_false_iff_ne.2 hk6
    have HK6:=hid hk6
    clear hk6
    go_wp2_with (first
     | (go_at_call 45;((with_reducible refine (HPR.out).mono ?_);rintro e w5 ⟨rfl,hb⟩;have HB6:=hid hb;have HC5:=hid (HCR.out.later hb);obtain ⟨a0,a1,a2,a3,a4,a5,a6,a7⟩:=HAA.out w5 (HCR.out.bel.trans hb);have HRM:=hid (show RowAt w5 3 M nm cm (vin17 (mainE (l.take i) es)) by rw [HC.out.nm];exact HC5.out.rm);have HRX:=hid (show Reads w5 w5.heap.size E K (vin17 ((es.drop (pfx l i)).take K)) by rw [vin17_take];exact (HC5.out.re.first K (by rw [← HC.out.ne];exact hKe)).reads);clear hb))
     | ((with_reducible refine wp_rowAppend rfl (.tmp 99) (.tmp 102) 42 rfl 3 i0 _ 8 Tryz.underlying42 HI0.out HZ0.out HZ1.out HZ2.out rfl M nm cm _ rfl HRM.out _ E K ce _ rfl HRX.out (vin17_one _) HH1.out HH2.out (nm + K) rfl ?_);intro A' c' w6 HR6 hO6 HK6';have HO6:=hid hO6;clear hO6))
    go_roundw
    case rel =>
     refine ⟨i + 1,cutA ce K 1 E,ne - K,ce - K,A',nm + K,c',Bo,nb,cb,wh,by omega,by go_num,rfl,rfl,rfl,rfl,hid ?_⟩
     have hel:(es.drop (pfx l i)).length = ne:=HC.out.ne.symm
     have hxl:((es.drop (pfx l i)).take K).length = K:=by rw [List.length_take,hel];omega
     have hm:=HC5.out.main (x:=(es.drop (pfx l i)).take K) (M':=A') (c':=c') (by rw [List.length_append,hxl,← HC.out.nm,vin17_append];exact HR6.out) HO6.out HK6'.out
     have hc:=hm.cut K (by rw [hel];exact hKe)
     have d1:dfs (l.take (i + 1)) es = dfs (l.take i) es:=by rw [dfs_take HXT.out,if_neg HK6.out,List.append_nil]
     have m1:=mainE_take HXT.out es
     rw [if_neg HK6.out,← HK.out] at m1
     have p1:=pfx_step HXT.out
     rw [← HK.out] at p1
     refine ⟨⟨N,cn,D,cd,?_⟩,?_,?_,?_,?_⟩
     ·rw [d1,m1,p1,← List.drop_drop]
      exact hc
     ·rw [p1,← List.drop_drop,List.length_drop,hel]
     ·rw [m1,List.length_append,hxl,← HC.out.nm]
     ·rw [d1];exact HC.out.nb
     ·rw [d1];exact HC.out.wh
    case measure => simp [intOf];omega
  ·obtain rfl:i = n:=by omega
   obtain ⟨N,cn,D,cd,hR⟩:=HC.out.ex
   have htk:l.take i = l:=by rw [HN.out,List.take_length]
   rw [htk] at hR
   have hnmm:nm = (mainE l es).length:=by have h:=HC.out.nm;rwa [htk] at h
   have hnbb:nb = (dfs l es).length:=by have h:=HC.out.nb;rwa [htk] at h
   have hdl:=dfs_lens l es HL.out.1
   have hml:=mainE_len l es HL.out.1
   obtain ⟨ds,hds⟩:∃ ds,ds = dfs l es:=⟨_,rfl⟩
   rw [← hds] at hR hnbb hdl
   rw [← HZ.out] at hR
   have HDS:=hid hds
   have HDL:=hid hdl
   have hC0:Cm w3.heap.size wr N cn D cd none 0 0 (nmsOf ds) (adsOf ds (z + 1)) []:=⟨hR.blk,hR.rn,hR.ra,RowAt.nil _ _,rfl⟩
   have hC1:=hC0.setE (E':=M) (m':=nm) (ce':=cm) (es':=mainE l es) (by rw [hnmm];exact hR.rm) hnmm
   have hB1:=hR.rb.set hR.blk 2 (.slice M nm cm)
   have hO1:Only [w3.heap.size] wr (wr.setCell ⟨w3.heap.size,2,none⟩ (.slice M nm cm)):=(Only.refl _ wr).setCell (.inl (by simp)) _
   have hW1:Bel w (wr.setCell ⟨w3.heap.size,2,none⟩ (.slice M nm cm)):=only_bel17 hR.bel hO1 (by simpa using hR.rl)
   have f2:=hR.blk.free 2
   have c2:=hR.blk.cell 2
   have hzt:z≤30000:=by have:=HT.out;omega
   have hli:=dlist_c (r:=w3.heap.size) (B:=w.heap.size) hR.rl HA.out N cn D cd (ns:=nmsOf ds) (ads:=adsOf ds (z + 1)) (by rw [nmsOf_len,adsOf_len]) _ M nm cm (mainE l es) 0 hW1 hC1 (by rw [hml];exact Nat.le_refl _) (by rw [← HZ.out];omega)
   rw [adZ_fun,← HN.out] at hli
   unfold DcP at hli
   rw [show ((0:Nat):Int) = 0 from rfl] at hli
   obtain ⟨cb0,hcb0⟩:∃ cb0,cb0 = listC (adr ds (z + 1)) 0 (mainE l es) l:=⟨_,rfl⟩
   have hc0l:cb0.1.length = z:=by rw [hcb0,(listC_ok _ l 0 _).len,HZ.out]
   rw [← hcb0,hc0l] at hli
   have HCB0:=hid hcb0
   have HLI:=hid hli
   have HC0L:=hid hc0l
   have HW1:=hid hW1
   have HB1':=hid hB1
   have HRL:=hid hR.rl
   have HCC:=hid hR
   have HNB:=hid hnbb
   have HQ1:=hid (show z + [(⟨9,eB,eB,false,0,0⟩:IN)].length≤100000 by simp;omega)
   clear hR hdl hml hds hC0 hC1 hB1 hO1 hW1 hli hcb0 hc0l hnmm hnbb
   go_wp2_with (first
    | (go_at_call 46;((with_reducible refine (HLI.out).mono ?_);rintro e w2' ⟨A1,c1,E1,m1,ce1,rfl,hI,hO,hC2⟩;have HI2:=hid ((hI.out.since HW1.out.size).only ((Only.refl [] w2').alloc (.cells #[.int .i64 9,.string ⟨#[]⟩,.string ⟨#[]⟩,.bool false,.int .i64 0,.int .i64 0] 31)) (by simp));have HBW:=hid ((only_bel17 HW1.out hO.out (by simpa using HRL.out)).trans (Bel.alloc w2' (.cells #[.int .i64 9,.string ⟨#[]⟩,.string ⟨#[]⟩,.bool false,.int .i64 0,.int .i64 0] 31)));have HC2:=hid (hC2.out.bel (Bel.alloc w2' (.cells #[.int .i64 9,.string ⟨#[]⟩,.string ⟨#[]⟩,.bool false,.int .i64 0,.int .i64 0] 31)));have HS2:=hid (show Src (w2'.alloc (.cells #[.int .i64 9,.string ⟨#[]⟩,.string ⟨#[]⟩,.bool false,.int .i64 0,.int .i64 0] 31)) 6 IN.cs (some ⟨w2'.heap.size,0,none⟩) [(⟨9,eB,eB,false,0,0⟩:IN)] from src_blk (Blk.new w2' 31 (IN.cs ⟨9,eB,eB,false,0,0⟩)) (flat_one _).symm);have HBS:=hid ((HB1'.out.call ((HCC.out.blk.set_ 2 (.slice M nm cm))) hO.out).bel (Bel.alloc w2' (.cells #[.int .i64 9,.string ⟨#[]⟩,.string ⟨#[]⟩,.bool false,.int .i64 0,.int .i64 0] 31)));clear hI hO hC2))
    | ((with_reducible refine wp_ins (n:=z) rfl (.tmp 113) (.tmp 115) rfl HI2.out HC0L.out rfl (some ⟨w2'.heap.size,0,none⟩) 1 [⟨9,eB,eB,false,0,0⟩] 1 rfl rfl HS2.out HQ1.out (z + 1) rfl HBW.out.size ?_);intro A6 c6 w6 HI6 HO6))
   have HBS6:=hid (HBS.out.ins HI2.out HO6.out)
   have HC6:=hid (HC2.out.ins HI2.out HO6.out)
   have HBW6:=hid (only_bel17 HBW.out HO6.out HI2.out.2)
   go_loopw [14,15] (fun s14 s15 wr' => ∃ (j:Nat) (A':Option Addr) (q c':Nat) (E:Option Addr) (m ce:Nat) (es':List Nat),j≤nb∧s15 = .int .i64 j∧s14 = .slice A' q c'∧Hid (CoB w3.heap.size w wr' A3 N cn D cd Bo cb ds (z + 1) A' q c' E m ce es' (cb0.1 ++ [⟨9,eB,eB,false,0,0⟩] ++ defsC (adr ds (z + 1)) (ds.take j) (z + 1)))) (fun _ s15 _ => nb - (intOf s15).toNat)
   case atStart =>
    refine ⟨0,A6,z + 1,c6,E1,m1,ce1,cb0.2,Nat.zero_le _,rfl,rfl,hid ⟨HBW6.out,HC6.out,?_,?_,HBS6.out⟩⟩
    ·rw [List.take_zero]
     unfold defsC
     rw [List.append_nil]
     exact HI6.out
    ·rw [List.take_zero]
     unfold defsC
     rw [List.append_nil,List.length_append,HC0L.out]
     rfl
   case round =>
    obtain ⟨j,A',q,c',E2,m2,ce2,es',hjn,rfl,rfl,HB2'⟩:=hrel
    have hnl:(nmsOf ds).length = nb:=by rw [nmsOf_len];exact HNB.out.symm
    have c0:=HB2'.out.cm.blk.cell 0
    rw [hnl] at c0
    have hnb9:nb≤1000000:=by have:=HNB.out;have h2:=dfs_le l es;rw [← HDS.out] at h2;have:=tots_len17 l;have:=HT.out;omega
    by_cases hlt2:j < nb
    ·have hd:=List.getElem?_eq_getElem (l:=ds) (i:=j) (by have:=HNB.out;omega)
     generalize ds[j]'(by have:=HNB.out;omega) = d at hd
     have hdm:=List.mem_of_getElem? hd
     obtain ⟨gn,on,hNN,hcn⟩:=HB2'.out.cm.rn.cell (j:=j) (u:=.string d.1.s) (by unfold vst nmsOf;rw [List.getElem?_map,List.getElem?_map,hd];rfl)
     subst hNN
     have hfd:=find_dfs (l:=l) (a:=ra) (show checkN l = (ra,0) from HCKN.out) (es:=es) (d:=d) (by rw [← HDS.out];exact hdm)
     have hd6:=dfs_mem l es d (by rw [← HDS.out];exact hdm)
     have hin:=HA.out.2 d.1 hd6.1
     have HFD:=hid (fun W (hb:Bel w W) => show Calls Tryz.prog 47 #[.slice A i c,.string d.1.s] W (fun e w' => e = .returned (.tuple #[.agg #[.int .i64 d.1.k,.int .i64 d.1.a,.string d.1.s,.string d.1.p,.bool d.1.h,.bool d.1.e,.slice d.1.A d.1.b.length d.1.c,.slice d.1.B d.1.l.length d.1.d],.bool true])∧Bel W w') by
      rw [HN.out]
      refine (rfind_c (HA.out.bel hb) d.1.s).mono ?_
      rintro e w' ⟨h1,h2⟩
      refine ⟨?_,h1⟩
      rcases h2 with ⟨d',h3,rfl⟩ | ⟨h3,_⟩
      ·rw [hfd] at h3
       injection h3 with h3
       subst h3
       rfl
      ·rw [hfd] at h3;cases h3)
     obtain ⟨bs,hbr,hbj⟩:=HB2'.out.bs
     obtain ⟨Aj,cj,hbs,hbr2,hbe⟩:=hbj j d.2 (by rw [List.getElem?_map,hd];rfl)
     obtain ⟨gb,ob,hBo,hcb⟩:=hbr.cell hbs
     subst hBo
     have hgb:gb < wr.heap.size:=hbr.lt gb (by simp [rowT_some])
     obtain ⟨nj,hnj⟩:∃ nj,nj = d.2.length:=⟨_,rfl⟩
     rw [← hnj] at hcb hbr2
     have hlen2:q = z + 1 + dsz (ds.take j):=by rw [← HB2'.out.q,List.length_append,List.length_append,HC0L.out,defsC_len];rfl
     have hdz:dsz (ds.take j) + (sizs d.1.b + 1)≤dsz ds:=by rw [← dsz_take hd];exact dsz_take_le _ _
     have hdt:dsz ds≤40000:=by have h1:=dsz_le4 l es HW.out;have h2:=HT.out;rw [HDS.out];omega
     have hq9:q + sizs d.1.b≤90000:=by omega
     have HLD:=hid (fun W (hb:Bel w W) (hC:Cm w3.heap.size W (some ⟨gn,on,none⟩) cn D cd Aj nj cj (nmsOf ds) (adsOf ds (z + 1)) d.2) => dlist_c (r:=w3.heap.size) (B:=w.heap.size) HRL.out hin.body (some ⟨gn,on,none⟩) cn D cd (ns:=nmsOf ds) (ads:=adsOf ds (z + 1)) (by rw [nmsOf_len,adsOf_len]) W Aj nj cj d.2 q hb hC (by rw [HDL.out d hdm];exact Nat.le_refl _) hq9)
     rw [adZ_fun] at HLD
     obtain ⟨cb1,hcb1⟩:∃ cb1,cb1 = listC (adr ds (z + 1)) q d.2 d.1.b:=⟨_,rfl⟩
     have hc1l:cb1.1.length = sizs d.1.b:=by rw [hcb1,(listC_ok _ d.1.b q _).len]
     obtain ⟨y,hy⟩:∃ y,y = sizs d.1.b:=⟨_,rfl⟩
     unfold DcP at HLD
     rw [← hcb1,hc1l,← hy] at HLD
     rw [← hy] at hc1l hq9
     have HD:=hid hd
     have HBR2:=hid hbr2
     have HNJ:=hid hnj
     have HCB:=hid hcb
     have HC1L:=hid hc1l
     have HCB1:=hid hcb1
     have HY:=hid hy
     have HQ9:=hid (show q + cb1.1.length≤100000 by rw [hc1l];omega)
     have HQ8:=hid (show q + y + [(⟨7,eB,eB,false,0,0⟩:IN)].length≤100000 by simp;omega)
     have hqb:q≤90000:=by omega
     clear hd hdm hfd hd6 hin hbr hbj hbs hbr2 hbe hnj hcb hlen2 hdz hdt hq9 hc1l hcb1 hy
     go_wp2_with (first
      | (go_at_call 47;((with_reducible refine (HFD.out _ HB2'.out.bel).mono ?_);rintro e w7 ⟨rfl,hb⟩;have HB8:=hid (hb.trans (Bel.alloc w7 (.cells #[.int .i64 d.1.k,.int .i64 d.1.a,.string d.1.s,.string d.1.p,.bool d.1.h,.bool d.1.e,.slice d.1.A d.1.b.length d.1.c,.slice d.1.B d.1.l.length d.1.d] 69)));have c8:=(HB8.out.cell (o:=ob + j) hgb).trans HCB.out;have hbk:=HB2'.out.cm.blk.bel HB8.out;have f2:=hbk.free 2;have c2:=hbk.cell 2;have HC9:=hid ((HB2'.out.cm.bel HB8.out).setE (E':=Aj) (m':=nj) (ce':=cj) (es':=d.2) (HBR2.out.only (bel_only HB8.out) (fun _ _ h => by cases h)) HNJ.out);have hO9:Only [w3.heap.size] wr ((w7.alloc (.cells #[.int .i64 d.1.k,.int .i64 d.1.a,.string d.1.s,.string d.1.p,.bool d.1.h,.bool d.1.e,.slice d.1.A d.1.b.length d.1.c,.slice d.1.B d.1.l.length d.1.d] 69)).setCell ⟨w3.heap.size,2,none⟩ (.slice Aj nj cj)):=((bel_only HB8.out).more (by simp)).setCell (.inl (by simp)) _;have HO9:=hid hO9;have HW9:=hid (only_bel17 HB2'.out.bel hO9 (by simpa using HRL.out));have HI9:=hid (HB2'.out.ir.only hO9 (fun k hk hm => by rw [List.mem_singleton] at hm;subst hm;exact kr_ne_blk HB2'.out.ir.1 HB2'.out.cm.blk (by decide) hk));have HS9:=hid (HB2'.out.bs.call HB2'.out.cm.blk hO9);have HLD9:=hid (HLD.out _ HW9.out HC9.out);clear hb hbk hO9))
      | (go_at_call 46;((with_reducible refine (HLD9.out).mono ?_);rintro e w10 ⟨A1',c1',E1',m1',ce1',rfl,hI,hO,hC2⟩;have HI10:=hid hI.out;have HO10:=hid hO.out;have HC10:=hid hC2.out;have HI9b:=hid (HI9.out.only hO.out (fun k hk hm => by rw [List.mem_singleton] at hm;subst hm;exact kr_ne_blk HI9.out.1 HC9.out.blk (by decide) hk));have HS10:=hid (HS9.out.call HC9.out.blk hO.out);have HW10:=hid (only_bel17 HW9.out hO.out (by simpa using HRL.out));have HSR:=hid (hI.out.1.src);clear hI hO hC2))
      | ((with_reducible refine wp_ins (n:=q) rfl (.tmp 145) (.tmp 151) rfl HI9b.out HB2'.out.q rfl A1' c1' cb1.1 y HC1L.out rfl HSR.out HQ9.out (q + y) rfl HW10.out.size ?_);intro A11 c11 w11 HI11 HO11;have HC11:=hid ((HC10.out.ins HI9b.out HO11.out).bel (Bel.alloc w11 (.cells #[.int .i64 7,.string ⟨#[]⟩,.string ⟨#[]⟩,.bool false,.int .i64 0,.int .i64 0] 31)));have HS11:=hid ((HS10.out.ins HI9b.out HO11.out).bel (Bel.alloc w11 (.cells #[.int .i64 7,.string ⟨#[]⟩,.string ⟨#[]⟩,.bool false,.int .i64 0,.int .i64 0] 31)));have HW11:=hid ((only_bel17 HW10.out HO11.out HI9b.out.2).trans (Bel.alloc w11 (.cells #[.int .i64 7,.string ⟨#[]⟩,.string ⟨#[]⟩,.bool false,.int .i64 0,.int .i64 0] 31)));have HI12:=hid (HI11.out.only ((Only.refl [] w11).alloc (.cells #[.int .i64 7,.string ⟨#[]⟩,.string ⟨#[]⟩,.bool false,.int .i64 0,.int .i64 0] 31)) (by simp));have HS12:=hid (show Src (w11.alloc (.cells #[.int .i64 7,.string ⟨#[]⟩,.string ⟨#[]⟩,.bool false,.int .i64 0,.int .i64 0] 31)) 6 IN.cs (some ⟨w11.heap.size,0,none⟩) [(⟨7,eB,eB,false,0,0⟩:IN)] from src_blk (Blk.new w11 31 (IN.cs ⟨7,eB,eB,false,0,0⟩)) (flat_one _).symm);have HQL:=hid (show (cb0.1 ++ [(⟨9,eB,eB,false,0,0⟩:IN)] ++ defsC (adr ds (z + 1)) (ds.take j) (z + 1) ++ cb1.1).length = q + y by rw [List.length_append,HB2'.out.q,HC1L.out]))
      | ((with_reducible refine wp_ins (n:=q + y) rfl (.tmp 153) (.tmp 155) rfl HI12.out HQL.out rfl (some ⟨w11.heap.size,0,none⟩) 1 [⟨7,eB,eB,false,0,0⟩] 1 rfl rfl HS12.out HQ8.out (q + y + 1) rfl HW11.out.size ?_);intro A13 c13 w13 HI13 HO13))
     go_roundw
     case rel =>
      have hq:=HB2'.out.q
      rw [List.length_append,List.length_append,HC0L.out,defsC_len] at hq
      have hq':z + 1 + dsz (ds.take j) = q:=hq
      have e:cb0.1 ++ [(⟨9,eB,eB,false,0,0⟩:IN)] ++ defsC (adr ds (z + 1)) (ds.take (j + 1)) (z + 1) = cb0.1 ++ [(⟨9,eB,eB,false,0,0⟩:IN)] ++ defsC (adr ds (z + 1)) (ds.take j) (z + 1) ++ cb1.1 ++ [(⟨7,eB,eB,false,0,0⟩:IN)]:=by
       rw [defsC_take _ HD.out,hq',← HCB1.out]
       simp only [List.append_assoc]
      refine ⟨j + 1,A13,q + y + 1,c13,E1',m1',ce1',cb1.2,by omega,by go_num,rfl,hid ⟨only_bel17 HW11.out HO13.out HI12.out.2,HC11.out.ins HI12.out HO13.out,?_,?_,HS11.out.ins HI12.out HO13.out⟩⟩
      ·rw [e];exact HI13.out
      ·rw [e,List.length_append,HQL.out];rfl
     case measure => simp [intOf];omega
    ·have hj:j = nb:=by omega
     have hcode:codeW l es = cb0.1 ++ [(⟨9,eB,eB,false,0,0⟩:IN)] ++ defsC (adr ds (z + 1)) ds (z + 1):=by
      unfold codeW
      rw [← HDS.out,← HZ.out,← HCB0.out]
      simp only [List.append_assoc,List.singleton_append]
     have htk2:ds.take j = ds:=List.take_of_length_le (by have:=HNB.out;omega)
     have hI:=HB2'.out.ir
     have hq:=HB2'.out.q
     rw [htk2,← hcode] at hI hq
     have HI99:=hid hI
     have HQ99:=hid hq
     clear hI hq hcode htk2
     go_wp2_with fail
     go_ret3
     exact ⟨HB2'.out.bel,A',c',by rw [← HQ99.out];rfl,HI99⟩
end Go.Proofs.YtpcapmdfjmpdiaaGreatDoor
