/- The program of layer 17: Code -/
import Derived.Test.YtpcapmdfjmpdiaaGreatDoorMSr17
import Derived.Test.YtpcapmdfjmpdiaaGreatDoorMPa12
import Derived.Test.YtpcapmdfjmpdiaaGreatDoorMPl12
import Derived.Test.YtpcapmdfjmpdiaaGreatDoorMCr17
import Derived.Test.YtpcapmdfjmpdiaaGreatDoorMPf17
import Derived.Test.YtpcapmdfjmpdiaaGreatDoorMRlist
set_option linter.unusedVariables false
set_option linter.unusedSimpArgs false
set_option maxRecDepth 100000
set_option maxHeartbeats 12800000
open Go.Lib (hid)
namespace Go.Proofs.YtpcapmdfjmpdiaaGreatDoor
section
open Go.RowKit Go.BigFrame NT
abbrev v00 (M:Nat):AV:=⟨none,0,[],none,0,[],M,none,0,[]⟩
theorem as_new17 {w3 w4:World} (hb:Bel ((w3.alloc (.map #[] 0)).alloc (.cells #[.slice none 0 0,.slice none 0 0,.map (some w3.heap.size),.slice none 0 0] 104)) w4) :
  As (fun g => g < w4.heap.size∧g ≠ w3.heap.size + 1) (w3.heap.size + 1) w4 (v00 w3.heap.size):=by
 have hB:=Blk.new (w3.alloc (.map #[] 0)) 104 [.slice none 0 0,.slice none 0 0,.map (some w3.heap.size),.slice none 0 0]
 rw [show (w3.alloc (.map #[] 0)).heap.size = w3.heap.size + 1 by simp] at hB
 exact ⟨hB.bel hb,KRow.nil _ _ _ _,RowAt.nil _ _,KRow.nil _ _ _ _,fun g hg => ⟨hg.1,hg.2,by simp [rowT],by simp [rowT]⟩⟩
theorem row_of17 {w:World} {A:Option Addr} {c:Nat} {l:List NT} {Q:Nat→Prop} (h:KRow w 69 8 NT.cs A c l) (hl:l.length≤100000) (hA:∀ b,b ∈ rowT A→Q b) (hx:∀ x,x ∈ l→x.In w Q):Row w Q A c l:=by
 refine ⟨⟨⟨h.le,h.max,by unfold reachBytes;omega⟩,fun h0 => ?_⟩,hx⟩
 obtain ⟨g,o,hA0,hg,_⟩:=h.at_ NT.cs_len (List.getElem?_eq_getElem h0) (by decide)
 refine ⟨g,o,hA0,hA g (by rw [hA0];simp [rowT]),fun i x hi => ?_⟩
 obtain ⟨g',o',hA1,hg',hc⟩:=h.at_ NT.cs_len hi (by decide)
 rw [hA0] at hA1
 injection hA1 with hA1
 injection hA1 with e1 e2
 subst e1 e2
 exact hc
theorem tots_take_le17 (l:List NT) (i:Nat):tots (l.take i)≤tots l:=by
 conv => rhs;rw [← List.take_append_drop i l]
 rw [tots_append]
 omega
theorem main_row17 {w w3 w4:World} {l:List NT} {X:Option Addr} {c:Nat} (hA:Row w (Lt w) X c l) (hb3:Bel w w3) (hll:l.length≤100000) {B:Option Addr} {n d:Nat}
  (hR:RkAt ((w3.alloc (.map #[] 0)).alloc (.cells #[.slice none 0 0,.slice none 0 0,.map (some w3.heap.size),.slice none 0 0] 104)) w4 B n d (mainN l)):Row w4 (fun g => g < w4.heap.size∧g ≠ w3.heap.size + 1) B d (mainN l):=by
 have hs:((w3.alloc (.map #[] 0)).alloc (.cells #[.slice none 0 0,.slice none 0 0,.map (some w3.heap.size),.slice none 0 0] 104)).heap.size = w3.heap.size + 1 + 1:=by simp
 have hb4:Bel w w4:=hb3.trans (((Bel.alloc _ _).trans (Bel.alloc _ _)).trans hR.bel)
 have h4:=hR.bel.size
 have h3:=hb3.size
 refine row_of17 hR.row ?_ (fun b hb => ⟨hR.row.lt b hb,?_⟩) (fun x hx => ?_)
 ·have:=List.length_filter_le (fun t => !isDef t) l
  unfold mainN
  omega
 ·have:=hR.fresh b hb
  omega
 ·refine (hA.2 x (List.mem_filter.1 hx).1).same (fun g hg => ⟨?_,?_⟩) (fun g p hg => Below.cell (p:=⟨g,p,none⟩) hb4 hg)
  ·have:g < w.heap.size:=hg
   omega
  ·have:g < w.heap.size:=hg
   omega
theorem nd_store17 {w:World} {rr M:Nat} {wr wz:World} {v:AV} {k:Nat} {f:ByteArray→Option Value} {L:List IN} {ks:List CK} (h:CgS w rr M wr v k f L ks) {g:Nat} {t:TypeId} {cs:List Value} (hN:Blk wr g t cs) (hg:wr.grownBy wz (some M)):Blk wz g t cs:=by
 have hO:Only [M] wr wz:=(Only.refl _ _).grown hg (fun q hq => by cases hq;exact .inl (by simp))
 exact hN.only hO (fun hm => by rw [List.mem_singleton] at hm;exact h.map.not_blk hN hm.symm)
theorem main_q17 {w w3 w4:World} (hb:Bel w w3) (hb4:Bel ((w3.alloc (.map #[] 0)).alloc (.cells #[.slice none 0 0,.slice none 0 0,.map (some w3.heap.size),.slice none 0 0] 104)) w4):∀ g,g < w.heap.size→g < w4.heap.size∧g ≠ w3.heap.size + 1:=fun g hg => by
 have:=hb.size
 have:=hb4.size
 simp at this
 exact ⟨by omega,by omega⟩
theorem part_k {Q:Nat→Prop} {rr:Nat} {w:World} {v:AV} {l:List NT} {X:Option Addr} {c0:Nat} (op:Nat) {oi:Int} (ho:((op:Nat):Int) = oi) {n:Nat} (hn:n = l.length) (h:As Q rr w v) (hX:Row w Q X c0 l) (hw:∀ x,x ∈ l→∃ n,Wk n x) (ht:tots l≤100000) {es:List Nat} (hi:inferI l = (es,0,0)) (hm:prns l≤es.length) (hle:v.L.length + sizs l≤80000) (hkl:v.ks.length + sizs l≤80000) :
  Calls Tryz.prog 40 #[.pointer (some ⟨rr,0,none⟩),.slice X n c0,.int .i64 oi] w
   (AsP Q rr w v (.tuple #[]) (v.L ++ ((listC Z0 v.L.length es l).1 ++ [⟨op,eB,eB,false,0,0⟩])) (listC Z0 v.L.length es l).2 (v.ks ++ listK v.L.length l)):=by
 subst ho hn
 exact part_c op h hX hw ht hi hm hle hkl
theorem cg_start {w w1 w3 w4:World} {Q:Nat→Prop} {v:AV} {L:List IN} {es:List Nat} {ks:List CK} (hb:Bel w w3) (hb4:Bel ((w3.alloc (.map #[] 0)).alloc (.cells #[.slice none 0 0,.slice none 0 0,.map (some w3.heap.size),.slice none 0 0] 104)) w4) (hq:∀ g,g < w.heap.size→Q g)
  (hE:Ev17 Q (w3.heap.size + 1) w4 (v00 w3.heap.size) w1 v) (hS:St17 v L es ks w3.heap.size) (h0:As Q (w3.heap.size + 1) w4 (v00 w3.heap.size)):CgS w (w3.heap.size + 1) w3.heap.size w1 v 0 (startF [] 0) L ks:=by
 have h1:Bel w w4:=(hb.trans ((Bel.alloc w3 _).trans (Bel.alloc _ _))).trans hb4
 have hs:=hb.size
 have hm3:SMap w4 w3.heap.size 0 (fun _ => none):=((SMap.made w3).alloc _).bel hb4
 have hs3:w3.heap.size + 2≤w4.heap.size:=by have:=hb4.size;simp at this;omega
 refine ⟨hE.st.weaken hq,bel_of_only ((bel_only h1).join hE.only (fun q hq => .inr ?_)),by omega,hs,hS.M,fun q hq => ?_,fun q hq => ?_,(hm3.only hE.only (h0.ne_map hm3).1).congr fun k => rfl,hS.L,hS.ks⟩
 ·rcases List.mem_cons.1 hq with rfl | hq
  ·omega
  ·simp [rowT] at hq
 ·rcases hE.subA q hq with g | g
  ·simp [rowT] at g
  ·omega
 ·rcases hE.subK q hq with g | g
  ·simp [rowT] at g
  ·omega
theorem tots_main:∀ l:List NT,tots (mainN l)≤tots l
 | [] => Nat.le_refl _
 | x :: l => by
  have:=tots_main l
  rw [mainN_cons]
  split
  ·rw [tots_cons];omega
  ·rw [tots_cons,tots_cons];omega
theorem startF_nil (a:Nat):startF [] a = startF [] 0:=by
 funext k
 rfl
theorem listK_nm_of:∀ (l:List NT),(∀ x,x ∈ l→∀ a k,k ∈ nodeK a x→∃ c,c ∈ callN x∧c.s = k.2)→∀ a k,k ∈ listK a l→∃ c,c ∈ callNs l∧c.s = k.2
 | [],_,a,k,h => by rw [listK_nil] at h;cases h
 | x :: l,hm,a,k,h => by
  rw [listK_cons] at h
  rw [callNs_cons]
  rcases List.mem_append.1 h with h | h
  ·obtain ⟨c,h1,h2⟩:=hm x (by simp) a k h
   exact ⟨c,List.mem_append_left _ h1,h2⟩
  ·obtain ⟨c,h1,h2⟩:=listK_nm_of l (fun y hy => hm y (by simp [hy])) (a + siz x) k h
   exact ⟨c,List.mem_append_right _ h1,h2⟩
theorem nodeK_nm (t:NT):∀ a k,k ∈ nodeK a t→∃ c,c ∈ callN t∧c.s = k.2:=by
 refine ind (M:=fun t => ∀ a k,k ∈ nodeK a t→∃ c,c ∈ callN t∧c.s = k.2) (fun t hb hl a k h => ?_) t
 have inB:∀ c,c ∈ callNs t.b→c ∈ callN t:=fun c hc => by rw [callN_eq];exact List.mem_append_right _ (List.mem_append_left _ hc)
 have inL:∀ c,c ∈ callNs t.l→c ∈ callN t:=fun c hc => by rw [callN_eq];exact List.mem_append_right _ (List.mem_append_right _ hc)
 rw [nodeK_eq] at h
 split at h
 ·rcases List.mem_append.1 h with h | h
  ·obtain ⟨c,h1,h2⟩:=listK_nm_of t.b hb _ k h;exact ⟨c,inB c h1,h2⟩
  ·split at h
   ·obtain ⟨c,h1,h2⟩:=listK_nm_of t.l hl _ k h;exact ⟨c,inL c h1,h2⟩
   ·cases h
 split at h
 ·obtain ⟨c,h1,h2⟩:=listK_nm_of t.b hb _ k h;exact ⟨c,inB c h1,h2⟩
 split at h
 ·rename_i g
  rw [List.mem_singleton] at h
  subst h
  exact ⟨t,by rw [callN_eq,if_pos g];simp,rfl⟩
 ·cases h
theorem listK_nm (l:List NT) (a:Nat) (k:CK) (h:k ∈ listK a l):∃ c,c ∈ callNs l∧c.s = k.2:=listK_nm_of l (fun x _ => nodeK_nm x) a k h
theorem callNs_mem17 {l:List NT} {x c:NT} (hx:x ∈ l) (hc:c ∈ callN x):c ∈ callNs l:=by
 induction l with
 | nil => cases hx
 | cons y l ih =>
  rw [callNs_cons]
  rcases List.mem_cons.1 hx with rfl | hx
  ·exact List.mem_append_left _ hc
  ·exact List.mem_append_right _ (ih hx)
theorem callNs_sub {l m:List NT} (h:∀ x,x ∈ l→x ∈ m) {c:NT} (hc:c ∈ callNs l):c ∈ callNs m:=by
 induction l with
 | nil => rw [callNs_nil] at hc;cases hc
 | cons y l ih =>
  rw [callNs_cons] at hc
  rcases List.mem_append.1 hc with hc | hc
  ·exact callNs_mem17 (h y (by simp)) hc
  ·exact ih (fun x hx => h x (by simp [hx])) hc
theorem defsK_nm:∀ (ds:List (NT × List Nat)) (a:Nat) (k:CK),k ∈ defsK ds a→∃ d c,d ∈ ds∧c ∈ callNs d.1.b∧c.s = k.2
 | [],a,k,h => by cases h
 | d :: r,a,k,h => by
  unfold defsK at h
  rcases List.mem_append.1 h with h | h
  ·obtain ⟨c,h1,h2⟩:=listK_nm d.1.b a k h
   exact ⟨d,c,by simp,h1,h2⟩
  ·obtain ⟨e,c,h1,h2⟩:=defsK_nm r _ k h
   exact ⟨e,c,by simp [h1],h2⟩
theorem callsZ_nm {l:List NT} {a:Int} (hc:checkN l = (a,0)) {es:List Nat} {k:CK} (h:k ∈ callsZ (mainN l) (dfs l es)):∃ t,t ∈ l∧t.s = k.2:=by
 have key:∃ c,c ∈ callNs l∧c.s = k.2:=by
  unfold callsZ at h
  rcases List.mem_append.1 h with h | h
  ·obtain ⟨c,h1,h2⟩:=listK_nm _ _ _ h
   exact ⟨c,callNs_sub (fun x hx => (List.mem_filter.1 hx).1) h1,h2⟩
  ·obtain ⟨d,c,h0,h1,h2⟩:=defsK_nm _ _ _ h
   exact ⟨c,callNs_mem17 (dfs_mem l es d h0).1 (by rw [callN_eq];exact List.mem_append_right _ (List.mem_append_left _ h1)),h2⟩
 obtain ⟨c,h1,h2⟩:=key
 obtain ⟨t,h3,_,h4⟩:=mem_names.1 ((checkN_ok hc).2 c h1)
 exact ⟨t,h3,h4.trans h2⟩
theorem pcode_ok {l:List NT} {X:Option Addr} {c:Nat} {w:World} (hA:Row w (Lt w) X c l) (ht:tots l≤5000) (hw:∀ x,x ∈ l→Wk false x) (hk0:(checkN l).2 = 0) (hk:(inferI l).2.2 = 0):PcC l X c w:=by
 obtain ⟨n,hn⟩:∃ n,n = l.length:=⟨_,rfl⟩
 have hn5:=hA.len
 obtain ⟨es,hes⟩:∃ es,es = (inferI l).1:=⟨_,rfl⟩
 have hI:inferI l = (es,0,0):=by
  have h1:inferI l = (es,(inferI l).2.1,0):=by rw [← hk,hes]
  obtain ⟨_,h2,_⟩:=inferI_len hw h1
  rw [h1,h2]
 have hC:checkN l = ((checkN l).1,0):=by rw [← hk0]
 have hR:codeN l = (codeW l es,0,0):=by unfold codeN;rw [if_neg (by simpa using hk0),if_neg (by simpa using hk),← hes]
 have HCK:=hid (dcheckK_c hA ht)
 have HIN:=hid (fun (W:World) (h:Row W (Lt W) X c l) => infer_c h (by omega))
 have hll:l.length≤100000:=by have:=cnts_le_len l;have:=cnts_le l;omega
 have HMN:=hid (fun (W:World) (h:Row W (Lt W) X c l) => mainK_c h hll)
 obtain ⟨hp1,hp2⟩:=parts17 hw hI
 obtain ⟨hel,_,_⟩:=inferI_len hw hI
 have HCN:=hid (fun k (hk:k ∈ callsZ (mainN l) (dfs l es)) => show k.2.size≤maxLen by
  obtain ⟨t,h1,h2⟩:=callsZ_nm hC hk
  rw [← h2]
  exact in_s14 (hA.2 t h1))
 have HA:=hid hA
 have HW:=hid hw
 have HP2:=hid hp2
 have HEL:=hid hel
 have HN:=hid hn
 have HT:=hid ht
 have HND:Hid ((nmsOf (dfs l es)).Nodup):=hid (by rw [nmsOf_dfs];exact (checkN_ok hC).1)
 obtain ⟨D,hD⟩:∃ D,D = dfs l es:=⟨_,rfl⟩
 have HD:=hid hD
 have hml:sizs (mainN l)≤15000:=by rw [sizs_main];have:=sizs_le hw;omega
 have HML:=hid hml
 have HME:=hid (show prns (mainN l)≤(mainE l es).length by rw [prns_main,mainE_len l es hel];exact Nat.le_refl _)
 obtain ⟨mn,hmn⟩:∃ mn,mn = (mainN l).length:=⟨_,rfl⟩
 have HMW:Hid (∀ x,x ∈ mainN l→∃ n,Wk n x):=hid (fun x hx => ⟨false,hw x ((List.mem_filter.1 hx).1)⟩)
 have HMT:Hid (tots (mainN l)≤100000):=hid (by have:=tots_main l;omega)
 have hmm:=@run_makeMap Tryz.prog
 have HP1:=hid hp1
 unfold PcC
 rw [hR]
 rw [hC] at HCK
 rw [hI] at HIN
 rw [← hmn] at HMN
 rw [← hn] at hn5 HCK HIN HMN ⊢
 have HMNL:=hid hmn
 have HLL:=hid hll
 clear hA ht hw hk0 hk hes hI hC hR hll hp1 hp2 hel hD hml hmn hn
 generalize (checkN l).1 = ca at HCK
 go_enter Tryz.func21,Tryz.ntmps21
 go_wp2_with (first
  | (go_at_call 16;((with_reducible refine (HCK.out).mono ?_);rintro e w2 ⟨hb,rfl⟩;have HB:=hid hb;clear hb))
  | (go_at_call 17;((with_reducible refine (HIN.out _ (HA.out.bel HB.out)).mono ?_);rintro e w3 ⟨hb,A3,n3,c3,rfl,hE⟩;have HB3:=hid (HB.out.trans hb);clear hb hE))
  | (go_at_call 41;((with_reducible refine (HMN.out _ (HA.out.bel (HB3.out.trans ((Bel.alloc w3 _).trans (Bel.alloc _ _))))).mono ?_);rintro e w4 ⟨B4,d4,rfl,hR4⟩;have HA4:=hid (as_new17 hR4.bel);have HR4:=hid (main_row17 HA.out HB3.out HLL.out hR4);have HPT:=hid (part_k 9 (oi:=9) rfl HMNL.out HA4.out HR4.out HMW.out HMT.out HP1.out HME.out (by show 0 + _≤_;have:=HML.out;omega) (by show 0 + _≤_;have:=HML.out;omega));have HB4:=hid hR4.bel;clear hR4))
  | (go_at_call 40;((with_reducible refine HPT.out.mono ?_);rintro e w5 ⟨rfl,v5,hE5,hS5⟩;have HQ0:Hid (∀ g,g < w.heap.size→g < w4.heap.size∧g ≠ w3.heap.size + 1):=hid (main_q17 HB3.out HB4.out);have HG5:=hid (cg_start HB3.out HB4.out HQ0.out hE5.out hS5.out HA4.out);clear hE5 hS5 HPT HA4 HR4)))
 clear HIN HMN HMW HMT HP1 HME HMNL HLL HB HB3 HB4 HQ0 hmm HCK
 generalize w3.heap.size + 1 = rr at HG5 ⊢
 generalize w3.heap.size = M at HG5 ⊢
 obtain ⟨a0,ha0⟩:∃ a0,a0 = sizs (mainN l) + 1:=⟨_,rfl⟩
 have HA0:=hid ha0
 obtain ⟨L1,hL1⟩:∃ L1,L1 = (listC Z0 0 (mainE l es) (mainN l)).1 ++ [⟨9,eB,eB,false,0,0⟩]:=⟨_,rfl⟩
 have HL1:=hid hL1
 have HLL1:Hid (L1.length = a0):=hid (by rw [hL1,List.length_append,(listC_ok Z0 (mainN l) 0 (mainE l es)).len,ha0];rfl)
 obtain ⟨K1,hK1⟩:∃ K1,K1 = listK 0 (mainN l):=⟨_,rfl⟩
 have HK1:=hid hK1
 have HKL1:Hid (K1.length≤a0):=hid (by rw [hK1,ha0];have:=listK_len (mainN l) 0;omega)
 have HST:Hid (CgS w rr M w5 v5 0 (startF (dfs (l.take 0) es) a0) (L1 ++ defsC Z0 (dfs (l.take 0) es) a0) (K1 ++ defsK (dfs (l.take 0) es) a0)):=hid (by
  have h:=HG5.out
  rw [List.nil_append,List.nil_append] at h
  rw [List.take_zero]
  show CgS w rr M w5 v5 0 (startF [] a0) (L1 ++ []) (K1 ++ [])
  rw [List.append_nil,List.append_nil,hL1,hK1,startF_nil]
  exact h)
 clear ha0 hL1 hK1 HG5
 go_loopw [41] (fun s41 wr => ∃ (i:Nat) (v:AV),i≤n∧s41 = .int .i64 i∧Hid (CgS w rr M wr v i (startF (dfs (l.take i) es) a0) (L1 ++ defsC Z0 (dfs (l.take i) es) a0) (K1 ++ defsK (dfs (l.take i) es) a0))) (fun s41 _ => n - (intOf s41).toNat)
 case atStart => exact ⟨0,v5,Nat.zero_le _,rfl,HST⟩
 case round =>
  obtain ⟨i,v,hin,rfl,HG⟩:=hrel
  by_cases hlt:i < n
  ·have hxt:=List.getElem?_eq_getElem (l:=l) (i:=i) (by have:=HN.out;omega)
   generalize l[i]'(by have:=HN.out;omega) = x at hxt
   have hxm:=List.mem_of_getElem? hxt
   obtain ⟨g0,o,hAA,hg,hc,hxin⟩:=HA.out.at_ hxt
   subst hAA
   have hwk:=HW.out x hxm
   obtain ⟨b0,b1,b2,b3,b4,b5,b6,b7⟩:=(hc.same (w':=wr) fun p => Below.cell (p:=⟨g0,p,none⟩) HG.out.bel hg).all
   have HBN:=hid (Bel.alloc wr (.cells #[.int .i64 x.k,.int .i64 x.a,.string x.s,.string x.p,.bool x.h,.bool x.e,.slice x.A x.b.length x.c,.slice x.B x.l.length x.d] 69))
   have HGN:=hid (HG.out.later HBN.out)
   have HTK:=hid (dfs_take hxt es)
   by_cases hk:x.k = 6
   ·have k6:(x.k == 6) = true:=by rw [hk];rfl
    have hnl:n≤100000:=by rw [HN.out];have h1:=cnts_le_len l;have h2:=cnts_le l;have:=HT.out;omega
    obtain ⟨ds,hds⟩:∃ ds,ds = dfs (l.take i) es:=⟨_,rfl⟩
    obtain ⟨fs,hfs⟩:∃ fs,fs = (es.drop (pfx l i)).take (prf x):=⟨_,rfl⟩
    have hdt:dfs (l.take (i + 1)) es = ds ++ [(x,fs)]:=by rw [HTK.out,if_pos hk,hds,hfs]
    have hat:=dfs_at hxt hk es
    rw [← hds,← hfs] at hat
    have hif:=HP2.out (x,fs) (List.mem_of_getElem? hat)
    have hdl:=dfs_lens l es HEL.out (x,fs) (List.mem_of_getElem? hat)
    have hnm:x.s ∉ nmsOf ds:=by
     have h1:=nms_take HND.out hat
     rw [hds,dfs_pre l i es,← hds]
     exact h1
    have hdz:dsz (dfs (l.take (i + 1)) es)≤15000:=by
     have h1:=dsz_le (l:=l.take (i + 1)) (fun y hy => HW.out y (List.mem_of_mem_take hy)) es
     have h2:tots (l.take (i + 1))≤tots l:=tots_take_le17 l (i + 1)
     have:=HT.out
     omega
    rw [hdt,dsz_snoc] at hdz
    dsimp only at hdz hif hdl hnm
    rw [← hds] at HG HGN
    have hls:v.L.length = a0 + dsz ds:=by rw [HG.out.L,List.length_append,defsC_len,HLL1.out]
    have hks:v.ks.length≤a0 + dsz ds:=by rw [HG.out.ks,List.length_append];have:=defsK_len ds a0;have:=HKL1.out;omega
    have ha0:a0≤15001:=by rw [HA0.out];have:=HML.out;omega
    have HIF:=hid hif
    have HDL:=hid hdl
    have HNM:=hid hnm
    have HDT:=hid hdt
    have HLS:=hid hls
    have HKS:=hid hks
    have HDZ:=hid hdz
    have HXS:=hid (in_s14 hxin)
    have HXI:=hid hxin
    have HWK:=hid hwk
    have htx:tots x.b≤100000:=by have h1:=tots_step hxt;have h2:=tot_eq x;have h3:tots (l.take (i + 1))≤tots l:=(tots_take_le17 l (i + 1));have:=HT.out;omega
    have HTX:=hid htx
    obtain ⟨n1,hn1⟩:∃ n1,n1 = v.L.length:=⟨_,rfl⟩
    have HN1:=hid hn1
    have d0:=HGN.out.st.blk.cell 0
    have d2:=HGN.out.st.blk.cell 2
    simp only [List.getElem?_cons_zero,List.getElem?_cons_succ,HGN.out.vM,← hn1] at d0 d2
    have HND2:=hid (show Blk (wN wr x) wr.heap.size 69 x.cs from Blk.new wr 69 x.cs)
    clear hxt hxm hg hc hxin hwk hk hds hfs hdt hat hif hdl hnm hdz hls hks htx hn1
    go_wp2_with (first
     | ((with_reducible refine wp_store rfl (.tmp 49) (.tmp 51) (.tmp 54) 101 rfl 3 Tryz.underlying101 M i (startF ds a0) rfl HGN.out.map (by unfold maxLen;omega) x.s rfl HXS.out (.int .i64 (n1:Nat)) rfl ?_);intro wz HMZ hgz;have HGZ:=hid (HGN.out.store hgz HMZ.out);have HNZ:=hid (nd_store17 HGN.out HND2.out hgz);have n6:wz.cell? ⟨wr.heap.size,6,none⟩ = some (.slice x.A x.b.length x.c):=HNZ.out.cell 6;have HPT:=hid (part_k 7 (oi:=7) rfl (n:=x.b.length) rfl HGZ.out.st (HXI.out.body.same (fun _ h => h) (fun g p hg => Below.cell (p:=⟨g,p,none⟩) HGZ.out.bel hg)) (fun y hy => ⟨true,HWK.out.body y hy⟩) HTX.out HIF.out (by rw [HDL.out];omega) (by rw [HLS.out];have:=HDZ.out;omega) (by have:=HKS.out;have:=HDZ.out;omega));clear hgz)
     | (go_at_call 40;((with_reducible refine HPT.out.mono ?_);rintro e w6 ⟨rfl,v6,hE6,hS6⟩;have HG6:=hid (HGZ.out.call hE6.out hS6.out))))
    go_roundw
    case rel =>
     refine ⟨i + 1,v6,by omega,by go_num,hid ?_⟩
     have h:=HG6.out
     rw [HLS.out,HG.out.L,HG.out.ks,List.append_assoc,List.append_assoc] at h
     rw [HDT.out,defsC_snoc,defsK_snoc,← List.append_assoc,← List.append_assoc,List.append_assoc,List.append_assoc]
     have hf:(fun q => if q = x.s then some (Value.int .i64 (n1:Nat)) else startF ds a0 q) = startF (ds ++ [(x,fs)]) a0:=by
      funext q
      rw [HN1.out,HLS.out]
      exact startF_snoc ds (x,fs) a0 HNM.out q
     rw [← hf]
     exact h
    case measure => simp [intOf];omega
   ·have k6:(x.k == 6) = false:=by simpa using hk
    have hdt:dfs (l.take (i + 1)) es = dfs (l.take i) es:=by rw [HTK.out,if_neg hk,List.append_nil]
    have HDT:=hid hdt
    clear hxt hxm hg hc hxin hwk hk hdt
    go_wp2_with fail
    go_roundw
    case rel => exact ⟨i + 1,v,by omega,by go_num,hid (by rw [HDT.out];exact HGN.out.grow (by omega))⟩
    case measure => simp [intOf];omega
  ·obtain rfl:i = n:=by omega
   have hls:v.L.length = a0 + dsz D:=by rw [HG.out.L,List.length_append,defsC_len,HLL1.out,HN.out,List.take_length,HD.out]
   have hdz:dsz D≤15000:=by rw [HD.out];have h1:=dsz_le (fun y hy => HW.out y hy) es;have:=HT.out;omega
   have ha0:a0≤15001:=by rw [HA0.out];have:=HML.out;omega
   obtain ⟨vA,vc,vL,vE,vce,ves,vM,vK,vkc,vks⟩:=v
   have hcz:vL = codeZ (mainN l) D (mainE l es):=by
    have h:vL = _:=HG.out.L
    rw [h,HL1.out,HN.out,List.take_length,← HD.out,HA0.out]
    unfold codeZ
    rw [List.append_assoc]
    rfl
   have hkz:vks = callsZ (mainN l) D:=by
    have h:vks = _:=HG.out.ks
    rw [h,HK1.out,HN.out,List.take_length,← HD.out,HA0.out]
    rfl
   obtain rfl:vM = M:=HG.out.vM
   have HLK:Hid (lnk (adr D a0) vL vks = codeW l es):=hid (by
    have h:=code_lnk l es
    rw [← HD.out] at h
    rw [hcz,hkz,← h,HA0.out,sizs_main])
   have HKI:Hid (∀ k,k ∈ vks→k.1 < vL.length∧k.2.size≤maxLen):=hid (fun k hk => by
    rw [hkz] at hk
    rw [hcz]
    exact ⟨callsZ_lt hk,HCN.out k (by rw [← HD.out];exact hk)⟩)
   have hG0:CgS w rr vM wr ⟨vA,vc,lnk (adr D a0) vL (vks.take 0),vE,vce,ves,vM,vK,vkc,vks⟩ i (startF D a0) (lnk (adr D a0) vL (vks.take 0)) vks:=by
    have h:=HG.out
    have e:dfs (l.take i) es = D:=by rw [HN.out,List.take_length,HD.out]
    rw [e] at h
    rw [List.take_zero]
    exact ⟨h.st,h.bel,h.lo,h.loM,h.vM,h.lowA,h.lowK,h.map,rfl,rfl⟩
   have hvl:0 < vL.length:=by have:vL.length = _:=hls;rw [this,HA0.out];omega
   have hvm:vL.length≤31000:=by have:vL.length = _:=hls;omega
   obtain ⟨n1,hn1⟩:∃ n1,n1 = vL.length:=⟨_,rfl⟩
   obtain ⟨q,hq⟩:∃ q,q = vks.length:=⟨_,rfl⟩
   have hqm:q≤maxLen:=by rw [hq];exact Nat.le_trans hG0.st.calls.le hG0.st.calls.max
   obtain ⟨gA,oA,hgA,_,_⟩:=RowK.addr hG0.st.code (by have h1:(lnk (adr D a0) vL (vks.take 0)).length≤vc:=hG0.st.code.le;rw [lnk_len] at h1;show 0 < vc;omega)
   replace hgA:vA = some ⟨gA,oA,none⟩:=hgA
   subst hgA
   have HG0:=hid hG0
   have HN1:=hid hn1
   have HQ:=hid hq
   have d3:wr.cell? ⟨rr,3,none⟩ = some (.slice vK q vkc):=by rw [hq];exact hG0.st.blk.cell 3
   rw [← hn1] at hvl hvm
   unfold maxLen at hqm
   clear hls hdz ha0 hcz hkz hG0 hn1 hq HG HST
   go_wp2_with fail
   go_loopw [62] (fun s62 w2 => ∃ j:Nat,j≤q∧s62 = .int .i64 j∧Hid (CgS w rr vM w2 ⟨some ⟨gA,oA,none⟩,vc,lnk (adr D a0) vL (vks.take j),vE,vce,ves,vM,vK,vkc,vks⟩ i (startF D a0) (lnk (adr D a0) vL (vks.take j)) vks)) (fun s62 _ => q - (intOf s62).toNat)
   case atStart => exact ⟨0,Nat.zero_le _,rfl,HG0⟩
   case round =>
    obtain ⟨j,hjq,rfl,HG⟩:=hrel
    by_cases hlt:j < q
    ·have hkt:=List.getElem?_eq_getElem (l:=vks) (i:=j) (by have:=HQ.out;omega)
     generalize vks[j]'(by have:=HQ.out;omega) = k at hkt
     obtain ⟨hk1,hk2⟩:=HKI.out k (List.mem_of_getElem? hkt)
     obtain ⟨g,o,hK,hg,hc⟩:=HG.out.st.calls.at_ ckcs_len hkt (by decide)
     replace hK:vK = some ⟨g,o,none⟩:=hK
     subst hK
     have b0:=hc 0 _ rfl
     have b1:=hc 1 _ rfl
     rw [Nat.add_zero] at b0
     obtain ⟨kn,kb⟩:=k
     have HT1:=hid (lnk_take (adr D a0) hkt vL)
     have HK2:=hid hk2
     have HK1':=hid hk1
     have HGN:=hid (HG.out.later (Bel.alloc wr (.cells #[.int .i64 (kn:Nat),.string kb] 107)))
     have d0:(wr.alloc (.cells #[.int .i64 (kn:Nat),.string kb] 107)).cell? ⟨rr,0,none⟩ = some (.slice (some ⟨gA,oA,none⟩) n1 vc):=by have h:=HGN.out.st.blk.cell 0;rw [HN1.out,← lnk_len (adr D a0) (vks.take j) vL];exact h
     have d2:(wr.alloc (.cells #[.int .i64 (kn:Nat),.string kb] 107)).cell? ⟨rr,2,none⟩ = some (.map (some vM)):=HGN.out.st.blk.cell 2
     have hkn:kn < n1:=by rw [HN1.out];exact hk1
     obtain ⟨y,hy⟩:∃ y,(lnk (adr D a0) vL (vks.take j))[kn]? = some y:=⟨_,List.getElem?_eq_getElem (by rw [lnk_len];exact hk1)⟩
     obtain ⟨g',o',hA',_,hx5⟩:=HGN.out.st.code.at_ IN.cs_len hy (by decide)
     replace hA':(some ⟨gA,oA,none⟩:Option Addr) = some ⟨g',o',none⟩:=hA'
     injection hA' with hA'
     injection hA' with e1 e2
     subst e1 e2
     have c5:=hx5 5 _ rfl
     have f5:∀ z,(wr.alloc (.cells #[.int .i64 (kn:Nat),.string kb] 107)).frozen? ⟨gA,z,none⟩ = false:=fun z => HGN.out.st.code.free rfl z
     have hV:=startF_get D a0 kb
     have HV:=hid hV
     obtain ⟨ta,hta⟩:∃ ta,ta = adr D a0 kb:=⟨_,rfl⟩
     rw [← hta] at HV
     have HTA:=hid hta
     clear hkt hc hk1 hk2 hy hx5 hV hta hg
     go_wp2_with ((with_reducible refine wp_look rfl (.tmp 71) (.tmp 73) 101 rfl 3 Tryz.underlying101 (.int .i64 0) zeroInt17 vM i (startF D a0) rfl HGN.out.map kb rfl HK2.out (.int .i64 (ta:Nat)) HV.out ?_))
     go_roundw
     case rel =>
      refine ⟨j + 1,by omega,by go_num,hid ?_⟩
      have hE:=HGN.out.st.aim (i:=kn) (t:=ta) (g:=gA) (o:=oA) (by rw [lnk_len];exact HK1'.out) rfl
      have h:=HGN.out.call hE ⟨rfl,rfl,rfl,rfl⟩
      rw [HT1.out,← HTA.out]
      exact ⟨h.st,h.bel,h.lo,h.loM,h.vM,h.lowA,h.lowK,h.map,rfl,h.ks⟩
     case measure => simp [intOf];omega
    ·obtain rfl:j = q:=by omega
     have HGF:Hid (CgS w rr vM wr ⟨some ⟨gA,oA,none⟩,vc,codeW l es,vE,vce,ves,vM,vK,vkc,vks⟩ i (startF D a0) (codeW l es) vks):=hid (by have h:=HG.out;rw [HQ.out,List.take_length,HLK.out] at h;exact h)
     have HLN:Hid ((codeW l es).length = n1):=hid (by rw [← HLK.out,lnk_len,HN1.out])
     have d0:wr.cell? ⟨rr,0,none⟩ = some (.slice (some ⟨gA,oA,none⟩) n1 vc):=by rw [← HLN.out];exact HGF.out.st.blk.cell 0
     go_wp2_with fail
     go_ret3
     exact ⟨HGF.out.bel,_,vc,by rw [HLN.out];rfl,hid ⟨HGF.out.st.code,HGF.out.lowA⟩⟩
theorem pcodeA_c {l:List NT} {X:Option Addr} {c:Nat} {w:World} (hA:Row w (Lt w) X c l) (ht:tots l≤5000) (hw:∀ x,x ∈ l→Wk false x):PcC l X c w:=by
 by_cases h1:(checkN l).2 = 0
 ·by_cases h2:(inferI l).2.2 = 0
  ·exact pcode_ok hA ht hw h1 h2
  ·exact pcode_infer hA ht h1 h2
 ·exact pcode_check hA ht h1
end
section
open Go.RowKit Go.BigFrame NT
theorem par17 {s:ByteArray} {r:LexR} (hs:s.size≤5000) (hlo:LexOf s r):(∀ a k,parR r = .error (a,k)→k ≠ 0)∧∀ l,parR r = .ok l→Parsed l:=by
 refine ⟨fun a k hp => ?_,fun l hp => ?_⟩
 ·unfold parR at hp
  cases r with
  | error bc =>
   obtain ⟨b,c⟩:=bc
   dsimp only at hp
   injection hp with hp
   injection hp with h1 h2
   subst h2
   exact lex_code hlo
  | ok ts =>
   dsimp only at hp
   cases hq:P ts 0 false 0 0 with
   | error e => rw [hq] at hp;injection hp with hp;subst hp;exact P_code hq
   | ok x => rw [hq] at hp;cases hp
 ·unfold parR at hp
  cases r with
  | error bc => cases hp
  | ok ts =>
   dsimp only at hp
   cases hq:P ts 0 false 0 0 with
   | error e => rw [hq] at hp;cases hp
   | ok x =>
    obtain ⟨l',r',c'⟩:=x
    rw [hq] at hp
    injection hp with hp
    subst hp
    obtain rfl:=P_top_rest hq
    unfold LexOf at hlo
    rw [if_neg (by omega)] at hlo
    exact ⟨toL s,ts,c',by rw [toL_len];exact hs,hlo,hq⟩
def cmpR (r:ParR):List IN × Int × Nat:=match r with
 | .error (a,k) => ([],(a:Nat),k)
 | .ok l => codeN l
theorem row_lt17 {w w':World} {A:Option Addr} {c:Nat} {l:List NT} (h:Row w' (Fr w w') A c l):Row w' (Lt w') A c l:=h.same (fun _ hb => hb.2) (fun _ _ _ => rfl)
theorem ParPost.row17 {s:ByteArray} {l:List NT} {w:World} {e:Ending} {w':World} (h:ParPost s (.ok l) w e w') (hl:Parsed l):Bel w w'∧∃ A c m,ers m = l∧Row w' (Lt w') A c m∧e = .returned (.tuple #[.slice A m.length c,.int .i64 s.size,.int .i64 0])∧tots m≤5000∧∀ x,x ∈ m→Wk false x:=by
 obtain ⟨hb,A,c,m,h1,h2,h3⟩:=h
 exact ⟨hb,A,c,m,h1,row_lt17 h2,h3,by have:=hl.tots;rwa [← h1,tots_ers] at this,wk_ers hl.wk h1⟩
theorem CdP.bel17 {r:List IN × Int × Nat} {w0 w:World} {e:Ending} {w':World} (hb:Bel w0 w) (h:CdP r w e w'):CdP r w0 e w':=by
 obtain ⟨h1,A,c,h2,h3⟩:=h
 exact ⟨hb.trans h1,A,c,h2,hid ⟨h3.out.1,fun k hk => Nat.le_trans hb.size (h3.out.2 k hk)⟩⟩
theorem pcompile_c (s:ByteArray) (hs:s.size≤5000) {r:LexR} (hr:LexOf s r) (w:World) (hM:MX w):Calls Tryz.prog 10 #[.string s] w (CdP (cmpR (parR r)) w):=by
 have HP:=hid (parse_c s r w hM hr)
 obtain ⟨he,hk⟩:=par17 hs hr
 cases hq:parR r with
 | error ak =>
  obtain ⟨a,k⟩:=ak
  have hk0:=he a k hq
  rw [hq] at HP
  have hk1:((k:Int) != 0) = true:=bne_iff_ne.2 (by omega)
  clear hr hM he hk hq hk0
  go_enter Tryz.func10,Tryz.ntmps10
  go_wp2_with (go_at_call 15;((with_reducible refine HP.out.mono ?_);rintro e w1 ⟨hb,rfl⟩;have HB1:=hid hb;clear hb))
  go_ret3
  exact CdP.nil rfl HB1.out
 | ok l =>
  have HL:=hid (hk l hq)
  rw [hq] at HP
  have HC:=hid (show cmpR (.ok l) = codeN l from rfl)
  rw [HC.out]
  clear hr hM he hk hq
  go_enter Tryz.func10,Tryz.ntmps10
  go_wp2_with (first
   | (go_at_call 15;((with_reducible refine HP.out.mono ?_);rintro e w1 hp;obtain ⟨hb,A1,c1,m,he,hrow,rfl,ht,hw⟩:=hp.row17 HL.out;have HB1:=hid hb;have HPC:=hid (pcodeA_c hrow ht hw);unfold PcC at HPC;rw [← codeN_ers,he] at HPC;clear hp hb hrow he ht hw))
   | (go_at_call 21;((with_reducible refine HPC.out.mono ?_);rintro e w2 hc;have HC2:=hid (CdP.bel17 HB1.out hc);obtain ⟨_,A2,c2,rfl,_⟩:=hc)))
  go_ret3
  exact HC2.out
def azS:ByteArray:=⟨#[97,123,123,105,102,32,46,116,125,125,98,123,123,101,110,100,125,125]⟩
def azT:List Tok:=[⟨0,0,[97],[],false⟩,⟨2,1,[],[116],true⟩,⟨0,10,[98],[],false⟩,⟨8,11,[],[],false⟩]
def azN:List NT:=[nd ⟨0,0,[97],[],false⟩ false [] [],nd ⟨2,1,[],[116],true⟩ false [nd ⟨0,10,[98],[],false⟩ false [] []] []]
def dirZ:List UInt8:=[123,123,105,102,32,46,116,125,125]
theorem az_lex:LexOf azS (.ok azT):=by
 unfold LexOf
 rw [if_neg (by decide)]
 exact lx_txt16 (s:=[97]) (k:=0) rfl (by decide +kernel) rfl <|
  (show DirOf dirZ ⟨2,0,[],[116],true⟩ from dirB_of (by decide +kernel)).lx <|
  lx_txt16 (s:=[98]) (k:=0) rfl (by decide +kernel) rfl <|
  end_dir.lx <| Lx.nil _
theorem az_par:parR (.ok azT) = .ok azN:=rfl
theorem az_infer:inferI azN = ([],0,0):=by
 have h1:listI (s0 0) [nd ⟨0,10,[98],[],false⟩ false [] []] = .ok (s0 0) []:=by
  rw [listI_cons,nodeI_text (t:=s0 0) rfl ((eqH_iff _ _).1 (by decide +kernel)),IR.next_ok,listI_nil]
  rfl
 have h:listI (s0 0) azN = .ok (s0 0) []:=by
  unfold azN
  rw [listI_cons,nodeI_text (t:=s0 0) rfl ((eqH_iff _ _).1 (by decide +kernel)),IR.next_ok,listI_cons,nodeI_eq,if_neg (by decide),if_neg (by decide),if_pos (by decide)]
  show IR.next (IR.next (IR.next (listI (s0 0) [nd ⟨0,10,[98],[],false⟩ false [] []]) _) _) _ = _
  rw [h1,IR.next_ok]
  show IR.next (IR.next (IR.next (listI (s0 0) []) _) _) _ = _
  rw [listI_nil,IR.next_ok,if_pos (eqH_self _),IR.next_ok,listI_nil,IR.next_ok]
  rfl
 unfold inferI
 rw [h]
 rfl
def azC:List IN:=[⟨0,⟨#[97]⟩,eB,false,0,0⟩,⟨2,eB,⟨#[116]⟩,false,0,3⟩,⟨0,⟨#[98]⟩,eB,false,0,0⟩,⟨9,eB,eB,false,0,0⟩]
theorem az_code:codeN azN = (azC,0,0):=by
 have hc:checkN azN = (0,0):=rfl
 unfold codeN
 rw [hc,az_infer]
 rfl
theorem az_cmp:cmpR (parR (.ok azT)) = (azC,0,0):=by rw [az_par];exact az_code
theorem az_xr (w:World):Xr (w.alloc (.cells #[.int .i64 0,.string ⟨#[97]⟩,.string ⟨#[]⟩,.bool false,.int .i64 0,.int .i64 0,.int .i64 2,.string ⟨#[]⟩,.string ⟨#[116]⟩,.bool false,.int .i64 0,.int .i64 3,.int .i64 0,.string ⟨#[98]⟩,.string ⟨#[]⟩,.bool false,.int .i64 0,.int .i64 0,.int .i64 9,.string ⟨#[]⟩,.string ⟨#[]⟩,.bool false,.int .i64 0,.int .i64 0] 31)) (some ⟨w.heap.size,0,none⟩) 4 (azC.map IN.x) :=
 Xr.of_krow (KRow.of_blk (l:=azC) (f:=IN.cs) (z:=6) (Blk.new w 31 (flat IN.cs azC)) IN.cs_len (by show 4≤maxLen;decide))
theorem alive_c (w:World) (hM:MX w):Calls Tryz.prog 9 #[] w fun e w' => e = .returned (.bool true)∧Bel w w':=by
 have HC:=hid (pcompile_c azS (by decide) az_lex w hM)
 rw [az_cmp] at HC
 unfold azS at HC
 clear hM
 go_enter Tryz.func9,Tryz.ntmps9
 go_wp2_with (first
  | (go_at_call 10;((with_reducible refine (HC.out).mono ?_);rintro e w1 ⟨hb,A,c,he,hI⟩;replace he:e = .returned (.tuple #[.slice A 4 c,.int .i64 0,.int .i64 0]):=he;subst he;have HB1:=hid (hb.trans (Bel.alloc w1 (.cells #[.int .i64 0,.string ⟨#[97]⟩,.string ⟨#[]⟩,.bool false,.int .i64 0,.int .i64 0,.int .i64 2,.string ⟨#[]⟩,.string ⟨#[116]⟩,.bool false,.int .i64 0,.int .i64 3,.int .i64 0,.string ⟨#[98]⟩,.string ⟨#[]⟩,.bool false,.int .i64 0,.int .i64 0,.int .i64 9,.string ⟨#[]⟩,.string ⟨#[]⟩,.bool false,.int .i64 0,.int .i64 0] 31)));have HEQ:=hid (insEqual_n (n:=4) (k:=4) ((Xr.of_krow hI.out.1).bel (Bel.alloc w1 (.cells #[.int .i64 0,.string ⟨#[97]⟩,.string ⟨#[]⟩,.bool false,.int .i64 0,.int .i64 0,.int .i64 2,.string ⟨#[]⟩,.string ⟨#[116]⟩,.bool false,.int .i64 0,.int .i64 3,.int .i64 0,.string ⟨#[98]⟩,.string ⟨#[]⟩,.bool false,.int .i64 0,.int .i64 0,.int .i64 9,.string ⟨#[]⟩,.string ⟨#[]⟩,.bool false,.int .i64 0,.int .i64 0] 31))) (az_xr w1) rfl rfl (by decide) (by decide));rw [decide_eq_true rfl] at HEQ;clear hb hI))
  | (go_at_call 12;((with_reducible refine (HEQ.out).mono ?_);rintro e w2 ⟨rfl,hb⟩;have HB2:=hid (HB1.out.trans hb);clear hb)))
 go_ret
 exact ⟨rfl,HB2.out⟩
end
section
open Go.RowKit Go.BigFrame NT
theorem codeW_few {l:List NT} (hl:Parsed l) (es:List Nat):(codeW l es).length≤31000:=by
 have h1:=sizs_le hl.wk
 have h2:=dsz_le hl.wk es
 have:=hl.tots
 rw [codeW_len]
 omega
end
section
open Go.RowKit Go.BigFrame NT
theorem rcode_c {l:List NT} {A:Option Addr} {c:Nat} {w:World} (hA:Row w (Lt w) A c l) (ht:tots l≤10000) (hw:∀ x,x ∈ l→Wk false x):CoC l A c w:=by
 have hI:∀ W,Row W (Lt W) A c l→Calls Tryz.prog 43 #[.slice A l.length c] W (InQ (inferI l) W):=fun W h => by
  refine (rinfer_c h (by omega)).mono ?_
  rintro e w' ⟨hb,A',n,c',he,hE⟩
  exact ⟨hb,A',n,c',he,hid hE.out⟩
 by_cases h1:(checkN l).2 = 0
 ·by_cases h2:(inferI l).2.2 = 0
  ·exact rcode_loop hA ht h1 h2 hw hI
  ·exact rcode_infer hA (by omega) h1 h2 hI
 ·exact rcode_check hA (by omega) h1
theorem rcompile_c (s:ByteArray) (hs:s.size≤5000) {r:LexR} (hr:LexOf s r) (w:World):Calls Tryz.prog 11 #[.string s] w (CdP (cmpR (parR r)) w):=by
 have HP:=hid (refParse_c s r w hr)
 obtain ⟨he,hk⟩:=par17 hs hr
 cases hq:parR r with
 | error ak =>
  obtain ⟨a,k⟩:=ak
  have hk0:=he a k hq
  rw [hq] at HP
  have hk1:((k:Int) != 0) = true:=bne_iff_ne.2 (by omega)
  clear hr he hk hq hk0
  go_enter Tryz.func11,Tryz.ntmps11
  go_wp2_with (go_at_call 18;((with_reducible refine HP.out.mono ?_);rintro e w1 ⟨hb,rfl⟩;have HB1:=hid hb;clear hb))
  go_ret3
  exact CdP.nil rfl HB1.out
 | ok l =>
  have HL:=hid (hk l hq)
  rw [hq] at HP
  have HC:=hid (show cmpR (.ok l) = codeN l from rfl)
  rw [HC.out]
  clear hr he hk hq
  go_enter Tryz.func11,Tryz.ntmps11
  go_wp2_with (first
   | (go_at_call 18;((with_reducible refine HP.out.mono ?_);rintro e w1 hp;obtain ⟨hb,A1,c1,m,he,hrow,rfl,ht,hw⟩:=hp.row17 HL.out;have HB1:=hid hb;have HPC:=hid (rcode_c hrow (by omega) hw);unfold CoC at HPC;rw [← codeN_ers,he] at HPC;clear hp hb hrow he ht hw))
   | (go_at_call 22;((with_reducible refine HPC.out.mono ?_);rintro e w2 hc;have HC2:=hid (CdP.bel17 HB1.out hc);obtain ⟨_,A2,c2,rfl,_⟩:=hc)))
  go_ret3
  exact HC2.out
theorem cmpR_few {s:ByteArray} {r:LexR} (hs:s.size≤5000) (hlo:LexOf s r):(cmpR (parR r)).1.length≤31000:=by
 obtain ⟨_,hpa⟩:=par17 hs hlo
 cases hq:parR r with
 | error ak => exact Nat.zero_le _
 | ok l =>
  show (codeN l).1.length≤31000
  unfold codeN
  split
  ·exact Nat.zero_le _
  ·split
   ·exact Nat.zero_le _
   ·exact codeW_few (hpa l hq) _
end
section
open Go.RowKit Go.BigFrame NT
theorem jrLaw (s:ByteArray) (w:World) (hT:MX w) (hs:s.size≤maxLen) :
  Calls Tryz.prog 3 #[.string s] w fun e w' => e = .returned (.bool true)∧Below w.heap.size w w':=by
 have hs2:(s.size:Int)≤9223372036854775807:=by have:=hs;unfold maxLen at this;omega
 have HT:=hid hT
 have HAL:=hid (fun (W:World) (hb:Bel w W) => alive_c W (hT.bel hb))
 by_cases hbig:5000 < s.size
 ·have hi:(5000:Int) < (s.size:Int):=by omega
  clear hs hT
  go_enter Tryz.func3,Tryz.ntmps3
  go_wp2_with (go_at_call 9;((with_reducible refine (HAL.out _ (Bel.refl _)).mono ?_);rintro e w1 ⟨rfl,hb⟩;have HB1:=hid hb;clear hb))
  go_ret
  exact ⟨rfl,HB1.out⟩
 have hi:¬ (5000:Int) < (s.size:Int):=by omega
 have hs5:s.size≤5000:=by omega
 obtain ⟨r,hlo,_⟩:=lexOf_total s
 have HCO:=hid (pcompile_c s hs5 hlo w hT)
 have HRO:=hid (fun W => rcompile_c s hs5 hlo W)
 have hfew:=cmpR_few hs5 hlo
 obtain ⟨C,hC⟩:∃ C,C = cmpR (parR r):=⟨_,rfl⟩
 rw [← hC] at HCO HRO hfew
 obtain ⟨c,a,k⟩:=C
 dsimp only at hfew
 unfold CdP at HCO HRO
 dsimp only at HCO HRO
 obtain ⟨n,hn⟩:∃ n,n = c.length:=⟨_,rfl⟩
 rw [← hn] at HCO HRO hfew
 have HN:=hid hn
 have HFEW:=hid hfew
 clear hlo hC hT hs hn hfew
 go_enter Tryz.func3,Tryz.ntmps3
 go_wp2_with (first
  | (go_at_call 10;((with_reducible refine (HCO.out).mono ?_);rintro e w1 ⟨hb,A1,c1,rfl,hI⟩;have HB1:=hid hb;have HX1:=hid (Xr.of_krow hI.out.1);clear hb hI))
  | (go_at_call 11;((with_reducible refine (HRO.out _).mono ?_);rintro e w4 ⟨hb,A4,c4,rfl,hI⟩;have HB4:=hid (HB1.out.trans hb);have HX4:=hid (HX1.out.bel hb);have HY4:=hid (Xr.of_krow hI.out.1);clear hb hI))
  | (go_at_call 9;((with_reducible refine (HAL.out _ HB4.out).mono ?_);rintro e w5 ⟨rfl,hb⟩;have HB5:=hid (HB4.out.trans hb);have HEQ:=hid (insEqual_n (n:=n) (k:=n) (HX4.out.bel hb) (HY4.out.bel hb) (by rw [List.length_map,HN.out]) (by rw [List.length_map,HN.out]) (by have:=HFEW.out;omega) (by have:=HFEW.out;omega));rw [decide_eq_true rfl] at HEQ;clear hb))
  | (go_at_call 12;((with_reducible refine (HEQ.out).mono ?_);rintro e w6 ⟨rfl,hb⟩;have HB6:=hid (HB5.out.trans hb);clear hb)))
 go_ret
 exact ⟨rfl,HB6.out⟩
end
end Go.Proofs.YtpcapmdfjmpdiaaGreatDoor
