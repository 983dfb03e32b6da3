/- The program of layer 17: Code -/
import Derived.Test.YtpcapmdfjmpdiaaGreatDoorZPk17
import Derived.Test.YtpcapmdfjmpdiaaGreatDoorZRlist
import Derived.Test.YtpcapmdfjmpdiaaGreatDoorZPd12
import Derived.Test.YtpcapmdfjmpdiaaGreatDoorZPl12
import Derived.Test.YtpcapmdfjmpdiaaGreatDoorZPure12
import Derived.Test.YtpcapmdfjmpdiaaGreatDoorZPk14
import Derived.Test.YtpcapmdfjmpdiaaGreatDoorZCt12
import Derived.Test.YtpcapmdfjmpdiaaGreatDoorZPb17
set_option linter.unusedVariables false
set_option linter.unusedSimpArgs false
set_option maxRecDepth 100000
set_option maxHeartbeats 12800000
open Go.Lib (hid)
namespace Go.Proofs.YtpcapmdfjmpdiaaGreatDoor
section
open Go.RowKit Go.BigFrame NT
abbrev v00 (M:Nat):AV:=⟨none,0,[],none,0,[],M,none,0,[]⟩
theorem as_new17 {w3 w4:World} (hb:Bel ((w3.alloc (.map #[] 0)).alloc (.cells #[.slice none 0 0,.slice none 0 0,.map (some w3.heap.size),.slice none 0 0] 104)) w4) :
  As (fun g => g < w4.heap.size∧g ≠ w3.heap.size + 1) (w3.heap.size + 1) w4 (v00 w3.heap.size):=by
 have hB:=Blk.new (w3.alloc (.map #[] 0)) 104 [.slice none 0 0,.slice none 0 0,.map (some w3.heap.size),.slice none 0 0]
 rw [show (w3.alloc (.map #[] 0)).heap.size = w3.heap.size + 1 by simp] at hB
 exact ⟨hB.bel hb,KRow.nil _ _ _ _,RowAt.nil _ _,KRow.nil _ _ _ _,fun g hg => ⟨hg.1,hg.2,by simp [rowT],by simp [rowT]⟩⟩
theorem row_of17 {w:World} {A:Option Addr} {c:Nat} {l:List NT} {Q:Nat→Prop} (h:KRow w 69 8 NT.cs A c l) (hl:l.length≤100000) (hA:∀ b,b ∈ rowT A→Q b) (hx:∀ x,x ∈ l→x.In w Q):Row w Q A c l:=by
 refine ⟨⟨⟨h.le,h.max,by unfold reachBytes;omega⟩,fun h0 => ?_⟩,hx⟩
 obtain ⟨g,o,hA0,hg,_⟩:=h.at_ NT.cs_len (List.getElem?_eq_getElem h0) (by decide)
 refine ⟨g,o,hA0,hA g (by rw [hA0];simp [rowT]),fun i x hi => ?_⟩
 obtain ⟨g',o',hA1,hg',hc⟩:=h.at_ NT.cs_len hi (by decide)
 rw [hA0] at hA1
 injection hA1 with hA1
 injection hA1 with e1 e2
 subst e1 e2
 exact hc
theorem tots_take_le17 (l:List NT) (i:Nat):tots (l.take i)≤tots l:=by
 conv => rhs;rw [← List.take_append_drop i l]
 rw [tots_append]
 omega
theorem main_row17 {w w3 w4:World} {l:List NT} {X:Option Addr} {c:Nat} (hA:Row w (Lt w) X c l) (hb3:Bel w w3) (hll:l.length≤100000) {B:Option Addr} {n d:Nat}
  (hR:RkAt ((w3.alloc (.map #[] 0)).alloc (.cells #[.slice none 0 0,.slice none 0 0,.map (some w3.heap.size),.slice none 0 0] 104)) w4 B n d (mainN l)):Row w4 (fun g => g < w4.heap.size∧g ≠ w3.heap.size + 1) B d (mainN l):=by
 have hs:((w3.alloc (.map #[] 0)).alloc (.cells #[.slice none 0 0,.slice none 0 0,.map (some w3.heap.size),.slice none 0 0] 104)).heap.size = w3.heap.size + 1 + 1:=by simp
 have hb4:Bel w w4:=hb3.trans (((Bel.alloc _ _).trans (Bel.alloc _ _)).trans hR.bel)
 have h4:=hR.bel.size
 have h3:=hb3.size
 refine row_of17 hR.row ?_ (fun b hb => ⟨hR.row.lt b hb,?_⟩) (fun x hx => ?_)
 ·have:=List.length_filter_le (fun t => !isDef t) l
  unfold mainN
  omega
 ·have:=hR.fresh b hb
  omega
 ·refine (hA.2 x (List.mem_filter.1 hx).1).same (fun g hg => ⟨?_,?_⟩) (fun g p hg => Below.cell (p:=⟨g,p,none⟩) hb4 hg)
  ·have:g < w.heap.size:=hg
   omega
  ·have:g < w.heap.size:=hg
   omega
theorem nd_store17 {w:World} {rr M:Nat} {wr wz:World} {v:AV} {k:Nat} {f:ByteArray→Option Value} {L:List IN} {ks:List CK} (h:CgS w rr M wr v k f L ks) {g:Nat} {t:TypeId} {cs:List Value} (hN:Blk wr g t cs) (hg:wr.grownBy wz (some M)):Blk wz g t cs:=by
 have hO:Only [M] wr wz:=(Only.refl _ _).grown hg (fun q hq => by cases hq;exact .inl (by simp))
 exact hN.only hO (fun hm => by rw [List.mem_singleton] at hm;exact h.map.not_blk hN hm.symm)
theorem main_q17 {w w3 w4:World} (hb:Bel w w3) (hb4:Bel ((w3.alloc (.map #[] 0)).alloc (.cells #[.slice none 0 0,.slice none 0 0,.map (some w3.heap.size),.slice none 0 0] 104)) w4):∀ g,g < w.heap.size→g < w4.heap.size∧g ≠ w3.heap.size + 1:=fun g hg => by
 have:=hb.size
 have:=hb4.size
 simp at this
 exact ⟨by omega,by omega⟩
theorem part_k {Q:Nat→Prop} {rr:Nat} {w:World} {v:AV} {l:List NT} {X:Option Addr} {c0:Nat} (op:Nat) {oi:Int} (ho:((op:Nat):Int) = oi) {n:Nat} (hn:n = l.length) (h:As Q rr w v) (hX:Row w Q X c0 l) (hw:∀ x,x ∈ l→∃ n,Wk n x) (ht:tots l≤100000) {es:List Nat} (hi:inferI l = (es,0,0)) (hm:prns l≤es.length) (hle:v.L.length + sizs l≤80000) (hkl:v.ks.length + sizs l≤80000) :
  Calls Tryz.prog 40 #[.pointer (some ⟨rr,0,none⟩),.slice X n c0,.int .i64 oi] w
   (AsP Q rr w v (.tuple #[]) (v.L ++ ((listC Z0 v.L.length es l).1 ++ [⟨op,eB,eB,false,0,0⟩])) (listC Z0 v.L.length es l).2 (v.ks ++ listK v.L.length l)):=by
 subst ho hn
 exact part_c op h hX hw ht hi hm hle hkl
theorem cg_start {w w1 w3 w4:World} {Q:Nat→Prop} {v:AV} {L:List IN} {es:List Nat} {ks:List CK} (hb:Bel w w3) (hb4:Bel ((w3.alloc (.map #[] 0)).alloc (.cells #[.slice none 0 0,.slice none 0 0,.map (some w3.heap.size),.slice none 0 0] 104)) w4) (hq:∀ g,g < w.heap.size→Q g)
  (hE:Ev17 Q (w3.heap.size + 1) w4 (v00 w3.heap.size) w1 v) (hS:St17 v L es ks w3.heap.size) (h0:As Q (w3.heap.size + 1) w4 (v00 w3.heap.size)):CgS w (w3.heap.size + 1) w3.heap.size w1 v 0 (startF [] 0) L ks:=by
 have h1:Bel w w4:=(hb.trans ((Bel.alloc w3 _).trans (Bel.alloc _ _))).trans hb4
 have hs:=hb.size
 have hm3:SMap w4 w3.heap.size 0 (fun _ => none):=((SMap.made w3).alloc _).bel hb4
 have hs3:w3.heap.size + 2≤w4.heap.size:=by have:=hb4.size;simp at this;omega
 refine ⟨hE.st.weaken hq,bel_of_only ((bel_only h1).join hE.only (fun q hq => .inr ?_)),by omega,hs,hS.M,fun q hq => ?_,fun q hq => ?_,(hm3.only hE.only (h0.ne_map hm3).1).congr fun k => rfl,hS.L,hS.ks⟩
 ·rcases List.mem_cons.1 hq with rfl | hq
  ·omega
  ·simp [rowT] at hq
 ·rcases hE.subA q hq with g | g
  ·simp [rowT] at g
  ·omega
 ·rcases hE.subK q hq with g | g
  ·simp [rowT] at g
  ·omega
theorem tots_main:∀ l:List NT,tots (mainN l)≤tots l
 | [] => Nat.le_refl _
 | x :: l => by
  have:=tots_main l
  rw [mainN_cons]
  split
  ·rw [tots_cons];omega
  ·rw [tots_cons,tots_cons];omega
theorem startF_nil (a:Nat):startF [] a = startF [] 0:=by
 funext k
 rfl
theorem listK_nm_of:∀ (l:List NT),(∀ x,x ∈ l→∀ a k,k ∈ nodeK a x→∃ c,c ∈ callN x∧c.s = k.2)→∀ a k,k ∈ listK a l→∃ c,c ∈ callNs l∧c.s = k.2
 | [],_,a,k,h => by rw [listK_nil] at h;cases h
 | x :: l,hm,a,k,h => by
  rw [listK_cons] at h
  rw [callNs_cons]
  rcases List.mem_append.1 h with h | h
  ·obtain ⟨c,h1,h2⟩:=hm x (by simp) a k h
   exact ⟨c,List.mem_append_left _ h1,h2⟩
  ·obtain ⟨c,h1,h2⟩:=listK_nm_of l (fun y hy => hm y (by simp [hy])) (a + siz x) k h
   exact ⟨c,List.mem_append_right _ h1,h2⟩
theorem nodeK_nm (t:NT):∀ a k,k ∈ nodeK a t→∃ c,c ∈ callN t∧c.s = k.2:=by
 refine ind (M:=fun t => ∀ a k,k ∈ nodeK a t→∃ c,c ∈ callN t∧c.s = k.2) (fun t hb hl a k h => ?_) t
 have inB:∀ c,c ∈ callNs t.b→c ∈ callN t:=fun c hc => by rw [callN_eq];exact List.mem_append_right _ (List.mem_append_left _ hc)
 have inL:∀ c,c ∈ callNs t.l→c ∈ callN t:=fun c hc => by rw [callN_eq];exact List.mem_append_right _ (List.mem_append_right _ hc)
 rw [nodeK_eq] at h
 split at h
 ·rcases List.mem_append.1 h with h | h
  ·obtain ⟨c,h1,h2⟩:=listK_nm_of t.b hb _ k h;exact ⟨c,inB c h1,h2⟩
  ·split at h
   ·obtain ⟨c,h1,h2⟩:=listK_nm_of t.l hl _ k h;exact ⟨c,inL c h1,h2⟩
   ·cases h
 split at h
 ·obtain ⟨c,h1,h2⟩:=listK_nm_of t.b hb _ k h;exact ⟨c,inB c h1,h2⟩
 split at h
 ·rename_i g
  rw [List.mem_singleton] at h
  subst h
  exact ⟨t,by rw [callN_eq,if_pos g];simp,rfl⟩
 ·cases h
theorem listK_nm (l:List NT) (a:Nat) (k:CK) (h:k ∈ listK a l):∃ c,c ∈ callNs l∧c.s = k.2:=listK_nm_of l (fun x _ => nodeK_nm x) a k h
theorem callNs_mem17 {l:List NT} {x c:NT} (hx:x ∈ l) (hc:c ∈ callN x):c ∈ callNs l:=by
 induction l with
 | nil => cases hx
 | cons y l ih =>
  rw [callNs_cons]
  rcases List.mem_cons.1 hx with rfl | hx
  ·exact List.mem_append_left _ hc
  ·exact List.mem_append_right _ (ih hx)
theorem callNs_sub {l m:List NT} (h:∀ x,x ∈ l→x ∈ m) {c:NT} (hc:c ∈ callNs l):c ∈ callNs m:=by
 induction l with
 | nil => rw [callNs_nil] at hc;cases hc
 | cons y l ih =>
  rw [callNs_cons] at hc
  rcases List.mem_append.1 hc with hc | hc
  ·exact callNs_mem17 (h y (by simp)) hc
  ·exact ih (fun x hx => h x (by simp [hx])) hc
theorem defsK_nm:∀ (ds:List (NT × List Nat)) (a:Nat) (k:CK),k ∈ defsK ds a→∃ d c,d ∈ ds∧c ∈ callNs d.1.b∧c.s = k.2
 | [],a,k,h => by cases h
 | d :: r,a,k,h => by
  unfold defsK at h
  rcases List.mem_append.1 h with h | h
  ·obtain ⟨c,h1,h2⟩:=listK_nm d.1.b a k h
   exact ⟨d,c,by simp,h1,h2⟩
  ·obtain ⟨e,c,h1,h2⟩:=defsK_nm r _ k h
   exact ⟨e,c,by simp [h1],h2⟩
theorem callsZ_nm {l:List NT} {a:Int} (hc:checkN l = (a,0)) {es:List Nat} {k:CK} (h:k ∈ callsZ (mainN l) (dfs l es)):∃ t,t ∈ l∧t.s = k.2:=by
 have key:∃ c,c ∈ callNs l∧c.s = k.2:=by
  unfold callsZ at h
  rcases List.mem_append.1 h with h | h
  ·obtain ⟨c,h1,h2⟩:=listK_nm _ _ _ h
   exact ⟨c,callNs_sub (fun x hx => (List.mem_filter.1 hx).1) h1,h2⟩
  ·obtain ⟨d,c,h0,h1,h2⟩:=defsK_nm _ _ _ h
   exact ⟨c,callNs_mem17 (dfs_mem l es d h0).1 (by rw [callN_eq];exact List.mem_append_right _ (List.mem_append_left _ h1)),h2⟩
 obtain ⟨c,h1,h2⟩:=key
 obtain ⟨t,h3,_,h4⟩:=mem_names.1 ((checkN_ok hc).2 c h1)
 exact ⟨t,h3,h4.trans h2⟩
theorem pcode_ok {l:List NT} {X:Option Addr} {c:Nat} {w:World} (hA:Row w (Lt w) X c l) (ht:tots l≤5000) (hw:∀ x,x ∈ l→Wk false x) (hk0:(checkN l).2 = 0) (hk:(inferI l).2.2 = 0):PcC l X c w:=by
 obtain ⟨n,hn⟩:∃ n,n = l.length:=⟨_,rfl⟩
 have hn5:=hA.len
 obtain ⟨es,hes⟩:∃ es,es = (inferI l).1:=⟨_,rfl⟩
 have hI:inferI l = (es,0,0):=by
  have h1:inferI l = (es,(inferI l).2.1,0):=by rw [← hk,hes]
  obtain ⟨_,h2,_⟩:=inferI_len hw h1
  rw [h1,h2]
 have hC:checkN l = ((checkN l).1,0):=by rw [← hk0]
 have hR:codeN l = (codeW l es,0,0):=by unfold codeN;rw [if_neg (by simpa using hk0),if_neg (by simpa using hk),← hes]
 have HCK:=hid (dcheckK_c hA ht)
 have HIN:=hid (fun (W:World) (h:Row W (Lt W) X c l) => infer_c h (by omega))
 have hll:l.length≤100000:=by have:=cnts_le_len l;have:=cnts_le l;omega
 have HMN:=hid (fun (W:World) (h:Row W (Lt W) X c l) => mainK_c h hll)
 obtain ⟨hp1,hp2⟩:=parts17 hw hI
 obtain ⟨hel,_,_⟩:=inferI_len hw hI
 have HCN:=hid (fun k (hk:k ∈ callsZ (mainN l) (dfs l es)) => show k.2.size≤maxLen by
  obtain ⟨t,h1,h2⟩:=callsZ_nm hC hk
  rw [← h2]
  exact in_s14 (hA.2 t h1))
 have HA:=hid hA
 have HW:=hid hw
 have HP2:=hid hp2
 have HEL:=hid hel
 have HN:=hid hn
 have HT:=hid ht
 have HND:Hid ((nmsOf (dfs l es)).Nodup):=hid (by rw [nmsOf_dfs];exact (checkN_ok hC).1)
 obtain ⟨D,hD⟩:∃ D,D = dfs l es:=⟨_,rfl⟩
 have HD:=hid hD
 have hml:sizs (mainN l)≤15000:=by rw [sizs_main];have:=sizs_le hw;omega
 have HML:=hid hml
 have HME:=hid (show prns (mainN l)≤(mainE l es).length by rw [prns_main,mainE_len l es hel];exact Nat.le_refl _)
 obtain ⟨mn,hmn⟩:∃ mn,mn = (mainN l).length:=⟨_,rfl⟩
 have HMW:Hid (∀ x,x ∈ mainN l→∃ n,Wk n x):=hid (fun x hx => ⟨false,hw x ((List.mem_filter.1 hx).1)⟩)
 have HMT:Hid (tots (mainN l)≤100000):=hid (by have:=tots_main l;omega)
 have hmm:=@run_makeMap Tryz.prog
 have HP1:=hid hp1
 unfold PcC
 rw [hR]
 rw [hC] at HCK
 rw [hI] at HIN
 rw [← hmn] at HMN
 rw [← hn] at hn5 HCK HIN HMN ⊢
 have HMNL:=hid hmn
 have HLL:=hid hll
 clear hA ht hw hk0 hk hes hI hC hR hll hp1 hp2 hel hD hml hmn hn
 generalize (checkN l).1 = ca at HCK
 go_enter Tryz.func21,Tryz.ntmps21
 go_wp2_with (first
  | (go_at_call 16;((with_reducible refine (HCK.out).mono ?_);rintro e w2 ⟨hb,rfl⟩;have HB:=hid hb;clear hb))
  | (go_at_call 17;((with_reducible refine (HIN.out _ (HA.out.bel HB.out)).mono ?_);rintro e w3 ⟨hb,A3,n3,c3,rfl,hE⟩;have HB3:=hid (HB.out.trans hb);clear hb hE))
  | (go_at_call 41;((with_reducible refine (HMN.out _ (HA.out.bel (HB3.out.trans ((Bel.alloc w3 _).trans (Bel.alloc _ _))))).mono ?_);rintro e w4 ⟨B4,d4,rfl,hR4⟩;have HA4:=hid (as_new17 hR4.bel);have HR4:=hid (main_row17 HA.out HB3.out HLL.out hR4);have HPT:=hid (part_k 9 (oi:=9) rfl HMNL.out HA4.out HR4.out HMW.out HMT.out HP1.out HME.out (by show 0 + _≤_;have:=HML.out;omega) (by show 0 + _≤_;have:=HML.out;omega));have HB4:=hid hR4.bel;clear hR4))
  | (go_at_call 40;((with_reducible refine HPT.out.mono ?_);rintro e w5 ⟨rfl,v5,hE5,hS5⟩;have HQ0:Hid (∀ g,g < w.heap.size→g < w4.heap.size∧g ≠ w3.heap.size + 1):=hid (main_q17 HB3.out HB4.out);have HG5:=hid (cg_start HB3.out HB4.out HQ0.out hE5.out hS5.out HA4.out);clear hE5 hS5 HPT HA4 HR4)))
 clear HIN HMN HMW HMT HP1 HME HMNL HLL HB HB3 HB4 HQ0 hmm HCK
 generalize w3.heap.size + 1 = rr at HG5 ⊢
 generalize w3.heap.size = M at HG5 ⊢
 obtain ⟨a0,ha0⟩:∃ a0,a0 = sizs (mainN l) + 1:=⟨_,rfl⟩
 have HA0:=hid ha0
 obtain ⟨L1,hL1⟩:∃ L1,L1 = (listC Z0 0 (mainE l es) (mainN l)).1 ++ [⟨9,eB,eB,false,0,0⟩]:=⟨_,rfl⟩
 have HL1:=hid hL1
 have HLL1:Hid (L1.length = a0):=hid (by rw [hL1,List.length_append,(listC_ok Z0 (mainN l) 0 (mainE l es)).len,ha0];rfl)
 obtain ⟨K1,hK1⟩:∃ K1,K1 = listK 0 (mainN l):=⟨_,rfl⟩
 have HK1:=hid hK1
 have HKL1:Hid (K1.length≤a0):=hid (by rw [hK1,ha0];have:=listK_len (mainN l) 0;omega)
 have HST:Hid (CgS w rr M w5 v5 0 (startF (dfs (l.take 0) es) a0) (L1 ++ defsC Z0 (dfs (l.take 0) es) a0) (K1 ++ defsK (dfs (l.take 0) es) a0)):=hid (by
  have h:=HG5.out
  rw [List.nil_append,List.nil_append] at h
  rw [List.take_zero]
  show CgS w rr M w5 v5 0 (startF [] a0) (L1 ++ []) (K1 ++ [])
  rw [List.append_nil,List.append_nil,hL1,hK1,startF_nil]
  exact h)
 clear ha0 hL1 hK1 HG5
 go_loopw [41] (fun s41 wr => ∃ (i:Nat) (v:AV),i≤n∧s41 = .int .i64 i∧Hid (CgS w rr M wr v i (startF (dfs (l.take i) es) a0) (L1 ++ defsC Z0 (dfs (l.take i) es) a0) (K1 ++ defsK (dfs (l.take i) es) a0))) (fun s41 _ => n - (intOf s41).toNat)
 case atStart => exact ⟨0,v5,Nat.zero_le _,rfl,HST⟩
 case round =>
  obtain ⟨i,v,hin,rfl,HG⟩:=hrel
  by_cases hlt:i < n
  ·have hxt:=List.getElem?_eq_getElem (l:=l) (i:=i) (by have:=HN.out;omega)
   generalize l[i]'(by have:=HN.out;omega) = x at hxt
   have hxm:=List.mem_of_getElem? hxt
   obtain ⟨g0,o,hAA,hg,hc,hxin⟩:=HA.out.at_ hxt
   subst hAA
   have hwk:=HW.out x hxm
   obtain ⟨b0,b1,b2,b3,b4,b5,b6,b7⟩:=(hc.same (w':=wr) fun p => Below.cell (p:=⟨g0,p,none⟩) HG.out.bel hg).all
   have HBN:=hid (Bel.alloc wr (.cells #[.int .i64 x.k,.int .i64 x.a,.string x.s,.string x.p,.bool x.h,.bool x.e,.slice x.A x.b.length x.c,.slice x.B x.l.length x.d] 69))
   have HGN:=hid (HG.out.later HBN.out)
   have HTK:=hid (dfs_take hxt es)
   by_cases hk:x.k = 6
   ·have k6:(x.k == 6) = true:=by rw [hk];rfl
    have hnl:n≤100000:=by rw [HN.out];have h1:=cnts_le_len l;have h2:=cnts_le l;have:=HT.out;omega
    obtain ⟨ds,hds⟩:∃ ds,ds = dfs (l.take i) es:=⟨_,rfl⟩
    obtain ⟨fs,hfs⟩:∃ fs,fs = (es.drop (pfx l i)).take (prf x):=⟨_,rfl⟩
    have hdt:dfs (l.take (i + 1)) es = ds ++ [(x,fs)]:=by rw [HTK.out,if_pos hk,hds,hfs]
    have hat:=dfs_at hxt hk es
    rw [← hds,← hfs] at hat
    have hif:=HP2.out (x,fs) (List.mem_of_getElem? hat)
    have hdl:=dfs_lens l es HEL.out (x,fs) (List.mem_of_getElem? hat)
    have hnm:x.s ∉ nmsOf ds:=by
     have h1:=nms_take HND.out hat
     rw [hds,dfs_pre l i es,← hds]
     exact h1
    have hdz:dsz (dfs (l.take (i + 1)) es)≤15000:=by
     have h1:=dsz_le (l:=l.take (i + 1)) (fun y hy => HW.out y (List.mem_of_mem_take hy)) es
     have h2:tots (l.take (i + 1))≤tots l:=tots_take_le17 l (i + 1)
     have:=HT.out
     omega
    rw [hdt,dsz_snoc] at hdz
    dsimp only at hdz hif hdl hnm
    rw [← hds] at HG HGN
    have hls:v.L.length = a0 + dsz ds:=by rw [HG.out.L,List.length_append,defsC_len,HLL1.out]
    have hks:v.ks.length≤a0 + dsz ds:=by rw [HG.out.ks,List.length_append];have:=defsK_len ds a0;have:=HKL1.out;omega
    have ha0:a0≤15001:=by rw [HA0.out];have:=HML.out;omega
    have HIF:=hid hif
    have HDL:=hid hdl
    have HNM:=hid hnm
    have HDT:=hid hdt
    have HLS:=hid hls
    have HKS:=hid hks
    have HDZ:=hid hdz
    have HXS:=hid (in_s14 hxin)
    have HXI:=hid hxin
    have HWK:=hid hwk
    have htx:tots x.b≤100000:=by have h1:=tots_step hxt;have h2:=tot_eq x;have h3:tots (l.take (i + 1))≤tots l:=(tots_take_le17 l (i + 1));have:=HT.out;omega
    have HTX:=hid htx
    obtain ⟨n1,hn1⟩:∃ n1,n1 = v.L.length:=⟨_,rfl⟩
    have HN1:=hid hn1
    have d0:=HGN.out.st.blk.cell 0
    have d2:=HGN.out.st.blk.cell 2
    simp only [List.getElem?_cons_zero,List.getElem?_cons_succ,HGN.out.vM,← hn1] at d0 d2
    have HND2:=hid (show Blk (wN wr x) wr.heap.size 69 x.cs from Blk.new wr 69 x.cs)
    clear hxt hxm hg hc hxin hwk hk hds hfs hdt hat hif hdl hnm hdz hls hks htx hn1
    go_wp2_with (first
     | ((with_reducible refine wp_store rfl (.tmp 49) (.tmp 51) (.tmp 54) 101 rfl 3 Tryz.underlying101 M i (startF ds a0) rfl HGN.out.map (by unfold maxLen;omega) x.s rfl HXS.out (.int .i64 (n1:Nat)) rfl ?_);intro wz HMZ hgz;have HGZ:=hid (HGN.out.store hgz HMZ.out);have HNZ:=hid (nd_store17 HGN.out HND2.out hgz);have n6:wz.cell? ⟨wr.heap.size,6,none⟩ = some (.slice x.A x.b.length x.c):=HNZ.out.cell 6;have HPT:=hid (part_k 7 (oi:=7) rfl (n:=x.b.length) rfl HGZ.out.st (HXI.out.body.same (fun _ h => h) (fun g p hg => Below.cell (p:=⟨g,p,none⟩) HGZ.out.bel hg)) (fun y hy => ⟨true,HWK.out.body y hy⟩) HTX.out HIF.out (by rw [HDL.out];omega) (by rw [HLS.out];have:=HDZ.out;omega) (by have:=HKS.out;have:=HDZ.out;omega));clear hgz)
     | (go_at_call 40;((with_reducible refine HPT.out.mono ?_);rintro e w6 ⟨rfl,v6,hE6,hS6⟩;have HG6:=hid (HGZ.out.call hE6.out hS6.out))))
    go_roundw
    case rel =>
     refine ⟨i + 1,v6,by omega,by go_num,hid ?_⟩
     have h:=HG6.out
     rw [HLS.out,HG.out.L,HG.out.ks,List.append_assoc,List.append_assoc] at h
     rw [HDT.out,defsC_snoc,defsK_snoc,← List.append_assoc,← List.append_assoc,List.append_assoc,List.append_assoc]
     have hf:(fun q => if q = x.s then some (Value.int .i64 (n1:Nat)) else startF ds a0 q) = startF (ds ++ [(x,fs)]) a0:=by
      funext q
      rw [HN1.out,HLS.out]
      exact startF_snoc ds (x,fs) a0 HNM.out q
     rw [← hf]
     exact h
    case measure => simp [intOf];omega
   ·have k6:(x.k == 6) = false:=by simpa using hk
    have hdt:dfs (l.take (i + 1)) es = dfs (l.take i) es:=by rw [HTK.out,if_neg hk,List.append_nil]
    have HDT:=hid hdt
    clear hxt hxm hg hc hxin hwk hk hdt
    go_wp2_with fail
    go_roundw
    case rel => exact ⟨i + 1,v,by omega,by go_num,hid (by rw [HDT.out];exact HGN.out.grow (by omega))⟩
    case measure => simp [intOf];omega
  ·obtain rfl:i = n:=by omega
   have hls:v.L.length = a0 + dsz D:=by rw [HG.out.L,List.length_append,defsC_len,HLL1.out,HN.out,List.take_length,HD.out]
   have hdz:dsz D≤15000:=by rw [HD.out];have h1:=dsz_le (fun y hy => HW.out y hy) es;have:=HT.out;omega
   have ha0:a0≤15001:=by rw [HA0.out];have:=HML.out;omega
   obtain ⟨vA,vc,vL,vE,vce,ves,vM,vK,vkc,vks⟩:=v
   have hcz:vL = codeZ (mainN l) D (mainE l es):=by
    have h:vL = _:=HG.out.L
    rw [h,HL1.out,HN.out,List.take_length,← HD.out,HA0.out]
    unfold codeZ
    rw [List.append_assoc]
    rfl
   have hkz:vks = callsZ (mainN l) D:=by
    have h:vks = _:=HG.out.ks
    rw [h,HK1.out,HN.out,List.take_length,← HD.out,HA0.out]
    rfl
   obtain rfl:vM = M:=HG.out.vM
   have HLK:Hid (lnk (adr D a0) vL vks = codeW l es):=hid (by
    have h:=code_lnk l es
    rw [← HD.out] at h
    rw [hcz,hkz,← h,HA0.out,sizs_main])
   have HKI:Hid (∀ k,k ∈ vks→k.1 < vL.length∧k.2.size≤maxLen):=hid (fun k hk => by
    rw [hkz] at hk
    rw [hcz]
    exact ⟨callsZ_lt hk,HCN.out k (by rw [← HD.out];exact hk)⟩)
   have hG0:CgS w rr vM wr ⟨vA,vc,lnk (adr D a0) vL (vks.take 0),vE,vce,ves,vM,vK,vkc,vks⟩ i (startF D a0) (lnk (adr D a0) vL (vks.take 0)) vks:=by
    have h:=HG.out
    have e:dfs (l.take i) es = D:=by rw [HN.out,List.take_length,HD.out]
    rw [e] at h
    rw [List.take_zero]
    exact ⟨h.st,h.bel,h.lo,h.loM,h.vM,h.lowA,h.lowK,h.map,rfl,rfl⟩
   have hvl:0 < vL.length:=by have:vL.length = _:=hls;rw [this,HA0.out];omega
   have hvm:vL.length≤31000:=by have:vL.length = _:=hls;omega
   obtain ⟨n1,hn1⟩:∃ n1,n1 = vL.length:=⟨_,rfl⟩
   obtain ⟨q,hq⟩:∃ q,q = vks.length:=⟨_,rfl⟩
   have hqm:q≤maxLen:=by rw [hq];exact Nat.le_trans hG0.st.calls.le hG0.st.calls.max
   obtain ⟨gA,oA,hgA,_,_⟩:=RowK.addr hG0.st.code (by have h1:(lnk (adr D a0) vL (vks.take 0)).length≤vc:=hG0.st.code.le;rw [lnk_len] at h1;show 0 < vc;omega)
   replace hgA:vA = some ⟨gA,oA,none⟩:=hgA
   subst hgA
   have HG0:=hid hG0
   have HN1:=hid hn1
   have HQ:=hid hq
   have d3:wr.cell? ⟨rr,3,none⟩ = some (.slice vK q vkc):=by rw [hq];exact hG0.st.blk.cell 3
   rw [← hn1] at hvl hvm
   unfold maxLen at hqm
   clear hls hdz ha0 hcz hkz hG0 hn1 hq HG HST
   go_wp2_with fail
   go_loopw [62] (fun s62 w2 => ∃ j:Nat,j≤q∧s62 = .int .i64 j∧Hid (CgS w rr vM w2 ⟨some ⟨gA,oA,none⟩,vc,lnk (adr D a0) vL (vks.take j),vE,vce,ves,vM,vK,vkc,vks⟩ i (startF D a0) (lnk (adr D a0) vL (vks.take j)) vks)) (fun s62 _ => q - (intOf s62).toNat)
   case atStart => exact ⟨0,Nat.zero_le _,rfl,HG0⟩
   case round =>
    obtain ⟨j,hjq,rfl,HG⟩:=hrel
    by_cases hlt:j < q
    ·have hkt:=List.getElem?_eq_getElem (l:=vks) (i:=j) (by have:=HQ.out;omega)
     generalize vks[j]'(by have:=HQ.out;omega) = k at hkt
     obtain ⟨hk1,hk2⟩:=HKI.out k (List.mem_of_getElem? hkt)
     obtain ⟨g,o,hK,hg,hc⟩:=HG.out.st.calls.at_ ckcs_len hkt (by decide)
     replace hK:vK = some ⟨g,o,none⟩:=hK
     subst hK
     have b0:=hc 0 _ rfl
     have b1:=hc 1 _ rfl
     rw [Nat.add_zero] at b0
     obtain ⟨kn,kb⟩:=k
     have HT1:=hid (lnk_take (adr D a0) hkt vL)
     have HK2:=hid hk2
     have HK1':=hid hk1
     have HGN:=hid (HG.out.later (Bel.alloc wr (.cells #[.int .i64 (kn:Nat),.string kb] 107)))
     have d0:(wr.alloc (.cells #[.int .i64 (kn:Nat),.string kb] 107)).cell? ⟨rr,0,none⟩ = some (.slice (some ⟨gA,oA,none⟩) n1 vc):=by have h:=HGN.out.st.blk.cell 0;rw [HN1.out,← lnk_len (adr D a0) (vks.take j) vL];exact h
     have d2:(wr.alloc (.cells #[.int .i64 (kn:Nat),.string kb] 107)).cell? ⟨rr,2,none⟩ = some (.map (some vM)):=HGN.out.st.blk.cell 2
     have hkn:kn < n1:=by rw [HN1.out];exact hk1
     obtain ⟨y,hy⟩:∃ y,(lnk (adr D a0) vL (vks.take j))[kn]? = some y:=⟨_,List.getElem?_eq_getElem (by rw [lnk_len];exact hk1)⟩
     obtain ⟨g',o',hA',_,hx5⟩:=HGN.out.st.code.at_ IN.cs_len hy (by decide)
     replace hA':(some ⟨gA,oA,none⟩:Option Addr) = some ⟨g',o',none⟩:=hA'
     injection hA' with hA'
     injection hA' with e1 e2
     subst e1 e2
     have c5:=hx5 5 _ rfl
     have f5:∀ z,(wr.alloc (.cells #[.int .i64 (kn:Nat),.string kb] 107)).frozen? ⟨gA,z,none⟩ = false:=fun z => HGN.out.st.code.free rfl z
     have hV:=startF_get D a0 kb
     have HV:=hid hV
     obtain ⟨ta,hta⟩:∃ ta,ta = adr D a0 kb:=⟨_,rfl⟩
     rw [← hta] at HV
     have HTA:=hid hta
     clear hkt hc hk1 hk2 hy hx5 hV hta hg
     go_wp2_with ((with_reducible refine wp_look rfl (.tmp 71) (.tmp 73) 101 rfl 3 Tryz.underlying101 (.int .i64 0) zeroInt17 vM i (startF D a0) rfl HGN.out.map kb rfl HK2.out (.int .i64 (ta:Nat)) HV.out ?_))
     go_roundw
     case rel =>
      refine ⟨j + 1,by omega,by go_num,hid ?_⟩
      have hE:=HGN.out.st.aim (i:=kn) (t:=ta) (g:=gA) (o:=oA) (by rw [lnk_len];exact HK1'.out) rfl
      have h:=HGN.out.call hE ⟨rfl,rfl,rfl,rfl⟩
      rw [HT1.out,← HTA.out]
      exact ⟨h.st,h.bel,h.lo,h.loM,h.vM,h.lowA,h.lowK,h.map,rfl,h.ks⟩
     case measure => simp [intOf];omega
    ·obtain rfl:j = q:=by omega
     have HGF:Hid (CgS w rr vM wr ⟨some ⟨gA,oA,none⟩,vc,codeW l es,vE,vce,ves,vM,vK,vkc,vks⟩ i (startF D a0) (codeW l es) vks):=hid (by have h:=HG.out;rw [HQ.out,List.take_length,HLK.out] at h;exact h)
     have HLN:Hid ((codeW l es).length = n1):=hid (by rw [← HLK.out,lnk_len,HN1.out])
     have d0:wr.cell? ⟨rr,0,none⟩ = some (.slice (some ⟨gA,oA,none⟩) n1 vc):=by rw [← HLN.out];exact HGF.out.st.blk.cell 0
     go_wp2_with fail
     go_ret3
     exact ⟨HGF.out.bel,_,vc,by rw [HLN.out];rfl,hid ⟨HGF.out.st.code,HGF.out.lowA⟩⟩
theorem pcodeA_c {l:List NT} {X:Option Addr} {c:Nat} {w:World} (hA:Row w (Lt w) X c l) (ht:tots l≤5000) (hw:∀ x,x ∈ l→Wk false x):PcC l X c w:=by
 by_cases h1:(checkN l).2 = 0
 ·by_cases h2:(inferI l).2.2 = 0
  ·exact pcode_ok hA ht hw h1 h2
  ·exact pcode_infer hA ht h1 h2
 ·exact pcode_check hA ht h1
end
section
open Go.RowKit Go.BigFrame NT
theorem plist_all {g:Nat} (m:Nat):ListQ g m:=by
 induction m using Nat.strongRecOn with
 | _ m ih => exact plist_of (fun n hn => pnode_of (ih n hn))
theorem doneP {f:Func} (hf:f.results = #[.cell 2 38,.cell 3 3,.cell 4 24]) {tmps:Array Value} {b1 b2 b3:Nat} {A:Option Addr} {n c:Nat} {i j:Int} {W:World} (p2:tmps.getD 2 undef = .pointer (some ⟨b1,0,none⟩)) (p3:tmps.getD 3 undef = .pointer (some ⟨b2,0,none⟩)) (p4:tmps.getD 4 undef = .pointer (some ⟨b3,0,none⟩))
  (h1:Blk W b1 38 [.slice A n c]) (h2:Blk W b2 3 [.int .i64 i]) (h3:Blk W b3 24 [.int .i64 j]):(results f tmps).run Tryz.prog W = .ok (.tuple #[.slice A n c,.int .i64 i,.int .i64 j]) W:=by
 have q2:tmps[2]?.getD undef = .pointer (some ⟨b1,0,none⟩):=by simpa using p2
 have q3:tmps[3]?.getD undef = .pointer (some ⟨b2,0,none⟩):=by simpa using p3
 have q4:tmps[4]?.getD undef = .pointer (some ⟨b3,0,none⟩):=by simpa using p4
 have c1:=h1.cell 0
 have c2:=h2.cell 0
 have c3:=h3.cell 0
 simp only [List.getElem?_cons_zero] at c1 c2 c3
 simp [results,hf,q2,q3,q4,go_sem,c1,c2,c3]
theorem parR_fin {ts:List Tok} {l:List NT} {c:Nat} (h:P ts 2 false 0 0 = .ok (l,[],c)):parR (.ok ts) = .ok l:=by
 unfold parR
 dsimp only
 rw [P_conv,h]
 rfl
theorem parR_rest {ts:List Tok} {l:List NT} {u:Tok} {r:List Tok} {c:Nat} (h:P ts 2 false 0 0 = .ok (l,u :: r,c)):parR (.ok ts) = .error (u.a,13):=by
 unfold parR
 dsimp only
 rw [P_conv,h]
 simp only [fin]
 by_cases hu:u.k = 7
 ·rw [if_pos hu,if_neg (fun h => by cases h.1)]
 ·rw [if_neg hu,if_pos (by trivial)]
theorem parR_fault {ts:List Tok} {e:Nat × Nat} (h:P ts 2 false 0 0 = .error e):parR (.ok ts) = .error e:=by
 unfold parR
 dsimp only
 rw [P_conv,h]
 rfl
def Three (b1 b2 b3:Nat) (v1 v2 v3:Value) (W w':World):Prop:=Only [b1,b2,b3] W w'∧Blk w' b1 38 [v1]∧Blk w' b2 3 [v2]∧Blk w' b3 24 [v3]
theorem Three.set1 {b1 b2 b3:Nat} {v1 v2 v3:Value} {W w':World} (h:Three b1 b2 b3 v1 v2 v3 W w') (n12:b2 ≠ b1) (n13:b3 ≠ b1):Three b1 b2 b3 v1 v2 v3 W (w'.setCell ⟨b1,0,none⟩ v1) :=
 ⟨h.1.setCell (.inl (by simp)) _,h.2.1.set_ 0 v1,h.2.2.1.far (p:=⟨b1,0,none⟩) n12 _,h.2.2.2.far (p:=⟨b1,0,none⟩) n13 _⟩
theorem Three.set2 {b1 b2 b3:Nat} {v1 v2 v3:Value} {W w':World} (h:Three b1 b2 b3 v1 v2 v3 W w') (n12:b1 ≠ b2) (n13:b3 ≠ b2):Three b1 b2 b3 v1 v2 v3 W (w'.setCell ⟨b2,0,none⟩ v2) :=
 ⟨h.1.setCell (.inl (by simp)) _,h.2.1.far (p:=⟨b2,0,none⟩) n12 _,h.2.2.1.set_ 0 v2,h.2.2.2.far (p:=⟨b2,0,none⟩) n13 _⟩
theorem Three.set3 {b1 b2 b3:Nat} {v1 v2 v3:Value} {W w':World} (h:Three b1 b2 b3 v1 v2 v3 W w') (n12:b1 ≠ b3) (n13:b2 ≠ b3):Three b1 b2 b3 v1 v2 v3 W (w'.setCell ⟨b3,0,none⟩ v3) :=
 ⟨h.1.setCell (.inl (by simp)) _,h.2.1.far (p:=⟨b3,0,none⟩) n12 _,h.2.2.1.far (p:=⟨b3,0,none⟩) n13 _,h.2.2.2.set_ 0 v3⟩
theorem Three.cells {b1 b2 b3:Nat} {v1 v2 v3:Value} {W w':World} (h:Three b1 b2 b3 v1 v2 v3 W w'):(w'.cell? ⟨b1,0,none⟩ = some v1∧w'.cell? ⟨b2,0,none⟩ = some v2∧w'.cell? ⟨b3,0,none⟩ = some v3) ∧
  w'.frozen? ⟨b1,0,none⟩ = false∧w'.frozen? ⟨b2,0,none⟩ = false∧w'.frozen? ⟨b3,0,none⟩ = false :=
 ⟨⟨h.2.1.cell 0,h.2.2.1.cell 0,h.2.2.2.cell 0⟩,h.2.1.free 0,h.2.2.1.free 0,h.2.2.2.free 0⟩
theorem parse_c (s:ByteArray) (r:LexR) (w:World) (hT:MX w) (hr:LexOf s r):Calls Tryz.prog 15 #[.string s] w (ParPost s (parR r) w):=by
 have HR:=hid (fun (W:World) (hb:Bel w W) => lex_c s r W (hT.bel hb) hr)
 have hmf:∀ (fn:Fn) (first cap:Array Value) (w:World),(Instr.makeFunc fn first cap).run Tryz.prog w = .ok (.func fn first cap) w:=fun _ _ _ _ => rfl
 have HB0:Hid (∀ o1 o2 o3,Bel w (((w.alloc o1).alloc o2).alloc o3)):=hid (fun o1 o2 o3 => ((Bel.alloc _ _).trans (Bel.alloc _ _)).trans (Bel.alloc _ _))
 have HA1:=hid (((Blk.new w 38 [.slice none 0 0]).alloc (.cells #[.int .i64 0] 3)).alloc (.cells #[.int .i64 0] 24))
 have HA2:=hid ((Blk.new (w.alloc (.cells #[.slice none 0 0] 38)) 3 [.int .i64 0]).alloc (.cells #[.int .i64 0] 24))
 have HA3:=hid (Blk.new ((w.alloc (.cells #[.slice none 0 0] 38)).alloc (.cells #[.int .i64 0] 3)) 24 [.int .i64 0])
 simp only [World.size_alloc] at HA2 HA3
 cases r with
 | error bc =>
  obtain ⟨b,c⟩:=bc
  have hc0:=lex_code hr
  have hc1:((c:Int) != 0) = true:=bne_iff_ne.2 (by omega)
  have hc2:¬ (c:Int) = 0:=by omega
  clear hr hc0
  go_enter_defers Tryz.func15,Tryz.ntmps15
  go_wp2_with (go_at_call 26;((with_reducible refine (HR.out _ (HB0.out _ _ _)).mono ?_);rintro e w1 hp;obtain ⟨hb,rfl⟩:=lex_err hp;have HB1:=hid ((HB0.out _ _ _).trans hb);have HC1:=hid (HA1.out.bel hb);have HC2:=hid (HA2.out.bel hb);have HC3:=hid (HA3.out.bel hb);clear hp hb;have c2:=HC2.out.cell 0;have f2:=HC2.out.free 0;have c3:∀ x,(w1.setCell ⟨w.heap.size + 1,0,none⟩ x).cell? ⟨w.heap.size + 1 + 1,0,none⟩ = some (.int .i64 0):=(fun x => (HC3.out.far (p:=⟨w.heap.size + 1,0,none⟩) (by show ¬ w.heap.size + 1 + 1 = w.heap.size + 1;omega) x).cell 0);have f3:∀ x,(w1.setCell ⟨w.heap.size + 1,0,none⟩ x).frozen? ⟨w.heap.size + 1 + 1,0,none⟩ = false:=(fun x => (HC3.out.far (p:=⟨w.heap.size + 1,0,none⟩) (by show ¬ w.heap.size + 1 + 1 = w.heap.size + 1;omega) x).free 0);have k3:∀ x y,((w1.setCell ⟨w.heap.size + 1,0,none⟩ x).setCell ⟨w.heap.size + 1 + 1,0,none⟩ y).cell? ⟨w.heap.size + 1 + 1,0,none⟩ = some y:=(fun x y => ((HC3.out.far (p:=⟨w.heap.size + 1,0,none⟩) (by show ¬ w.heap.size + 1 + 1 = w.heap.size + 1;omega) x).set_ 0 y).cell 0);simp only [List.getElem?_cons_zero] at c2))
  have HK:Hid (Three w.heap.size (w.heap.size + 1) (w.heap.size + 1 + 1) (.slice none 0 0) (.int .i64 b) (.int .i64 c) ((w1.setCell ⟨w.heap.size + 1,0,none⟩ (.int .i64 b)).setCell ⟨w.heap.size + 1 + 1,0,none⟩ (.int .i64 c)).drew ((w1.setCell ⟨w.heap.size + 1,0,none⟩ (.int .i64 b)).setCell ⟨w.heap.size + 1 + 1,0,none⟩ (.int .i64 c)).drew) :=
   hid ⟨Only.refl _ _,((HC1.out.far (p:=⟨w.heap.size + 1,0,none⟩) (by show ¬ w.heap.size = w.heap.size + 1;omega) _).far (p:=⟨w.heap.size + 1 + 1,0,none⟩) (by show ¬ w.heap.size = w.heap.size + 1 + 1;omega) _).drew,((HC2.out.set_ 0 _).far (p:=⟨w.heap.size + 1 + 1,0,none⟩) (by show ¬ w.heap.size + 1 = w.heap.size + 1 + 1;omega) _).drew,((HC3.out.far (p:=⟨w.heap.size + 1,0,none⟩) (by show ¬ w.heap.size + 1 + 1 = w.heap.size + 1;omega) _).set_ 0 _).drew⟩
  have HB2:Hid (Bel w ((w1.setCell ⟨w.heap.size + 1,0,none⟩ (.int .i64 b)).setCell ⟨w.heap.size + 1 + 1,0,none⟩ (.int .i64 c)).drew):=hid (bel_of_only ((((bel_only HB1.out).setCell (p:=⟨w.heap.size + 1,0,none⟩) (.inr (by simp)) _).setCell (p:=⟨w.heap.size + 1 + 1,0,none⟩) (.inr (by simp;omega)) _).drew))
  clear c2 f2 c3 f3 k3 HC1 HC2 HC3
  refine held_begin (S:=Three w.heap.size (w.heap.size + 1) (w.heap.size + 1 + 1) (.slice none 0 0) (.int .i64 b) (.int .i64 c) ((w1.setCell ⟨w.heap.size + 1,0,none⟩ (.int .i64 b)).setCell ⟨w.heap.size + 1 + 1,0,none⟩ (.int .i64 c)).drew) (by kernel_rfl) ?_
  generalize ((w1.setCell ⟨w.heap.size + 1,0,none⟩ (.int .i64 b)).setCell ⟨w.heap.size + 1 + 1,0,none⟩ (.int .i64 c)).drew = W at HK HB2 ⊢
  obtain ⟨b2,hb2⟩:∃ b2,b2 = w.heap.size + 1:=⟨_,rfl⟩
  obtain ⟨b3,hb3⟩:∃ b3,b3 = w.heap.size + 1 + 1:=⟨_,rfl⟩
  obtain ⟨b1,hb1⟩:∃ b1,b1 = w.heap.size:=⟨_,rfl⟩
  rw [← hb3,← hb2,← hb1] at HK ⊢
  have n12:b1 ≠ b2:=by omega
  have n13:b1 ≠ b3:=by omega
  have n23:b2 ≠ b3:=by omega
  have HBS:Hid (w.heap.size≤b1∧w.heap.size≤b2∧w.heap.size≤b3):=hid (by omega)
  clear hb1 hb2 hb3
  have p2:∀ X:Held (Three b1 b2 b3 (.slice none 0 0) (.int .i64 b) (.int .i64 c) W),X.w.cell? ⟨b2,0,none⟩ = some (.int .i64 b):=fun X => X.h.cells.1.2.1
  have p3:∀ X:Held (Three b1 b2 b3 (.slice none 0 0) (.int .i64 b) (.int .i64 c) W),X.w.cell? ⟨b3,0,none⟩ = some (.int .i64 c):=fun X => X.h.cells.1.2.2
  haveI:Nonempty (Held (Three b1 b2 b3 (.slice none 0 0) (.int .i64 b) (.int .i64 c) W)):=⟨⟨W,HK.out⟩⟩
  refine held_seg [true,true] 3 (by kernel_rfl) (by kernel_rfl) (by kernel_rfl) rfl HK.out ?_
  repeat (first | with_reducible refine wpMask_pass ?_ | (refine wpMask_want (by rfl) (fun K hK => ?_);go_big_quiet_op;refine hK _ ?_;clear hK K))
  with_reducible refine wpMask_nil ?_
  clear p2 p3
  obtain ⟨⟨x1,x2,x3⟩,y1,y2,y3⟩:=HK.out.cells
  refine held_store (w1:=W.setCell ⟨b1,0,none⟩ (.slice none 0 0)) 2 (by kernel_rfl) rfl (by rfl) (by go_simp) (HK.out.set1 n12.symm n13.symm) ?_
  have HK2:=hid (HK.out.set1 n12.symm n13.symm)
  generalize W.setCell ⟨b1,0,none⟩ (.slice none 0 0) = W1 at HK2 ⊢
  clear x1 x2 x3 y1 y2 y3
  simp only [List.getElem_toArray,List.getElem_cons_zero,List.getElem_cons_succ,Act.put,List.setIfInBounds_toArray,List.set_cons_zero,List.set_cons_succ]
  obtain ⟨⟨x1,x2,x3⟩,y1,y2,y3⟩:=HK2.out.cells
  refine held_store (w1:=W1.setCell ⟨b2,0,none⟩ (.int .i64 b)) 3 (by kernel_rfl) rfl (by rfl) (by go_simp) (HK2.out.set2 n12 n23.symm) ?_
  have HK3:=hid (HK2.out.set2 n12 n23.symm)
  generalize W1.setCell ⟨b2,0,none⟩ (.int .i64 b) = W2 at HK3 ⊢
  clear x1 x2 x3 y1 y2 y3
  simp only [List.getElem_toArray,List.getElem_cons_zero,List.getElem_cons_succ,Act.put,List.setIfInBounds_toArray,List.set_cons_zero,List.set_cons_succ]
  obtain ⟨⟨x1,x2,x3⟩,y1,y2,y3⟩:=HK3.out.cells
  refine held_store (w1:=W2.setCell ⟨b3,0,none⟩ (.int .i64 c)) 4 (by kernel_rfl) rfl (by rfl) (by go_simp) (HK3.out.set3 n13 n23) ?_
  have HK4:=hid (HK3.out.set3 n13 n23)
  generalize W2.setCell ⟨b3,0,none⟩ (.int .i64 c) = W3 at HK4 ⊢
  clear x1 x2 x3 y1 y2 y3
  simp only [List.getElem_toArray,List.getElem_cons_zero,List.getElem_cons_succ,Act.put,List.setIfInBounds_toArray,List.set_cons_zero,List.set_cons_succ]
  refine region_end (by kernel_rfl) ?_
  simp only [calm]
  go_wp2_with fail
  refine ⟨_,doneP rfl rfl rfl rfl HK4.out.2.1 HK4.out.2.2.1 HK4.out.2.2.2,?_⟩
  exact ⟨bel_of_only ((bel_only HB2.out).join HK4.out.1 (fun k hk => by have:=HBS.out;simp at hk;omega)),rfl⟩
 | ok ts =>
  have hG:=tsOk_of hr
  have hn:=hG.1
  have HIL:=hid (fun (g:Nat) (L:Option Addr) (cL:Nat) (W:World) (hP:Pq W g L cL ts 0) => plist_all ts.length L cL ts 0 0 W hP hG (Nat.le_refl _) (by decide) (by decide))
  clear hr hG
  go_enter_defers Tryz.func15,Tryz.ntmps15
  go_wp2_with (go_at_call 26;((with_reducible refine (HR.out _ (HB0.out _ _ _)).mono ?_);rintro e w1 hp;obtain ⟨hb,L,cL,rfl,hrow,hfr⟩:=lex_ok hp;have HRW:=hid hrow;have HB1:=hid ((HB0.out _ _ _).trans hb);have HC1:=hid (HA1.out.bel hb);have HC2:=hid (HA2.out.bel hb);have HC3:=hid (HA3.out.bel hb);clear hp hb hrow;have c2:=HC2.out.cell 0;have f2:=HC2.out.free 0;have c3:∀ x,(w1.setCell ⟨w.heap.size + 1,0,none⟩ x).cell? ⟨w.heap.size + 1 + 1,0,none⟩ = some (.int .i64 0):=(fun x => (HC3.out.far (p:=⟨w.heap.size + 1,0,none⟩) (by show ¬ w.heap.size + 1 + 1 = w.heap.size + 1;omega) x).cell 0);have f3:∀ x,(w1.setCell ⟨w.heap.size + 1,0,none⟩ x).frozen? ⟨w.heap.size + 1 + 1,0,none⟩ = false:=(fun x => (HC3.out.far (p:=⟨w.heap.size + 1,0,none⟩) (by show ¬ w.heap.size + 1 + 1 = w.heap.size + 1;omega) x).free 0);have k3:∀ x y,((w1.setCell ⟨w.heap.size + 1,0,none⟩ x).setCell ⟨w.heap.size + 1 + 1,0,none⟩ y).cell? ⟨w.heap.size + 1 + 1,0,none⟩ = some y:=(fun x y => ((HC3.out.far (p:=⟨w.heap.size + 1,0,none⟩) (by show ¬ w.heap.size + 1 + 1 = w.heap.size + 1;omega) x).set_ 0 y).cell 0);simp only [List.getElem?_cons_zero] at c2))
  have HFR:Hid (∀ k,k ∈ rowT L→w.heap.size + 3≤k∧k < w1.heap.size):=hid (fun k hk => ⟨by have:=hfr k hk;simp at this;omega,HRW.out.lt k hk⟩)
  clear hfr c2 f2 c3 f3 k3
  have hs1:w.heap.size + 3≤w1.heap.size:=by have:=HC3.out.lt;omega
  obtain ⟨b2,hb2⟩:∃ b2,b2 = w.heap.size + 1:=⟨_,rfl⟩
  obtain ⟨b3,hb3⟩:∃ b3,b3 = w.heap.size + 1 + 1:=⟨_,rfl⟩
  obtain ⟨b1,hb1⟩:∃ b1,b1 = w.heap.size:=⟨_,rfl⟩
  rw [← hb3] at HC3
  rw [← hb2] at HC2
  rw [← hb1] at HC1
  rw [← hb3,← hb2,← hb1]
  have n12:b1 ≠ b2:=by omega
  have n13:b1 ≠ b3:=by omega
  have n23:b2 ≠ b3:=by omega
  have hbl:b1 < w1.heap.size∧b2 < w1.heap.size∧b3 < w1.heap.size:=by omega
  have HBS:Hid (w.heap.size≤b1∧w.heap.size≤b2∧w.heap.size≤b3):=hid (by omega)
  have HAF:Hid (∀ k,k ∈ rowT L→k ≠ b1∧k ≠ b2∧k ≠ b3∧k < w1.heap.size):=hid (fun k hk => by have:=HFR.out k hk;omega)
  clear hb1 hb2 hb3
  have HV1:=hid (((HC1.out.far (p:=⟨b2,0,none⟩) n12 (.int .i64 s.size)).far (p:=⟨b3,0,none⟩) n13 (.int .i64 0)).alloc (.cells #[.slice L ts.length cL,.int .i64 0] 61))
  have HV2:=hid (((HC2.out.set_ 0 (.int .i64 s.size)).far (p:=⟨b3,0,none⟩) n23 (.int .i64 0)).alloc (.cells #[.slice L ts.length cL,.int .i64 0] 61))
  have HV3:=hid (((HC3.out.far (p:=⟨b2,0,none⟩) n23.symm (.int .i64 s.size)).set_ 0 (.int .i64 0)).alloc (.cells #[.slice L ts.length cL,.int .i64 0] 61))
  have hov:Only [b2,b3] w1 (((w1.setCell ⟨b2,0,none⟩ (.int .i64 s.size)).setCell ⟨b3,0,none⟩ (.int .i64 0)).alloc (.cells #[.slice L ts.length cL,.int .i64 0] 61)):=(((Only.refl [b2,b3] w1).setCell (.inl (by simp)) _).setCell (.inl (by simp)) _).alloc _
  have HBV:=hid (bel_of_only ((bel_only HB1.out).join hov (fun k hk => by have:=HBS.out;simp at hk;omega)))
  have hP:Pq (((w1.setCell ⟨b2,0,none⟩ (.int .i64 s.size)).setCell ⟨b3,0,none⟩ (.int .i64 0)).alloc (.cells #[.slice L ts.length cL,.int .i64 0] 61)) w1.heap.size L cL ts 0:=by
   refine ⟨?_,HRW.out.only hov (fun k hk => by have:=HAF.out k hk;simp;omega),fun h => by have:=HAF.out _ h;omega⟩
   have h:=Blk.new ((w1.setCell ⟨b2,0,none⟩ (.int .i64 s.size)).setCell ⟨b3,0,none⟩ (.int .i64 0)) 61 [.slice L ts.length cL,.int .i64 0]
   rw [show ((w1.setCell ⟨b2,0,none⟩ (.int .i64 s.size)).setCell ⟨b3,0,none⟩ (.int .i64 0)).heap.size = w1.heap.size by simp [World.setCell]] at h
   exact h
  have hVs:(((w1.setCell ⟨b2,0,none⟩ (.int .i64 s.size)).setCell ⟨b3,0,none⟩ (.int .i64 0)).alloc (.cells #[.slice L ts.length cL,.int .i64 0] 61)).heap.size = w1.heap.size + 1:=by simp [World.setCell]
  refine (HIL.out _ L cL _ hP).mono ?_
  rintro e w2 ⟨hO,hp⟩
  have hgb:w.heap.size≤w1.heap.size:=by omega
  clear hov hP HC1 HC2 HC3
  generalize ((w1.setCell ⟨b2,0,none⟩ (.int .i64 s.size)).setCell ⟨b3,0,none⟩ (.int .i64 0)).alloc (.cells #[.slice L ts.length cL,.int .i64 0] 61) = V at *
  have H1:=hid (HV1.out.only hO (by simp;omega))
  have H2:=hid (HV2.out.only hO (by simp;omega))
  have H3:=hid (HV3.out.only hO (by simp;omega))
  have HB2:=hid (bel_on1 HBV.out hO hgb)
  have hs2:w1.heap.size + 1≤w2.heap.size:=by have:=hO.size;omega
  simp only [List.set_cons_zero] at H2 H3
  clear hO HV1 HV2 HV3
  cases hpp:P ts 2 false 0 0 with
  | error ak =>
   obtain ⟨a,k⟩:=ak
   rw [hpp] at hp
   dsimp only at hp
   subst hp
   have HPP:=hid hpp
   clear hpp
   go_wp2_with fail
   refine leaves_cons (f:=27) (args:=#[.pointer (some ⟨b1,0,none⟩),.pointer (some ⟨b2,0,none⟩),.pointer (some ⟨b3,0,none⟩)]) (by simp) (by simp [go_sem]) ?_
   refine (catch_c b1 b2 b3 a k _ _ _ [] _ H1.out H2.out H3.out n12 n13 n23).mono ?_
   rintro e u' w9 ⟨rfl,rfl,hO9,j1,j2,j3⟩
   show Leaves _ _ _ _ [] .returning _
   refine ⟨_,doneP rfl rfl rfl rfl j1 j2 j3,?_⟩
   rw [parR_fault HPP.out]
   exact ⟨bel_of_only ((bel_only HB2.out).join hO9 (fun k hk => by have:=HBS.out;simp at hk;omega)),rfl⟩
  | ok x =>
   obtain ⟨l,rr,c'⟩:=x
   rw [hpp] at hp
   obtain ⟨B,cB,m,hers,hrow,rfl,⟨A',cA',hPs,hA'⟩,_⟩:=hp
   have HPP:=hid hpp
   have HE:=hid hers
   have HW:=hid hrow
   have HPS:=hid (hPs.only (w':=w2.setCell ⟨b1,0,none⟩ (.slice B m.length cB)) (S:=[b1]) ((Only.refl [b1] w2).setCell (.inl (by simp)) _) (by simp;omega) (fun k hk => by rw [hA'] at hk;have:=HAF.out k hk;simp;omega))
   have K1:=hid (H1.out.set_ 0 (.slice B m.length cB))
   have K2:=hid (H2.out.far (p:=⟨b1,0,none⟩) n12.symm (.slice B m.length cB))
   have K3:=hid (H3.out.far (p:=⟨b1,0,none⟩) n13.symm (.slice B m.length cB))
   have HB3:=hid (bel_of_only ((bel_only HB2.out).setCell (p:=⟨b1,0,none⟩) (.inr (by have:=HBS.out;simp;omega)) (.slice B m.length cB)))
   have x1:=H1.out.cell 0
   have y1:=H1.out.free 0
   simp only [List.getElem?_cons_zero] at x1
   simp only [List.set_cons_zero] at K1
   have q0:=HPS.out.cells.1
   clear hpp hers hrow hPs
   cases rr with
   | nil =>
    simp only [List.length_nil] at q0
    have z1:∀ x,(w2.setCell ⟨b1,0,none⟩ x).cell? ⟨b1,0,none⟩ = some x∧(w2.setCell ⟨b1,0,none⟩ x).frozen? ⟨b1,0,none⟩ = false:=fun x => ⟨(H1.out.set_ 0 x).cell 0,(H1.out.set_ 0 x).free 0⟩
    have z2:∀ x,(w2.setCell ⟨b1,0,none⟩ x).cell? ⟨b2,0,none⟩ = some (.int .i64 s.size)∧(w2.setCell ⟨b1,0,none⟩ x).frozen? ⟨b2,0,none⟩ = false:=fun x => ⟨(H2.out.far (p:=⟨b1,0,none⟩) n12.symm x).cell 0,(H2.out.far (p:=⟨b1,0,none⟩) n12.symm x).free 0⟩
    have z3:∀ x y,((w2.setCell ⟨b1,0,none⟩ x).setCell ⟨b1,0,none⟩ y).cell? ⟨b2,0,none⟩ = some (.int .i64 s.size)∧((w2.setCell ⟨b1,0,none⟩ x).setCell ⟨b1,0,none⟩ y).frozen? ⟨b2,0,none⟩ = false:=fun x y => ⟨((H2.out.far (p:=⟨b1,0,none⟩) n12.symm x).far (p:=⟨b1,0,none⟩) n12.symm y).cell 0,((H2.out.far (p:=⟨b1,0,none⟩) n12.symm x).far (p:=⟨b1,0,none⟩) n12.symm y).free 0⟩
    have z4:∀ x z,((w2.setCell ⟨b1,0,none⟩ x).setCell ⟨b2,0,none⟩ z).cell? ⟨b3,0,none⟩ = some (.int .i64 0)∧((w2.setCell ⟨b1,0,none⟩ x).setCell ⟨b2,0,none⟩ z).frozen? ⟨b3,0,none⟩ = false:=fun x z => ⟨((H3.out.far (p:=⟨b1,0,none⟩) n13.symm x).far (p:=⟨b2,0,none⟩) n23.symm z).cell 0,((H3.out.far (p:=⟨b1,0,none⟩) n13.symm x).far (p:=⟨b2,0,none⟩) n23.symm z).free 0⟩
    have z5:∀ x y z,(((w2.setCell ⟨b1,0,none⟩ x).setCell ⟨b1,0,none⟩ y).setCell ⟨b2,0,none⟩ z).cell? ⟨b3,0,none⟩ = some (.int .i64 0)∧(((w2.setCell ⟨b1,0,none⟩ x).setCell ⟨b1,0,none⟩ y).setCell ⟨b2,0,none⟩ z).frozen? ⟨b3,0,none⟩ = false:=fun x y z => ⟨(((H3.out.far (p:=⟨b1,0,none⟩) n13.symm x).far (p:=⟨b1,0,none⟩) n13.symm y).far (p:=⟨b2,0,none⟩) n23.symm z).cell 0,(((H3.out.far (p:=⟨b1,0,none⟩) n13.symm x).far (p:=⟨b1,0,none⟩) n13.symm y).far (p:=⟨b2,0,none⟩) n23.symm z).free 0⟩
    go_wp2_with fail
    have J1:Blk ((((w2.setCell ⟨b1,0,none⟩ (.slice B m.length cB)).setCell ⟨b1,0,none⟩ (.slice B m.length cB)).setCell ⟨b2,0,none⟩ (.int .i64 s.size)).setCell ⟨b3,0,none⟩ (.int .i64 0)) b1 38 [.slice B m.length cB]:=((K1.out.set_ 0 (.slice B m.length cB)).far (p:=⟨b2,0,none⟩) n12 _).far (p:=⟨b3,0,none⟩) n13 _
    have J2:Blk ((((w2.setCell ⟨b1,0,none⟩ (.slice B m.length cB)).setCell ⟨b1,0,none⟩ (.slice B m.length cB)).setCell ⟨b2,0,none⟩ (.int .i64 s.size)).setCell ⟨b3,0,none⟩ (.int .i64 0)) b2 3 [.int .i64 s.size]:=((K2.out.far (p:=⟨b1,0,none⟩) n12.symm _).set_ 0 (.int .i64 s.size)).far (p:=⟨b3,0,none⟩) n23 _
    have J3:Blk ((((w2.setCell ⟨b1,0,none⟩ (.slice B m.length cB)).setCell ⟨b1,0,none⟩ (.slice B m.length cB)).setCell ⟨b2,0,none⟩ (.int .i64 s.size)).setCell ⟨b3,0,none⟩ (.int .i64 0)) b3 24 [.int .i64 0]:=((K3.out.far (p:=⟨b1,0,none⟩) n13.symm _).far (p:=⟨b2,0,none⟩) n23.symm _).set_ 0 (.int .i64 0)
    have hJO:Only [b1,b2,b3] w2 ((((w2.setCell ⟨b1,0,none⟩ (.slice B m.length cB)).setCell ⟨b1,0,none⟩ (.slice B m.length cB)).setCell ⟨b2,0,none⟩ (.int .i64 s.size)).setCell ⟨b3,0,none⟩ (.int .i64 0)):=((((Only.refl [b1,b2,b3] w2).setCell (.inl (by simp)) _).setCell (.inl (by simp)) _).setCell (.inl (by simp)) _).setCell (.inl (by simp)) _
    clear x1 y1 q0 z1 z2 z3 z4 z5
    generalize ((((w2.setCell ⟨b1,0,none⟩ (.slice B m.length cB)).setCell ⟨b1,0,none⟩ (.slice B m.length cB)).setCell ⟨b2,0,none⟩ (.int .i64 s.size)).setCell ⟨b3,0,none⟩ (.int .i64 0)) = w5 at J1 J2 J3 hJO ⊢
    have HB5:=hid (bel_of_only ((bel_only HB2.out).join hJO (fun k hk => by have:=HBS.out;simp at hk;omega)))
    have hR5:Row w5 (fun q => V.heap.size≤q∧q < w2.heap.size) B cB m:=HW.out.onlyS hJO (fun q hq => ⟨by have:=hq.1;simp;omega,hq.2⟩) (fun q hq => hq)
    have hs5:=hJO.size
    refine leaves_cons (f:=27) (args:=#[.pointer (some ⟨b1,0,none⟩),.pointer (some ⟨b2,0,none⟩),.pointer (some ⟨b3,0,none⟩)]) (by simp) (by simp [go_sem]) ?_
    refine (catch_idle b1 b2 b3 _).mono ?_
    rintro e u' w9 ⟨rfl,rfl,hb9⟩
    show Leaves _ _ _ _ [] .returning _
    refine ⟨_,doneP rfl rfl rfl rfl (J1.bel hb9) (J2.bel hb9) (J3.bel hb9),?_⟩
    rw [parR_fin HPP.out]
    have hs9:=hb9.size
    exact ⟨HB5.out.trans hb9,B,cB,m,HE.out,hR5.onlyS (bel_only hb9) (fun q hq => ⟨by simp,by have:=hq.2;omega⟩) (fun q hq => ⟨by have:=hq.1;omega,by have:=hq.2;omega⟩),rfl⟩
   | cons u r2 =>
    obtain ⟨g1,o1,hA2,hg1,c0,c1,c2,c3,c4⟩:=HPS.out.tok
    subst hA2
    simp only [List.length_cons] at q0
    have hlen1:(0:Int) < (r2.length:Int) + 1:=by omega
    go_wp2_with fail
    refine leaves_cons (f:=27) (args:=#[.pointer (some ⟨b1,0,none⟩),.pointer (some ⟨b2,0,none⟩),.pointer (some ⟨b3,0,none⟩)]) (by simp) (by simp [go_sem]) ?_
    refine (catch_c b1 b2 b3 u.a 13 _ _ _ [] _ K1.out K2.out K3.out n12 n13 n23).mono ?_
    rintro e u' w9 ⟨rfl,rfl,hO9,j1,j2,j3⟩
    show Leaves _ _ _ _ [] .returning _
    refine ⟨_,doneP rfl rfl rfl rfl j1 j2 j3,?_⟩
    rw [parR_rest HPP.out]
    exact ⟨bel_of_only ((bel_only HB3.out).join hO9 (fun k hk => by have:=HBS.out;simp at hk;omega)),rfl⟩
end
section
open Go.RowKit Go.BigFrame NT
theorem par17 {s:ByteArray} {r:LexR} (hs:s.size≤5000) (hlo:LexOf s r):(∀ a k,parR r = .error (a,k)→k ≠ 0)∧∀ l,parR r = .ok l→Parsed l:=by
 refine ⟨fun a k hp => ?_,fun l hp => ?_⟩
 ·unfold parR at hp
  cases r with
  | error bc =>
   obtain ⟨b,c⟩:=bc
   dsimp only at hp
   injection hp with hp
   injection hp with h1 h2
   subst h2
   exact lex_code hlo
  | ok ts =>
   dsimp only at hp
   cases hq:P ts 0 false 0 0 with
   | error e => rw [hq] at hp;injection hp with hp;subst hp;exact P_code hq
   | ok x => rw [hq] at hp;cases hp
 ·unfold parR at hp
  cases r with
  | error bc => cases hp
  | ok ts =>
   dsimp only at hp
   cases hq:P ts 0 false 0 0 with
   | error e => rw [hq] at hp;cases hp
   | ok x =>
    obtain ⟨l',r',c'⟩:=x
    rw [hq] at hp
    injection hp with hp
    subst hp
    obtain rfl:=P_top_rest hq
    unfold LexOf at hlo
    rw [if_neg (by omega)] at hlo
    exact ⟨toL s,ts,c',by rw [toL_len];exact hs,hlo,hq⟩
def cmpR (r:ParR):List IN × Int × Nat:=match r with
 | .error (a,k) => ([],(a:Nat),k)
 | .ok l => codeN l
theorem row_lt17 {w w':World} {A:Option Addr} {c:Nat} {l:List NT} (h:Row w' (Fr w w') A c l):Row w' (Lt w') A c l:=h.same (fun _ hb => hb.2) (fun _ _ _ => rfl)
theorem ParPost.row17 {s:ByteArray} {l:List NT} {w:World} {e:Ending} {w':World} (h:ParPost s (.ok l) w e w') (hl:Parsed l):Bel w w'∧∃ A c m,ers m = l∧Row w' (Lt w') A c m∧e = .returned (.tuple #[.slice A m.length c,.int .i64 s.size,.int .i64 0])∧tots m≤5000∧∀ x,x ∈ m→Wk false x:=by
 obtain ⟨hb,A,c,m,h1,h2,h3⟩:=h
 exact ⟨hb,A,c,m,h1,row_lt17 h2,h3,by have:=hl.tots;rwa [← h1,tots_ers] at this,wk_ers hl.wk h1⟩
theorem CdP.bel17 {r:List IN × Int × Nat} {w0 w:World} {e:Ending} {w':World} (hb:Bel w0 w) (h:CdP r w e w'):CdP r w0 e w':=by
 obtain ⟨h1,A,c,h2,h3⟩:=h
 exact ⟨hb.trans h1,A,c,h2,hid ⟨h3.out.1,fun k hk => Nat.le_trans hb.size (h3.out.2 k hk)⟩⟩
theorem pcompile_c (s:ByteArray) (hs:s.size≤5000) {r:LexR} (hr:LexOf s r) (w:World) (hM:MX w):Calls Tryz.prog 10 #[.string s] w (CdP (cmpR (parR r)) w):=by
 have HP:=hid (parse_c s r w hM hr)
 obtain ⟨he,hk⟩:=par17 hs hr
 cases hq:parR r with
 | error ak =>
  obtain ⟨a,k⟩:=ak
  have hk0:=he a k hq
  rw [hq] at HP
  have hk1:((k:Int) != 0) = true:=bne_iff_ne.2 (by omega)
  clear hr hM he hk hq hk0
  go_enter Tryz.func10,Tryz.ntmps10
  go_wp2_with (go_at_call 15;((with_reducible refine HP.out.mono ?_);rintro e w1 ⟨hb,rfl⟩;have HB1:=hid hb;clear hb))
  go_ret3
  exact CdP.nil rfl HB1.out
 | ok l =>
  have HL:=hid (hk l hq)
  rw [hq] at HP
  have HC:=hid (show cmpR (.ok l) = codeN l from rfl)
  rw [HC.out]
  clear hr hM he hk hq
  go_enter Tryz.func10,Tryz.ntmps10
  go_wp2_with (first
   | (go_at_call 15;((with_reducible refine HP.out.mono ?_);rintro e w1 hp;obtain ⟨hb,A1,c1,m,he,hrow,rfl,ht,hw⟩:=hp.row17 HL.out;have HB1:=hid hb;have HPC:=hid (pcodeA_c hrow ht hw);unfold PcC at HPC;rw [← codeN_ers,he] at HPC;clear hp hb hrow he ht hw))
   | (go_at_call 21;((with_reducible refine HPC.out.mono ?_);rintro e w2 hc;have HC2:=hid (CdP.bel17 HB1.out hc);obtain ⟨_,A2,c2,rfl,_⟩:=hc)))
  go_ret3
  exact HC2.out
def azS:ByteArray:=⟨#[97,123,123,105,102,32,46,116,125,125,98,123,123,101,110,100,125,125]⟩
def azT:List Tok:=[⟨0,0,[97],[],false⟩,⟨2,1,[],[116],true⟩,⟨0,10,[98],[],false⟩,⟨8,11,[],[],false⟩]
def azN:List NT:=[nd ⟨0,0,[97],[],false⟩ false [] [],nd ⟨2,1,[],[116],true⟩ false [nd ⟨0,10,[98],[],false⟩ false [] []] []]
def dirZ:List UInt8:=[123,123,105,102,32,46,116,125,125]
theorem az_lex:LexOf azS (.ok azT):=by
 unfold LexOf
 rw [if_neg (by decide)]
 exact lx_txt16 (s:=[97]) (k:=0) rfl (by decide +kernel) rfl <|
  (show DirOf dirZ ⟨2,0,[],[116],true⟩ from dirB_of (by decide +kernel)).lx <|
  lx_txt16 (s:=[98]) (k:=0) rfl (by decide +kernel) rfl <|
  end_dir.lx <| Lx.nil _
theorem az_par:parR (.ok azT) = .ok azN:=rfl
theorem az_infer:inferI azN = ([],0,0):=by
 have h1:listI (s0 0) [nd ⟨0,10,[98],[],false⟩ false [] []] = .ok (s0 0) []:=by
  rw [listI_cons,nodeI_text (t:=s0 0) rfl ((eqH_iff _ _).1 (by decide +kernel)),IR.next_ok,listI_nil]
  rfl
 have h:listI (s0 0) azN = .ok (s0 0) []:=by
  unfold azN
  rw [listI_cons,nodeI_text (t:=s0 0) rfl ((eqH_iff _ _).1 (by decide +kernel)),IR.next_ok,listI_cons,nodeI_eq,if_neg (by decide),if_neg (by decide),if_pos (by decide)]
  show IR.next (IR.next (IR.next (listI (s0 0) [nd ⟨0,10,[98],[],false⟩ false [] []]) _) _) _ = _
  rw [h1,IR.next_ok]
  show IR.next (IR.next (IR.next (listI (s0 0) []) _) _) _ = _
  rw [listI_nil,IR.next_ok,if_pos (eqH_self _),IR.next_ok,listI_nil,IR.next_ok]
  rfl
 unfold inferI
 rw [h]
 rfl
def azC:List IN:=[⟨0,⟨#[97]⟩,eB,false,0,0⟩,⟨2,eB,⟨#[116]⟩,false,0,3⟩,⟨0,⟨#[98]⟩,eB,false,0,0⟩,⟨9,eB,eB,false,0,0⟩]
theorem az_code:codeN azN = (azC,0,0):=by
 have hc:checkN azN = (0,0):=rfl
 unfold codeN
 rw [hc,az_infer]
 rfl
theorem az_cmp:cmpR (parR (.ok azT)) = (azC,0,0):=by rw [az_par];exact az_code
theorem az_xr (w:World):Xr (w.alloc (.cells #[.int .i64 0,.string ⟨#[97]⟩,.string ⟨#[]⟩,.bool false,.int .i64 0,.int .i64 0,.int .i64 2,.string ⟨#[]⟩,.string ⟨#[116]⟩,.bool false,.int .i64 0,.int .i64 3,.int .i64 0,.string ⟨#[98]⟩,.string ⟨#[]⟩,.bool false,.int .i64 0,.int .i64 0,.int .i64 9,.string ⟨#[]⟩,.string ⟨#[]⟩,.bool false,.int .i64 0,.int .i64 0] 31)) (some ⟨w.heap.size,0,none⟩) 4 (azC.map IN.x) :=
 Xr.of_krow (KRow.of_blk (l:=azC) (f:=IN.cs) (z:=6) (Blk.new w 31 (flat IN.cs azC)) IN.cs_len (by show 4≤maxLen;decide))
theorem alive_c (w:World) (hM:MX w):Calls Tryz.prog 9 #[] w fun e w' => e = .returned (.bool true)∧Bel w w':=by
 have HC:=hid (pcompile_c azS (by decide) az_lex w hM)
 rw [az_cmp] at HC
 unfold azS at HC
 clear hM
 go_enter Tryz.func9,Tryz.ntmps9
 go_wp2_with (first
  | (go_at_call 10;((with_reducible refine (HC.out).mono ?_);rintro e w1 ⟨hb,A,c,he,hI⟩;replace he:e = .returned (.tuple #[.slice A 4 c,.int .i64 0,.int .i64 0]):=he;subst he;have HB1:=hid (hb.trans (Bel.alloc w1 (.cells #[.int .i64 0,.string ⟨#[97]⟩,.string ⟨#[]⟩,.bool false,.int .i64 0,.int .i64 0,.int .i64 2,.string ⟨#[]⟩,.string ⟨#[116]⟩,.bool false,.int .i64 0,.int .i64 3,.int .i64 0,.string ⟨#[98]⟩,.string ⟨#[]⟩,.bool false,.int .i64 0,.int .i64 0,.int .i64 9,.string ⟨#[]⟩,.string ⟨#[]⟩,.bool false,.int .i64 0,.int .i64 0] 31)));have HEQ:=hid (insEqual_n (n:=4) (k:=4) ((Xr.of_krow hI.out.1).bel (Bel.alloc w1 (.cells #[.int .i64 0,.string ⟨#[97]⟩,.string ⟨#[]⟩,.bool false,.int .i64 0,.int .i64 0,.int .i64 2,.string ⟨#[]⟩,.string ⟨#[116]⟩,.bool false,.int .i64 0,.int .i64 3,.int .i64 0,.string ⟨#[98]⟩,.string ⟨#[]⟩,.bool false,.int .i64 0,.int .i64 0,.int .i64 9,.string ⟨#[]⟩,.string ⟨#[]⟩,.bool false,.int .i64 0,.int .i64 0] 31))) (az_xr w1) rfl rfl (by decide) (by decide));rw [decide_eq_true rfl] at HEQ;clear hb hI))
  | (go_at_call 12;((with_reducible refine (HEQ.out).mono ?_);rintro e w2 ⟨rfl,hb⟩;have HB2:=hid (HB1.out.trans hb);clear hb)))
 go_ret
 exact ⟨rfl,HB2.out⟩
end
end Go.Proofs.YtpcapmdfjmpdiaaGreatDoor
