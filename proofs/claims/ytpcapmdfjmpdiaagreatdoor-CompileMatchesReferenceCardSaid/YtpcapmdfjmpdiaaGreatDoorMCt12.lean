/- Contract: directive -/
import Derived.Test.YtpcapmdfjmpdiaaGreatDoorMPz13
import Derived.Test.YtpcapmdfjmpdiaaGreatDoorMKRow
import Derived.OrdersHeld
import Derived.RegionTactic
import Derived.Deep.Quiet
import Derived.BigQuiet
import Derived.Test.YtpcapmdfjmpdiaaGreatDoorMHp15
set_option linter.unusedVariables false
set_option linter.unusedSimpArgs false
set_option maxRecDepth 100000
set_option maxHeartbeats 3200000
open Go.Lib (hid)
namespace Go.Proofs.YtpcapmdfjmpdiaaGreatDoor
section
open Go.RowKit Go.BigFrame Go.Maps Go.WideMaps
def Tok.cs (t:Tok):List Value:=[.int .i64 t.k,.int .i64 t.a,.string (ofL t.s),.string (ofL t.p),.bool t.h]
theorem tok_len (t:Tok):t.cs.length = 5:=rfl
theorem tok_one (t:Tok) (u:Value) (h:u ∈ t.cs):u.oneCell' = true:=by
 simp only [Tok.cs,List.mem_cons,List.not_mem_nil,or_false] at h
 rcases h with rfl | rfl | rfl | rfl | rfl <;> rfl
theorem calls_closure:∀ args w,(callFunc 78 args).run Tryz.prog w = .ok (.enter 78 args) w:=by
 exact enters_of Tryz.func78 (by kernel_rfl) rfl
theorem fields_c (s:ByteArray) (w:World) (hs:s.size≤70000) :
  Calls Tryz.prog 77 #[.string s,.func (.func 78) #[] #[]] w fun e w' => ∃ A c,e = .returned (.slice A (wordsB s).length c)∧Strs w' A (wordsB s)∧Bel w w':=by
 have hp:PredAtRunes Tryz.prog 78 #[] isSp w:=by
  intro W x hx hb
  unfold FnGives
  refine (closure_c W x hx).mono ?_
  rintro e w' ⟨rfl,rfl⟩
  exact ⟨rfl,0,rfl⟩
 refine (Any.strings_FieldsFunc_runes Tryz.laysFF 78 #[] calls_closure isSp s w (by omega) hp (by kernel_rfl) (by kernel_rfl)).mono ?_
 rintro e w' ⟨A,rfl,hA,hown,hb⟩
 rw [fields_words] at hown ⊢
 refine ⟨_,_,rfl,?_,hb⟩
 obtain ⟨A',c',e1,hR,hk⟩:=rowK_of_own hown
 simp only [Value.slice.injEq] at e1
 obtain ⟨rfl,_,rfl⟩:=e1
 by_cases h0:wordsB s = []
 ·exact .inl h0
 ·have hl:0 < (wordsB s).length:=List.length_pos_iff.2 h0
  obtain ⟨g,o,e2,hg,hc⟩:=RowK.addr hR hl
  injection e2 with e2
  injection e2 with e3 e4
  subst e3 e4
  refine .inr ⟨_,_,rfl,hg,fun i hi => hc i _ ?_⟩
  rw [List.getElem?_map,List.getElem?_eq_getElem hi,List.getD_eq_getElem?_getD,List.getElem?_eq_getElem hi]
  rfl
theorem wordsB_wd {s x:ByteArray} (h:x ∈ wordsB s):Wd (toL x)∧x.size≤s.size:=by
 unfold wordsB at h
 obtain ⟨y,hy,rfl⟩:=List.mem_map.1 h
 refine ⟨words_wd hy,?_⟩
 have h1:=words_len (toL s)
 rw [toL_len] at h1
 have h2:y.length≤(jn (words (toL s))).length:=by
  revert hy
  generalize words (toL s) = ws
  intro hy
  clear h1
  induction ws with
  | nil => cases hy
  | cons w ws ihw =>
   rw [jn_cons_len]
   rcases List.mem_cons.1 hy with h6 | h6
   ·subst h6;omega
   ·have:=ihw h6
    rw [if_neg (by intro h7;subst h7;cases h6)];omega
 have e:(ofL y).size = y.length:=rfl
 omega
theorem wordsB_len (s:ByteArray):(wordsB s).length≤s.size:=by
 unfold wordsB
 rw [List.length_map]
 have h1:=words_len (toL s)
 rw [toL_len] at h1
 have h2:∀ ws:List (List UInt8),(∀ w ∈ ws,Wd w)→ws.length≤(jn ws).length:=by
  intro ws
  induction ws with
  | nil => simp
  | cons w ws ih =>
   intro h
   have h3:=ih fun x hx => h x (by simp [hx])
   have h4:=List.length_pos_iff.2 (h w (by simp)).1
   rw [jn_cons_len,List.length_cons]
   split
   ·rename_i h5;subst h5;simp;omega
   ·omega
 have:=h2 _ (fun w hw => words_wd hw:∀ w ∈ words (toL s),Wd w)
 omega
theorem toL_wordsB (s:ByteArray):(wordsB s).map toL = words (toL s):=by
 unfold wordsB
 rw [List.map_map]
 have:toL ∘ ofL = id:=rfl
 rw [this,List.map_id]
def DirPost (s:ByteArray) (w:World) (e:Ending) (w':World):Prop :=
 Bel w w'∧match dirOf (words (toL s)) with
  | .ok t => e = .returned (.tuple #[.agg #[.int .i64 t.k,.int .i64 0,.string (ofL t.s),.string (ofL t.p),.bool t.h],.int .i64 0])
  | .error c => e = .returned (.tuple #[.agg #[.int .i64 0,.int .i64 0,.string ByteArray.empty,.string ByteArray.empty,.bool false],.int .i64 c])∧(c = 5 ∨ c = 11)
theorem done5 {f:Func} (hf:f.results = #[.cell 4 64,.tmp 5]) {tmps:Array Value} {g:Nat} {x:Value} {v0 v1 v2 v3 v4:Value} {W:World} (hp:tmps.getD 4 undef = .pointer (some ⟨g,0,none⟩)) (h5:tmps.getD 5 undef = x)
  (h1:v0.oneCell' = true∧v1.oneCell' = true∧v2.oneCell' = true∧v3.oneCell' = true∧v4.oneCell' = true)
  (hB:Blk W g 64 [v0,v1,v2,v3,v4]):(results f tmps).run Tryz.prog W = .ok (.tuple #[.agg #[v0,v1,v2,v3,v4],x]) W:=by
 have hp':tmps[4]?.getD undef = .pointer (some ⟨g,0,none⟩):=by simpa using hp
 have h5':tmps[5]?.getD undef = x:=by simpa using h5
 have hl:=run_loadVar_row W g 64 #[v0,v1,v2,v3,v4] (0,0) _ (P:=Tryz.prog) (ty:=64) hB Tryz.underlying64 rfl (by kernel_rfl)
 simp [results,hf,hp',h5',asAddr,hl]
theorem set5 {w:World} {g:Nat} {T:TypeId} {a0 a1 a2 a3 a4:Value} (h:Blk w g T [a0,a1,a2,a3,a4]) (v0 v1 v2 v3 v4:Value) :
  Blk (((((w.setCell ⟨g,0,none⟩ v0).setCell ⟨g,1,none⟩ v1).setCell ⟨g,2,none⟩ v2).setCell ⟨g,3,none⟩ v3).setCell ⟨g,4,none⟩ v4) g T [v0,v1,v2,v3,v4] :=
 ((((h.set_ 0 v0).set_ 1 v1).set_ 2 v2).set_ 3 v3).set_ 4 v4
theorem only5 (w:World) (g:Nat) (v0 v1 v2 v3 v4:Value) :
  Only [g] w (((((w.setCell ⟨g,0,none⟩ v0).setCell ⟨g,1,none⟩ v1).setCell ⟨g,2,none⟩ v2).setCell ⟨g,3,none⟩ v3).setCell ⟨g,4,none⟩ v4) :=
 (((((Only.refl [g] w).setCell (.inl (by simp)) _).setCell (.inl (by simp)) _).setCell (.inl (by simp)) _).setCell (.inl (by simp)) _).setCell (.inl (by simp)) _
theorem cells5 {w:World} {g:Nat} {T:TypeId} {a0 a1 a2 a3 a4:Value} (h:Blk w g T [a0,a1,a2,a3,a4]) :
  w.cell? ⟨g,0,none⟩ = some a0∧w.cell? ⟨g,1,none⟩ = some a1∧w.cell? ⟨g,2,none⟩ = some a2∧w.cell? ⟨g,3,none⟩ = some a3∧w.cell? ⟨g,4,none⟩ = some a4:=⟨h.cell 0,h.cell 1,h.cell 2,h.cell 3,h.cell 4⟩
theorem frees5 {w:World} {g:Nat} {T:TypeId} {L:List Value} (h:Blk w g T L) :
  w.frozen? ⟨g,0,none⟩ = false∧w.frozen? ⟨g,1,none⟩ = false∧w.frozen? ⟨g,2,none⟩ = false∧w.frozen? ⟨g,3,none⟩ = false∧w.frozen? ⟨g,4,none⟩ = false:=⟨h.free 0,h.free 1,h.free 2,h.free 3,h.free 4⟩
theorem one5 (k a:Int) (s p:ByteArray) (h:Bool):(Value.int .i64 k).oneCell' = true∧(Value.int .i64 a).oneCell' = true∧(Value.string s).oneCell' = true∧(Value.string p).oneCell' = true∧(Value.bool h).oneCell' = true:=⟨rfl,rfl,rfl,rfl,rfl⟩
theorem tail_extract (x:ByteArray):ofL (toL x).tail = x.extract 1 x.size:=by
 apply toL_inj
 rw [toL_ofL,toL_extract,List.take_of_length_le (Nat.le_of_eq (toL_len x)),List.drop_one]
theorem tail_path (x:ByteArray):pathL (toL x).tail = (pathOf (x.extract 1 x.size)).isSome:=by
 rw [pathOf_isSome,← tail_extract,toL_ofL]
theorem drop_word {ws:List ByteArray} {k:Nat} (hk:k < ws.length):(ws.map toL).drop k = toL (ws.getD k ByteArray.empty) :: (ws.map toL).drop (k + 1):=by
 have h1:k < (ws.map toL).length:=by rw [List.length_map];exact hk
 rw [List.drop_eq_getElem_cons h1]
 congr 1
 rw [List.getElem_map,List.getD_eq_getElem?_getD,List.getElem?_eq_getElem hk]
 rfl
theorem directive_c (s:ByteArray) (M:Nat) (w:World) (hT:MX w) (hs:s.size≤66000) (hM:SMap w M 9 kindF):Calls Tryz.prog 54 #[.string s,.map (some M)] w (DirPost s w):=by
 have hbase:=wordsB_len s
 have HWD:=hid (fun x (h:x ∈ wordsB s) => wordsB_wd h)
 have HFF:=hid (fields_c s (w.alloc (.cells #[.int .i64 0,.int .i64 0,.string ByteArray.empty,.string ByteArray.empty,.bool false] 64)) (by omega))
 have HFO:=hid (fun (W:World) A c (h:Strs W A (wordsB s)) => formOf_c A c (wordsB s) W h (fun x hx => ⟨(wordsB_wd hx).1,by have:=(wordsB_wd hx).2;omega⟩) (by omega))
 have HB0:=hid (show Bel w (w.alloc (.cells #[.int .i64 0,.int .i64 0,.string ByteArray.empty,.string ByteArray.empty,.bool false] 64)) from Bel.alloc _ _)
 have HZ0:=hid (show Blk (w.alloc (.cells #[.int .i64 0,.int .i64 0,.string ByteArray.empty,.string ByteArray.empty,.bool false] 64)) w.heap.size 64 [.int .i64 0,.int .i64 0,.string ByteArray.empty,.string ByteArray.empty,.bool false] from Blk.new w 64 [.int .i64 0,.int .i64 0,.string ByteArray.empty,.string ByteArray.empty,.bool false])
 have HLT0:Hid (w.heap.size < (w.alloc (.cells #[.int .i64 0,.int .i64 0,.string ByteArray.empty,.string ByteArray.empty,.bool false] 64)).heap.size):=hid (by simp)
 have HK:Hid (kindF (ofL (jn (formL ((wordsB s).map toL)))) = ((formW (words (toL s))).map (·.1)).map fun n:Nat => .int .i64 (n:Int)):=hid (by
  rw [toL_wordsB]
  unfold kindF
  rw [kindN_jn (formL_wd fun w hw => words_wd hw),form_map])
 have hks:(ofL (jn (formL ((wordsB s).map toL)))).size≤maxLen:=by
  have h1:=jn_le (formL_le (ws:=(wordsB s).map toL) (B:=70000) (fun x hx => by obtain ⟨y,hy,rfl⟩:=List.mem_map.1 hx;have:=(wordsB_wd hy).2;rw [toL_len];omega))
  rw [formL_len,List.length_map] at h1
  have h2:(wordsB s).length * (70000 + 4 + 1)≤70000 * (70000 + 4 + 1):=Nat.mul_le_mul_right _ (by omega)
  have e:(ofL (jn (formL ((wordsB s).map toL)))).size = (jn (formL ((wordsB s).map toL))).length:=rfl
  unfold maxLen
  omega
 have HKS:=hid hks
 have HM:=hid hM
 have HT:=hid hT
 have HTW:=hid (toL_wordsB s)
 clear hks hM hT
 cases hf:formW (words (toL s)) with
 | none =>
  have HD:Hid (dirOf (words (toL s)) = .error 5):=hid (by unfold dirOf;rw [hf])
  rw [hf] at HK
  clear hf
  generalize ofL (jn (formL ((wordsB s).map toL))) = key at *
  generalize wordsB s = ws at *
  go_enter Tryz.func54,Tryz.ntmps54
  go_wp2_with (first | (go_at_call 77;refine HFF.out.mono ?_;rintro e w1 ⟨A,c,rfl,hst,hb⟩;have HB1:=hid (HB0.out.trans hb);have HST:=hid hst;have HZ1:=hid (HZ0.out.below hb HLT0.out);clear hst hb) | (go_at_call 79;refine (HFO.out _ _ _ HST.out).mono ?_;rintro e w2 ⟨rfl,hb⟩;have HB2:=hid (HB1.out.trans hb);have HZ2:=hid (HZ1.out.below hb HZ1.out.lt);obtain ⟨c0,c1,c2,c3,c4⟩:=cells5 HZ2.out;obtain ⟨f0,f1,f2,f3,f4⟩:=frees5 HZ2.out;have HM2:=hid (HM.out.bel HB2.out);clear hb) | (at_lookup;refine wp_look_ok rfl _ _ 101 rfl 3 Tryz.underlying101 _ (Tryz.zeroValue3) M 9 kindF rfl HM2.out key rfl HKS.out (.int .i64 0) false (by rw [HK.out];rfl) (by rw [HK.out];rfl) ?_))
  refine bodyPost_ret (done5 rfl rfl rfl (one5 0 0 ByteArray.empty ByteArray.empty false) (set5 HZ2.out _ _ _ _ _)) rfl ?_
  unfold DirPost
  rw [HD.out]
  exact ⟨bel_on1 HB2.out (only5 _ _ _ _ _ _ _) (Nat.le_refl _),rfl,.inl rfl⟩
 | some r =>
  obtain ⟨k,nm,pt⟩:=r
  have HR:Hid (dgo true ([],[],false) ((wordsB s).map toL) = if okF k nm pt then .ok (nm,pt.getD [],pt.isSome) else .error 11):=hid (by rw [toL_wordsB];exact dgo_form hf)
  have HD:Hid (dirOf (words (toL s)) = if okF k nm pt then .ok ⟨k,0,nm,pt.getD [],pt.isSome⟩ else .error 11):=hid (by unfold dirOf;rw [hf])
  rw [hf] at HK
  clear hf HTW
  generalize ofL (jn (formL ((wordsB s).map toL))) = key at *
  have hws:(wordsB s).length≤66000:=by omega
  have HWS:Hid (∀ x ∈ wordsB s,x.size≤66000):=hid (fun x hx => by have:=(wordsB_wd hx).2;omega)
  clear hbase
  generalize wordsB s = ws at *
  obtain ⟨n,hn⟩:∃ n,n = ws.length:=⟨_,rfl⟩
  rw [← hn] at hws
  have HN:=hid hn
  rw [← hn] at HFF
  have HFO':Hid (∀ (W:World) A c,Strs W A ws→Calls Tryz.prog 79 #[.slice A n c] W fun e w' => e = .returned (.string key)∧Bel W w'):=hid (by rw [hn];exact HFO.out)
  clear HFO hn
  go_enter Tryz.func54,Tryz.ntmps54
  go_wp2_with (first | (go_at_call 77;refine HFF.out.mono ?_;rintro e w1 ⟨A,c,rfl,hst,hb⟩;have HB1:=hid (HB0.out.trans hb);have HST:=hid hst;have HZ1:=hid (HZ0.out.below hb HLT0.out);clear hst hb) | (go_at_call 79;refine (HFO'.out _ _ _ HST.out).mono ?_;rintro e w2 ⟨rfl,hb⟩;have HB2:=hid (HB1.out.trans hb);have HST2:=hid (HST.out.bel hb);have HZ2:=hid (HZ1.out.below hb HZ1.out.lt);have HM2:=hid (HM.out.bel HB2.out);clear hb) | (at_lookup;refine wp_look_ok rfl _ _ 101 rfl 3 Tryz.underlying101 _ (Tryz.zeroValue3) M 9 kindF rfl HM2.out key rfl HKS.out (.int .i64 k) true (by rw [HK.out];rfl) (by rw [HK.out];rfl) ?_))
  go_loopw [30] (fun s30 wr => ∃ (j:Nat) (sn sp:List UInt8) (h:Bool),j≤n∧s30 = .int .i64 j∧Hid (dgo (decide (j = 0)) (sn,sp,h) ((ws.map toL).drop j) = if okF k nm pt then .ok (nm,pt.getD [],pt.isSome) else .error 11)∧Hid (Bel w2 wr) ∧
    Hid (Blk wr w.heap.size 64 [.int .i64 0,.int .i64 0,.string ByteArray.empty,.string ByteArray.empty,.bool false])∧Hid (Blk wr w2.heap.size 64 [.int .i64 k,.int .i64 0,.string (ofL sn),.string (ofL sp),.bool h])) (fun s30 _ => n - (intOf s30).toNat)
  case atStart =>
   refine ⟨0,[],[],false,Nat.zero_le _,rfl,HR,hid (Bel.alloc _ _),hid (HZ2.out.below (Bel.alloc _ _) HZ2.out.lt),hid (Blk.new w2 64 [.int .i64 k,.int .i64 0,.string ByteArray.empty,.string ByteArray.empty,.bool false])⟩
  case round =>
   obtain ⟨j,sn,sp,h,hj,rfl,HG,HBR,HZ,HTK⟩:=hrel
   have hzt:w.heap.size < w2.heap.size:=HZ2.out.lt
   have HBW:=hid (HB2.out.trans HBR.out)
   obtain ⟨t0,t1,t2,t3,t4⟩:=cells5 HTK.out
   obtain ⟨g0,g1,g2,g3,g4⟩:=frees5 HTK.out
   by_cases hlt:j < n
   ·have hjw:j < ws.length:=by have:=HN.out;omega
    obtain ⟨g,o,hA,hg,hcell⟩:=strs_at HST2.out hjw
    have c0:=(HBR.out.cell hg).trans hcell
    subst hA
    have hmem:ws.getD j ByteArray.empty ∈ ws:=by rw [List.getD_eq_getElem?_getD,List.getElem?_eq_getElem hjw];exact List.getElem_mem hjw
    have hwd:=(HWD.out _ hmem).1
    have hxle:=HWS.out _ hmem
    have hdw:=drop_word hjw
    have HG2:=HG.out
    rw [hdw] at HG2
    clear hmem hcell HG hdw
    generalize ws.getD j ByteArray.empty = x at *
    have hxs:0 < x.size:=by
     rw [← toL_len];exact List.length_pos_iff.2 hwd.1
    have hx1:1≤x.size:=hxs
    have HP:=hid (fun W => isPath_c x W hxs)
    clear hwd
    unfold dgo at HG2
    cases hp:isP (toL x) with
    | true =>
     rw [hp] at HP
     simp only [hp,if_true] at HG2
     have hez:(x.extract 1 x.size).size < 4294967281:=by simp;omega
     cases hq:pathOf (x.extract 1 x.size) with
     | none =>
      have hpl:pathL (toL x).tail = false:=by rw [tail_path,hq];rfl
      have HE:Hid (okF k nm pt = false):=hid (by
       rw [hpl] at HG2
       simp only [Bool.false_eq_true,if_false] at HG2
       cases ho:okF k nm pt with
       | false => rfl
       | true => rw [ho] at HG2;simp at HG2)
      have HSP:=hid (fun W (hM:MX W) => split_c (x.extract 1 x.size) W hM hez)
      have HQ:=hid hq
      clear hq hpl HG2 hp hez
      go_wp2_with (first | (go_at_call 80;refine (HP.out _).mono ?_;rintro e w3 ⟨rfl,rfl⟩) | (go_at_call 49;refine (HSP.out _ (HT.out.bel HBW.out)).mono ?_;rintro e w4 ⟨hb,hm⟩;rw [HQ.out] at hm;obtain rfl:=hm;have HB4:=hid (HBW.out.trans hb);have HZ4:=hid (HZ.out.below hb HZ.out.lt);obtain ⟨z0,z1,z2,z3,z4⟩:=cells5 HZ4.out;obtain ⟨y0,y1,y2,y3,y4⟩:=frees5 HZ4.out;clear hb))
      refine bodyPost_ret (done5 rfl rfl rfl (one5 0 0 ByteArray.empty ByteArray.empty false) (set5 HZ4.out _ _ _ _ _)) rfl ?_
      unfold DirPost
      rw [HD.out,HE.out]
      exact ⟨bel_on1 HB4.out (only5 _ _ _ _ _ _ _) (Nat.le_refl _),rfl,.inr rfl⟩
     | some l =>
      have hpl:pathL (toL x).tail = true:=by rw [tail_path,hq];rfl
      have HG3:Hid (dgo (decide (j + 1 = 0)) (sn,(toL x).tail,true) ((ws.map toL).drop (j + 1)) = if okF k nm pt then .ok (nm,pt.getD [],pt.isSome) else .error 11):=hid (by
       rw [hpl] at HG2
       simpa using HG2)
      have HSP:=hid (fun W (hM:MX W) => split_c (x.extract 1 x.size) W hM hez)
      have HQ:=hid hq
      have HTE:=hid (tail_extract x)
      clear hq hpl HG2 hp hez t0 t1 t2 t3 t4 g0 g1 g2 g3 g4
      go_wp2_with (first | (go_at_call 80;refine (HP.out _).mono ?_;rintro e w3 ⟨rfl,rfl⟩) | (go_at_call 49;refine (HSP.out _ (HT.out.bel HBW.out)).mono ?_;rintro e w4 ⟨hb,hm⟩;rw [HQ.out] at hm;obtain ⟨A4,c4,rfl,_⟩:=hm;have HB4:=hid (HBR.out.trans hb);have HZ4:=hid (HZ.out.below hb HZ.out.lt);have HT4:=hid (HTK.out.below hb HTK.out.lt);obtain ⟨t0,t1,t2,t3,t4⟩:=cells5 HT4.out;obtain ⟨g0,g1,g2,g3,g4⟩:=frees5 HT4.out;clear hb))
      go_roundw
      case rel =>
       refine ⟨j + 1,sn,(toL x).tail,true,by omega,by go_num,HG3,hid (bel_on1 HB4.out (((Only.refl [w2.heap.size] w4).setCell (.inl (by simp)) _).setCell (.inl (by simp)) _) (Nat.le_refl _)),hid (HZ4.out.only (S:=[w2.heap.size]) ?_ (by simp;omega)),hid ?_⟩
       ·exact ((Only.refl [w2.heap.size] w4).setCell (.inl (by simp)) _).setCell (.inl (by simp)) _
       ·rw [HTE.out];exact (HT4.out.set_ 3 _).set_ 4 _
      case measure => simp [intOf];omega
    | false =>
     rw [hp] at HP
     simp only [hp,Bool.false_eq_true,if_false] at HG2
     by_cases h0:j = 0
     ·have HG3:Hid (dgo (decide (j + 1 = 0)) (sn,sp,h) ((ws.map toL).drop (j + 1)) = if okF k nm pt then .ok (nm,pt.getD [],pt.isSome) else .error 11):=hid (by
       rw [decide_eq_true h0] at HG2
       simpa using HG2)
      have h0':¬ (0:Int) < (j:Int):=by omega
      clear HG2 hp h0 t0 t1 t2 t3 t4 g0 g1 g2 g3 g4
      go_wp2_with (go_at_call 80;refine (HP.out _).mono ?_;rintro e w3 ⟨rfl,rfl⟩)
      go_roundw
      case rel => exact ⟨j + 1,sn,sp,h,by omega,by go_num,HG3,HBR,HZ,HTK⟩
      case measure => simp [intOf];omega
     ·rw [decide_eq_false h0] at HG2
      simp only [Bool.false_eq_true,if_false] at HG2
      have h0':(0:Int) < (j:Int):=by omega
      have hxm:x.size≤maxLen:=by unfold maxLen;omega
      have HNM:=hid (fun W => isName_c x hxm W)
      cases hnm:nameB x with
      | false =>
       have hnl:nameL (toL x) = false:=hnm
       have HE:Hid (okF k nm pt = false):=hid (by
        rw [hnl] at HG2
        simp only [Bool.false_eq_true,if_false] at HG2
        cases ho:okF k nm pt with
        | false => rfl
        | true => rw [ho] at HG2;simp at HG2)
       rw [hnm] at HNM
       obtain ⟨z0,z1,z2,z3,z4⟩:=cells5 HZ.out
       obtain ⟨y0,y1,y2,y3,y4⟩:=frees5 HZ.out
       clear HG2 hp h0 hnl hnm hxm
       go_wp2_with (first | (go_at_call 80;refine (HP.out _).mono ?_;rintro e w3 ⟨rfl,rfl⟩) | (go_at_call 73;refine (HNM.out _).mono ?_;rintro e w3 ⟨rfl,rfl⟩))
       refine bodyPost_ret (done5 rfl rfl rfl (one5 0 0 ByteArray.empty ByteArray.empty false) (set5 HZ.out _ _ _ _ _)) rfl ?_
       unfold DirPost
       rw [HD.out,HE.out]
       exact ⟨bel_on1 HBW.out (only5 _ _ _ _ _ _ _) (Nat.le_refl _),rfl,.inr rfl⟩
      | true =>
       have hnl:nameL (toL x) = true:=hnm
       have HG3:Hid (dgo (decide (j + 1 = 0)) (toL x,sp,h) ((ws.map toL).drop (j + 1)) = if okF k nm pt then .ok (nm,pt.getD [],pt.isSome) else .error 11):=hid (by
        rw [hnl] at HG2
        simpa using HG2)
       rw [hnm] at HNM
       clear HG2 hp h0 hnl hnm hxm
       go_wp2_with (first | (go_at_call 80;refine (HP.out _).mono ?_;rintro e w3 ⟨rfl,rfl⟩) | (go_at_call 73;refine (HNM.out _).mono ?_;rintro e w3 ⟨rfl,rfl⟩))
       go_roundw
       case rel =>
        have hon:=(Only.refl [w2.heap.size] w3).setCell (p:=⟨w2.heap.size,2,none⟩) (.inl (by simp)) (.string x)
        refine ⟨j + 1,toL x,sp,h,by omega,by go_num,HG3,hid (bel_on1 HBR.out hon (Nat.le_refl _)),hid (HZ.out.only hon (by simp;omega)),hid ?_⟩
        rw [ofL_toL];exact HTK.out.set_ 2 _
       case measure => simp [intOf];omega
   ·obtain rfl:j = n:=by omega
    have HFIN:Hid (okF k nm pt = true∧sn = nm∧sp = pt.getD []∧h = pt.isSome):=hid (by
     have:=HG.out
     rw [List.drop_of_length_le (by rw [List.length_map];have:=HN.out;omega)] at this
     cases ho:okF k nm pt with
     | false => rw [ho] at this;simp [dgo] at this
     | true =>
      rw [ho] at this
      simp only [dgo,if_true,Except.ok.injEq,Prod.mk.injEq] at this
      exact ⟨rfl,this.1,this.2.1,this.2.2⟩)
    obtain ⟨z0,z1,z2,z3,z4⟩:=cells5 HZ.out
    obtain ⟨y0,y1,y2,y3,y4⟩:=frees5 HZ.out
    clear HG
    go_wp2_with fail
    refine bodyPost_ret (done5 rfl rfl rfl (one5 k 0 (ofL sn) (ofL sp) h) (set5 HZ.out _ _ _ _ _)) rfl ?_
    unfold DirPost
    rw [HD.out,HFIN.out.1]
    refine ⟨bel_on1 HBW.out (only5 _ _ _ _ _ _ _) (Nat.le_refl _),?_⟩
    rw [HFIN.out.2.1,HFIN.out.2.2.1,HFIN.out.2.2.2]
    rfl
end
section
open Go.RowKit Go.BigFrame Go.Maps Go.WideMaps
abbrev LexR:=Except (Nat × Nat) (List Tok)
def Rs (l:List UInt8) (a:Nat) (r:LexR):Prop:=match r with | .ok ts => Lx l a ts | .error (b,c) => Er l a b c
def comb (done:List Tok) (r:LexR):LexR:=match r with | .ok ts => .ok (done ++ ts) | .error e => .error e
theorem comb_nil (r:LexR):comb [] r = r:=by cases r <;> rfl
theorem comb_snoc (done:List Tok) (t:Tok) (r:LexR):comb done (comb [t] r) = comb (done ++ [t]) r:=by cases r <;> simp [comb]
theorem rs_total (l:List UInt8) (a:Nat):∃ r,Rs l a r:=by
 rcases lx_total l.length l a (Nat.le_refl _) with ⟨ts,h⟩ | ⟨b,c,h⟩
 ·exact ⟨.ok ts,h⟩
 ·exact ⟨.error (b,c),h⟩
theorem rs_fun {l:List UInt8} {a:Nat} {r r2:LexR} (h:Rs l a r) (h2:Rs l a r2):r = r2:=by
 match r,r2,h,h2 with
 | .ok ts,.ok us,h,h2 => rw [lx_fun h h2]
 | .ok ts,.error (b,c),h,h2 => exact absurd h (er_not h2)
 | .error (b,c),.ok us,h,h2 => exact absurd h2 (er_not h)
 | .error (b,c),.error (b2,c2),h,h2 => obtain ⟨rfl,rfl⟩:=er_fun h h2;rfl
theorem rs_nil {a:Nat} {r:LexR} (h:Rs [] a r):r = .ok []:=rs_fun h (Lx.nil a)
theorem rs_all {l:List UInt8} {a:Nat} {r:LexR} (h:Rs l a r) (hl:l ≠ []) (hf:find2 123 l = none):r = comb [text a l] (.ok []):=rs_fun h (Lx.all l a hl hf)
theorem rs_text {l:List UInt8} {a k:Nat} {r:LexR} (h:Rs l a r) (hf:find2 123 l = some (k + 1)):∃ r2,Rs (l.drop (k + 1)) (a + (k + 1)) r2∧r = comb [text a (l.take (k + 1))] r2:=by
 obtain ⟨r2,h2⟩:=rs_total (l.drop (k + 1)) (a + (k + 1))
 refine ⟨r2,h2,rs_fun h ?_⟩
 match r2,h2 with
 | .ok ts,h2 => exact Lx.text l a k ts hf h2
 | .error (b,c),h2 => exact Er.text l a k b c hf h2
theorem rs_trunc {l:List UInt8} {a:Nat} {r:LexR} (h:Rs l a r) (hf:find2 123 l = some 0) (hc:find2 125 (l.drop 2) = none):r = .error (a,7):=rs_fun h (Er.trunc l a hf hc)
theorem rs_bad {l:List UInt8} {a e c:Nat} {r:LexR} (h:Rs l a r) (hf:find2 123 l = some 0) (hc:find2 125 (l.drop 2) = some e) (hd:dirOf (words ((l.drop 2).take e)) = .error c):r = .error (a,c):=rs_fun h (Er.bad l a e c hf hc hd)
theorem rs_dir {l:List UInt8} {a e:Nat} {t:Tok} {r:LexR} (h:Rs l a r) (hf:find2 123 l = some 0) (hc:find2 125 (l.drop 2) = some e) (hd:dirOf (words ((l.drop 2).take e)) = .ok t) :
  ∃ r2,Rs (l.drop (e + 4)) (a + (e + 4)) r2∧r = comb [{ t with a:=a }] r2:=by
 obtain ⟨r2,h2⟩:=rs_total (l.drop (e + 4)) (a + (e + 4))
 refine ⟨r2,h2,rs_fun h ?_⟩
 match r2,h2 with
 | .ok ts,h2 => exact Lx.dir l a e t ts hf hc hd h2
 | .error (b,c),h2 => exact Er.dir l a e t b c hf hc hd h2
theorem info_tok:(Tryz.prog.info? 64).map (fun i => (i.zero,i.size,i.bytes)) = some (some (.agg #[.int .i64 0,.int .i64 0,.string ByteArray.empty,.string ByteArray.empty,.bool false]),5,56):=by kernel_rfl
theorem info_rtok:(Tryz.prog.info? 138).map (fun i => (i.zero,i.size,i.bytes)) = some (some (.agg #[.int .i64 0,.int .i64 0,.string ByteArray.empty,.string ByteArray.empty,.bool false]),5,56):=by kernel_rfl
theorem cells_tok:(Value.agg #[.int .i64 0,.int .i64 0,.string ByteArray.empty,.string ByteArray.empty,.bool false]).cells.size = 5:=by kernel_rfl
section
variable {w:World} {ops:Array Oper} {rest:List Oper} {o:Oper} {a:Act} {Q:Exit→Act→World→Prop}
theorem wp_tokL (hgd:o.guard = none) (s x:Operand) (ho:o.op = .call { callee:=.builtin .append,args:=#[s,x],argTypes:=#[54,54] })
  (A:Option Addr) (n c:Nat) (l:List Tok) (hn:l.length = n) (hs:a.eval s = .slice A n c) (hA:KRow w 64 5 Tok.cs A c l) (g:Nat) (cs:List Value) (t:Tok) (ht:cs = t.cs) (hx:a.eval x = .slice (some ⟨g,0,none⟩) 1 1) (hb:Blk w g 64 cs) (hle:n≤100000)
  (h:∀ A' c' w',Hid (KRow w' 64 5 Tok.cs A' c' (l ++ [t]))→Hid (Only (rowT A) w w')→Hid (∀ k,k ∈ rowT A'→k ∈ rowT A ∨ k = w.heap.size)→wpList Tryz.prog ops Q rest (a.put o.dst (.slice A' (n + 1) c')) w') :
  wpList Tryz.prog ops Q (o :: rest) a w :=
 wp_kAppend hgd s x 54 ho 64 _ 5 56 Tok.cs tok_len tok_one Tryz.underlying54 info_tok cells_tok (by decide) A c l n hn hs hA (some ⟨g,0,none⟩) 1 [t] 1 rfl hx (src_blk hb (by rw [ht,flat_one])) (by unfold maxLen;omega) (by omega) (n + 1) rfl
  (fun A' c' w' h1 h2 h3 => h A' c' w' h1 (hid h2) h3)
theorem wp_tokR (hgd:o.guard = none) (s x:Operand) (ho:o.op = .call { callee:=.builtin .append,args:=#[s,x],argTypes:=#[77,77] })
  (A:Option Addr) (n c:Nat) (l:List Tok) (hn:l.length = n) (hs:a.eval s = .slice A n c) (hA:KRow w 138 5 Tok.cs A c l) (g:Nat) (cs:List Value) (t:Tok) (ht:cs = t.cs) (hx:a.eval x = .slice (some ⟨g,0,none⟩) 1 1) (hb:Blk w g 138 cs) (hle:n≤100000)
  (h:∀ A' c' w',Hid (KRow w' 138 5 Tok.cs A' c' (l ++ [t]))→Hid (Only (rowT A) w w')→Hid (∀ k,k ∈ rowT A'→k ∈ rowT A ∨ k = w.heap.size)→wpList Tryz.prog ops Q rest (a.put o.dst (.slice A' (n + 1) c')) w') :
  wpList Tryz.prog ops Q (o :: rest) a w :=
 wp_kAppend hgd s x 77 ho 138 _ 5 56 Tok.cs tok_len tok_one Tryz.underlying77 info_rtok cells_tok (by decide) A c l n hn hs hA (some ⟨g,0,none⟩) 1 [t] 1 rfl hx (src_blk hb (by rw [ht,flat_one])) (by unfold maxLen;omega) (by omega) (n + 1) rfl
  (fun A' c' w' h1 h2 h3 => h A' c' w' h1 (hid h2) h3)
end
structure TkAt (T:TypeId) (W wr:World) (A:Option Addr) (n c:Nat) (done:List Tok):Prop where
 row:KRow wr T 5 Tok.cs A c done
 len:done.length = n
 fresh:∀ k,k ∈ rowT A→W.heap.size≤k
 bel:Bel W wr
theorem TkAt.start (T:TypeId) (W:World):TkAt T W W none 0 0 []:=⟨KRow.nil _ _ _ _,rfl,by simp [rowT],Bel.refl _⟩
theorem TkAt.later {T:TypeId} {W wr w2:World} {A:Option Addr} {n c:Nat} {done:List Tok} (h:TkAt T W wr A n c done) (hb:Bel wr w2):TkAt T W w2 A n c done :=
 ⟨h.row.only (Only.of_below (S:=[]) hb fun _ hk _ => hk) (by simp),h.len,h.fresh,h.bel.trans hb⟩
theorem TkAt.push {T:TypeId} {W wr w2:World} {A A':Option Addr} {n c c':Nat} {done:List Tok} {t:Tok} (h:TkAt T W wr A n c done) (o:Obj) (hR:KRow w2 T 5 Tok.cs A' c' (done ++ [t])) (hO:Only (rowT A) (wr.alloc o) w2) (hK:∀ k,k ∈ rowT A'→k ∈ rowT A ∨ k = (wr.alloc o).heap.size) :
  TkAt T W w2 A' (n + 1) c' (done ++ [t]):=by
 refine ⟨hR,by rw [List.length_append,h.len];rfl,fun k hk => ?_,?_⟩
 ·rcases hK k hk with h1 | h1
  ·exact h.fresh k h1
  ·have:=h.bel.size;simp at h1;omega
 ·exact Below.trans (h.bel.trans (Bel.alloc wr o)) (hO.to_below ((h.bel.trans (Bel.alloc wr o)).size) (fun k hk => h.fresh k hk))
def LexPost (T:TypeId) (s:ByteArray) (r:LexR) (w:World) (e:Ending) (w':World):Prop :=
 Bel w w'∧match r with
  | .ok ts => ∃ A c,e = .returned (.tuple #[.slice A ts.length c,.int .i64 s.size,.int .i64 0])∧KRow w' T 5 Tok.cs A c ts∧∀ k,k ∈ rowT A→w.heap.size≤k
  | .error (b,c) => e = .returned (.tuple #[.slice none 0 0,.int .i64 b,.int .i64 c])
def LexOf (s:ByteArray) (r:LexR):Prop:=if 65536 < s.size then r = .error (0,6) else Rs (toL s) 0 r
theorem toL_from (s:ByteArray) (a:Nat):toL (s.extract a s.size) = (toL s).drop a:=by rw [toL_extract,List.take_of_length_le (Nat.le_of_eq (toL_len s))]
theorem extract_take (s:ByteArray) (a k:Nat):s.extract a (a + k) = ofL (((toL s).drop a).take k):=by
 apply toL_inj
 rw [toL_ofL,toL_extract,List.take_drop]
end
section
open Go.RowKit
section
variable {P:Program} {ops:Array Oper} {Q:Exit→Act→World→Prop}
structure Later (T:List Nat) (w0:World) where
 w:World
 h:Only T w0 w
instance {T:List Nat} {w0:World}:Nonempty (Later T w0):=⟨⟨w0,Only.refl _ _⟩⟩
def plainOp:Op→Bool
 | .move _ | .assign _ | .pick _ _ _ | .nilCheck _ | .binOp _ _ _ _ _ | .unOp _ _ _ | .convert _ _ _ | .fieldAddr _ _ _ | .field _ _ _ | .indexAddr _ _ _ | .index _ _ _ | .extract _ _ | .slice _ _ _ _ _ | .load _ _ | .makeInterface _ _ => true
 | .call c => (match c.callee with | .builtin .len | .builtin .cap | .builtin .min | .builtin .max => true | _ => false)
 | _ => false
theorem value_of {s:Sem Value} {w w':World} {n:Next} (h:(do pure (Next.value (← s)):Sem Next).run P w = .ok n w'):∃ v,n = .value v:=by
 rw [Sem.run_bind] at h
 cases hs:s.run P w with
 | ok v w1 =>
  rw [hs] at h
  simp only [Result.andThen,Sem.run_pure] at h
  injection h with h1 _
  exact ⟨v,h1.symm⟩
 | halt x w1 =>
  rw [hs] at h
  simp [Result.andThen] at h
theorem ok_bind {α β:Type} {s:Sem α} {f:α→Sem β} {w w':World} {n:β} (h:(s >>= f).run P w = .ok n w'):∃ x w1,(f x).run P w1 = .ok n w':=by
 rw [Sem.run_bind] at h
 cases hs:s.run P w with
 | ok v w1 =>
  rw [hs] at h
  exact ⟨v,w1,h⟩
 | halt x w1 =>
  rw [hs] at h
  simp [Result.andThen] at h
theorem pure_value {v:Value} {w w':World} {n:Next} (h:(pure (Next.value v):Sem Next).run P w = .ok n w'):∃ v,n = .value v:=by
 simp only [Sem.run_pure] at h
 injection h with h1 _
 exact ⟨v,h1.symm⟩
theorem panic_never {w w':World} {n:Next} (h:(runtimePanic .nilDeref:Sem Next).run P w = .ok n w'):False:=by
 simp [runtimePanic] at h
theorem plain_value {ρ:Operand→Value} {o:Oper} {w w':World} {n:Next} (h:plainOp o.op = true) (hr:(execOp ρ o).run P w = .ok n w'):∃ v,n = .value v:=by
 obtain ⟨dst,op,type,pos,after,guard⟩:=o
 cases op <;> simp only [plainOp] at h <;> first | (cases h;done) | skip
 all_goals simp only [execOp] at hr
 all_goals first | exact value_of hr | skip
 ·exact pure_value hr
 ·exact pure_value hr
 ·obtain ⟨_,_,h1⟩:=ok_bind hr
  exact pure_value h1
 ·split at hr
  ·exact (panic_never hr).elim
  ·exact (panic_never hr).elim
  ·exact (panic_never hr).elim
  ·split at hr
   ·exact (panic_never hr).elim
   ·obtain ⟨_,_,h1⟩:=ok_bind hr
    obtain ⟨_,_,h2⟩:=ok_bind h1
    split at h2
    ·obtain ⟨_,_,h3⟩:=ok_bind h2
     exact pure_value h3
    ·exact pure_value h2
   ·exact pure_value hr
  ·exact pure_value hr
 ·rename_i c
  obtain ⟨callee,args,argTypes⟩:=c
  split at h <;> first | (cases h;done) | skip
  all_goals
   rename_i hc
   simp only at hc
   subst hc
   simp only [resolve,Sem.run_bind,Sem.run_pure,Result.andThen,invoke,builtin] at hr
   exact value_of (by simpa only [Sem.run_bind,Sem.run_pure,Result.andThen] using hr)
def wpSeg (P:Program) (ops:Array Oper) (C:World→Prop) (Q:Act→Prop):List Nat→Act→Prop
 | [],a => Q a
 | i :: is,a => ∃ o,ops[i]? = some o∧if Region.wanted o (yielded ops a.tmps) = true then o.quiet P a C (wpSeg P ops C Q is) else wpSeg P ops C Q is (a.put o.dst undef)
def wpMask (P:Program) (ops:Array Oper) (C:World→Prop) (Q:Act→Prop):List Bool→List Oper→Act→Prop
 | true :: m,o :: l,a => if Region.wanted o (yielded ops a.tmps) = true then o.quiet P a C (wpMask P ops C Q m l) else wpMask P ops C Q m l (a.put o.dst undef)
 | false :: m,_ :: l,a => wpMask P ops C Q m l a
 | _,_,a => Q a
theorem wpMask_nil {C:World→Prop} {K:Act→Prop} {a:Act} {l:List Oper} (h:K a):wpMask P ops C K [] l a:=h
theorem wpMask_pass {C:World→Prop} {K:Act→Prop} {m:List Bool} {a:Act} {o:Oper} {l:List Oper} (h:wpMask P ops C K m l a):wpMask P ops C K (false :: m) (o :: l) a:=h
theorem wpMask_want {C:World→Prop} {K:Act→Prop} {m:List Bool} {a:Act} {o:Oper} {l:List Oper} (hw:Region.wanted o (yielded ops a.tmps) = true)
  (h:∀ K':Act→Prop,(∀ a',wpMask P ops C K m l a'→K' a')→o.quiet P a C K'):wpMask P ops C K (true :: m) (o :: l) a:=by
 unfold wpMask
 rw [if_pos hw]
 exact h _ (fun _ hh => hh)
def places:Nat→List Bool→List Nat
 | _,[] => []
 | k,true :: m => k :: places (k + 1) m
 | k,false :: m => places (k + 1) m
theorem wpSeg_of_mask {C:World→Prop} {K:Act→Prop}:∀ (m:List Bool) (l:List Oper) (k:Nat) (a:Act),(∀ j,ops[k + j]? = l[j]?)→k + m.length≤ops.size→wpMask P ops C K m l a→wpSeg P ops C K (places k m) a
 | [],_,_,_,_,_,h => h
 | b :: m,[],k,a,hl,hm,_ => by
  have:=hl 0
  rw [Nat.add_zero,List.getElem?_nil] at this
  have hk:ops.size≤k:=Array.getElem?_eq_none_iff.1 this
  simp at hm
  omega
 | true :: m,o :: l,k,a,hl,hm,h => by
  have ho:ops[k]? = some o:=by have:=hl 0;simpa using this
  have hl':∀ j,ops[k + 1 + j]? = l[j]?:=fun j => by have:=hl (j + 1);rw [List.getElem?_cons_succ] at this;rw [← this];congr 1;omega
  have hm':k + 1 + m.length≤ops.size:=by simp at hm;omega
  refine ⟨o,ho,?_⟩
  unfold wpMask at h
  split
  ·rename_i hw
   rw [if_pos hw] at h
   exact Oper.quiet_mono (fun a' h' => wpSeg_of_mask m l (k + 1) a' hl' hm' h') h
  ·rename_i hw
   rw [if_neg hw] at h
   exact wpSeg_of_mask m l (k + 1) _ hl' hm' h
 | false :: m,o :: l,k,a,hl,hm,h => by
  have hl':∀ j,ops[k + 1 + j]? = l[j]?:=fun j => by have:=hl (j + 1);rw [List.getElem?_cons_succ] at this;rw [← this];congr 1;omega
  have hm':k + 1 + m.length≤ops.size:=by simp at hm;omega
  exact wpSeg_of_mask m l (k + 1) a hl' hm' h
def segOk (ops:Array Oper):List Nat→Array Bool→Bool
 | [],_ => true
 | i :: is,listed => Region.free .any ops listed i && (Region.ready .any ops listed).contains i && ((ops[i]?).map (plainOp ·.op)).getD false && segOk ops is (listed.setIfInBounds i true)
def marked (listed:Array Bool) (is:List Nat):Array Bool:=is.foldl (fun l i => l.setIfInBounds i true) listed
theorem take_list {C S:World→Prop} (hCS:∀ w,S w→C w) (hs:Region.noSelect ops = true) (hQ:∀ c (a:Act) d v w,Q (.panic c) (a.put d v) w→Q (.panic c) a w) :
  ∀ (is:List Nat) (fuel:Nat) (listed:Array Bool) (a:Act) (w:World),segOk ops is listed = true→S w →
   wpSeg P ops C (fun b => wpAnyH P .any ops Q S fuel (marked listed is) b w) is a→wpAnyH P .any ops Q S (fuel + is.length) listed a w
 | [],fuel,listed,a,w,_,_,h => h
 | i :: is,fuel,listed,a,w,hok,hS,⟨o,ho,h⟩ => by
  simp only [segOk,Bool.and_eq_true] at hok
  obtain ⟨⟨⟨hf,hr⟩,hp⟩,hok'⟩:=hok
  rw [ho] at hp
  simp only [Option.map_some,Option.getD_some] at hp
  rw [List.length_cons,← Nat.add_assoc]
  by_cases hw:Region.wanted o (yielded ops a.tmps) = true
  ·rw [if_pos hw] at h
   obtain ⟨v,hv,hn⟩:=h
   refine wpAnyH_take ho hs hf hr (fun c a w hh => hQ _ _ _ _ _ hh) (v:=v) (.inl ⟨hw,fun w' hS' => ?_⟩) hS (take_list hCS hs hQ is fuel _ _ w hok' hS hn)
   have h3:=hv w' (hCS _ hS')
   unfold Oper.quietAt at h3
   cases hrun:(execOp a.eval o).run P w' with
   | halt x w1 => rw [hrun] at h3;exact absurd h3 (by simp [Oper.quietUpon])
   | ok n w1 =>
    obtain ⟨u,rfl⟩:=plain_value hp hrun
    rw [hrun] at h3
    simp only [Oper.quietUpon] at h3
    rw [h3.1,h3.2]
  ·rw [if_neg hw] at h
   exact wpAnyH_take ho hs hf hr (fun c a w hh => hQ _ _ _ _ _ hh) (v:=undef) (.inr ⟨by simpa using hw,rfl⟩) hS (take_list hCS hs hQ is fuel _ _ w hok' hS h)
theorem wpAnyH_mono {S S':World→Prop} (hS:∀ w,S' w→S w):∀ (fuel:Nat) (listed:Array Bool) (a:Act) (w:World),
  wpAnyH P .any ops Q S' fuel listed a w→wpAnyH P .any ops Q S fuel listed a w
 | 0,_,_,_,h => h
 | fuel + 1,_,_,_,h => ⟨h.1,fun i hi => wpOp_mono (fun a' w' h' => ⟨hS _ h'.1,wpAnyH_mono hS fuel _ a' w' h'.2⟩) (h.2 i hi)⟩
theorem region_begin {T:List Nat} {id:Nat} {a:Act} {w:World} (hm:P.follows .mixedOrders = true)
  (h:wpAnyH P .any ops Q (Only T w.drew) ops.size (Array.replicate ops.size false) a w.drew):(Code.region id ops true).wp P Q a w:=wp_region_held hm h
theorem region_seg {T:List Nat} (m:List Bool) {listed:Array Bool} {fuel:Nat} (fuel':Nat) {a:Act} {w:World} {l:List Oper} (hs:Region.noSelect l.toArray = true) (hm:(decide (m.length≤l.length)) = true)
  (hok:segOk l.toArray (places 0 m) listed = true)
  (hf:fuel' + (places 0 m).length = fuel) (hQ:∀ c (a:Act) d v w,Q (.panic c) (a.put d v) w→Q (.panic c) a w)
  (h:wpMask P l.toArray (fun w' => ∃ x:Later T w,w' = x.w) (fun b => wpAnyH P .any l.toArray Q (Only T w) fuel' (marked listed (places 0 m)) b w) m l a):wpAnyH P .any l.toArray Q (Only T w) fuel listed a w:=by
 subst hf
 refine take_list (fun w' h' => ⟨⟨w',h'⟩,rfl⟩) hs hQ (places 0 m) fuel' listed a w hok (Only.refl _ _) (wpSeg_of_mask m l 0 a (fun j => by simp) ?_ h)
 have:=of_decide_eq_true hm
 simpa using this
theorem region_call {T:List Nat} (e:Nat) {listed:Array Bool} {fuel:Nat} {a:Act} {w:World} {o:Oper} {f:FuncId} {args:Array Value} (hr:Region.ready .any ops listed = [e])
  (ho:ops[e]? = some o) (hw:Region.wanted o (yielded ops a.tmps) = true) (hrun:(execOp a.eval o).run P w = .ok (.enter f args) w)
  (hc:Calls P f args w fun x w1 => ∃ v,x = .returned v∧Only T w w1∧wpAnyH P .any ops Q (Only T w1) fuel (listed.setIfInBounds e true) (a.put o.dst v) w1) :
  wpAnyH P .any ops Q (Only T w) (fuel + 1) listed a w:=by
 refine wpAnyH_all hr (by simp) (fun i hi => ?_)
 simp only [List.mem_singleton] at hi
 subst hi
 unfold wpOp
 simp only [ho,hw,if_true]
 refine .inl ?_
 unfold Oper.wp
 rw [hrun]
 simp only [Oper.upon]
 refine hc.mono ?_
 rintro x w1 ⟨v,rfl,hO,h⟩
 exact ⟨hO,wpAnyH_mono (fun w2 h2 => hO.trans h2) _ _ _ _ h⟩
theorem region_make {T:List Nat} (e:Nat) {listed:Array Bool} {fuel:Nat} {a:Act} {w w1:World} {o:Oper} {v:Value} (hr:Region.ready .any ops listed = [e])
  (ho:ops[e]? = some o) (hw:Region.wanted o (yielded ops a.tmps) = true) (hrun:(execOp a.eval o).run P w = .ok (.value v) w1) (hO:Only T w w1)
  (h:wpAnyH P .any ops Q (Only T w1) fuel (listed.setIfInBounds e true) (a.put o.dst v) w1) :
  wpAnyH P .any ops Q (Only T w) (fuel + 1) listed a w:=by
 refine wpAnyH_all hr (by simp) (fun i hi => ?_)
 simp only [List.mem_singleton] at hi
 subst hi
 unfold wpOp
 simp only [ho,hw,if_true]
 refine .inl ?_
 unfold Oper.wp
 rw [hrun]
 simp only [Oper.upon]
 exact ⟨hO,wpAnyH_mono (fun w2 h2 => hO.trans h2) _ _ _ _ h⟩
theorem region_store {T:List Nat} (e:Nat) {listed:Array Bool} {fuel:Nat} {a:Act} {w w1:World} {o:Oper} (hr:Region.ready .any ops listed = [e])
  (ho:ops[e]? = some o) (hw:Region.wanted o (yielded ops a.tmps) = true) (hrun:(execOp a.eval o).run P w = .ok .skip w1) (hO:Only T w w1)
  (h:wpAnyH P .any ops Q (Only T w1) fuel (listed.setIfInBounds e true) (a.put o.dst undef) w1) :
  wpAnyH P .any ops Q (Only T w) (fuel + 1) listed a w:=by
 refine wpAnyH_all hr (by simp) (fun i hi => ?_)
 simp only [List.mem_singleton] at hi
 subst hi
 unfold wpOp
 simp only [ho,hw,if_true]
 refine .inl ?_
 unfold Oper.wp
 rw [hrun]
 simp only [Oper.upon]
 exact ⟨hO,wpAnyH_mono (fun w2 h2 => hO.trans h2) _ _ _ _ h⟩
theorem region_end {S:World→Prop} {fuel:Nat} {listed:Array Bool} {a:Act} {w:World} (hr:Region.ready .any ops listed = []) (h:Q .normal a w):wpAnyH P .any ops Q S fuel listed a w :=
 wpAnyH_done hr h fuel
end
end
section
open Go.RowKit
theorem Only.shed {S T:List Nat} {w w':World} (h:Only T w w') (hT:∀ i,i ∈ T→i ∈ S ∨ w.heap.size≤i):Only S w w':=(Only.refl S w).join h hT
section
variable {P:Program} {ops:Array Oper} {Q:Exit→Act→World→Prop}
theorem op_make {T:List Nat} {e:Nat} {listed:Array Bool} {fuel:Nat} {a:Act} {w w1:World} {o:Oper} {v:Value}
  (ho:ops[e]? = some o) (hw:Region.wanted o (yielded ops a.tmps) = true) (hrun:(execOp a.eval o).run P w = .ok (.value v) w1) (hO:Only T w w1)
  (h:wpAnyH P .any ops Q (Only T w1) fuel (listed.setIfInBounds e true) (a.put o.dst v) w1) :
  wpOp P ops Q e (fun a' w' => Only T w w'∧wpAnyH P .any ops Q (Only T w) fuel (listed.setIfInBounds e true) a' w') a w:=by
 unfold wpOp
 simp only [ho,hw,if_true]
 refine .inl ?_
 unfold Oper.wp
 rw [hrun]
 simp only [Oper.upon]
 exact ⟨hO,wpAnyH_mono (fun w2 h2 => hO.trans h2) _ _ _ _ h⟩
theorem exec_append {w w':World} {s x:Operand} {t:TypeId} {o:Oper} {a:Act} {v v':Value} {A:Option Addr} {m c:Nat} (ho:o.op = .call { callee:=.builtin .append,args:=#[s,x],argTypes:=#[t,t] })
  (hs:a.eval s = v) (hx:a.eval x = .slice A m c) (hrun:(Builtin.append_ #[t,t] o.type #[v,.slice A m c]).run P w = .ok v' w'):(execOp a.eval o).run P w = .ok (.value v') w':=by
 unfold execOp
 simp only [ho,resolve,invoke,builtin,Sem.run_bind,Sem.run_pure,Result.andThen_ok,List.map_toArray,List.map_cons,List.map_nil,hs,hx,hrun]
theorem region_rowAppend_at {T:List Nat} (k:Nat) {listed:Array Bool} {fuel:Nat} {a:Act} {w:World} {o:Oper} (hr:Region.ready .any ops listed = [k])
  (ho:ops[k]? = some o) (hw:Region.wanted o (yielded ops a.tmps) = true) (s x:Operand) (t:TypeId) (hop:o.op = .call { callee:=.builtin .append,args:=#[s,x],argTypes:=#[t,t] })
  (e:TypeId) (i:TypeInfo) (z:Value) (bytes:Nat) (ht:P.underlying t = some (.slice e)) (hi:P.info? e = some i) (hz:i.zero = some z)
  (hsize:i.size = 1) (hby:i.bytes = bytes) (hzs:z.cells.size = 1) (A:Option Addr) (n c:Nat) (xs:List Value) (hs:a.eval s = .slice A n c) (hA:RowAt w e A n c xs)
  (B:Nat) (X:Option Addr) (m d:Nat) (news:List Value) (hx:a.eval x = .slice X m d) (hrd:Reads w B X m news) (h1:∀ u ∈ news,u.oneCell' = true)
  (h63:n + m≤maxLen) (hbytes:(n + m) * bytes≤140737488355328) (N:Nat) (hN:N = n + m) (hT:∀ g,g ∈ rowT A→g ∈ T)
  (h:∀ A' c' w',Hid (RowAt w' e A' N c' (xs ++ news))→Only (rowT A) w w'→Hid (∀ k,k ∈ rowT A'→k ∈ rowT A ∨ k = w.heap.size)→Only T w w' →
   wpAnyH P .any ops Q (Only T w') fuel (listed.setIfInBounds k true) (a.put o.dst (.slice A' N c')) w') :
  wpAnyH P .any ops Q (Only T w) (fuel + 1) listed a w:=by
 subst hN
 obtain ⟨A',c',w',hrun,h2,h3,h4⟩  :=row_append_at (P:=P) o.type ht hi hz hsize hby hzs hA d hrd h1 h63 hbytes
 exact region_make k hr ho hw (exec_append hop hs hx hrun) (h3.more hT) (h A' c' w' h2 h3 h4 (h3.more hT))
end
end
section
theorem end_low (k:Nat):∀ b,b ∈ endL k→¬ (65≤b.toNat∧b.toNat≤90):=by
 unfold endL
 split <;> intro b hb <;> simp [styleL,scriptL] at hb <;> rcases hb with rfl | rfl | rfl | rfl | rfl | rfl | rfl | rfl <;> decide
theorem end_len (k:Nat):(endL k).length≤8:=by unfold endL;split <;> simp [styleL,scriptL]
theorem Inv.part {s:HS} (h:Inv s):s.p.length≤7∧∀ b,b ∈ s.p→¬ (65≤b.toNat∧b.toNat≤90):=by
 have key:∀ q:List UInt8,s.p = q→q.length≤7→(q.all fun b => decide (¬ (65≤b.toNat∧b.toNat≤90))) = true→s.p.length≤7∧∀ b,b ∈ s.p→¬ (65≤b.toNat∧b.toNat≤90):=fun q e h1 h2 => by
  rw [e]
  exact ⟨h1,fun b hb => of_decide_eq_true (List.all_eq_true.1 h2 b hb)⟩
 rcases Nat.lt_or_ge s.c 16 with h16 | h16
 ·rcases Nat.lt_or_ge s.c 13 with h13 | h13
  ·rcases Nat.eq_zero_or_pos s.c with h0 | h0
   ·rcases h.p0 h0 with e | e | e | e | e <;> exact key _ e (by decide) (by decide)
   ·exact key _ (h.p1 ⟨h0,by omega⟩) (by decide) (by decide)
  ·by_cases h13e:s.c = 13
   ·rcases h.p13 h13e with e | e | e <;> exact key _ e (by decide) (by decide)
   ·exact key _ (h.p14 (by omega)) (by decide) (by decide)
 ·rcases h.p16 h16 with e | e | e
  ·exact key _ e (by decide) (by decide)
  ·exact key _ e.1 (by decide) (by decide)
  ·have:=end_len s.c
   refine ⟨by omega,fun b hb => ?_⟩
   rw [e.2.2] at hb
   exact end_low s.c b (List.mem_of_mem_take hb)
end
section
open NT
def isDef (t:NT):Bool:=t.k == 6
def defsN (l:List NT):List NT:=l.filter isDef
def mainN (l:List NT):List NT:=l.filter fun t => !isDef t
def namesN (l:List NT):List ByteArray:=(defsN l).map NT.s
mutual
def callN:NT→List NT
 | .mk k a s p h e A c b B d l => (if k = 4 then [.mk k a s p h e A c b B d l] else []) ++ (callNs b ++ callNs l)
def callNs:List NT→List NT
 | [] => []
 | x :: r => callN x ++ callNs r
end
theorem callN_eq (t:NT):callN t = (if t.k = 4 then [t] else []) ++ (callNs t.b ++ callNs t.l):=by cases t;rw [callN];rfl
theorem callNs_nil:callNs [] = []:=by simp [callNs]
theorem callNs_cons (x:NT) (r:List NT):callNs (x :: r) = callN x ++ callNs r:=by simp [callNs]
theorem callNs_append:∀ l m:List NT,callNs (l ++ m) = callNs l ++ callNs m
 | [],m => by simp [callNs_nil]
 | x :: l,m => by rw [List.cons_append,callNs_cons,callNs_cons,callNs_append l m,List.append_assoc]
def isDefOf (n:ByteArray) (t:NT):Bool:=t.k == 6 && decide (t.s = n)
def findN (l:List NT) (n:ByteArray):Option NT:=l.find? (isDefOf n)
theorem findN_some {l:List NT} {n:ByteArray} {t:NT} (h:findN l n = some t):t ∈ l∧t.k = 6∧t.s = n:=by
 have h1:=List.find?_some h
 unfold isDefOf at h1
 rw [Bool.and_eq_true,beq_iff_eq,decide_eq_true_eq] at h1
 exact ⟨List.mem_of_find?_eq_some h,h1.1,h1.2⟩
theorem mem_names {l:List NT} {n:ByteArray}:n ∈ namesN l ↔ ∃ t,t ∈ l∧t.k = 6∧t.s = n:=by
 unfold namesN defsN isDef
 simp only [List.mem_map,List.mem_filter,beq_iff_eq]
 constructor
 ·rintro ⟨t,⟨h1,h2⟩,h3⟩;exact ⟨t,h1,h2,h3⟩
 ·rintro ⟨t,h1,h2,h3⟩;exact ⟨t,⟨h1,h2⟩,h3⟩
theorem findN_of_mem {l:List NT} {n:ByteArray} (h:n ∈ namesN l):∃ t,findN l n = some t:=by
 cases hf:findN l n with
 | some t => exact ⟨t,rfl⟩
 | none =>
  obtain ⟨t,h1,h2,h3⟩:=mem_names.1 h
  have:=List.find?_eq_none.1 hf t h1
  unfold isDefOf at this
  simp [h2,h3] at this
def hasN (l:List ByteArray) (n:ByteArray):Bool:=l.any fun m => decide (m = n)
theorem hasN_iff {l:List ByteArray} {n:ByteArray}:hasN l n = true ↔ n ∈ l:=by
 unfold hasN
 rw [List.any_eq_true]
 constructor
 ·rintro ⟨m,hm,h⟩;rw [← of_decide_eq_true h];exact hm
 ·intro h;exact ⟨n,h,by simp⟩
def dupN:List ByteArray→List NT→Option (Int × Nat)
 | _,[] => none
 | seen,t :: r => if hasN seen t.s = true then some (t.a,12) else if seen.length = 64 then some (t.a,14) else dupN (seen ++ [t.s]) r
def badCall (l:List NT) (t:NT):Bool:=!hasN (namesN l) t.s
def checkN (l:List NT):Int × Nat :=
 match dupN [] (defsN l) with
 | some r => r
 | none => match (callNs l).find? (badCall l) with
  | some t => (t.a,11)
  | none => (0,0)
theorem dupN_none:∀ (r:List NT) (seen:List ByteArray),dupN seen r = none→seen.Nodup→(seen ++ r.map NT.s).Nodup
 | [],seen,_,hn => by simpa using hn
 | t :: r,seen,h,hn => by
  rw [dupN] at h
  by_cases h1:hasN seen t.s = true
  ·rw [if_pos h1] at h;cases h
  rw [if_neg h1] at h
  split at h
  ·cases h
  have hn2:(seen ++ [t.s]).Nodup:=by
   rw [List.nodup_append]
   exact ⟨hn,by simp,by intro a ha b hb;simp at hb;subst hb;intro e;subst e;exact h1 (hasN_iff.2 ha)⟩
  have:=dupN_none r _ h hn2
  rw [List.append_assoc] at this
  exact this
theorem checkN_ok {l:List NT} {a:Int} (h:checkN l = (a,0)):(namesN l).Nodup∧∀ t,t ∈ callNs l→t.s ∈ namesN l:=by
 unfold checkN at h
 cases hd:dupN [] (defsN l) with
 | some r =>
  rw [hd] at h
  exfalso
  have key:∀ (q:List NT) (seen:List ByteArray) (b:Int),dupN seen q ≠ some (b,0):=by
   intro q
   induction q with
   | nil => intro seen b e;cases e
   | cons t q ih =>
    intro seen b e
    unfold dupN at e
    split at e
    ·cases e
    split at e
    ·cases e
    exact ih _ _ e
  dsimp only at h
  rw [h] at hd
  exact key _ _ _ hd
 | none =>
  rw [hd] at h
  dsimp only at h
  have hn:=dupN_none _ _ hd (by simp)
  rw [List.nil_append] at hn
  refine ⟨hn,fun t ht => ?_⟩
  cases hf:(callNs l).find? (badCall l) with
  | some t' => rw [hf] at h;cases h
  | none =>
   have:=List.find?_eq_none.1 hf t ht
   unfold badCall at this
   rw [Bool.not_eq_true,Bool.not_eq_false'] at this
   exact hasN_iff.1 this
structure DirOf (D:List UInt8) (t:Tok):Prop where
 len:4≤D.length
 start:find2 123 D = some 0
 stop:find2 125 (D.drop 2) = some (D.length - 4)
 tok:dirOf (words ((D.drop 2).take (D.length - 4))) = .ok t
theorem DirOf.lx {D:List UInt8} {t:Tok} (h:DirOf D t) {r:List UInt8} {a:Nat} {ts:List Tok} (hr:Lx r (a + D.length) ts):Lx (D ++ r) a ({ t with a:=a } :: ts):=by
 have hl:=h.len
 refine Lx.dir (D ++ r) a (D.length - 4) t ts (find2_append_some h.start r) ?_ ?_ ?_
 ·rw [List.drop_append_of_le_length (by omega)]
  exact find2_append_some h.stop r
 ·rw [List.drop_append_of_le_length (by omega),List.take_append_of_le_length (by simp;omega)]
  exact h.tok
 ·rw [show D.length - 4 + 4 = D.length by omega,List.drop_left]
  exact hr
def dirB (D:List UInt8) (t:Tok):Bool:=decide (4≤D.length) && (decide (find2 123 D = some 0) && (decide (find2 125 (D.drop 2) = some (D.length - 4)) && (match dirOf (words ((D.drop 2).take (D.length - 4))) with | .ok u => decide (u = t) | .error _ => false)))
theorem dirB_of {D:List UInt8} {t:Tok} (h:dirB D t = true):DirOf D t:=by
 unfold dirB at h
 simp only [Bool.and_eq_true,decide_eq_true_eq] at h
 obtain ⟨h1,h2,h3,h4⟩:=h
 refine ⟨h1,h2,h3,?_⟩
 split at h4
 ·rename_i u hu
  rw [hu,of_decide_eq_true h4]
 ·cases h4
theorem end_dir:DirOf enL ⟨8,0,[],[],false⟩:=dirB_of (by decide +kernel)
end
section
open Go.RowKit Go.BigFrame
namespace NT
abbrev Lt (w:World):Nat→Prop:=fun g => g < w.heap.size
theorem Row.bel {w w':World} {A:Option Addr} {c:Nat} {l:List NT} (h:Row w (Lt w) A c l) (hb:Bel w w'):Row w' (Lt w') A c l :=
 h.same (fun _ hg => Nat.lt_of_lt_of_le hg hb.size) fun g p hg => hb.cell hg
theorem In.bel {w w':World} {t:NT} (h:t.In w (Lt w)) (hb:Bel w w'):t.In w' (Lt w') :=
 h.same (fun _ hg => Nat.lt_of_lt_of_le hg hb.size) fun g p hg => hb.cell hg
theorem Row.cells {w:World} {A:Option Addr} {c:Nat} {l:List NT} (h:Row w (Lt w) A c l) {i:Nat} {x:NT} (hx:l[i]? = some x) :
  ∃ g o,A = some ⟨g,o,none⟩∧g < w.heap.size∧∀ W,Bel w W→W.cell? ⟨g,o + i * 8,none⟩ = some (.int .i64 x.k)∧W.cell? ⟨g,o + i * 8 + 1,none⟩ = some (.int .i64 x.a)∧W.cell? ⟨g,o + i * 8 + 2,none⟩ = some (.string x.s)∧W.cell? ⟨g,o + i * 8 + 3,none⟩ = some (.string x.p) ∧
   W.cell? ⟨g,o + i * 8 + 4,none⟩ = some (.bool x.h)∧W.cell? ⟨g,o + i * 8 + 5,none⟩ = some (.bool x.e)∧W.cell? ⟨g,o + i * 8 + 6,none⟩ = some (.slice x.A x.b.length x.c)∧W.cell? ⟨g,o + i * 8 + 7,none⟩ = some (.slice x.B x.l.length x.d):=by
 obtain ⟨g,o,e1,hg,hc,_⟩:=h.at_ hx
 refine ⟨g,o,e1,hg,fun W hb => ?_⟩
 exact (hc.same (w':=W) fun p => hb.cell hg).all
theorem Row.len {w:World} {Q:Nat→Prop} {A:Option Addr} {c:Nat} {l:List NT} (h:Row w Q A c l):l.length≤1353245080300:=by
 have:=h.1.1.2.2
 unfold reachBytes at this
 omega
theorem cells8 {w:World} {g:Nat} {T:TypeId} {a0 a1 a2 a3 a4 a5 a6 a7:Value} (h:Blk w g T [a0,a1,a2,a3,a4,a5,a6,a7]) :
  w.cell? ⟨g,0,none⟩ = some a0∧w.cell? ⟨g,1,none⟩ = some a1∧w.cell? ⟨g,2,none⟩ = some a2∧w.cell? ⟨g,3,none⟩ = some a3∧w.cell? ⟨g,4,none⟩ = some a4∧w.cell? ⟨g,5,none⟩ = some a5∧w.cell? ⟨g,6,none⟩ = some a6∧w.cell? ⟨g,7,none⟩ = some a7 :=
 ⟨h.cell 0,h.cell 1,h.cell 2,h.cell 3,h.cell 4,h.cell 5,h.cell 6,h.cell 7⟩
end NT
theorem blk_at1 (w:World) (o:Obj) (T:TypeId) (L:List Value):Blk ((w.alloc o).alloc (.cells L.toArray T)) (w.heap.size + 1) T L:=by
 have:=Blk.new (w.alloc o) T L
 rwa [show (w.alloc o).heap.size = w.heap.size + 1 by simp] at this
theorem Blk.bel {w w':World} {g:Nat} {t:TypeId} {cs:List Value} (h:Blk w g t cs) (hb:Bel w w'):Blk w' g t cs:=h.below hb h.lt
end
section
open Go.RowKit Go.BigFrame NT
theorem block_c (k:Int) (w:World):Calls Tryz.prog 89 #[.int .i64 k] w fun e w' => e = .returned (.bool (blkI k))∧w' = w:=by
 by_cases h2:k = 2
 ·subst h2
  go_enter Tryz.func89,Tryz.ntmps89
  go_wp2_with fail
  go_ret
  exact ⟨rfl,rfl⟩
 by_cases h3:k = 3
 ·subst h3
  go_enter Tryz.func89,Tryz.ntmps89
  go_wp2_with fail
  go_ret
  exact ⟨rfl,rfl⟩
 by_cases h6:k = 6
 ·subst h6
  go_enter Tryz.func89,Tryz.ntmps89
  go_wp2_with fail
  go_ret
  exact ⟨rfl,rfl⟩
 have e2:(k == 2) = false:=by simpa using h2
 have e3:(k == 3) = false:=by simpa using h3
 have e6:(k == 6) = false:=by simpa using h6
 have hb:blkI k = false:=by unfold blkI;rw [e2,e3,e6];rfl
 have HB:=hid hb
 clear hb
 go_enter Tryz.func89,Tryz.ntmps89
 go_wp2_with fail
 go_ret
 exact ⟨by rw [HB.out];rfl,rfl⟩
end
end Go.Proofs.YtpcapmdfjmpdiaaGreatDoor
