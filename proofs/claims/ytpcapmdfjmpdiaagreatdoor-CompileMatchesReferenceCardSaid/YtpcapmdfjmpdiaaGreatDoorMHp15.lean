/- Contracts: value.Split -/
import Derived.Test.YtpcapmdfjmpdiaaGreatDoorMName
import Derived.Test.YtpcapmdfjmpdiaaGreatDoorMKRow
import Derived.Test.YtpcapmdfjmpdiaaGreatDoorShelf
import Derived.Deep.QuietTactic
import Derived.BigQuiet
set_option linter.unusedVariables false
set_option linter.unusedSimpArgs false
set_option maxRecDepth 100000
set_option maxHeartbeats 1600000
open Go.Lib (hid)
namespace Go.Proofs.YtpcapmdfjmpdiaaGreatDoor
section
open Go.RowKit Go.BigFrame
def Bel (w w':World):Prop:=Below w.heap.size w w'
theorem Bel.refl (w:World):Bel w w:=Below.refl _ _
theorem Bel.trans {w w1 w2:World} (h1:Bel w w1) (h2:Bel w1 w2):Bel w w2:=Below.trans h1 (Below.mono h2 (Below.size h1))
theorem Bel.size {w w':World} (h:Bel w w'):w.heap.size≤w'.heap.size:=Below.size h
theorem Bel.alloc (w:World) (o:Obj):Bel w (w.alloc o):=(Below.refl _ _).alloc (Nat.le_refl _) _
theorem Bel.cell {w w':World} (h:Bel w w') {b o:Nat} (hb:b < w.heap.size):w'.cell? ⟨b,o,none⟩ = w.cell? ⟨b,o,none⟩:=Below.cell (p:=⟨b,o,none⟩) h hb
theorem Bel.draw (w:World) (n:Nat):Bel w (w.drewN n):=by
 induction n with
 | zero => exact Below.refl _ _
 | succ n ih => exact ih.drew
def MX (w:World):Prop:=1 < w.heap.size∧∃ m,w.cell? ⟨1,0,none⟩ = some (.int .i64 m)
theorem MX.bel {w w':World} (h:MX w) (hb:Bel w w'):MX w':=by
 obtain ⟨h1,m,h2⟩:=h
 exact ⟨Nat.lt_of_lt_of_le h1 hb.size,m,(hb.cell h1).trans h2⟩
def Strs (w:World) (A:Option Addr) (l:List ByteArray):Prop :=
 l = [] ∨ ∃ g o,A = some ⟨g,o,none⟩∧g < w.heap.size∧∀ i,i < l.length→w.cell? ⟨g,o + i,none⟩ = some (.string (l.getD i ByteArray.empty))
theorem Strs.bel {w w':World} {A:Option Addr} {l:List ByteArray} (h:Strs w A l) (hb:Bel w w'):Strs w' A l:=by
 rcases h with h | ⟨g,o,h1,h2,h3⟩
 ·exact .inl h
 ·exact .inr ⟨g,o,h1,Nat.lt_of_lt_of_le h2 hb.size,fun i hi => (hb.cell h2).trans (h3 i hi)⟩
theorem splitN_c (s:ByteArray) (w:World) (hT:MX w) (hs:s.size < 4294967281) :
  Calls Tryz.prog 72 #[.string s,.string ⟨#[46]⟩,.int .i64 9] w fun e w' =>
   e = .returned (.slice (some ⟨w.heap.size,0,none⟩) (Lib.splitB dot 0 (min 9 (s.size + 1) - 1) s).length (min 9 (s.size + 1)))∧w' = w.alloc (.cells (Lib.cellsOf (Lib.splitB dot 0 (min 9 (s.size + 1) - 1) s) (min 9 (s.size + 1))) 9):=by
 obtain ⟨_,m,hm⟩:=hT
 exact Any.strings_SplitN Tryz.laysSN (by kernel_rfl) s dot 9 m w hs hm (by decide) (by decide) (by decide)
end
section
open Go.RowKit Go.BigFrame
def SplitPost (s:ByteArray) (w:World) (e:Ending) (w':World):Prop :=
 Bel w w'∧match pathOf s with
  | some l => ∃ A c,e = .returned (.tuple #[.slice A l.length c,.int .i64 0])∧Strs w' A l∧(∀ a,A = some a→w.heap.size≤a.block)∧l.length≤8∧∀ k,k ∈ l→nameB k = true
  | none => e = .returned (.tuple #[.slice none 0 0,.int .i64 11])
theorem pathOf_empty {s:ByteArray} (h:s.size = 0):pathOf s = some []:=by unfold pathOf;rw [if_pos h]
theorem pathOf_long {s:ByteArray} (h:s.size ≠ 0) (hl:8 < (parts (toL s)).length):pathOf s = none:=by
 unfold pathOf;rw [if_neg h,if_neg];rintro ⟨h1,_⟩;omega
theorem pathOf_bad {s:ByteArray} (h:s.size ≠ 0) {p:List UInt8} (hp:p ∈ parts (toL s)) (hn:nameL p = false):pathOf s = none:=by
 unfold pathOf;rw [if_neg h,if_neg];rintro ⟨_,h1⟩
 have:=List.all_eq_true.1 h1 p hp
 rw [hn] at this;cases this
theorem pathOf_good {s:ByteArray} (h:s.size ≠ 0) (hl:(parts (toL s)).length≤8) (ha:(parts (toL s)).all nameL = true):pathOf s = some ((parts (toL s)).map ofL):=by
 unfold pathOf;rw [if_neg h,if_pos ⟨hl,ha⟩]
theorem cells_row (w:World) (T:TypeId) (L:List ByteArray) (n:Nat) (hL:L.length≤n):∀ i,i < L.length→(w.alloc (.cells (Lib.cellsOf L n) T)).cell? ⟨w.heap.size,i,none⟩ = some (.string (L.getD i ByteArray.empty)):=by
 intro i hi
 have hc:(Lib.cellsOf L n)[i]? = some (Value.string (L.getD i ByteArray.empty)):=by
  unfold Lib.cellsOf
  rw [List.getElem?_toArray,List.getElem?_append_left (by simpa using hi),List.getElem?_map,List.getElem?_eq_getElem hi,List.getD_eq_getElem?_getD,List.getElem?_eq_getElem hi]
  rfl
 rw [World.cell?_alloc_new]
 exact hc
theorem L_parts {L:List ByteArray} {p:List (List UInt8)} (h:L.map toL = p):L = p.map ofL:=by
 rw [← h,List.map_map]
 conv => lhs;rw [← List.map_id L]
 exact List.map_congr_left fun x _ => (ofL_toL x).symm
theorem all_names {L:List ByteArray} (h:∀ j,j < L.length→nameB (L.getD j ByteArray.empty) = true):∀ k,k ∈ L→nameB k = true:=by
 intro k hk
 obtain ⟨j,hj,rfl⟩:=List.getElem_of_mem hk
 have:=h j hj
 rwa [List.getD_eq_getElem?_getD,List.getElem?_eq_getElem hj] at this
theorem part_le:∀ (l:List UInt8) (p:List UInt8),p ∈ parts l→p.length≤l.length:=by
 intro l
 induction l with
 | nil => intro p hp;simp [parts] at hp;subst hp;exact Nat.le_refl _
 | cons c l ih =>
  intro p hp
  by_cases h:c = 46
  ·subst h
   simp [parts] at hp
   rcases hp with rfl | hp
   ·exact Nat.zero_le _
   ·have:=ih p hp;simp;omega
  ·obtain ⟨q,qs,h1,h2⟩:=parts_cons (l:=l) h
   rw [h2] at hp
   rcases List.mem_cons.1 hp with rfl | hp
   ·have:=ih q (by rw [h1];simp);simp;omega
   ·have:=ih p (by rw [h1];simp [hp]);simp;omega
theorem split_c (s:ByteArray) (w:World) (hT:MX w) (hs:s.size < 4294967281) :
  Calls Tryz.prog 49 #[.string s] w (SplitPost s w):=by
 by_cases h0:s.size = 0
 ·have HP:=hid (pathOf_empty h0)
  have hz:=empty_of h0
  clear h0
  go_enter Tryz.func49,Tryz.ntmps49
  go_wp2_with fail
  go_ret2
  unfold SplitPost
  rw [HP.out]
  exact ⟨Bel.refl _,none,0,rfl,.inl rfl,by simp,by simp,by simp⟩
 have hz:=empty_not h0
 have hH0:=hid h0
 clear h0
 have hC:=splitN_c s w hT hs
 obtain ⟨hp1,hp2⟩:=split_parts (min 9 (s.size + 1) - 1) s
 have hpl:=parts_len (toL s)
 rw [toL_len] at hpl
 have HLL:Hid ((Lib.splitB dot 0 (min 9 (s.size + 1) - 1) s).length≤min 9 (s.size + 1)):=hid (by rw [hp2];omega)
 generalize hL:Lib.splitB dot 0 (min 9 (s.size + 1) - 1) s = L at hC hp1 hp2 HLL
 clear hL
 by_cases h8:8 < L.length
 ·have HP:=hid (pathOf_long hH0.out (by omega))
  have h8':(8:Int) < (L.length:Int):=by omega
  have HC:=hid hC
  clear hC hp1 hp2 HLL h8
  go_enter Tryz.func49,Tryz.ntmps49
  go_wp2_with (go_at_call 72;refine HC.out.mono ?_;rintro e w' ⟨rfl,rfl⟩)
  go_ret2
  unfold SplitPost
  rw [HP.out]
  exact ⟨Bel.alloc _ _,rfl⟩
 have h8':¬ (8:Int) < (L.length:Int):=by omega
 have hpe:=hp1 (by omega)
 have HC:=hid hC
 have HE:=hid hpe
 have hl8:L.length≤8:=by omega
 have HR:=hid (cells_row w 9 L (min 9 (s.size + 1)) HLL.out)
 clear hC hp1 hp2 h8 hpe hpl
 go_enter Tryz.func49,Tryz.ntmps49
 go_wp2_with (go_at_call 72;refine HC.out.mono ?_;rintro e w' ⟨rfl,rfl⟩)
 go_loop [16] (fun i => ∃ k:Nat,k≤L.length∧i = .int .i64 k∧Hid (∀ j,j < k→nameB (L.getD j ByteArray.empty) = true)) (fun i => L.length - (intOf i).toNat)
 case atStart => exact ⟨0,Nat.zero_le _,rfl,hid (fun j hj => absurd hj (Nat.not_lt_zero _))⟩
 case round =>
  obtain ⟨k,hk,rfl,HA⟩:=hrel
  by_cases hlt:k < L.length
  ·have hcell:=HR.out k hlt
   have hmem:toL (L.getD k ByteArray.empty) ∈ parts (toL s):=by
    rw [← HE.out,List.getD_eq_getElem?_getD,List.getElem?_eq_getElem hlt]
    exact List.mem_map_of_mem (List.getElem_mem hlt)
   have hsz:(L.getD k ByteArray.empty).size≤maxLen:=by
    have:=part_le _ _ hmem
    rw [toL_len,toL_len] at this
    unfold maxLen;omega
   have HM:=hid hmem
   have HSTEP:Hid (nameB (L.getD k ByteArray.empty) = true→∀ j,j < k + 1→nameB (L.getD j ByteArray.empty) = true):=hid fun h j hj => by
    by_cases e:j = k
    ·subst e;exact h
    ·exact HA.out j (by omega)
   clear hmem
   generalize L.getD k ByteArray.empty = nm at hcell hsz HM HSTEP
   have HN:=hid (isName_c nm hsz)
   cases hn:nameB nm with
   | true =>
    have HA2:=hid (HSTEP.out hn)
    rw [hn] at HN
    clear hn hsz
    go_wp2_with (go_at_call 73;refine (HN.out _).mono ?_;rintro e w' ⟨rfl,rfl⟩)
    go_round
    case rel => exact ⟨k + 1,by omega,by go_num,HA2⟩
    case measure => simp [intOf];omega
   | false =>
    have HP:=hid (pathOf_bad hH0.out HM.out hn)
    rw [hn] at HN
    clear hn hsz
    go_wp2_with (go_at_call 73;refine (HN.out _).mono ?_;rintro e w' ⟨rfl,rfl⟩)
    go_ret2
    unfold SplitPost
    rw [HP.out]
    exact ⟨Bel.alloc _ _,rfl⟩
  ·obtain rfl:L.length = k:=by omega
   have hall:=all_names HA.out
   have hp:pathOf s = some L:=by
    rw [pathOf_good hH0.out (by rw [← HE.out,List.length_map];omega) (by rw [← HE.out,List.all_map,List.all_eq_true];exact hall),← L_parts HE.out]
   have HP:=hid hp
   have HALL:=hid hall
   clear hp hall
   go_wp2_with fail
   go_ret2
   unfold SplitPost
   rw [HP.out]
   exact ⟨Bel.alloc _ _,_,_,rfl,.inr ⟨w.heap.size,0,rfl,by simp,fun i hi => by rw [Nat.zero_add];exact HR.out i hi⟩,fun a ha => by cases ha;exact Nat.le_refl _,hl8,HALL.out⟩
end
section
open Go.RowKit Go.BigFrame
attribute [local go_sem ↓] sliced_cut run_min2 run_max2
attribute [local go_sem] cutA_zero
theorem bel_of_only {w w':World} (h:Only [] w w'):Bel w w':=h.to_below (Nat.le_refl _) (by simp)
def vss (l:List ByteArray):List Value:=l.map Value.string
theorem vss_append (a b:List ByteArray):vss (a ++ b) = vss a ++ vss b:=List.map_append
theorem strs_of_row {w:World} {A:Option Addr} {n c:Nat} {l:List ByteArray} (h:RowAt w 9 A n c (vss l)):Strs w A l:=by
 by_cases h0:l = []
 ·exact .inl h0
 ·have hl:0 < l.length:=List.length_pos_iff.2 h0
  obtain ⟨g,o,rfl,_⟩:=h.cell (j:=0) (u:=.string l[0]) (by simp [vss,List.getElem?_eq_getElem hl])
  have hg:=h.lt g (by simp [rowT])
  refine .inr ⟨g,o,rfl,hg,fun i hi => ?_⟩
  obtain ⟨g',o',e,hc⟩:=h.cell (j:=i) (u:=.string (l.getD i ByteArray.empty)) (by simp [vss,List.getElem?_eq_getElem hi])
  simp only [Option.some.injEq,Addr.mk.injEq,and_true] at e
  obtain ⟨rfl,rfl⟩:=e
  exact hc
theorem info_str:(Tryz.prog.info? 9).map (fun i => (i.zero,i.size,i.bytes)) = some (some (.string ByteArray.empty),1,16):=by kernel_rfl
theorem wp_appendS {w:World} {ops:Array Oper} {rest:List Oper} {o:Oper} {a:Act} {Q:Exit→Act→World→Prop} (hgd:o.guard = none) (s x:Operand)
  (ho:o.op = .call { callee:=.builtin .append,args:=#[s,x],argTypes:=#[112,112] })
  (A:Option Addr) (n c:Nat) (zs:List ByteArray) (hs:a.eval s = .slice A n c) (hA:RowAt w 9 A n c (vss zs)) (g:Nat) (r:ByteArray) (hx:a.eval x = .slice (some ⟨g,0,none⟩) 1 1)
  (hb:Blk w g 9 [.string r]) (hn:n≤4000000)
  (h:∀ A' c' w',Hid (RowAt w' 9 A' (n + 1) c' (vss (zs ++ [r])))→Hid (Only (rowT A) w w')→Hid (∀ k,k ∈ rowT A'→k ∈ rowT A ∨ w.heap.size≤k)→wpList Tryz.prog ops Q rest (a.put o.dst (.slice A' (n + 1) c')) w') :
  wpList Tryz.prog ops Q (o :: rest) a w:=by
 obtain ⟨i0,hi,hz0,hz1,hz2⟩:=info_parts info_str
 have hr:=Reads.of_blk hb 0 1 (by simp) hb.lt
 refine wp_rowAppend hgd s x 112 ho 9 i0 _ 16 Tryz.underlying112 hi hz0 hz1 hz2 rfl A n c (vss zs) hs hA w.heap.size (some ⟨g,0,none⟩) 1 1 [.string r] hx hr (by simp [Value.oneCell']) (by unfold maxLen;omega) (by omega) (n + 1) rfl ?_
 intro A' c' w' h1 h2 h3
 refine h A' c' w' (hid ?_) (hid h2) h3
 have:=h1.out
 rw [vss_append]
 exact this
structure SpAt (s:ByteArray) (L:List ByteArray) (a i:Nat):Prop where
 le:a≤i
 top:i≤s.size
 eq:parts (toL s) = L.map toL ++ parts ((toL s).drop a)
 plain:∀ c ∈ ((toL s).drop a).take (i - a),c ≠ 46
theorem SpAt.start (s:ByteArray):SpAt s [] 0 0:=⟨Nat.le_refl _,Nat.zero_le _,by simp,by simp⟩
theorem SpAt.next {s:ByteArray} {L:List ByteArray} {a i:Nat} (h:SpAt s L a i) (hi:i < s.size) (hc:s[i] ≠ 46):SpAt s L a (i + 1):=by
 refine ⟨by have:=h.le;omega,hi,h.eq,fun c hcm => ?_⟩
 have e:i + 1 - a = (i - a) + 1:=by have:=h.le;omega
 rw [e,List.take_add_one,List.mem_append] at hcm
 rcases hcm with hcm | hcm
 ·exact h.plain c hcm
 ·rw [List.getElem?_drop,show a + (i - a) = i by have:=h.le;omega] at hcm
  have hg:=getElem_toList hi
  unfold toL at hcm
  rw [hg] at hcm
  simp at hcm
  subst hcm
  exact hc
theorem SpAt.piece {s:ByteArray} {L:List ByteArray} {a i:Nat} (h:SpAt s L a i):toL (s.extract a i) = ((toL s).drop a).take (i - a):=by
 rw [toL_extract,List.take_drop,show a + (i - a) = i by have:=h.le;omega]
theorem SpAt.dot {s:ByteArray} {L:List ByteArray} {a i:Nat} (h:SpAt s L a i) (hi:i < s.size) (hc:s[i] = 46) :
  parts (toL s) = (L ++ [s.extract a i]).map toL ++ parts ((toL s).drop (i + 1)):=by
 rw [List.map_append,List.map_singleton,h.piece,h.eq,List.append_assoc]
 congr 1
 have e:(toL s).drop a = ((toL s).drop a).take (i - a) ++ 46 :: (toL s).drop (i + 1):=by
  conv => lhs;rw [← List.take_append_drop (i - a) ((toL s).drop a)]
  rw [List.drop_drop,show a + (i - a) = i by have:=h.le;omega]
  congr 1
  have hl:i < (toL s).length:=hi
  rw [List.drop_eq_getElem_cons hl]
  congr 1
 conv => lhs;rw [e]
 exact parts_dot h.plain
theorem SpAt.stop {s:ByteArray} {L:List ByteArray} {a:Nat} (h:SpAt s L a s.size):parts (toL s) = (L ++ [s.extract a s.size]).map toL:=by
 rw [List.map_append,List.map_singleton,h.piece,h.eq]
 congr 1
 have e:((toL s).drop a).take (s.size - a) = (toL s).drop a:=List.take_of_length_le (by rw [List.length_drop,toL_len];exact Nat.le_refl _)
 have h1:=h.plain
 rw [e] at h1 ⊢
 exact parts_plain h1
theorem SpAt.dotted {s:ByteArray} {L:List ByteArray} {a i:Nat} (h:SpAt s L a i) (hi:i < s.size) (hc:s[i] = 46):SpAt s (L ++ [s.extract a i]) (i + 1) (i + 1) :=
 ⟨Nat.le_refl _,hi,h.dot hi hc,by simp⟩
theorem no_path_name {s nm:ByteArray} {L:List ByteArray} {r:List (List UInt8)} (hs:s.size ≠ 0) (h:parts (toL s) = (L ++ [nm]).map toL ++ r) (hn:nameB nm = false):pathOf s = none :=
 pathOf_bad hs (p:=toL nm) (by rw [h];simp) hn
theorem no_path_many {s nm:ByteArray} {L:List ByteArray} {r:List (List UInt8)} (hs:s.size ≠ 0) (h:parts (toL s) = (L ++ [nm]).map toL ++ r) (hn:L.length = 8):pathOf s = none :=
 pathOf_long hs (by rw [h];simp;omega)
end
section
open Go.RowKit Go.BigFrame
attribute [local go_sem ↓] sliced_cut run_min2 run_max2
attribute [local go_sem] cutA_zero
def SpRel (s:ByteArray) (w:World) (v4 v5 v6:Value) (wr:World):Prop :=
 ∃ (A:Option Addr) (c:Nat) (L:List ByteArray) (a i:Nat),v4 = .slice A L.length c∧v5 = .int .i64 a∧v6 = .int .i64 i∧RowAt wr 9 A L.length c (vss L)∧(∀ k,k ∈ rowT A→w.heap.size≤k)∧Only [] w wr ∧
  L.length≤8∧(∀ k,k ∈ L→nameB k = true)∧a≤s.size + 1∧i≤s.size + 1∧(SpAt s L a i ∨ (i = s.size + 1∧parts (toL s) = L.map toL))
theorem SpRel.start (s:ByteArray) (w:World):SpRel s w (.slice none 0 0) (.int .i64 0) (.int .i64 0) w :=
 ⟨none,0,[],0,0,rfl,rfl,rfl,RowAt.nil _ _,by simp [rowT],Only.refl _ _,Nat.zero_le _,by simp,Nat.zero_le _,Nat.zero_le _,.inl (SpAt.start s)⟩
theorem names_snoc {L:List ByteArray} {nm:ByteArray} (h:∀ k,k ∈ L→nameB k = true) (hn:nameB nm = true):∀ k,k ∈ L ++ [nm]→nameB k = true:=by
 intro k hk
 rcases List.mem_append.1 hk with hk | hk
 ·exact h k hk
 ·simp at hk;subst hk;exact hn
theorem SpRel.append {s:ByteArray} {w wr w1:World} {A A':Option Addr} {c':Nat} {L:List ByteArray} {i:Nat} {nm:ByteArray} (hk:∀ k,k ∈ rowT A→w.heap.size≤k) (hO:Only [] w wr)
  (hl:L.length≤7) (hN:∀ k,k ∈ L ++ [nm]→nameB k = true) (hi:i≤s.size) (hR:RowAt w1 9 A' (L.length + 1) c' (vss (L ++ [nm]))) (hO1:Only (rowT A) (wr.alloc (.cells #[.string nm] 9)) w1)
  (hk1:∀ k,k ∈ rowT A'→k ∈ rowT A ∨ (wr.alloc (.cells #[.string nm] 9)).heap.size≤k) (hs:SpAt s (L ++ [nm]) (i + 1) (i + 1) ∨ (i + 1 = s.size + 1∧parts (toL s) = (L ++ [nm]).map toL)) :
  SpRel s w (.slice A' (L.length + 1) c') (.int .i64 ((i:Int) + 1)) (.int .i64 ((i:Int) + 1)) w1:=by
 refine ⟨A',c',L ++ [nm],i + 1,i + 1,by simp,rfl,rfl,by simpa using hR,fun k hkk => ?_,?_,by simp;omega,hN,by omega,by omega,hs⟩
 ·rcases hk1 k hkk with h | h
  ·exact hk k h
  ·have:=hO.size;simp at h;omega
 ·exact (hO.alloc _).join hO1 fun k hkk => .inr (hk k hkk)
theorem refSplit_c (s:ByteArray) (w:World) (hs:s.size≤2000000) :
  Calls Tryz.prog 50 #[.string s] w (SplitPost s w):=by
 by_cases h0:s.size = 0
 ·have HP:=hid (pathOf_empty h0)
  have hz:=empty_of h0
  clear h0
  go_enter Tryz.func50,Tryz.ntmps50
  go_wp2_with fail
  go_ret2
  unfold SplitPost
  rw [HP.out]
  exact ⟨Bel.refl _,none,0,rfl,.inl rfl,by simp,by simp,by simp⟩
 have hz:=empty_not h0
 have hH0:=hid h0
 clear h0
 have HSTART:=SpRel.start s w
 go_enter Tryz.func50,Tryz.ntmps50
 go_wp2_with fail
 go_loopw [4,5,6] (fun v4 v5 v6 wr => SpRel s w v4 v5 v6 wr) (fun _ _ v6 _ => s.size + 2 - (intOf v6).toNat)
 case atStart => exact HSTART
 case round =>
  clear HSTART
  obtain ⟨A,c,L,a,i,rfl,rfl,rfl,hR,hk,hO,hl,hN,ha,hi,hst⟩:=hrel
  have HR:=hid hR
  have HO:=hid hO
  have HN:=hid hN
  have HK:=hid hk
  clear hR hO hN hk
  rcases hst with hst | ⟨hie,hp⟩
  ·have ha2:a≤i:=hst.le
   have hi2:i≤s.size:=hst.top
   have HS:=hid hst
   clear hst
   by_cases hlt:i < s.size
   ·by_cases hc:s[i] = 46
    ·have hne:¬ i = s.size:=by omega
     have hc1:((s[i].toNat:Int) == 46) = true:=by rw [hc];rfl
     have hEQ:=HS.out.dot hlt hc
     have HD:=hid (HS.out.dotted hlt hc)
     have hsz:(s.extract a i).size≤maxLen:=by unfold maxLen;simp;omega
     have HC:=hid (refName_c (s.extract a i) hsz)
     cases hn:nameB (s.extract a i) with
     | false =>
      have HP:=hid (no_path_name hH0.out hEQ hn)
      rw [hn] at HC
      clear hEQ hn hsz hc
      go_wp2_with (go_at_call 74;refine (HC.out _).mono ?_;rintro e w' ⟨rfl,rfl⟩)
      go_ret2
      unfold SplitPost
      rw [HP.out]
      exact ⟨bel_of_only HO.out,rfl⟩
     | true =>
      by_cases h8:L.length = 8
      ·have HP:=hid (no_path_many hH0.out hEQ h8)
       rw [hn] at HC
       have h8':decide (L.length = 8) = true:=by simpa using h8
       clear hEQ hn hsz hc
       go_wp2_with (go_at_call 74;refine (HC.out _).mono ?_;rintro e w' ⟨rfl,rfl⟩)
       go_ret2
       unfold SplitPost
       rw [HP.out]
       exact ⟨bel_of_only HO.out,rfl⟩
      ·have HNN:=hid (names_snoc HN.out hn)
       rw [hn] at HC
       clear hEQ hn hsz hc
       have h8':¬ L.length = 8:=h8
       have HAL:=hid (HR.out.alloc (.cells #[.string (s.extract a i)] 9))
       have HBK:=hid (Blk.new wr 9 [.string (s.extract a i)])
       go_wp2_with (first | (go_at_call 74;refine (HC.out _).mono ?_;rintro e w' ⟨rfl,rfl⟩) | (at_builtin;refine wp_appendS rfl _ _ rfl A L.length c L rfl HAL.out wr.heap.size (s.extract a i) rfl HBK.out (by omega) ?_;intro A' c' w1 hR1 hO1 hK1))
       go_roundw
       case rel => exact SpRel.append HK.out HO.out (by omega) HNN.out hi2 hR1.out hO1.out hK1.out (.inl HD.out)
       case measure => simp [intOf];omega
    ·have hne:¬ i = s.size:=by omega
     have hc1:((s[i].toNat:Int) == 46) = false:=by
      simp only [beq_eq_false_iff_ne]
      intro e
      exact hc (UInt8.toNat_inj.1 (by rw [show (46:UInt8).toNat = 46 from rfl];omega))
     have HD:=hid (HS.out.next hlt hc)
     clear hc
     go_wp2_with fail
     go_roundw
     case rel => exact ⟨A,c,L,a,i + 1,rfl,rfl,rfl,HR.out,HK.out,HO.out,hl,HN.out,ha,by omega,.inl HD.out⟩
     case measure => simp [intOf];omega
   ·obtain rfl:i = s.size:=by omega
    clear hlt hi2 hi
    have hi2:s.size≤s.size:=Nat.le_refl _
    have hEQ:parts (toL s) = (L ++ [s.extract a s.size]).map toL ++ []:=by rw [List.append_nil];exact HS.out.stop
    have HD:Hid (s.size + 1 = s.size + 1∧parts (toL s) = (L ++ [s.extract a s.size]).map toL):=hid ⟨by omega,by rw [hEQ,List.append_nil]⟩
    have hsz:(s.extract a s.size).size≤maxLen:=by unfold maxLen;simp;omega
    have HC:=hid (refName_c (s.extract a s.size) hsz)
    cases hn:nameB (s.extract a s.size) with
    | false =>
     have HP:=hid (no_path_name hH0.out hEQ hn)
     rw [hn] at HC
     clear hEQ hn hsz
     go_wp2_with (go_at_call 74;refine (HC.out _).mono ?_;rintro e w' ⟨rfl,rfl⟩)
     go_ret2
     unfold SplitPost
     rw [HP.out]
     exact ⟨bel_of_only HO.out,rfl⟩
    | true =>
     by_cases h8:L.length = 8
     ·have HP:=hid (no_path_many hH0.out hEQ h8)
      rw [hn] at HC
      have h8':decide (L.length = 8) = true:=by simpa using h8
      clear hEQ hn hsz
      go_wp2_with (go_at_call 74;refine (HC.out _).mono ?_;rintro e w' ⟨rfl,rfl⟩)
      go_ret2
      unfold SplitPost
      rw [HP.out]
      exact ⟨bel_of_only HO.out,rfl⟩
     ·have HNN:=hid (names_snoc HN.out hn)
      rw [hn] at HC
      clear hEQ hn hsz
      have h8':¬ L.length = 8:=h8
      have HAL:=hid (HR.out.alloc (.cells #[.string (s.extract a s.size)] 9))
      have HBK:=hid (Blk.new wr 9 [.string (s.extract a s.size)])
      go_wp2_with (first | (go_at_call 74;refine (HC.out _).mono ?_;rintro e w' ⟨rfl,rfl⟩) | (at_builtin;refine wp_appendS rfl _ _ rfl A L.length c L rfl HAL.out wr.heap.size (s.extract a s.size) rfl HBK.out (by omega) ?_;intro A' c' w1 hR1 hO1 hK1))
      go_roundw
      case rel => exact SpRel.append HK.out HO.out (by omega) HNN.out hi2 hR1.out hO1.out hK1.out (.inr ⟨rfl,HD.out.2⟩)
      case measure => simp [intOf]
  ·have HP:Hid (pathOf s = some L):=hid (by
    rw [pathOf_good hH0.out (by rw [hp,List.length_map];exact hl) (by rw [hp,List.all_map,List.all_eq_true];exact HN.out),← L_parts hp.symm])
   have hgt:(s.size:Int) < (i:Int):=by omega
   clear hp
   go_wp2_with fail
   go_ret2
   unfold SplitPost
   rw [HP.out]
   exact ⟨bel_of_only HO.out,_,_,rfl,strs_of_row HR.out,fun a ha => HK.out _ (by rw [ha];simp [rowT]),hl,HN.out⟩
end
section
structure HS where
 c:Nat
 n:List UInt8
 a:List UInt8
 p:List UInt8
namespace HS
theorem ext_ {s t:HS} (h1:s.c = t.c) (h2:s.n = t.n) (h3:s.a = t.a) (h4:s.p = t.p):s = t:=by
 cases s;cases t;simp only at h1 h2 h3 h4;subst h1 h2 h3 h4;rfl
end HS
def s0 (c:Nat):HS:=⟨c,[],[],[]⟩
def lowB (c:UInt8):UInt8:=if 65≤c.toNat∧c.toNat≤90 then c + 32 else c
def ltrB (c:UInt8):Bool:=decide (97≤(lowB c).toNat) && decide ((lowB c).toNat≤122)
def spcB (c:UInt8):Bool:=c == 32 || (c == 9 || (c == 10 || (c == 12 || c == 13)))
def addL (s:List UInt8) (c:UInt8):List UInt8:=if 16≤s.length then s else s ++ [lowB c]
def scriptL:List UInt8:=[115,99,114,105,112,116]
def styleL:List UInt8:=[115,116,121,108,101]
def openS (n:List UInt8):HS:=if n = scriptL then s0 16 else if n = styleL then s0 19 else s0 0
def textS (p:List UInt8) (c:UInt8):HS :=
 if p = [60] then
  if ltrB c = true then ⟨2,addL [] c,[],[]⟩
  else if c = 47 ∨ c = 33 then ⟨0,[],[],[60,c]⟩
  else if c = 60 then ⟨0,[],[],[60]⟩ else s0 0
 else if p = [60,47] then
  if ltrB c = true then s0 15
  else if c = 60 then ⟨0,[],[],[60]⟩ else s0 0
 else if p = [60,33] then
  if c = 45 then ⟨0,[],[],[60,33,45]⟩ else if c = 62 then s0 0 else s0 14
 else if p = [60,33,45] then
  if c = 45 then s0 13 else if c = 62 then s0 0 else s0 14
 else if c = 60 then ⟨0,[],[],[60]⟩ else s0 0
def commentS (p:List UInt8) (c:UInt8):HS :=
 if p = [45,45]∧c = 62 then s0 0 else if c ≠ 45 then s0 13 else if p = [] then ⟨13,[],[],[45]⟩ else ⟨13,[],[],[45,45]⟩
def urlA (a:List UInt8):Bool:=decide (a = [104,114,101,102]) || (decide (a = [115,114,99]) || (decide (a = [97,99,116,105,111,110]) || decide (a = [102,111,114,109,97,99,116,105,111,110])))
def rawA (a:List UInt8):Bool:=decide (a = [115,116,121,108,101]) || (decide (a = [115,114,99,100,111,99]) || decide (a.take 2 = [111,110]))
def quotedC (a:List UInt8) (c:UInt8):Nat:=(if rawA a = true then 11 else if urlA a = true then 9 else 7) + (if c = 39 then 1 else 0)
def tagS (s:HS) (c:UInt8):HS :=
 if c = 62∧s.c≤6 then openS s.n
 else if s.c = 2 then (if spcB c = true ∨ c = 47 then ⟨1,s.n,[],[]⟩ else ⟨2,addL s.n c,s.a,s.p⟩)
 else if s.c = 1 then (if spcB c = false∧c ≠ 47 then ⟨3,s.n,addL [] c,[]⟩ else s)
 else if s.c = 3 ∨ s.c = 4 then
  (if spcB c = true then ⟨4,s.n,s.a,s.p⟩ else if c = 47 then ⟨1,s.n,[],[]⟩ else if c = 61 then ⟨5,s.n,s.a,s.p⟩ else if s.c = 4 then ⟨3,s.n,addL [] c,[]⟩ else ⟨s.c,s.n,addL s.a c,s.p⟩)
 else if s.c = 5 then (if c = 34 ∨ c = 39 then ⟨quotedC s.a c,s.n,[],[]⟩ else if spcB c = false then ⟨6,s.n,[],[]⟩ else s)
 else if s.c = 6 then (if spcB c = true then ⟨1,s.n,[],[]⟩ else s)
 else if s.c = 7 ∨ s.c = 9 ∨ s.c = 11 then (if c = 34 then ⟨1,s.n,[],[]⟩ else s)
 else if s.c = 8 ∨ s.c = 10 ∨ s.c = 12 then (if c = 39 then ⟨1,s.n,[],[]⟩ else s)
 else s
def codeC (k:Nat):Nat:=if 19≤k then 19 else 16
def endL (k:Nat):List UInt8:=60 :: 47 :: (if 19≤k then styleL else scriptL)
def rawS (s:HS) (c:UInt8):HS :=
 if s.p.head? = some 60∧(endL s.c)[s.p.length]? = some (lowB c) then
  (if s.p ++ [lowB c] = endL s.c then s0 15 else ⟨s.c,s.n,s.a,s.p ++ [lowB c]⟩)
 else if c = 60 then ⟨s.c,s.n,s.a,[60]⟩
 else if s.p = [92] then ⟨s.c,s.n,s.a,[]⟩
 else if s.c = codeC s.c then ⟨if c = 34 then codeC s.c + 1 else if c = 39 then codeC s.c + 2 else s.c,s.n,s.a,[]⟩
 else ⟨if c = (if s.c = codeC s.c + 2 then 39 else 34) ∨ c = 10 then codeC s.c else s.c,s.n,s.a,if c = 92 then [92] else []⟩
def stepS (s:HS) (c:UInt8):HS :=
 if s.c = 0 then textS s.p c else if s.c≤12 then tagS s c else if s.c = 13 then commentS s.p c else if s.c≤15 then (if c = 62 then s0 0 else s) else rawS s c
def runS (s:HS) (t:List UInt8):HS:=t.foldl stepS s
theorem runS_cons (s:HS) (c:UInt8) (t:List UInt8):runS s (c :: t) = runS (stepS s c) t:=rfl
theorem runS_append (s:HS) (t u:List UInt8):runS s (t ++ u) = runS (runS s t) u:=List.foldl_append
theorem runS_take {s:HS} {t:List UInt8} {i:Nat} {c:UInt8} (h:t[i]? = some c):runS s (t.take (i + 1)) = stepS (runS s (t.take i)) c:=by
 have e:t.take (i + 1) = t.take i ++ [c]:=by rw [List.take_add_one,h];rfl
 rw [e,runS_append]
 rfl
def escS (s:HS):Nat × Bool :=
 if s.p ≠ [] then (0,false)
 else if s.c = 0 then (0,true)
 else if s.c = 7 ∨ s.c = 8 then (1,true)
 else if s.c = 9 ∨ s.c = 10 then (2,true)
 else if s.c = 17 ∨ s.c = 18 then (3,true)
 else if s.c = 20 ∨ s.c = 21 then (4,true)
 else (0,false)
def NmOk (l:List UInt8):Prop:=l.length≤16∧∀ b,b ∈ l→¬ (65≤b.toNat∧b.toNat≤90)
def PtOk (k:Nat) (p:List UInt8):Prop:=p = [] ∨ (p = [92]∧k ≠ codeC k) ∨ (0 < p.length∧p.length < (endL k).length∧p = (endL k).take p.length)
structure Inv (s:HS):Prop where
 c:s.c≤21
 n:NmOk s.n
 a:NmOk s.a
 n0:s.c = 0 ∨ 13≤s.c→s.n = []
 a0:s.c ≠ 3∧s.c ≠ 4∧s.c ≠ 5→s.a = []
 p1:1≤s.c∧s.c≤12→s.p = []
 p0:s.c = 0→s.p = [] ∨ s.p = [60] ∨ s.p = [60,47] ∨ s.p = [60,33] ∨ s.p = [60,33,45]
 p13:s.c = 13→s.p = [] ∨ s.p = [45] ∨ s.p = [45,45]
 p14:s.c = 14 ∨ s.c = 15→s.p = []
 p16:16≤s.c→PtOk s.c s.p
theorem nm_nil:NmOk []:=⟨by simp,fun b h => by cases h⟩
theorem low_all:∀ c:UInt8,¬ (65≤(lowB c).toNat∧(lowB c).toNat≤90):=by
 intro c h
 unfold lowB at h
 split at h
 ·rename_i hc
  have:(c + 32).toNat = c.toNat + 32:=by
   rw [UInt8.toNat_add]
   show (c.toNat + 32) % 256 = _
   omega
  omega
 ·rename_i hc
  exact hc h
theorem nm_add {l:List UInt8} (h:NmOk l) (c:UInt8):NmOk (addL l c):=by
 unfold addL
 split
 ·exact h
 ·rename_i hl
  refine ⟨by rw [List.length_append];simp;omega,fun b hb => ?_⟩
  rcases List.mem_append.1 hb with h1 | h1
  ·exact h.2 b h1
  ·rw [List.mem_singleton] at h1;subst h1;exact low_all c
theorem Inv.init:Inv (s0 0):=by
 refine ⟨?_,nm_nil,nm_nil,fun _ => rfl,fun _ => rfl,fun h => ?_,fun _ => .inl rfl,fun h => ?_,fun h => ?_,fun h => ?_⟩ <;> simp [s0] at * <;> omega
theorem inv_s0 {k:Nat} (hk:k≤21) (h:k = 0 ∨ 13≤k):Inv (s0 k):=by
 refine ⟨hk,nm_nil,nm_nil,fun _ => rfl,fun _ => rfl,fun _ => rfl,fun _ => .inl rfl,fun _ => .inl rfl,fun _ => rfl,fun _ => .inl rfl⟩
theorem inv_tag {k:Nat} {n:List UInt8} (h1:1≤k) (h2:k≤12) (hn:NmOk n):Inv ⟨k,n,[],[]⟩:=by
 refine ⟨by show k≤21;omega,hn,nm_nil,fun h => ?_,fun _ => rfl,fun _ => rfl,fun _ => .inl rfl,fun _ => .inl rfl,fun _ => rfl,fun _ => .inl rfl⟩
 have:k = 0 ∨ 13≤k:=h
 omega
theorem inv_attr {k:Nat} {n a:List UInt8} (h:k = 3 ∨ k = 4 ∨ k = 5) (hn:NmOk n) (ha:NmOk a):Inv ⟨k,n,a,[]⟩:=by
 refine ⟨by show k≤21;omega,hn,ha,fun h => ?_,fun h => ?_,fun _ => rfl,fun _ => .inl rfl,fun _ => .inl rfl,fun _ => rfl,fun _ => .inl rfl⟩
 ·have:k = 0 ∨ 13≤k:=h
  omega
 ·have:k ≠ 3∧k ≠ 4∧k ≠ 5:=h
  omega
theorem inv_part {p:List UInt8} (h:p = [] ∨ p = [60] ∨ p = [60,47] ∨ p = [60,33] ∨ p = [60,33,45]):Inv ⟨0,[],[],p⟩:=by
 refine ⟨by show 0≤21;omega,nm_nil,nm_nil,fun _ => rfl,fun _ => rfl,fun h => ?_,fun _ => h,fun h => ?_,fun h => ?_,fun h => ?_⟩
 ·have:1≤0∧0≤12:=h;omega
 ·have:0 = 13:=h;omega
 ·have:0 = 14 ∨ 0 = 15:=h;omega
 ·have:16≤0:=h;omega
theorem inv_com {p:List UInt8} (h:p = [] ∨ p = [45] ∨ p = [45,45]):Inv ⟨13,[],[],p⟩:=by
 refine ⟨by show 13≤21;omega,nm_nil,nm_nil,fun _ => rfl,fun _ => rfl,fun h => ?_,fun h => ?_,fun _ => h,fun h => ?_,fun h => ?_⟩
 ·have:1≤13∧13≤12:=h;omega
 ·have:13 = 0:=h;omega
 ·have:13 = 14 ∨ 13 = 15:=h;omega
 ·have:16≤13:=h;omega
theorem inv_raw {k:Nat} {p:List UInt8} (h1:16≤k) (h2:k≤21) (h:PtOk k p):Inv ⟨k,[],[],p⟩:=by
 refine ⟨h2,nm_nil,nm_nil,fun _ => rfl,fun _ => rfl,fun h => ?_,fun h => ?_,fun h => ?_,fun h => ?_,fun _ => h⟩
 ·have:1≤k∧k≤12:=h;omega
 ·have:k = 0:=h;omega
 ·have:k = 13:=h;omega
 ·have:k = 14 ∨ k = 15:=h;omega
theorem inv_open (n:List UInt8):Inv (openS n):=by
 unfold openS
 split
 ·exact inv_s0 (by omega) (by omega)
 ·split
  ·exact inv_s0 (by omega) (by omega)
  ·exact inv_s0 (by omega) (by omega)
theorem quoted_range (a:List UInt8) (c:UInt8):7≤quotedC a c∧quotedC a c≤12:=by
 unfold quotedC
 constructor <;> (split <;> split) <;> (try split) <;> omega
theorem inv_step {s:HS} (h:Inv s) (c:UInt8):Inv (stepS s c):=by
 unfold stepS
 split
 ·unfold textS
  split
  ·split
   ·exact inv_tag (by omega) (by omega) (nm_add nm_nil c)
   ·split
    ·rename_i hc
     rcases hc with rfl | rfl
     ·exact inv_part (by simp)
     ·exact inv_part (by simp)
    ·split
     ·exact inv_part (by simp)
     ·exact Inv.init
  ·split
   ·split
    ·exact inv_s0 (by omega) (by omega)
    ·split
     ·exact inv_part (by simp)
     ·exact Inv.init
   ·split
    ·split
     ·exact inv_part (by simp)
     ·split
      ·exact Inv.init
      ·exact inv_s0 (by omega) (by omega)
    ·split
     ·split
      ·exact inv_s0 (by omega) (by omega)
      ·split
       ·exact Inv.init
       ·exact inv_s0 (by omega) (by omega)
     ·split
      ·exact inv_part (by simp)
      ·exact Inv.init
 ·rename_i h0
  split
  ·rename_i h12
   have hp:=h.p1 ⟨by omega,h12⟩
   unfold tagS
   split
   ·exact inv_open _
   split
   ·rename_i hc
    have ha:=h.a0 (by omega)
    split
    ·exact inv_tag (by omega) (by omega) h.n
    ·rw [ha,hp];exact inv_tag (by omega) (by omega) (nm_add h.n c)
   split
   ·split
    ·exact inv_attr (by omega) h.n (nm_add nm_nil c)
    ·exact h
   split
   ·rename_i hc
    split
    ·rw [hp];exact inv_attr (by omega) h.n h.a
    split
    ·exact inv_tag (by omega) (by omega) h.n
    split
    ·rw [hp];exact inv_attr (by omega) h.n h.a
    split
    ·exact inv_attr (by omega) h.n (nm_add nm_nil c)
    ·rw [hp];exact inv_attr (by omega) h.n (nm_add h.a c)
   split
   ·split
    ·have:=quoted_range s.a c
     exact inv_tag (by omega) (by omega) h.n
    split
    ·exact inv_tag (by omega) (by omega) h.n
    ·exact h
   split
   ·split
    ·exact inv_tag (by omega) (by omega) h.n
    ·exact h
   split
   ·split
    ·exact inv_tag (by omega) (by omega) h.n
    ·exact h
   split
   ·split
    ·exact inv_tag (by omega) (by omega) h.n
    ·exact h
   ·exact h
  split
  ·unfold commentS
   split
   ·exact Inv.init
   split
   ·exact inv_com (by simp)
   split
   ·exact inv_com (by simp)
   ·exact inv_com (by simp)
  split
  ·split
   ·exact Inv.init
   ·exact h
  ·have h16:16≤s.c:=by omega
   have hn:=h.n0 (by omega)
   have ha:=h.a0 (by omega)
   have hc:=h.c
   have hp:=h.p16 h16
   have hcode:codeC s.c = 16 ∨ codeC s.c = 19:=by unfold codeC;split <;> simp
   have hcc:∀ j,j≤2→codeC s.c≤s.c→codeC (codeC s.c + j) = codeC s.c∧16≤codeC s.c + j∧codeC s.c + j≤21:=fun j hj hle => by
    unfold codeC
    split <;> split <;> omega
   have hle:codeC s.c≤s.c:=by unfold codeC;split <;> omega
   unfold rawS
   rw [hn,ha]
   split
   ·rename_i hr
    split
    ·exact inv_s0 (by omega) (by omega)
    ·rename_i hne
     refine inv_raw h16 hc (.inr (.inr ?_))
     have hlt:s.p.length < (endL s.c).length:=(List.getElem?_eq_some_iff.1 hr.2).1
     have hpe:s.p = (endL s.c).take s.p.length:=by
      rcases hp with h1 | h1 | h1
      ·rw [h1];rfl
      ·have:=hr.1;rw [h1.1] at this;simp at this
      ·exact h1.2.2
     have e:s.p ++ [lowB c] = (endL s.c).take (s.p ++ [lowB c]).length:=by
      rw [List.length_append,List.length_singleton,List.take_add_one,hr.2,← hpe]
      rfl
     refine ⟨by simp,?_,e⟩
     rw [List.length_append,List.length_singleton]
     rcases Nat.lt_or_ge (s.p.length + 1) (endL s.c).length with h1 | h1
     ·exact h1
     ·exfalso
      rw [List.length_append,List.length_singleton,List.take_of_length_le h1] at e
      exact hne e
   split
   ·exact inv_raw h16 hc (.inr (.inr (by
     have:(endL s.c).length = 7 ∨ (endL s.c).length = 8:=by unfold endL;split <;> simp [styleL,scriptL]
     refine ⟨by simp,by simp;omega,?_⟩
     unfold endL
     rfl)))
   split
   ·exact inv_raw h16 hc (.inl rfl)
   split
   ·have h1:=hcc 1 (by omega) hle
    have h2:=hcc 2 (by omega) hle
    refine inv_raw ?_ ?_ (.inl rfl)
    ·split
     ·omega
     ·split <;> omega
    ·split
     ·omega
     ·split <;> omega
   ·rename_i hnc
    by_cases hb:c = 92
    ·subst hb
     have:¬ ((92:UInt8) = (if s.c = codeC s.c + 2 then 39 else 34) ∨ (92:UInt8) = 10):=by
      split <;> decide
     rw [if_neg this,if_pos rfl]
     exact inv_raw h16 hc (.inr (.inl ⟨rfl,hnc⟩))
    ·rw [if_neg hb]
     generalize (if s.c = codeC s.c + 2 then (39:UInt8) else 34) = q
     refine inv_raw ?_ ?_ (.inl rfl)
     ·split <;> omega
     ·split <;> omega
theorem inv_run {s:HS} (h:Inv s):∀ t:List UInt8,Inv (runS s t):=by
 intro t
 induction t generalizing s with
 | nil => exact h
 | cons c t ih => exact ih (inv_step h c)
end
end Go.Proofs.YtpcapmdfjmpdiaaGreatDoor
