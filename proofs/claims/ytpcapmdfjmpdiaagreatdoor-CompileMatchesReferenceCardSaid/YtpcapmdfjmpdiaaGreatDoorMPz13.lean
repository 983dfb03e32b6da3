/- Contracts: the reference's find and words -/
import Derived.Test.YtpcapmdfjmpdiaaGreatDoorMNt
set_option linter.unusedVariables false
set_option linter.unusedSimpArgs false
set_option maxRecDepth 100000
set_option maxHeartbeats 3200000
open Go.Lib (hid)
namespace Go.Proofs.YtpcapmdfjmpdiaaGreatDoor
section
open Go.RowKit Go.BigFrame
attribute [local go_sem ↓] sliced_cut run_min2 run_max2
attribute [local go_sem] cutA_zero
theorem toL_at {s:ByteArray} {i:Nat} (h:i < s.size):(toL s)[i]? = some s[i]:=getElem_toList h
theorem toL_drop {s:ByteArray} {i:Nat} (hi:i < s.size):(toL s).drop i = s[i] :: (toL s).drop (i + 1):=List.drop_eq_getElem_cons (l:=toL s) hi
theorem byte_eq {b c:UInt8}:((b.toNat:Int) == (c.toNat:Int)) = decide (b = c):=by
 rw [Bool.eq_iff_iff,decide_eq_true_iff,beq_iff_eq]
 exact ⟨fun h => UInt8.toNat_inj.1 (by omega),fun h => by rw [h]⟩
def fnumFrom (c:UInt8) (l:List UInt8) (a:Nat):Int:=match find2 c (l.drop a) with | none => -1 | some i => ((a + i:Nat):Int)
theorem find_end {c:UInt8} {l:List UInt8} {a k:Nat} (hk:l.length≤k + 1) (h:∀ j,a≤j→j < k→¬ BB c l j):fnumFrom c l a = -1:=by
 unfold fnumFrom
 have:find2 c (l.drop a) = none:=by
  rw [find2_none]
  intro j hb
  unfold BB at hb
  rw [List.getElem?_drop,List.getElem?_drop] at hb
  have h1:=(List.getElem?_eq_some_iff.1 hb.2).1
  exact h (a + j) (by omega) (by omega) ⟨hb.1,by rw [Nat.add_assoc];exact hb.2⟩
 rw [this]
theorem find_hit {c:UInt8} {l:List UInt8} {a k:Nat} (ha:a≤k) (hb:BB c l k) (h:∀ j,a≤j→j < k→¬ BB c l j):fnumFrom c l a = (k:Int):=by
 unfold fnumFrom
 have:find2 c (l.drop a) = some (k - a):=by
  rw [find2_some]
  unfold BB at hb ⊢
  refine ⟨?_,fun j hj hbj => ?_⟩
  ·rw [List.getElem?_drop,List.getElem?_drop,show a + (k - a) = k by omega,show a + (k - a + 1) = k + 1 by omega]
   exact hb
  ·rw [List.getElem?_drop,List.getElem?_drop] at hbj
   exact h (a + j) (by omega) (by omega) ⟨hbj.1,by rw [Nat.add_assoc];exact hbj.2⟩
 rw [this]
 dsimp only
 congr 1
 omega
theorem find_c (s:ByteArray) (c:UInt8) (a:Nat) (w:World) (hs:s.size≤2000000) (ha:a≤s.size) :
  Calls Tryz.prog 57 #[.string s,.int .u8 c.toNat,.int .i64 a] w fun e w' => e = .returned (.int .i64 (fnumFrom c (toL s) a))∧w' = w:=by
 have HL:Hid ((toL s).length = s.size):=hid (toL_len s)
 go_enter Tryz.func57,Tryz.ntmps57
 go_wp2_with fail
 go_loop [7] (fun i => ∃ k:Nat,a≤k∧k≤s.size∧i = .int .i64 k∧Hid (∀ j,a≤j→j < k→¬ BB c (toL s) j)) (fun i => s.size - (intOf i).toNat)
 case atStart => exact ⟨a,Nat.le_refl _,ha,rfl,hid (fun j h1 h2 => absurd h1 (by omega))⟩
 case round =>
  obtain ⟨k,hak,hks,rfl,HN⟩:=hrel
  by_cases hlt:k + 1 < s.size
  ·have hk:k < s.size:=by omega
   have h1:=toL_at hk
   have h2:=toL_at hlt
   have b1:((s[k].toNat:Int) == (c.toNat:Int)) = decide (s[k] = c):=byte_eq
   have b2:((s[k + 1].toNat:Int) == (c.toNat:Int)) = decide (s[k + 1] = c):=byte_eq
   by_cases e1:s[k] = c
   ·by_cases e2:s[k + 1] = c
    ·have HB:=hid (find_hit (c:=c) (l:=toL s) hak ⟨by rw [h1,e1],by rw [h2,e2]⟩ HN.out)
     rw [decide_eq_true e1] at b1
     rw [decide_eq_true e2] at b2
     clear h1 h2 e1 e2
     go_wp2_with fail
     go_ret
     rw [HB.out];exact ⟨rfl,rfl⟩
    ·have HN2:Hid (∀ j,a≤j→j < k + 1→¬ BB c (toL s) j):=hid (fun j h3 h4 hb => by
      by_cases e:j = k
      ·subst e;rw [hb.2] at h2;injection h2 with h2;exact e2 h2.symm
      ·exact HN.out j h3 (by omega) hb)
     rw [decide_eq_true e1] at b1
     rw [decide_eq_false e2] at b2
     clear h1 h2 e1 e2
     go_wp2_with fail
     go_round
     case rel => exact ⟨k + 1,by omega,by omega,by go_num,HN2⟩
     case measure => simp [intOf];omega
   ·have HN2:Hid (∀ j,a≤j→j < k + 1→¬ BB c (toL s) j):=hid (fun j h3 h4 hb => by
      by_cases e:j = k
      ·subst e;rw [hb.1] at h1;injection h1 with h1;exact e1 h1.symm
      ·exact HN.out j h3 (by omega) hb)
    rw [decide_eq_false e1] at b1
    clear h1 h2 e1 b2
    go_wp2_with fail
    go_round
    case rel => exact ⟨k + 1,by omega,by omega,by go_num,HN2⟩
    case measure => simp [intOf];omega
  ·have HB:=hid (find_end (c:=c) (l:=toL s) (a:=a) (k:=k) (by rw [toL_len];omega) HN.out)
   go_wp2_with fail
   go_ret
   rw [HB.out];exact ⟨rfl,rfl⟩
structure WoAt (s:ByteArray) (L:List ByteArray) (a i:Nat):Prop where
 le:a≤i
 top:i≤s.size
 eq:words (toL s) = L.map toL ++ wl (((toL s).take i).drop a) ((toL s).drop i)
theorem WoAt.start (s:ByteArray):WoAt s [] 0 0:=⟨Nat.le_refl _,Nat.zero_le _,by simp [words]⟩
theorem take_step {s:ByteArray} {a i:Nat} (h:a≤i) (hi:i < s.size):((toL s).take (i + 1)).drop a = ((toL s).take i).drop a ++ [s[i]]:=by
 rw [List.take_add_one,toL_at hi,List.drop_append_of_le_length (by rw [List.length_take,toL_len];omega)]
 rfl
theorem WoAt.next {s:ByteArray} {L:List ByteArray} {a i:Nat} (h:WoAt s L a i) (hi:i < s.size) (hc:s[i] ≠ 32):WoAt s L a (i + 1):=by
 refine ⟨by have:=h.le;omega,hi,?_⟩
 have hd:=toL_drop hi
 rw [h.eq,hd,wl,if_neg hc,take_step h.le hi]
theorem WoAt.piece {s:ByteArray} (a i:Nat):toL (s.extract a i) = ((toL s).take i).drop a:=toL_extract s a i
theorem drop_nil_iff {s:ByteArray} {a i:Nat} (h1:a≤i) (h2:i≤s.size):((toL s).take i).drop a = [] ↔ a = i:=by
 rw [List.drop_eq_nil_iff,List.length_take,toL_len]
 omega
theorem WoAt.space {s:ByteArray} {L:List ByteArray} {a i:Nat} (h:WoAt s L a i) (hi:i < s.size) (hc:s[i] = 32):WoAt s (if a < i then L ++ [s.extract a i] else L) (i + 1) (i + 1):=by
 refine ⟨Nat.le_refl _,hi,?_⟩
 have hd:=toL_drop hi
 have h0:((toL s).take (i + 1)).drop (i + 1) = []:=(drop_nil_iff (Nat.le_refl _) hi).2 rfl
 rw [h.eq,hd,wl,if_pos hc,h0]
 have:=h.le
 by_cases e:a = i
 ·rw [if_pos ((drop_nil_iff h.le h.top).2 e),if_neg (by omega)]
 ·rw [if_neg (fun hh => e ((drop_nil_iff h.le h.top).1 hh)),if_pos (by omega)]
  simp [WoAt.piece]
theorem WoAt.stop {s:ByteArray} {L:List ByteArray} {a:Nat} (h:WoAt s L a s.size):words (toL s) = (if a < s.size then L ++ [s.extract a s.size] else L).map toL:=by
 rw [h.eq,List.drop_of_length_le (Nat.le_of_eq (toL_len s)),wl]
 have:=h.le
 by_cases e:a = s.size
 ·rw [if_pos ((drop_nil_iff h.le h.top).2 e),if_neg (by omega)];simp
 ·rw [if_neg (fun hh => e ((drop_nil_iff h.le h.top).1 hh)),if_pos (by omega)]
  simp [WoAt.piece]
theorem wo_len {s:ByteArray} {L:List ByteArray} {a i:Nat} (h:WoAt s L a i):L.length≤s.size:=by
 have h1:=congrArg List.length h.eq
 rw [List.length_append,List.length_map] at h1
 have h2:∀ (l cur:List UInt8),(wl cur l).length≤cur.length + l.length:=by
  intro l
  induction l with
  | nil => intro cur;unfold wl;split;simp;rename_i h;have:=List.length_pos_iff.2 h;simp;omega
  | cons c l ih =>
   intro cur
   unfold wl
   split
   ·split
    ·have:=ih [];simp at this ⊢;omega
    ·rename_i h;have:=List.length_pos_iff.2 h;have:=ih [];simp at this ⊢;omega
   ·have:=ih (cur ++ [c]);simp at this ⊢;omega
 have h3:=h2 (toL s) []
 rw [toL_len] at h3
 unfold words at h1
 simp at h3
 omega
def WoRel (s:ByteArray) (w:World) (v3 v4 v5:Value) (wr:World):Prop :=
 ∃ (A:Option Addr) (c:Nat) (L:List ByteArray) (a i:Nat),v3 = .slice A L.length c∧v4 = .int .i64 a∧v5 = .int .i64 i∧RowAt wr 9 A L.length c (vss L)∧(∀ k,k ∈ rowT A→w.heap.size≤k)∧Only [] w wr ∧
  L.length≤s.size∧a≤s.size + 1∧i≤s.size + 1∧(WoAt s L a i ∨ (i = s.size + 1∧words (toL s) = L.map toL))
theorem WoRel.start (s:ByteArray) (w:World):WoRel s w (.slice none 0 0) (.int .i64 0) (.int .i64 0) w :=
 ⟨none,0,[],0,0,rfl,rfl,rfl,RowAt.nil _ _,by simp [rowT],Only.refl _ _,Nat.zero_le _,Nat.zero_le _,Nat.zero_le _,.inl (WoAt.start s)⟩
theorem WoRel.append {s:ByteArray} {w wr w1:World} {A A':Option Addr} {c':Nat} {L:List ByteArray} {i:Nat} {nm:ByteArray} (hk:∀ k,k ∈ rowT A→w.heap.size≤k) (hO:Only [] w wr)
  (hl:L.length + 1≤s.size) (hi:i≤s.size) (hR:RowAt w1 9 A' (L.length + 1) c' (vss (L ++ [nm]))) (hO1:Only (rowT A) (wr.alloc (.cells #[.string nm] 9)) w1)
  (hk1:∀ k,k ∈ rowT A'→k ∈ rowT A ∨ (wr.alloc (.cells #[.string nm] 9)).heap.size≤k) (hs:WoAt s (L ++ [nm]) (i + 1) (i + 1) ∨ (i + 1 = s.size + 1∧words (toL s) = (L ++ [nm]).map toL)) :
  WoRel s w (.slice A' (L.length + 1) c') (.int .i64 ((i:Int) + 1)) (.int .i64 ((i:Int) + 1)) w1:=by
 refine ⟨A',c',L ++ [nm],i + 1,i + 1,by simp,rfl,rfl,by simpa using hR,fun k hkk => ?_,?_,by simp;omega,by omega,by omega,hs⟩
 ·rcases hk1 k hkk with h | h
  ·exact hk k h
  ·have:=hO.size;simp at h;omega
 ·exact (hO.alloc _).join hO1 fun k hkk => .inr (hk k hkk)
def WordsPost (s:ByteArray) (w:World) (e:Ending) (w':World):Prop :=
 Bel w w'∧∃ A c,e = .returned (.slice A (wordsB s).length c)∧Strs w' A (wordsB s)∧(wordsB s).length≤s.size∧(wordsB s).length≤c∧c≤maxLen
theorem words_c (s:ByteArray) (w:World) (hs:s.size≤2000000) :
  Calls Tryz.prog 59 #[.string s] w (WordsPost s w):=by
 have HSTART:=hid (WoRel.start s w)
 go_enter Tryz.func59,Tryz.ntmps59
 go_wp2_with fail
 go_loopw [3,4,5] (fun v3 v4 v5 wr => WoRel s w v3 v4 v5 wr) (fun _ _ v5 _ => s.size + 2 - (intOf v5).toNat)
 case atStart => exact HSTART.out
 case round =>
  clear HSTART
  obtain ⟨A,c,L,a,i,rfl,rfl,rfl,hR,hk,hO,hl,ha,hi,hst⟩:=hrel
  have HR:=hid hR
  have HO:=hid hO
  have HK:=hid hk
  clear hR hO hk
  rcases hst with hst | ⟨hie,hp⟩
  ·have ha2:a≤i:=hst.le
   have hi2:i≤s.size:=hst.top
   have HS:=hid hst
   clear hst
   by_cases hlt:i < s.size
   ·by_cases hc:s[i] = 32
    ·have hne:¬ i = s.size:=by omega
     have hc1:((s[i].toNat:Int) == 32) = true:=by rw [hc];rfl
     have HD:=hid (HS.out.space hlt hc)
     clear hc
     by_cases hai:a < i
     ·have hai':(a:Int) < (i:Int):=by omega
      have HD2:Hid (WoAt s (L ++ [s.extract a i]) (i + 1) (i + 1)):=hid (by have:=HD.out;rw [if_pos hai] at this;exact this)
      have hl2:=wo_len HD2.out
      rw [List.length_append,List.length_singleton] at hl2
      have HAL:=hid (HR.out.alloc (.cells #[.string (s.extract a i)] 9))
      have HBK:=hid (Blk.new wr 9 [.string (s.extract a i)])
      go_wp2_with (first | (at_builtin;refine wp_appendS rfl _ _ rfl A L.length c L rfl HAL.out wr.heap.size (s.extract a i) rfl HBK.out (by omega) ?_;intro A' c' w1 hR1 hO1 hK1))
      go_roundw
      case rel => exact WoRel.append HK.out HO.out hl2 hi2 hR1.out hO1.out hK1.out (.inl HD2.out)
      case measure => simp [intOf];omega
     ·have hai':¬ (a:Int) < (i:Int):=by omega
      have HD2:Hid (WoAt s L (i + 1) (i + 1)):=hid (by have:=HD.out;rw [if_neg hai] at this;exact this)
      go_wp2_with fail
      go_roundw
      case rel => exact ⟨A,c,L,i + 1,i + 1,rfl,rfl,rfl,HR.out,HK.out,HO.out,hl,by omega,by omega,.inl HD2.out⟩
      case measure => simp [intOf];omega
    ·have hne:¬ i = s.size:=by omega
     have hc1:((s[i].toNat:Int) == 32) = false:=by
      simp only [beq_eq_false_iff_ne]
      intro e
      exact hc (UInt8.toNat_inj.1 (by rw [show (32:UInt8).toNat = 32 from rfl];omega))
     have HD:=hid (HS.out.next hlt hc)
     clear hc
     go_wp2_with fail
     go_roundw
     case rel => exact ⟨A,c,L,a,i + 1,rfl,rfl,rfl,HR.out,HK.out,HO.out,hl,ha,by omega,.inl HD.out⟩
     case measure => simp [intOf];omega
   ·obtain rfl:i = s.size:=by omega
    clear hlt hi2 hi
    have hi2:s.size≤s.size:=Nat.le_refl _
    have HD:=hid HS.out.stop
    by_cases hai:a < s.size
    ·have hai':(a:Int) < (s.size:Int):=by omega
     have HD2:Hid (words (toL s) = (L ++ [s.extract a s.size]).map toL):=hid (by have:=HD.out;rw [if_pos hai] at this;exact this)
     have hl2:L.length + 1≤s.size:=by
      have h1:WoAt s (L ++ [s.extract a s.size]) s.size s.size:=⟨Nat.le_refl _,Nat.le_refl _,by
       rw [HD2.out,(drop_nil_iff (Nat.le_refl _) (Nat.le_refl _)).2 rfl,List.drop_of_length_le (Nat.le_of_eq (toL_len s)),wl,if_pos rfl,List.append_nil]⟩
      have:=wo_len h1
      rw [List.length_append,List.length_singleton] at this
      exact this
     have HAL:=hid (HR.out.alloc (.cells #[.string (s.extract a s.size)] 9))
     have HBK:=hid (Blk.new wr 9 [.string (s.extract a s.size)])
     go_wp2_with (first | (at_builtin;refine wp_appendS rfl _ _ rfl A L.length c L rfl HAL.out wr.heap.size (s.extract a s.size) rfl HBK.out (by omega) ?_;intro A' c' w1 hR1 hO1 hK1))
     go_roundw
     case rel => exact WoRel.append HK.out HO.out hl2 hi2 hR1.out hO1.out hK1.out (.inr ⟨rfl,HD2.out⟩)
     case measure => simp [intOf]
    ·have hai':¬ (a:Int) < (s.size:Int):=by omega
     have HD2:Hid (s.size + 1 = s.size + 1∧words (toL s) = L.map toL):=hid ⟨rfl,by have:=HD.out;rw [if_neg hai] at this;exact this⟩
     go_wp2_with fail
     go_roundw
     case rel => exact ⟨A,c,L,s.size + 1,s.size + 1,rfl,rfl,rfl,HR.out,HK.out,HO.out,hl,by omega,by omega,.inr ⟨rfl,HD2.out.2⟩⟩
     case measure => simp [intOf]
  ·have hgt:(s.size:Int) < (i:Int):=by omega
   have HW:Hid (wordsB s = L):=hid (by unfold wordsB;rw [hp,← L_parts rfl])
   clear hp
   go_wp2_with fail
   go_ret
   unfold WordsPost
   rw [HW.out]
   exact ⟨bel_of_only HO.out,_,_,rfl,strs_of_row HR.out,hl,HR.out.le,HR.out.max⟩
end
section
open Go.RowKit Go.BigFrame Go.Maps Go.WideMaps
theorem bel_grown {w w1 w2:World} (h:Bel w w1) (hg:w1.grownBy w2 (some w.heap.size)):Bel w w2:=Below.grown h hg h.size (fun j hj => by cases hj;exact Nat.le_refl _)
section
variable {w:World} {ops:Array Oper} {rest:List Oper} {o:Oper} {a:Act} {Q:Exit→Act→World→Prop}
theorem wp_insert {w0:World} (hg:o.guard = none) (m:Operand) (t:TypeId) (key:ByteArray) (u:Value) (hop:o.op = Op.insert t m (.const (.string key)) (.const u)) (e:TypeId) (ht:Tryz.prog.underlying t = some (.map 9 e))
  (n:Nat) (f:ByteArray→Option Value) (hm:a.eval m = .map (some w0.heap.size)) (h:SMap w w0.heap.size n f) (hb:Bel w0 w) (hn:n < maxLen) (hk:key.size≤maxLen)
  (hK:∀ w',Hid (SMap w' w0.heap.size (n + 1) (fun k => if k = key then some u else f k))→Hid (Bel w0 w')→wpList Tryz.prog ops Q rest (a.put o.dst undef) w'):wpList Tryz.prog ops Q (o :: rest) a w:=by
 refine wpList_plain hg fun K' hK' => ?_
 obtain ⟨w',hrun,h1,h2⟩:=h.push ht hn hk u
 unfold Oper.wp
 simp [execOp,hop,hm,show a.eval (.const (.string key)) = .string key from rfl,show a.eval (.const u) = u from rfl,hrun,Result.andThen]
 exact hK' _ _ (hK w' (hid h1) (hid (bel_grown hb h2)))
end
def kindF (k:ByteArray):Option Value:=(kindN k).map fun n:Nat => .int .i64 (n:Int)
theorem kindF_eq (k:ByteArray):(if k = ⟨#[102,108,117,115,104]⟩ then some (Value.int .i64 5) else if k = ⟨#[99,97,108,108,32,110,97,109,101,32,46]⟩ then some (.int .i64 4) else if k = ⟨#[99,97,108,108,32,110,97,109,101]⟩ then some (.int .i64 4) else
  if k = ⟨#[100,101,102,105,110,101,32,110,97,109,101]⟩ then some (.int .i64 6) else if k = ⟨#[101,110,100]⟩ then some (.int .i64 8) else if k = ⟨#[114,97,110,103,101,32,46]⟩ then some (.int .i64 3) else
  if k = ⟨#[101,108,115,101]⟩ then some (.int .i64 7) else if k = ⟨#[105,102,32,46]⟩ then some (.int .i64 2) else if k = ⟨#[46]⟩ then some (.int .i64 1) else none) = kindF k:=by
 simp only [kindF,kindN,apply_ite (Option.map fun n:Nat => Value.int .i64 (n:Int)),Option.map_some,Option.map_none]
 rfl
theorem kinds_c (w:World):Calls Tryz.prog 51 #[] w fun e w' => e = .returned (.map (some w.heap.size))∧SMap w' w.heap.size 9 kindF∧Bel w w':=by
 have HSM:=hid (SMap.made w)
 have hmm:=@run_makeMap Tryz.prog
 have HB:Hid (Bel w (w.alloc (.map #[] 0))):=hid (Bel.alloc _ _)
 go_enter Tryz.func51,Tryz.ntmps51
 go_wp2_with (with_reducible refine wp_insert (w0:=w) rfl _ 101 _ _ rfl 3 Tryz.underlying101 _ _ rfl HSM.out HB.out (by unfold maxLen;omega) (by decide) ?_;intro w1 HSM HB)
 go_ret
 exact ⟨rfl,HSM.out.congr kindF_eq,HB.out⟩
theorem make_cells {t e:TypeId} {z:Value} {size bytes:Nat} (ht:Tryz.prog.underlying t = some (.slice e)) (hinfo:(Tryz.prog.info? e).map (fun i => (i.zero,i.size,i.bytes)) = some (some z,size,bytes)) (m n:Nat) (hm:m≤n) (hb:bytes * n≤281474976710656) (hn:n≤9223372036854775807) :
  ∃ L:List Value,L.length = n * size∧∀ W,(Instr.makeSlice t (.int .i64 (m:Int)) (.int .i64 (n:Int))).run Tryz.prog W = .ok (.slice (some ⟨W.heap.size,0,none⟩) m n) (W.alloc (.cells L.toArray e)):=by
 obtain ⟨i0,hi,hz0,hz1,hz2⟩:=info_parts hinfo
 refine ⟨(madeCells z.cells (n * size)).toList,by rw [Array.length_toList,size_madeCells],fun W => ?_⟩
 have hr:=run_make (P:=Tryz.prog) W t e i0 _ ht hi hz0 .i64 .i64 m n (by omega) (by omega) (by rw [hz2,← Int.natCast_mul];omega) (by omega)
 rw [hr,hz1,Int.toNat_natCast,Int.toNat_natCast,Array.toArray_toList]
theorem jnExtra:Builder.Extra Tryz.prog Tryz.laysJN_ren where
 sizeBuilder:=by kernel_rfl
 liesBuilder:=by kernel_rfl
 t5:=Tryz.underlying5
 a5:=Tryz.isAgg5
 z5:=Tryz.sizeOf5
 v5:=Tryz.zeroValue5
 infoByte:=by kernel_rfl
 cellsByte:=by kernel_rfl
 sizeByte:=by kernel_rfl
 neB5:=by decide
theorem strs_at {w:World} {A:Option Addr} {ws:List ByteArray} {i:Nat} (h:Strs w A ws) (hi:i < ws.length):∃ g o,A = some ⟨g,o,none⟩∧g < w.heap.size∧w.cell? ⟨g,o + i,none⟩ = some (.string (ws.getD i ByteArray.empty)):=by
 rcases h with h | ⟨g,o,h1,h2,h3⟩
 ·subst h;exact absurd hi (Nat.not_lt_zero _)
 ·exact ⟨g,o,h1,h2,h3 i hi⟩
theorem getD_toL {ws:List ByteArray} {i:Nat} (hi:i < ws.length):(ws.map toL)[i]? = some (toL (ws.getD i ByteArray.empty)):=by
 rw [List.getElem?_map,List.getD_eq_getElem?_getD,List.getElem?_eq_getElem hi]
 rfl
theorem bel_on1 {w w1 w2:World} {B:Nat} (h:Bel w w1) (ho:Only [B] w1 w2) (hB:w.heap.size≤B):Bel w w2 :=
 Below.trans h (ho.to_below h.size (by intro k hk;simp at hk;omega))
def FoRow (w:World) (B:Nat) (L:List Value) (fs:List (List UInt8)) (k:Nat):Prop:=Blk w B 9 L∧L.length = fs.length∧∀ i x,i < k→fs[i]? = some x→L[i]? = some (.string (ofL x))
theorem FoRow.set_ {w:World} {B k:Nat} {L:List Value} {fs:List (List UInt8)} {x:List UInt8} (h:FoRow w B L fs k) (hx:fs[k]? = some x):FoRow (w.setCell ⟨B,k,none⟩ (.string (ofL x))) B (L.set k (.string (ofL x))) fs (k + 1):=by
 obtain ⟨h1,h2,h3⟩:=h
 refine ⟨h1.set_ k _,by rw [List.length_set];exact h2,fun i y hi hy => ?_⟩
 have hk:=(List.getElem?_eq_some_iff.1 hx).1
 by_cases e:i = k
 ·subst e
  rw [hx] at hy;injection hy with hy;subst hy
  rw [List.getElem?_set_self (by omega)]
 ·rw [List.getElem?_set_ne (by omega)]
  exact h3 i y (by omega) hy
theorem formOf_c (A:Option Addr) (c:Nat) (ws:List ByteArray) (w:World) (hS:Strs w A ws) (hw:∀ x ∈ ws,Wd (toL x)∧x.size≤70000) (hn:ws.length≤70000) :
  Calls Tryz.prog 79 #[.slice A ws.length c] w fun e w' => e = .returned (.string (ofL (jn (formL (ws.map toL)))))∧Bel w w':=by
 obtain ⟨n,hN⟩:∃ n,n = ws.length:=⟨_,rfl⟩
 obtain ⟨L0,hL0,hmk⟩:=make_cells (t:=112) Tryz.underlying112 info_str n n (Nat.le_refl _) (by omega) (by omega)
 have hfl:(formL (ws.map toL)).length = n:=by rw [formL_len,List.length_map,hN]
 have hle:(jn (formL (ws.map toL))).length≤140737488355328:=by
  have h1:=jn_le (formL_le (ws:=ws.map toL) (B:=70000) (fun x hx => by obtain ⟨y,hy,rfl⟩:=List.mem_map.1 hx;exact (hw y hy).2))
  rw [hfl] at h1
  have h2:n * (70000 + 4 + 1)≤70000 * (70000 + 4 + 1):=Nat.mul_le_mul_right _ (by omega)
  omega
 have HBL:=hid (show FoRow (w.alloc (.cells L0.toArray 9)) w.heap.size L0 (formL (ws.map toL)) 0 from ⟨Blk.new w 9 L0,by rw [hfl,hL0,Nat.mul_one],fun i x hi => absurd hi (Nat.not_lt_zero _)⟩)
 have HB0:Hid (Bel w (w.alloc (.cells L0.toArray 9))):=hid (Bel.alloc _ _)
 have HSZ:Hid (w.heap.size < (w.alloc (.cells L0.toArray 9)).heap.size):=hid (by simp)
 have HS:=hid hS
 have HW:=hid hw
 have HLE:=hid hle
 have HFL:=hid hfl
 have HNN:=hid hN
 rw [← hN]
 have hnn:n≤70000:=by omega
 clear hS hw hle hfl hL0 hN hn
 go_enter Tryz.func79,Tryz.ntmps79
 go_wp2_with fail
 go_loopw [11] (fun s11 wr => ∃ (k:Nat) (L:List Value),k≤n∧s11 = .int .i64 k∧Hid (FoRow wr w.heap.size L (formL (ws.map toL)) k)∧Hid (Bel w wr)∧Hid (w.heap.size < wr.heap.size)) (fun s11 _ => n - (intOf s11).toNat)
 case atStart => exact ⟨0,L0,Nat.zero_le _,rfl,HBL,HB0,HSZ⟩
 case round =>
  clear HBL HB0 HSZ
  obtain ⟨k,L,hk,rfl,HR,HB,HZ⟩:=hrel
  by_cases hlt:k < n
  ·have hkw:k < ws.length:=by have:=HNN.out;omega
   obtain ⟨g,o,hA,hg,hcell⟩:=strs_at HS.out hkw
   have c0:=(HB.out.cell hg).trans hcell
   subst hA
   have hmem:ws.getD k ByteArray.empty ∈ ws:=by rw [List.getD_eq_getElem?_getD,List.getElem?_eq_getElem hkw];exact List.getElem_mem hkw
   have hwd:=(HW.out _ hmem).1
   have hfx:=formL_at (getD_toL hkw)
   have HX:=hid hfx
   clear hfx hmem hcell
   generalize ws.getD k ByteArray.empty = x at *
   have hxs:0 < x.size:=by
    rw [← toL_len];exact List.length_pos_iff.2 hwd.1
   have HP:=hid (isPath_c x wr hxs)
   have hll:L.length = n:=by rw [HR.out.2.1,HFL.out]
   obtain ⟨v0,m0⟩:∃ v,wr.cell? ⟨w.heap.size,k,none⟩ = some v:=⟨_,(HR.out.1.cell k).trans (List.getElem?_eq_getElem (by omega))⟩
   have u0:=HR.out.1.free k
   clear hwd hxs
   cases hp:isP (toL x) with
   | true =>
    have HST:=hid (HR.out.set_ (x:=[46]) (by rw [HX.out];simp [fw,hp]))
    rw [hp] at HP
    clear hp hll
    go_wp2_with (go_at_call 80;refine HP.out.mono ?_;rintro e w2 ⟨rfl,rfl⟩)
    go_roundw
    case rel => exact ⟨k + 1,_,by omega,by go_num,HST,hid (bel_on1 HB.out ((Only.refl [w.heap.size] _).setCell (.inl (by simp)) _) (Nat.le_refl _)),hid (by have:=HZ.out;simpa using this)⟩
    case measure => simp [intOf];omega
   | false =>
    rw [hp] at HP
    by_cases h0:k = 0
    ·have HST:=hid (HR.out.set_ (x:=toL x) (by rw [HX.out];simp [fw,hp,h0]))
     rw [ofL_toL] at HST
     have h0':((k:Int) == 0) = true:=by subst h0;rfl
     clear hp hll h0
     go_wp2_with (go_at_call 80;refine HP.out.mono ?_;rintro e w2 ⟨rfl,rfl⟩)
     go_roundw
     case rel => exact ⟨k + 1,_,by omega,by go_num,HST,hid (bel_on1 HB.out ((Only.refl [w.heap.size] _).setCell (.inl (by simp)) _) (Nat.le_refl _)),hid (by have:=HZ.out;simpa using this)⟩
     case measure => simp [intOf];omega
    ·have HST:=hid (HR.out.set_ (x:=[110,97,109,101]) (by rw [HX.out];simp [fw,hp,h0]))
     have h0':¬ k = 0:=h0
     clear hp hll h0
     go_wp2_with (go_at_call 80;refine HP.out.mono ?_;rintro e w2 ⟨rfl,rfl⟩)
     go_roundw
     case rel => exact ⟨k + 1,_,by omega,by go_num,HST,hid (bel_on1 HB.out ((Only.refl [w.heap.size] _).setCell (.inl (by simp)) _) (Nat.le_refl _)),hid (by have:=HZ.out;simpa using this)⟩
     case measure => simp [intOf];omega
  ·obtain rfl:k = n:=by omega
   have hlen:=HFL.out
   have hcells:∀ (j:Nat) x,((formL (ws.map toL)).map ofL)[j]? = some x→wr.cell? ⟨w.heap.size,0 + j,none⟩ = some (.string x):=by
    intro j x hx
    rw [List.getElem?_map] at hx
    obtain ⟨y,hy,rfl⟩:=Option.map_eq_some_iff.1 hx
    rw [Nat.zero_add,HR.out.1.cell]
    exact HR.out.2.2 j y (by rw [← hlen];exact (List.getElem?_eq_some_iff.1 hy).1) hy
   have hj:Lib.join (((formL (ws.map toL)).map ofL).map (fun x => x.data.toList)) (⟨#[32]⟩:ByteArray).data.toList = jn (formL (ws.map toL)):=by
    rw [List.map_map]
    have e1:(fun x:ByteArray => x.data.toList) ∘ ofL = id:=rfl
    rw [e1,List.map_id]
    exact join_jn _
   have hl2:((formL (ws.map toL)).map ofL).length = k:=by rw [List.length_map];exact hlen
   have HJ:=hid (Any.strings_Join Tryz.laysJN jnExtra w.heap.size 0 k ((formL (ws.map toL)).map ofL) ⟨#[32]⟩ wr hcells HZ.out (by omega) (by omega) (by rw [hj];exact HLE.out))
   rw [hj,hl2] at HJ
   clear hcells hj hl2 hlen
   go_wp2_with (go_at_call 65;refine HJ.out.mono ?_;rintro e w2 ⟨rfl,hb⟩;have HB2:=hid (HB.out.trans hb);clear hb)
   go_ret
   exact ⟨rfl,HB2.out⟩
end
section
def blk (k:Nat):Bool:=k == 2 || k == 3 || k == 6
def nd (t:Tok) (e:Bool) (b l:List NT):NT:=.mk t.k t.a (ofL t.s) (ofL t.p) t.h e none 0 b none 0 l
abbrev PR:=Except (Nat × Nat) (List NT × List Tok × Nat)
def PR.cons (x:NT) (r:PR):PR:=match r with | .error e => .error e | .ok (l,y) => .ok (x :: l,y)
def pl:Nat→List Tok→Nat→Bool→Nat→Nat→PR
 | 0,_,_,_,_,_ => .error (0,0)
 | _ + 1,[],_,_,_,c => .ok ([],[],c)
 | f + 1,t :: r,op,ie,d,c =>
  if t.k = 7 then (if op = 2∧ie = false then .ok ([],t :: r,c) else .error (t.a,13))
  else if t.k = 8 then (if op = 0 then .error (t.a,13) else .ok ([],t :: r,c))
  else if t.k = 6∧0 < d ∨ blk t.k = true∧32≤d then .error (t.a,13)
  else if 4096≤c then .error (t.a,14)
  else if blk t.k = false then (pl f r op ie d (c + 1)).cons (nd t false [] [])
  else match pl f r t.k false (d + 1) (c + 1) with
   | .error e => .error e
   | .ok (b,r1,c1) =>
    match r1 with
    | [] => .error (t.a,7)
    | u :: r2 =>
     if u.k = 7 then
      match pl f r2 t.k true (d + 1) c1 with
      | .error e => .error e
      | .ok (b2,r3,c2) =>
       match r3 with
       | [] => .error (t.a,7)
       | _ :: r4 => (pl f r4 op ie d c2).cons (nd t true b b2)
     else (pl f r2 op ie d c1).cons (nd t false b [])
theorem cons_ok {x:NT} {r:PR} {l:List NT} {y:List Tok × Nat} (h:r.cons x = .ok (l,y)):∃ l',l = x :: l'∧r = .ok (l',y):=by
 unfold PR.cons at h
 split at h
 ·cases h
 ·injection h with h;injection h with h1 h2;subst h1 h2;exact ⟨_,rfl,rfl⟩
theorem pl_rest:∀ (f:Nat) (ts:List Tok) (op:Nat) (ie:Bool) (d c:Nat) (l:List NT) (r:List Tok) (c':Nat),pl f ts op ie d c = .ok (l,r,c')→r.length≤ts.length
 | 0,_,_,_,_,_,_,_,_,h => by cases h
 | f + 1,[],op,ie,d,c,l,r,c',h => by simp [pl] at h;obtain ⟨_,rfl,_⟩:=h;exact Nat.le_refl _
 | f + 1,t :: ts,op,ie,d,c,l,r,c',h => by
  unfold pl at h
  split at h
  ·split at h
   ·simp at h;obtain ⟨_,rfl,_⟩:=h;exact Nat.le_refl _
   ·cases h
  split at h
  ·split at h
   ·cases h
   ·simp at h;obtain ⟨_,rfl,_⟩:=h;exact Nat.le_refl _
  split at h
  ·cases h
  split at h
  ·cases h
  split at h
  ·obtain ⟨l',_,h2⟩:=cons_ok h
   have:=pl_rest f ts _ _ _ _ _ _ _ h2
   simp;omega
  split at h
  ·cases h
  rename_i b r1 c1 hb
  have h1:=pl_rest f _ _ _ _ _ _ _ _ hb
  split at h
  ·cases h
  rename_i u r2
  split at h
  ·split at h
   ·cases h
   rename_i b2 r3 c2 hb2
   have h2:=pl_rest f _ _ _ _ _ _ _ _ hb2
   split at h
   ·cases h
   rename_i v r4
   obtain ⟨l',_,h3⟩:=cons_ok h
   have h4:=pl_rest f _ _ _ _ _ _ _ _ h3
   simp at h1 h2 ⊢;omega
  ·obtain ⟨l',_,h3⟩:=cons_ok h
   have h4:=pl_rest f _ _ _ _ _ _ _ _ h3
   simp at h1 ⊢;omega
theorem pl_fuel:∀ (f g:Nat) (ts:List Tok) (op:Nat) (ie:Bool) (d c:Nat),ts.length < f→ts.length < g→pl f ts op ie d c = pl g ts op ie d c
 | 0,_,_,_,_,_,_,h,_ => absurd h (Nat.not_lt_zero _)
 | _,0,_,_,_,_,_,_,h => absurd h (Nat.not_lt_zero _)
 | f + 1,g + 1,[],_,_,_,_,_,_ => by simp [pl]
 | f + 1,g + 1,t :: ts,op,ie,d,c,hf,hg => by
  have hf':ts.length < f:=by simpa using hf
  have hg':ts.length < g:=by simpa using hg
  unfold pl
  rw [pl_fuel f g ts op ie d (c + 1) hf' hg',pl_fuel f g ts t.k false (d + 1) (c + 1) hf' hg']
  cases hb:pl g ts t.k false (d + 1) (c + 1) with
  | error e => rfl
  | ok x =>
   obtain ⟨b,r1,c1⟩:=x
   have h1:=pl_rest g _ _ _ _ _ _ _ _ hb
   cases r1 with
   | nil => rfl
   | cons u r2 =>
    simp at h1
    dsimp only
    rw [pl_fuel f g r2 t.k true (d + 1) c1 (by omega) (by omega),pl_fuel f g r2 op ie d c1 (by omega) (by omega)]
    cases hb2:pl g r2 t.k true (d + 1) c1 with
    | error e => rfl
    | ok x =>
     obtain ⟨b2,r3,c2⟩:=x
     have h2:=pl_rest g _ _ _ _ _ _ _ _ hb2
     cases r3 with
     | nil => rfl
     | cons v r4 =>
      simp at h2
      dsimp only
      rw [pl_fuel f g r4 op ie d c2 (by omega) (by omega)]
def P (ts:List Tok) (op:Nat) (ie:Bool) (d c:Nat):PR:=pl (ts.length + 1) ts op ie d c
theorem P_rest {ts:List Tok} {op:Nat} {ie:Bool} {d c:Nat} {l:List NT} {r:List Tok} {c':Nat} (h:P ts op ie d c = .ok (l,r,c')):r.length≤ts.length:=pl_rest _ _ _ _ _ _ _ _ _ h
theorem P_else {t:Tok} {r:List Tok} {op:Nat} {ie:Bool} {d c:Nat} (h:t.k = 7):P (t :: r) op ie d c = if op = 2∧ie = false then .ok ([],t :: r,c) else .error (t.a,13):=by
 unfold P pl;rw [if_pos h]
theorem P_end {t:Tok} {r:List Tok} {op:Nat} {ie:Bool} {d c:Nat} (h:t.k = 8):P (t :: r) op ie d c = if op = 0 then .error (t.a,13) else .ok ([],t :: r,c):=by
 unfold P pl;rw [if_neg (by omega),if_pos h]
theorem P_nest {t:Tok} {r:List Tok} {op:Nat} {ie:Bool} {d c:Nat} (h7:t.k ≠ 7) (h8:t.k ≠ 8) (h:t.k = 6∧0 < d ∨ blk t.k = true∧32≤d):P (t :: r) op ie d c = .error (t.a,13):=by
 unfold P pl;rw [if_neg h7,if_neg h8,if_pos h]
theorem P_many {t:Tok} {r:List Tok} {op:Nat} {ie:Bool} {d c:Nat} (h7:t.k ≠ 7) (h8:t.k ≠ 8) (h:¬ (t.k = 6∧0 < d ∨ blk t.k = true∧32≤d)) (hc:4096≤c):P (t :: r) op ie d c = .error (t.a,14):=by
 unfold P pl;rw [if_neg h7,if_neg h8,if_neg h,if_pos hc]
theorem P_leaf {t:Tok} {r:List Tok} {op:Nat} {ie:Bool} {d c:Nat} (h7:t.k ≠ 7) (h8:t.k ≠ 8) (hc:c < 4096) (hb:blk t.k = false):P (t :: r) op ie d c = (P r op ie d (c + 1)).cons (nd t false [] []):=by
 have h:¬ (t.k = 6∧0 < d ∨ blk t.k = true∧32≤d):=by
  rintro (⟨h,_⟩ | ⟨h,_⟩)
  ·rw [h] at hb;cases hb
  ·rw [h] at hb;cases hb
 unfold P
 rw [show (t :: r).length + 1 = (r.length + 1) + 1 from rfl]
 conv => lhs;unfold pl
 rw [if_neg h7,if_neg h8,if_neg h,if_neg (by omega),if_pos hb]
theorem P_body_err {t:Tok} {r:List Tok} {op:Nat} {ie:Bool} {d c:Nat} {e:Nat × Nat} (h:¬ (t.k = 6∧0 < d ∨ blk t.k = true∧32≤d)) (hc:c < 4096) (hb:blk t.k = true) (hp:P r t.k false (d + 1) (c + 1) = .error e):P (t :: r) op ie d c = .error e:=by
 have h7:t.k ≠ 7:=by intro h;rw [h] at hb;cases hb
 have h8:t.k ≠ 8:=by intro h;rw [h] at hb;cases hb
 unfold P at hp ⊢
 rw [show (t :: r).length + 1 = (r.length + 1) + 1 from rfl]
 conv => lhs;unfold pl
 rw [if_neg h7,if_neg h8,if_neg h,if_neg (by omega),if_neg (by rw [hb];decide),hp]
theorem P_body_open {t:Tok} {r:List Tok} {op:Nat} {ie:Bool} {d c:Nat} {b:List NT} {c1:Nat} (h:¬ (t.k = 6∧0 < d ∨ blk t.k = true∧32≤d)) (hc:c < 4096) (hb:blk t.k = true) (hp:P r t.k false (d + 1) (c + 1) = .ok (b,[],c1)):P (t :: r) op ie d c = .error (t.a,7):=by
 have h7:t.k ≠ 7:=by intro h;rw [h] at hb;cases hb
 have h8:t.k ≠ 8:=by intro h;rw [h] at hb;cases hb
 unfold P at hp ⊢
 rw [show (t :: r).length + 1 = (r.length + 1) + 1 from rfl]
 conv => lhs;unfold pl
 rw [if_neg h7,if_neg h8,if_neg h,if_neg (by omega),if_neg (by rw [hb];decide),hp]
theorem P_body_end {t u:Tok} {r r2:List Tok} {op:Nat} {ie:Bool} {d c:Nat} {b:List NT} {c1:Nat} (h:¬ (t.k = 6∧0 < d ∨ blk t.k = true∧32≤d)) (hc:c < 4096) (hb:blk t.k = true) (hp:P r t.k false (d + 1) (c + 1) = .ok (b,u :: r2,c1)) (hu:u.k ≠ 7) :
  P (t :: r) op ie d c = (P r2 op ie d c1).cons (nd t false b []):=by
 have h7:t.k ≠ 7:=by intro h;rw [h] at hb;cases hb
 have h8:t.k ≠ 8:=by intro h;rw [h] at hb;cases hb
 have hl:=P_rest hp
 simp at hl
 unfold P at hp ⊢
 rw [show (t :: r).length + 1 = (r.length + 1) + 1 from rfl]
 conv => lhs;unfold pl
 rw [if_neg h7,if_neg h8,if_neg h,if_neg (by omega),if_neg (by rw [hb];decide),hp]
 dsimp only
 rw [if_neg hu,pl_fuel (r.length + 1) (r2.length + 1) r2 _ _ _ _ (by omega) (by omega)]
theorem P_else_err {t u:Tok} {r r2:List Tok} {op:Nat} {ie:Bool} {d c:Nat} {b:List NT} {c1:Nat} {e:Nat × Nat} (h:¬ (t.k = 6∧0 < d ∨ blk t.k = true∧32≤d)) (hc:c < 4096) (hb:blk t.k = true) (hp:P r t.k false (d + 1) (c + 1) = .ok (b,u :: r2,c1)) (hu:u.k = 7)
  (hp2:P r2 t.k true (d + 1) c1 = .error e):P (t :: r) op ie d c = .error e:=by
 have h7:t.k ≠ 7:=by intro h;rw [h] at hb;cases hb
 have h8:t.k ≠ 8:=by intro h;rw [h] at hb;cases hb
 have hl:=P_rest hp
 simp at hl
 unfold P at hp hp2 ⊢
 rw [show (t :: r).length + 1 = (r.length + 1) + 1 from rfl]
 conv => lhs;unfold pl
 rw [if_neg h7,if_neg h8,if_neg h,if_neg (by omega),if_neg (by rw [hb];decide),hp]
 dsimp only
 rw [if_pos hu,pl_fuel (r.length + 1) (r2.length + 1) r2 _ _ _ _ (by omega) (by omega),hp2]
theorem P_else_open {t u:Tok} {r r2:List Tok} {op:Nat} {ie:Bool} {d c:Nat} {b b2:List NT} {c1 c2:Nat} (h:¬ (t.k = 6∧0 < d ∨ blk t.k = true∧32≤d)) (hc:c < 4096) (hb:blk t.k = true) (hp:P r t.k false (d + 1) (c + 1) = .ok (b,u :: r2,c1)) (hu:u.k = 7)
  (hp2:P r2 t.k true (d + 1) c1 = .ok (b2,[],c2)):P (t :: r) op ie d c = .error (t.a,7):=by
 have h7:t.k ≠ 7:=by intro h;rw [h] at hb;cases hb
 have h8:t.k ≠ 8:=by intro h;rw [h] at hb;cases hb
 have hl:=P_rest hp
 simp at hl
 unfold P at hp hp2 ⊢
 rw [show (t :: r).length + 1 = (r.length + 1) + 1 from rfl]
 conv => lhs;unfold pl
 rw [if_neg h7,if_neg h8,if_neg h,if_neg (by omega),if_neg (by rw [hb];decide),hp]
 dsimp only
 rw [if_pos hu,pl_fuel (r.length + 1) (r2.length + 1) r2 _ _ _ _ (by omega) (by omega),hp2]
theorem P_else_end {t u v:Tok} {r r2 r4:List Tok} {op:Nat} {ie:Bool} {d c:Nat} {b b2:List NT} {c1 c2:Nat} (h:¬ (t.k = 6∧0 < d ∨ blk t.k = true∧32≤d)) (hc:c < 4096) (hb:blk t.k = true) (hp:P r t.k false (d + 1) (c + 1) = .ok (b,u :: r2,c1)) (hu:u.k = 7)
  (hp2:P r2 t.k true (d + 1) c1 = .ok (b2,v :: r4,c2)):P (t :: r) op ie d c = (P r4 op ie d c2).cons (nd t true b b2):=by
 have h7:t.k ≠ 7:=by intro h;rw [h] at hb;cases hb
 have h8:t.k ≠ 8:=by intro h;rw [h] at hb;cases hb
 have hl:=P_rest hp
 have hl2:=P_rest hp2
 simp at hl hl2
 unfold P at hp hp2 ⊢
 rw [show (t :: r).length + 1 = (r.length + 1) + 1 from rfl]
 conv => lhs;unfold pl
 rw [if_neg h7,if_neg h8,if_neg h,if_neg (by omega),if_neg (by rw [hb];decide),hp]
 dsimp only
 rw [if_pos hu,pl_fuel (r.length + 1) (r2.length + 1) r2 _ _ _ _ (by omega) (by omega),hp2]
 dsimp only
 rw [pl_fuel (r.length + 1) (r4.length + 1) r4 _ _ _ _ (by omega) (by omega)]
theorem pl_stop:∀ (f:Nat) (ts:List Tok) (op:Nat) (ie:Bool) (d c:Nat) (l:List NT) (u:Tok) (r:List Tok) (c':Nat),pl f ts op ie d c = .ok (l,u :: r,c')→(u.k = 7∧op = 2∧ie = false) ∨ (u.k = 8∧op ≠ 0)
 | 0,_,_,_,_,_,_,_,_,_,h => by cases h
 | f + 1,[],op,ie,d,c,l,u,r,c',h => by simp [pl] at h
 | f + 1,t :: ts,op,ie,d,c,l,u,r,c',h => by
  unfold pl at h
  split at h
  ·rename_i hk
   split at h
   ·rename_i ho;simp at h;obtain ⟨_,⟨rfl,_⟩,_⟩:=h;exact .inl ⟨hk,ho.1,ho.2⟩
   ·cases h
  split at h
  ·rename_i hk
   split at h
   ·cases h
   ·rename_i ho;simp at h;obtain ⟨_,⟨rfl,_⟩,_⟩:=h;exact .inr ⟨hk,ho⟩
  split at h
  ·cases h
  split at h
  ·cases h
  split at h
  ·obtain ⟨l',_,h2⟩:=cons_ok h
   exact pl_stop f _ _ _ _ _ _ _ _ _ h2
  split at h
  ·cases h
  split at h
  ·cases h
  split at h
  ·split at h
   ·cases h
   split at h
   ·cases h
   obtain ⟨l',_,h3⟩:=cons_ok h
   exact pl_stop f _ _ _ _ _ _ _ _ _ h3
  ·obtain ⟨l',_,h3⟩:=cons_ok h
   exact pl_stop f _ _ _ _ _ _ _ _ _ h3
theorem P_stop {ts:List Tok} {op:Nat} {ie:Bool} {d c:Nat} {l:List NT} {u:Tok} {r:List Tok} {c':Nat} (h:P ts op ie d c = .ok (l,u :: r,c')):(u.k = 7∧op = 2∧ie = false) ∨ (u.k = 8∧op ≠ 0):=pl_stop _ _ _ _ _ _ _ _ _ _ h
end
section
def blkI (k:Int):Bool:=k == 2 || k == 3 || k == 6
namespace NT
mutual
def cnt:NT→Nat | mk k _ _ _ _ _ _ _ b _ _ l => 1 + (if blkI k then cnts b else 0) + (if k = 2 then cnts l else 0)
def cnts:List NT→Nat | [] => 0 | x :: r => cnt x + cnts r
end
mutual
def nst:NT→Nat | mk k _ _ _ _ _ _ _ b _ _ l => if blkI k then max (1 + nsts b) (if k = 2 then 1 + nsts l else 0) else 0
def nsts:List NT→Nat | [] => 0 | x :: r => max (nst x) (nsts r)
end
theorem cnt_eq (t:NT):t.cnt = 1 + (if blkI t.k then cnts t.b else 0) + (if t.k = 2 then cnts t.l else 0):=by cases t;rw [cnt];rfl
theorem nst_eq (t:NT):t.nst = if blkI t.k then max (1 + nsts t.b) (if t.k = 2 then 1 + nsts t.l else 0) else 0:=by cases t;rw [nst];rfl
theorem cnts_nil:cnts [] = 0:=by simp [cnts]
theorem cnts_cons (x:NT) (r:List NT):cnts (x :: r) = cnt x + cnts r:=by simp [cnts]
theorem nsts_nil:nsts [] = 0:=by simp [nsts]
theorem nsts_cons (x:NT) (r:List NT):nsts (x :: r) = max (nst x) (nsts r):=by simp [nsts]
theorem cnts_append:∀ l m:List NT,cnts (l ++ m) = cnts l + cnts m
 | [],m => by simp [cnts_nil]
 | x :: l,m => by rw [List.cons_append,cnts_cons,cnts_cons,cnts_append l m];omega
theorem cnts_le_len:∀ l:List NT,l.length≤cnts l
 | [] => Nat.zero_le _
 | x :: l => by rw [cnts_cons,cnt_eq,List.length_cons];have:=cnts_le_len l;omega
mutual
def pre:NT→List Int | mk _ a _ _ _ _ _ _ b _ _ l => a :: (pres b ++ pres l)
def pres:List NT→List Int | [] => [] | x :: r => pre x ++ pres r
end
theorem pre_eq (t:NT):t.pre = t.a :: (pres t.b ++ pres t.l):=by cases t;simp [pre,a,b,l]
theorem pres_nil:pres [] = []:=by simp [pres]
theorem pres_cons (x:NT) (r:List NT):pres (x :: r) = pre x ++ pres r:=by simp [pres]
theorem pres_er_of:∀ l:List NT,(∀ x,x ∈ l→x.er.pre = x.pre)→pres (ers l) = pres l
 | [],_ => by simp [ers,pres_nil]
 | x :: l,h => by rw [ers,pres_cons,pres_cons,h x (by simp),pres_er_of l fun y hy => h y (by simp [hy])]
theorem pre_er (t:NT):t.er.pre = t.pre:=by
 refine ind (M:=fun t => t.er.pre = t.pre) (fun t h1 h2 => ?_) t
 rw [pre_eq t.er,pre_eq t,er_a,er_b,er_l,pres_er_of _ h1,pres_er_of _ h2]
theorem pres_er (l:List NT):pres (ers l) = pres l:=pres_er_of l fun x _ => pre_er x
end NT
open NT
theorem nd_k (t:Tok) (e:Bool) (b l:List NT):(nd t e b l).k = t.k:=rfl
theorem blkI_nat (k:Nat):blkI (k:Int) = blk k:=by
 unfold blkI blk
 rw [Bool.eq_iff_iff]
 simp only [Bool.or_eq_true,beq_iff_eq]
 omega
theorem nd_cnt (t:Tok) (e:Bool) (b l:List NT):(nd t e b l).cnt = 1 + (if blk t.k then cnts b else 0) + (if t.k = 2 then cnts l else 0):=by
 rw [cnt_eq,nd_k,blkI_nat]
 have:((t.k:Int) = 2) ↔ (t.k = 2):=by omega
 simp only [this]
 rfl
theorem nd_nst (t:Tok) (e:Bool) (b l:List NT):(nd t e b l).nst = if blk t.k then max (1 + nsts b) (if t.k = 2 then 1 + nsts l else 0) else 0:=by
 rw [nst_eq,nd_k,blkI_nat]
 have:((t.k:Int) = 2) ↔ (t.k = 2):=by omega
 simp only [this]
 rfl
theorem nd_pre (t:Tok) (e:Bool) (b l:List NT):(nd t e b l).pre = (t.a:Int) :: (pres b ++ pres l):=pre_eq _
theorem pl_good:∀ (f:Nat) (ts:List Tok) (op:Nat) (ie:Bool) (d c:Nat) (l:List NT) (r:List Tok) (c':Nat),pl f ts op ie d c = .ok (l,r,c')→c≤4096→d≤32 →
  c' = c + cnts l∧c'≤4096∧d + nsts l≤32∧∃ u,ts = u ++ r∧(pres l).Sublist (u.map fun t => (t.a:Int))
 | 0,_,_,_,_,_,_,_,_,h,_,_ => by cases h
 | f + 1,[],op,ie,d,c,l,r,c',h,hc,hd => by
  simp [pl] at h;obtain ⟨rfl,rfl,rfl⟩:=h
  exact ⟨by simp [cnts_nil],hc,by simp [nsts_nil];exact hd,[],rfl,by simp [pres_nil]⟩
 | f + 1,t :: ts,op,ie,d,c,l,r,c',h,hc,hd => by
  have hz:∀ (r':List Tok),t :: ts = r'→c = c + cnts []∧c≤4096∧d + nsts []≤32∧∃ u,t :: ts = u ++ r'∧(pres []).Sublist (u.map fun t:Tok => (t.a:Int)):=by
   rintro r' rfl
   exact ⟨by simp [cnts_nil],hc,by simp [nsts_nil];exact hd,[],rfl,by simp [pres_nil]⟩
  unfold pl at h
  split at h
  ·split at h
   ·simp at h;obtain ⟨rfl,h2,rfl⟩:=h;exact hz _ h2
   ·cases h
  split at h
  ·split at h
   ·cases h
   ·simp at h;obtain ⟨rfl,h2,rfl⟩:=h;exact hz _ h2
  split at h
  ·cases h
  rename_i hnest
  split at h
  ·cases h
  rename_i hlim
  split at h
  ·rename_i hb
   obtain ⟨l',rfl,h2⟩:=cons_ok h
   obtain ⟨g1,g2,g3,u,g4,g5⟩:=pl_good f ts _ _ _ _ _ _ _ h2 (by omega) hd
   refine ⟨?_,g2,?_,t :: u,by rw [g4];rfl,?_⟩
   ·rw [cnts_cons,nd_cnt,hb,g1];simp [cnts_nil];omega
   ·rw [nsts_cons,nd_nst,hb];simp;exact g3
   ·rw [pres_cons,nd_pre,pres_nil];simpa using g5
  rename_i hb
  have hb:blk t.k = true:=by simpa using hb
  have hd32:d + 1≤32:=by
   rcases Nat.lt_or_ge d 32 with h1 | h1
   ·omega
   ·exact absurd (.inr ⟨hb,h1⟩) hnest
  split at h
  ·cases h
  rename_i b r1 c1 hp1
  obtain ⟨a1,a2,a3,u1,a4,a5⟩:=pl_good f ts _ _ _ _ _ _ _ hp1 (by omega) hd32
  split at h
  ·cases h
  rename_i v r2
  split at h
  ·rename_i hv
   split at h
   ·cases h
   rename_i b2 r3 c2 hp2
   have hk2:t.k = 2:=by
    rcases pl_stop _ _ _ _ _ _ _ _ _ _ hp1 with ⟨_,h1,_⟩ | ⟨h1,_⟩
    ·exact h1
    ·omega
   obtain ⟨b1',b2',b3',u2,b4',b5'⟩:=pl_good f r2 _ _ _ _ _ _ _ hp2 a2 hd32
   split at h
   ·cases h
   rename_i x r4
   obtain ⟨l',rfl,h3⟩:=cons_ok h
   obtain ⟨g1,g2,g3,u,g4,g5⟩:=pl_good f r4 _ _ _ _ _ _ _ h3 b2' hd
   refine ⟨?_,g2,?_,t :: (u1 ++ v :: (u2 ++ x :: u)),by rw [a4,b4',g4];simp,?_⟩
   ·rw [cnts_cons,nd_cnt,hb,hk2,g1,b1',a1];simp;omega
   ·rw [nsts_cons,nd_nst,hb,hk2];simp;omega
   ·rw [pres_cons,nd_pre,List.cons_append,List.map_cons,List.append_assoc]
    refine List.Sublist.cons_cons _ ?_
    rw [List.map_append]
    refine List.Sublist.append a5 ?_
    rw [List.map_cons]
    refine List.Sublist.cons _ ?_
    rw [List.map_append]
    refine List.Sublist.append b5' ?_
    rw [List.map_cons]
    exact List.Sublist.cons _ g5
  ·rename_i hv
   obtain ⟨l',rfl,h3⟩:=cons_ok h
   obtain ⟨g1,g2,g3,u,g4,g5⟩:=pl_good f r2 _ _ _ _ _ _ _ h3 a2 hd
   refine ⟨?_,g2,?_,t :: (u1 ++ v :: u),by rw [a4,g4];simp,?_⟩
   ·rw [cnts_cons,nd_cnt,hb,g1,a1,cnts_nil];simp;omega
   ·rw [nsts_cons,nd_nst,hb,nsts_nil];simp;split <;> omega
   ·rw [pres_cons,nd_pre,pres_nil,List.append_nil,List.cons_append,List.map_cons]
    refine List.Sublist.cons_cons _ ?_
    rw [List.map_append]
    refine List.Sublist.append a5 ?_
    rw [List.map_cons]
    exact List.Sublist.cons _ g5
theorem P_good {ts:List Tok} {op:Nat} {ie:Bool} {d c:Nat} {l:List NT} {r:List Tok} {c':Nat} (h:P ts op ie d c = .ok (l,r,c')) (hc:c≤4096) (hd:d≤32) :
  c' = c + cnts l∧c'≤4096∧d + nsts l≤32∧∃ u,ts = u ++ r∧(pres l).Sublist (u.map fun t => (t.a:Int)):=pl_good _ _ _ _ _ _ _ _ _ h hc hd
def PR.pre (l:List NT) (r:PR):PR:=match r with | .error e => .error e | .ok (m,y) => .ok (l ++ m,y)
theorem pre_nil (r:PR):PR.pre [] r = r:=by cases r <;> rfl
theorem P_step_block {t:Tok} {r:List Tok} {op:Nat} {ie:Bool} {d c:Nat} (h:¬ (t.k = 6∧0 < d ∨ blk t.k = true∧32≤d)) (hc:c < 4096) (hb:blk t.k = true) :
  P (t :: r) op ie d c = match P r t.k false (d + 1) (c + 1) with
   | .error e => .error e
   | .ok (b,[],_) => .error (t.a,7)
   | .ok (b,u :: r2,c1) => if u.k = 7 then (match P r2 t.k true (d + 1) c1 with
     | .error e => .error e
     | .ok (b2,[],_) => .error (t.a,7)
     | .ok (b2,_ :: r4,c2) => (P r4 op ie d c2).cons (nd t true b b2)) else (P r2 op ie d c1).cons (nd t false b []):=by
 cases hp:P r t.k false (d + 1) (c + 1) with
 | error e => exact P_body_err h hc hb hp
 | ok x =>
  obtain ⟨b,r1,c1⟩:=x
  cases r1 with
  | nil => exact P_body_open h hc hb hp
  | cons u r2 =>
   dsimp only
   by_cases hu:u.k = 7
   ·rw [if_pos hu]
    cases hp2:P r2 t.k true (d + 1) c1 with
    | error e => exact P_else_err h hc hb hp hu hp2
    | ok x =>
     obtain ⟨b2,r3,c2⟩:=x
     cases r3 with
     | nil => exact P_else_open h hc hb hp hu hp2
     | cons v r4 => exact P_else_end h hc hb hp hu hp2
   ·rw [if_neg hu];exact P_body_end h hc hb hp hu
theorem P_top_rest {ts:List Tok} {d c:Nat} {l:List NT} {r:List Tok} {c':Nat} (h:P ts 0 false d c = .ok (l,r,c')):r = []:=by
 cases r with
 | nil => rfl
 | cons u r => rcases P_stop h with ⟨_,h1,_⟩ | ⟨_,h1⟩;cases h1;exact absurd rfl h1
end
section
open NT
theorem strips_nil:strips [] = []:=by simp [strips]
theorem strips_cons (x:NT) (r:List NT):strips (x :: r) = strip x :: strips r:=by simp [strips]
def enL:List UInt8:=[123,123,101,110,100,125,125]
end
section
namespace NT
mutual
def tot:NT→Nat | mk _ _ _ _ _ _ _ _ b _ _ l => 1 + tots b + tots l
def tots:List NT→Nat | [] => 0 | x :: r => tot x + tots r
end
theorem tot_eq (t:NT):t.tot = 1 + tots t.b + tots t.l:=by cases t;rw [tot];rfl
theorem tots_nil:tots [] = 0:=by simp [tots]
theorem tots_cons (x:NT) (r:List NT):tots (x :: r) = tot x + tots r:=by simp [tots]
theorem tots_append:∀ l m:List NT,tots (l ++ m) = tots l + tots m
 | [],m => by simp [tots_nil]
 | x :: l,m => by rw [List.cons_append,tots_cons,tots_cons,tots_append l m];omega
theorem cnts_le_of:∀ l:List NT,(∀ x,x ∈ l→x.cnt≤x.tot)→cnts l≤tots l
 | [],_ => by simp [cnts_nil]
 | x :: l,h => by rw [cnts_cons,tots_cons];have:=h x (by simp);have:=cnts_le_of l fun y hy => h y (by simp [hy]);omega
theorem cnt_le (t:NT):t.cnt≤t.tot:=by
 refine ind (M:=fun t => t.cnt≤t.tot) (fun t h1 h2 => ?_) t
 have:=cnts_le_of _ h1
 have:=cnts_le_of _ h2
 rw [cnt_eq,tot_eq]
 split <;> split <;> omega
theorem cnts_le (l:List NT):cnts l≤tots l:=cnts_le_of l fun x _ => cnt_le x
theorem take_step {l:List NT} {i:Nat} {x:NT} (h:l[i]? = some x):l.take (i + 1) = l.take i ++ [x]:=by
 obtain ⟨hi,e⟩:=List.getElem?_eq_some_iff.1 h
 rw [List.take_succ_eq_append_getElem hi,e]
theorem tots_step {l:List NT} {i:Nat} {x:NT} (h:l[i]? = some x):tots (l.take (i + 1)) = tots (l.take i) + x.tot:=by rw [take_step h,tots_append,tots_cons,tots_nil];omega
end NT
open NT
end
section
theorem cons_err {x:NT} {r:PR} {e:Nat × Nat} (h:r.cons x = .error e):r = .error e:=by
 unfold PR.cons at h
 split at h
 ·exact h
 ·cases h
theorem pl_code:∀ (f:Nat) (ts:List Tok) (op:Nat) (ie:Bool) (d c a k:Nat),ts.length < f→pl f ts op ie d c = .error (a,k)→k = 7 ∨ k = 13 ∨ k = 14
 | 0,_,_,_,_,_,_,_,hf,_ => absurd hf (Nat.not_lt_zero _)
 | f + 1,[],op,ie,d,c,a,k,hf,h => by simp [pl] at h
 | f + 1,t :: ts,op,ie,d,c,a,k,hf,h => by
  have hf':ts.length < f:=by simpa using hf
  unfold pl at h
  split at h
  ·split at h
   ·cases h
   ·injection h with h;injection h with _ h;exact .inr (.inl h.symm)
  split at h
  ·split at h
   ·injection h with h;injection h with _ h;exact .inr (.inl h.symm)
   ·cases h
  split at h
  ·injection h with h;injection h with _ h;exact .inr (.inl h.symm)
  split at h
  ·injection h with h;injection h with _ h;exact .inr (.inr h.symm)
  split at h
  ·exact pl_code f ts _ _ _ _ _ _ hf' (cons_err h)
  split at h
  ·rename_i e he
   injection h with h;subst h
   exact pl_code f ts _ _ _ _ _ _ hf' he
  rename_i b r1 c1 hb
  have h1:=pl_rest f _ _ _ _ _ _ _ _ hb
  split at h
  ·injection h with h;injection h with _ h;exact .inl h.symm
  rename_i u r2
  simp only [List.length_cons] at h1
  split at h
  ·split at h
   ·rename_i e he
    injection h with h;subst h
    exact pl_code f r2 _ _ _ _ _ _ (by omega) he
   rename_i b2 r3 c2 hb2
   have h2:=pl_rest f _ _ _ _ _ _ _ _ hb2
   split at h
   ·injection h with h;injection h with _ h;exact .inl h.symm
   rename_i v r4
   simp only [List.length_cons] at h2
   exact pl_code f r4 _ _ _ _ _ _ (by omega) (cons_err h)
  ·exact pl_code f r2 _ _ _ _ _ _ (by omega) (cons_err h)
theorem P_code {ts:List Tok} {op:Nat} {ie:Bool} {d c a k:Nat} (h:P ts op ie d c = .error (a,k)):k ≠ 0:=by
 rcases pl_code _ _ _ _ _ _ _ _ (Nat.lt_succ_self _) h with h | h | h <;> omega
end
section
open NT
def z0 (t:Tok):Tok:={ t with a:=0 }
namespace NT
end NT
def Parsed (l:List NT):Prop:=∃ (x:List UInt8) (ts:List Tok) (c:Nat),x.length≤5000∧Lx x 0 ts∧P ts 0 false 0 0 = .ok (l,[],c)
theorem strips_ers (l:List NT):strips (ers l) = strips l:=by
 rw [strips_map,strips_map,ers_map,List.map_map]
 exact List.map_congr_left fun x _ => strip_er x
theorem tot_pre (t:NT):(pre t).length = t.tot:=by
 have key:∀ l:List NT,(∀ x,x ∈ l→(pre x).length = x.tot)→(pres l).length = tots l:=by
  intro l
  induction l with
  | nil => intro _;simp [pres,tots]
  | cons x l ih => intro h;rw [pres_cons,tots_cons,List.length_append,h x (by simp),ih fun y hy => h y (by simp [hy])]
 refine ind (M:=fun t => (pre t).length = t.tot) (fun t h1 h2 => ?_) t
 rw [pre_eq,tot_eq,List.length_cons,List.length_append,key t.b h1,key t.l h2]
 omega
theorem tots_pres (l:List NT):(pres l).length = tots l:=by
 induction l with
 | nil => simp [pres,tots]
 | cons x l ih => rw [pres_cons,tots_cons,List.length_append,tot_pre,ih]
theorem Parsed.tots {l:List NT} (h:Parsed l):NT.tots l≤5000:=by
 obtain ⟨x,ts,c,hx,hl,hp⟩:=h
 obtain ⟨_,_,_,u,hu,hs⟩:=P_good hp (by decide) (by decide)
 have h1:=hs.length_le
 rw [tots_pres,List.length_map] at h1
 have h2:=lx_count hl
 rw [hu,List.append_nil] at h2
 omega
theorem tots_ers (l:List NT):tots (ers l) = tots l:=by rw [← tots_pres,pres_er,tots_pres]
end
end Go.Proofs.YtpcapmdfjmpdiaaGreatDoor
