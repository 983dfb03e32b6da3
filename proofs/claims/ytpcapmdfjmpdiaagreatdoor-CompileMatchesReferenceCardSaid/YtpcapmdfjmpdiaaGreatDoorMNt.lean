/- Sources of templates as lists of bytes: braces, words, forms, tokens -/
import Derived.Test.YtpcapmdfjmpdiaaGreatDoorMKRow
import Derived.Lib.IndexMore
import Derived.Lib.Join
import Derived.Test.YtpcapmdfjmpdiaaGreatDoorMHp15
import Derived.Lib.FieldsP
import Derived.Lib.DecodeN
import Derived.Maps.OwnSet
import Derived.Lib.SmallJoins
set_option linter.unusedVariables false
set_option linter.unusedSimpArgs false
set_option maxRecDepth 100000
open Go.Lib (hid)
namespace Go.Proofs.YtpcapmdfjmpdiaaGreatDoor
section
def BB (c:UInt8) (l:List UInt8) (j:Nat):Prop:=l[j]? = some c∧l[j + 1]? = some c
def find2 (c:UInt8):List UInt8→Option Nat
 | [] => none
 | [_] => none
 | a :: b :: l => if a = c∧b = c then some 0 else (find2 c (b :: l)).map (·+ 1)
theorem BB.succ {c a:UInt8} {l:List UInt8} {j:Nat}:BB c (a :: l) (j + 1) ↔ BB c l j:=by simp [BB]
theorem find2_none:∀ {c:UInt8} {l:List UInt8},find2 c l = none ↔ ∀ j,¬ BB c l j
 | c,[] => by simp [find2,BB]
 | c,[a] => by simp [find2,BB]
 | c,a :: b :: l => by
  unfold find2
  by_cases h:a = c∧b = c
  ·rw [if_pos h]
   refine ⟨fun h => (by cases h),fun h2 => absurd ?_ (h2 0)⟩
   simp [BB,h.1,h.2]
  ·rw [if_neg h]
   simp only [Option.map_eq_none_iff]
   rw [find2_none]
   refine ⟨fun h1 j hj => ?_,fun h1 j hj => h1 (j + 1) (BB.succ.2 hj)⟩
   cases j with
   | zero => simp [BB] at hj;exact h hj
   | succ j => exact h1 j (BB.succ.1 hj)
theorem find2_some:∀ {c:UInt8} {l:List UInt8} {i:Nat},find2 c l = some i ↔ BB c l i∧∀ j,j < i→¬ BB c l j
 | c,[],i => by simp [find2,BB]
 | c,[a],i => by simp [find2,BB]
 | c,a :: b :: l,i => by
  unfold find2
  by_cases h:a = c∧b = c
  ·rw [if_pos h]
   obtain ⟨rfl,rfl⟩:=h
   have h0:∀ d:UInt8,BB d (d :: d :: l) 0:=fun d => by simp [BB]
   refine ⟨fun h => ?_,fun ⟨h1,h2⟩ => ?_⟩
   ·injection h with h;subst h
    exact ⟨h0 _,fun j hj => absurd hj (Nat.not_lt_zero _)⟩
   ·cases i with
    | zero => rfl
    | succ i => exact absurd (h0 _) (h2 0 (Nat.succ_pos _))
  ·rw [if_neg h]
   have hn0:¬ BB c (a :: b :: l) 0:=by intro h1;simp [BB] at h1;exact h h1
   rw [Option.map_eq_some_iff]
   constructor
   ·rintro ⟨k,hk,rfl⟩
    obtain ⟨h1,h2⟩:=find2_some.1 hk
    refine ⟨BB.succ.2 h1,fun j hj => ?_⟩
    cases j with
    | zero => exact hn0
    | succ j => exact fun h3 => h2 j (by omega) (BB.succ.1 h3)
   ·rintro ⟨h1,h2⟩
    cases i with
    | zero => exact absurd h1 hn0
    | succ i => exact ⟨i,find2_some.2 ⟨BB.succ.1 h1,fun j hj h3 => h2 (j + 1) (by omega) (BB.succ.2 h3)⟩,rfl⟩
theorem find2_lt {c:UInt8} {l:List UInt8} {i:Nat} (h:find2 c l = some i):i + 2≤l.length:=by
 have:=(find2_some.1 h).1.2
 have:=(List.getElem?_eq_some_iff.1 this).1
 omega
theorem occ_two {c:UInt8} {l:List UInt8} {i:Nat}:Lib.occAt l [c,c] i = true ↔ BB c l i:=by
 unfold Lib.occAt BB
 have e1:l[i]? = (l.drop i)[0]?:=by rw [List.getElem?_drop];rfl
 have e2:l[i + 1]? = (l.drop i)[1]?:=by rw [List.getElem?_drop]
 rw [e1,e2]
 match l.drop i with
 | [] => simp
 | [a] => simp [List.isPrefixOf]
 | a :: b :: r =>
  simp only [List.isPrefixOf,Bool.and_eq_true,beq_iff_eq,List.getElem?_cons_zero,List.getElem?_cons_succ,Option.some.injEq,Bool.and_true]
  exact ⟨fun ⟨h1,h2⟩ => ⟨h1.symm,h2.symm⟩,fun ⟨h1,h2⟩ => ⟨h1.symm,h2.symm⟩⟩
theorem index_two (c:UInt8) (l:List UInt8):Lib.index l [c,c] = match find2 c l with | none => -1 | some i => (i:Int):=by
 cases h:find2 c l with
 | none =>
  refine Lib.index_none fun j _ => ?_
  rw [Bool.eq_false_iff]
  exact fun h1 => find2_none.1 h j (occ_two.1 h1)
 | some i =>
  obtain ⟨h1,h2⟩:=find2_some.1 h
  have:=find2_lt h
  refine Lib.index_first (by omega) (occ_two.2 h1) fun j hj => ?_
  rw [Bool.eq_false_iff]
  exact fun h3 => h2 j hj (occ_two.1 h3)
theorem cut_two (c:UInt8) (l:List UInt8):Lib.cut l [c,c] = match find2 c l with | none => (l,[],false) | some i => (l.take i,l.drop (i + 2),true):=by
 unfold Lib.cut
 rw [index_two]
 cases h:find2 c l with
 | none => rfl
 | some i => simp
def wl (cur:List UInt8):List UInt8→List (List UInt8)
 | [] => if cur = [] then [] else [cur]
 | c :: l => if c = 32 then (if cur = [] then wl [] l else cur :: wl [] l) else wl (cur ++ [c]) l
def words (l:List UInt8):List (List UInt8):=wl [] l
def Wd (w:List UInt8):Prop:=w ≠ []∧∀ c ∈ w,c ≠ 32
theorem wl_all:∀ {l cur:List UInt8},(∀ c ∈ cur,c ≠ 32)→∀ w ∈ wl cur l,Wd w∧∀ c ∈ w,c ∈ cur ∨ c ∈ l
 | [],cur,h,w,hw => by
  unfold wl at hw
  split at hw
  ·cases hw
  ·rename_i hne;simp at hw;subst hw;exact ⟨⟨hne,h⟩,fun c hc => .inl hc⟩
 | c :: l,cur,h,w,hw => by
  unfold wl at hw
  split at hw
  ·rename_i hc
   have ih:∀ w ∈ wl [] l,Wd w∧∀ d ∈ w,d ∈ cur ∨ d ∈ c :: l:=fun w hw => by
    obtain ⟨h1,h2⟩:=wl_all (l:=l) (cur:=[]) (by simp) w hw
    exact ⟨h1,fun d hd => by rcases h2 d hd with h3 | h3 <;> simp_all⟩
   split at hw
   ·exact ih w hw
   ·rename_i hne
    rcases List.mem_cons.1 hw with rfl | hw
    ·exact ⟨⟨hne,h⟩,fun d hd => .inl hd⟩
    ·exact ih w hw
  ·rename_i hc
   obtain ⟨h1,h2⟩:=wl_all (l:=l) (cur:=cur ++ [c]) (by intro d hd;rcases List.mem_append.1 hd with h3 | h3;exact h d h3;simp at h3;subst h3;exact hc) w hw
   refine ⟨h1,fun d hd => ?_⟩
   rcases h2 d hd with h3 | h3
   ·rcases List.mem_append.1 h3 with h4 | h4
    ·exact .inl h4
    ·simp at h4;subst h4;exact .inr (by simp)
   ·exact .inr (by simp [h3])
theorem words_wd {l w:List UInt8} (h:w ∈ words l):Wd w:=(wl_all (by simp) w h).1
def jn:List (List UInt8)→List UInt8
 | [] => []
 | [w] => w
 | w :: x :: ws => w ++ 32 :: jn (x :: ws)
theorem wl_word:∀ {w cur l:List UInt8},(∀ c ∈ w,c ≠ 32)→wl cur (w ++ l) = wl (cur ++ w) l
 | [],cur,l,_ => by simp
 | c :: w,cur,l,h => by
  rw [List.cons_append,wl,if_neg (h c (by simp)),wl_word (fun d hd => h d (by simp [hd]))]
  simp
theorem words_jn:∀ {ws:List (List UInt8)},(∀ w ∈ ws,Wd w)→words (jn ws) = ws
 | [],_ => rfl
 | [w],h => by
  have h1:=h w (by simp)
  unfold words jn
  rw [← List.append_nil w,wl_word (by simpa using h1.2),wl]
  simp [h1.1]
 | w :: x :: ws,h => by
  have h1:=h w (by simp)
  unfold words jn
  rw [wl_word h1.2,wl,if_pos rfl,List.nil_append,if_neg h1.1]
  congr 1
  exact words_jn (ws:=x :: ws) fun y hy => h y (by simp [hy])
theorem jn_cons_len (w:List UInt8) (ws:List (List UInt8)):(jn (w :: ws)).length = w.length + (if ws = [] then 0 else 1 + (jn ws).length):=by
 cases ws with
 | nil => simp [jn]
 | cons x ws => simp [jn];omega
theorem wl_len:∀ (l cur:List UInt8),(jn (wl cur l)).length≤cur.length + l.length
 | [],cur => by unfold wl;split <;> simp [jn]
 | c :: l,cur => by
  unfold wl
  split
  ·have:=wl_len l []
   split
   ·simp at this ⊢;omega
   ·rw [jn_cons_len]
    simp at this ⊢
    split <;> omega
  ·have:=wl_len l (cur ++ [c])
   simp at this ⊢;omega
theorem words_len (l:List UInt8):(jn (words l)).length≤l.length:=by have:=wl_len l [];simp at this;exact this
theorem jn_inj {a b:List (List UInt8)} (ha:∀ w ∈ a,Wd w) (hb:∀ w ∈ b,Wd w) (h:jn a = jn b):a = b:=by
 rw [← words_jn ha,← words_jn hb,h]
theorem join_jn:∀ ws:List (List UInt8),Lib.join ws [32] = jn ws
 | [] => rfl
 | [w] => by simp [jn,Lib.join,List.intercalate]
 | w :: x :: ws => by
  have:=join_jn (x :: ws)
  simp only [Lib.join,List.intercalate] at this ⊢
  simp only [List.intersperse,List.flatten_cons,jn] at this ⊢
  rw [this]
  simp
end
section
def isP (w:List UInt8):Bool:=match w with | c :: _ => c == 46 | [] => false
def pathL (q:List UInt8):Bool:=decide (q = []) || (decide ((parts q).length≤8) && (parts q).all nameL)
structure Tok where
 k:Nat
 a:Nat
 s:List UInt8
 p:List UInt8
 h:Bool
 deriving DecidableEq
def kw (w:List UInt8):Nat :=
 if w = [105,102] then 2 else if w = [114,97,110,103,101] then 3 else if w = [99,97,108,108] then 4 else if w = [102,108,117,115,104] then 5 else
 if w = [100,101,102,105,110,101] then 6 else if w = [101,108,115,101] then 7 else if w = [101,110,100] then 8 else if isP w then 1 else 0
def formW:List (List UInt8)→Option (Nat × List UInt8 × Option (List UInt8))
 | [] => none
 | [w] => if kw w = 1 then some (1,[],some w.tail) else if kw w = 5 ∨ kw w = 7 ∨ kw w = 8 then some (kw w,[],none) else none
 | [w,x] => if (kw w = 2 ∨ kw w = 3)∧isP x = true then some (kw w,[],some x.tail) else if (kw w = 4 ∨ kw w = 6)∧isP x = false then some (kw w,x,none) else none
 | [w,x,y] => if kw w = 4∧isP x = false∧isP y = true then some (4,x,some y.tail) else none
 | _ => none
theorem formW1 (w:List UInt8):formW [w] = if kw w = 1 then some (1,[],some w.tail) else if kw w = 5 ∨ kw w = 7 ∨ kw w = 8 then some (kw w,[],none) else none:=rfl
theorem formW2 (w x:List UInt8):formW [w,x] = if (kw w = 2 ∨ kw w = 3)∧isP x = true then some (kw w,[],some x.tail) else if (kw w = 4 ∨ kw w = 6)∧isP x = false then some (kw w,x,none) else none:=rfl
theorem formW3 (w x y:List UInt8):formW [w,x,y] = if kw w = 4∧isP x = false∧isP y = true then some (4,x,some y.tail) else none:=rfl
def okF (k:Nat) (n:List UInt8) (p:Option (List UInt8)):Bool:=(!(k == 4 || k == 6) || nameL n) && (match p with | some q => pathL q | none => true)
def dirOf (ws:List (List UInt8)):Except Nat Tok :=
 match formW ws with
 | none => .error 5
 | some (k,n,p) => if okF k n p then .ok ⟨k,0,n,p.getD [],p.isSome⟩ else .error 11
def kwOf (k:Nat):List (List UInt8) :=
 match k with
 | 2 => [[105,102]]
 | 3 => [[114,97,110,103,101]]
 | 4 => [[99,97,108,108]]
 | 5 => [[102,108,117,115,104]]
 | 6 => [[100,101,102,105,110,101]]
 | 7 => [[101,108,115,101]]
 | 8 => [[101,110,100]]
 | _ => []
def fmtW (t:Tok):List (List UInt8):=kwOf t.k ++ (if t.s = [] then [] else [t.s]) ++ (if t.h then [46 :: t.p] else [])
theorem kw_ne {w:List UInt8} {k:Nat} (h:kw w = k) (h2:2≤k):kwOf k = [w]∧k≤8:=by
 unfold kw at h
 repeat' (split at h)
 all_goals (subst h;first | (rename_i e;subst e;exact ⟨rfl,by decide⟩) | omega)
theorem isP_eq {w:List UInt8} (h:isP w = true):w = 46 :: w.tail:=by
 cases w with
 | nil => cases h
 | cons c w => simp [isP] at h;rw [h];rfl
theorem kw_one {w:List UInt8} (h:kw w = 1):isP w = true:=by
 unfold kw at h
 repeat' (split at h)
 all_goals first | omega | assumption
theorem isP_kw {w:List UInt8} (h:isP w = true):kw w = 1:=by
 rw [isP_eq h]
 simp [kw,isP]
theorem dir_good {ws:List (List UInt8)} {t:Tok} (h:dirOf ws = .ok t) (hw:∀ w ∈ ws,Wd w):t.k ≠ 0∧t.k≤8∧(t.s ≠ [] ↔ t.k = 4 ∨ t.k = 6)∧fmtW t = ws∧t.a = 0:=by
 unfold dirOf at h
 cases hf:formW ws with
 | none => rw [hf] at h;cases h
 | some r =>
  obtain ⟨k,n,p⟩:=r
  rw [hf] at h
  dsimp only at h
  split at h
  ·injection h with h
   subst h
   match ws,hf,hw with
   | [],hf,_ => cases hf
   | [w],hf,hw =>
    rw [formW1] at hf
    split at hf
    ·rename_i h1
     simp only [Option.some.injEq,Prod.mk.injEq] at hf
     obtain ⟨rfl,rfl,rfl⟩:=hf
     have:=isP_eq (kw_one h1)
     simp [fmtW,kwOf,← this]
    ·split at hf
     ·rename_i h1
      simp only [Option.some.injEq,Prod.mk.injEq] at hf
      obtain ⟨rfl,rfl,rfl⟩:=hf
      obtain ⟨h2,h3⟩:=kw_ne (w:=w) rfl (by omega)
      simp [fmtW,h2];omega
     ·cases hf
   | [w,x],hf,hw =>
    rw [formW2] at hf
    split at hf
    ·rename_i h1
     simp only [Option.some.injEq,Prod.mk.injEq] at hf
     obtain ⟨rfl,rfl,rfl⟩:=hf
     obtain ⟨h2,h3⟩:=kw_ne (w:=w) rfl (by omega)
     have:=isP_eq h1.2
     simp [fmtW,h2,← this];omega
    ·split at hf
     ·rename_i h1
      simp only [Option.some.injEq,Prod.mk.injEq] at hf
      obtain ⟨rfl,rfl,rfl⟩:=hf
      obtain ⟨h2,h3⟩:=kw_ne (w:=w) rfl (by omega)
      have hx:=(hw x (by simp)).1
      simp [fmtW,h2,hx];omega
     ·cases hf
   | [w,x,y],hf,hw =>
    rw [formW3] at hf
    split at hf
    ·rename_i h1
     simp only [Option.some.injEq,Prod.mk.injEq] at hf
     obtain ⟨rfl,rfl,rfl⟩:=hf
     obtain ⟨h2,h3⟩:=kw_ne h1.1 (by omega)
     have hx:=(hw x (by simp)).1
     have:=isP_eq h1.2.2
     simp [fmtW,h2,hx,← this]
    ·cases hf
   | _ :: _ :: _ :: _ :: _,hf,_ => cases hf
  ·cases h
def text (a:Nat) (s:List UInt8):Tok:=⟨0,a,s,[],false⟩
inductive Lx:List UInt8→Nat→List Tok→Prop
 | nil (a:Nat):Lx [] a []
 | all (l:List UInt8) (a:Nat):l ≠ []→find2 123 l = none→Lx l a [text a l]
 | text (l:List UInt8) (a k:Nat) (ts:List Tok):find2 123 l = some (k + 1)→Lx (l.drop (k + 1)) (a + (k + 1)) ts→Lx l a (text a (l.take (k + 1)) :: ts)
 | dir (l:List UInt8) (a e:Nat) (t:Tok) (ts:List Tok):find2 123 l = some 0→find2 125 (l.drop 2) = some e→dirOf (words ((l.drop 2).take e)) = .ok t→Lx (l.drop (e + 4)) (a + (e + 4)) ts →
  Lx l a ({ t with a:=a } :: ts)
inductive Er:List UInt8→Nat→Nat→Nat→Prop
 | text (l:List UInt8) (a k b c:Nat):find2 123 l = some (k + 1)→Er (l.drop (k + 1)) (a + (k + 1)) b c→Er l a b c
 | dir (l:List UInt8) (a e:Nat) (t:Tok) (b c:Nat):find2 123 l = some 0→find2 125 (l.drop 2) = some e→dirOf (words ((l.drop 2).take e)) = .ok t→Er (l.drop (e + 4)) (a + (e + 4)) b c→Er l a b c
 | trunc (l:List UInt8) (a:Nat):find2 123 l = some 0→find2 125 (l.drop 2) = none→Er l a a 7
 | bad (l:List UInt8) (a e c:Nat):find2 123 l = some 0→find2 125 (l.drop 2) = some e→dirOf (words ((l.drop 2).take e)) = .error c→Er l a a c
end
section
theorem dir_words {l:List UInt8}:∀ w ∈ words l,Wd w:=fun _ h => words_wd h
theorem lx_total:∀ (n:Nat) (l:List UInt8) (a:Nat),l.length≤n→(∃ ts,Lx l a ts) ∨ ∃ b c,Er l a b c:=by
 intro n
 induction n with
 | zero =>
  intro l a h
  obtain rfl:l = []:=List.length_eq_zero_iff.1 (by omega)
  exact .inl ⟨[],Lx.nil a⟩
 | succ n ih =>
  intro l a h
  by_cases hl:l = []
  ·subst hl;exact .inl ⟨[],Lx.nil a⟩
  ·have hp:0 < l.length:=List.length_pos_iff.2 hl
   cases hf:find2 123 l with
   | none => exact .inl ⟨_,Lx.all l a hl hf⟩
   | some k =>
    cases k with
    | succ k =>
     rcases ih (l.drop (k + 1)) (a + (k + 1)) (by rw [List.length_drop];omega) with ⟨ts,h1⟩ | ⟨b,c,h1⟩
     ·exact .inl ⟨_,Lx.text l a k ts hf h1⟩
     ·exact .inr ⟨b,c,Er.text l a k b c hf h1⟩
    | zero =>
     cases hc:find2 125 (l.drop 2) with
     | none => exact .inr ⟨_,_,Er.trunc l a hf hc⟩
     | some e =>
      cases hd:dirOf (words ((l.drop 2).take e)) with
      | error c => exact .inr ⟨_,_,Er.bad l a e c hf hc hd⟩
      | ok t =>
       rcases ih (l.drop (e + 4)) (a + (e + 4)) (by rw [List.length_drop];omega) with ⟨ts,h1⟩ | ⟨b,c,h1⟩
       ·exact .inl ⟨_,Lx.dir l a e t ts hf hc hd h1⟩
       ·exact .inr ⟨b,c,Er.dir l a e t b c hf hc hd h1⟩
theorem lx_fun {l:List UInt8} {a:Nat} {ts:List Tok} (h:Lx l a ts):∀ {us:List Tok},Lx l a us→ts = us:=by
 induction h with
 | nil a =>
  intro us h2
  cases h2 with
  | nil => rfl
  | all _ _ h3 => exact absurd rfl h3
  | text _ _ k ts hf => simp [find2] at hf
  | dir _ _ e t ts hf => simp [find2] at hf
 | all l a hl hf =>
  intro us h2
  cases h2 with
  | nil => exact absurd rfl hl
  | all => rfl
  | text _ _ k ts hf2 => rw [hf] at hf2;cases hf2
  | dir _ _ e t ts hf2 => rw [hf] at hf2;cases hf2
 | text l a k ts hf _ ih =>
  intro us h2
  cases h2 with
  | nil => simp [find2] at hf
  | all _ _ _ hf2 => rw [hf] at hf2;cases hf2
  | text _ _ k2 ts2 hf2 h3 =>
   rw [hf] at hf2
   simp only [Option.some.injEq,Nat.add_right_cancel_iff] at hf2
   subst hf2
   rw [ih h3]
  | dir _ _ e t ts hf2 => rw [hf] at hf2;cases hf2
 | dir l a e t ts hf hc hd _ ih =>
  intro us h2
  cases h2 with
  | nil => simp [find2] at hf
  | all _ _ _ hf2 => rw [hf] at hf2;cases hf2
  | text _ _ k2 ts2 hf2 h3 => rw [hf] at hf2;cases hf2
  | dir _ _ e2 t2 ts2 hf2 hc2 hd2 h3 =>
   rw [hc] at hc2;injection hc2 with hc2;subst hc2
   rw [hd] at hd2;injection hd2 with hd2;subst hd2
   rw [ih h3]
theorem er_not {l:List UInt8} {a b c:Nat} (h:Er l a b c):∀ {us:List Tok},¬ Lx l a us:=by
 induction h with
 | text l a k b c hf _ ih =>
  intro us h2
  cases h2 with
  | nil => simp [find2] at hf
  | all _ _ _ hf2 => rw [hf] at hf2;cases hf2
  | text _ _ k2 ts2 hf2 h3 =>
   rw [hf] at hf2
   simp only [Option.some.injEq,Nat.add_right_cancel_iff] at hf2
   subst hf2
   exact ih h3
  | dir _ _ e t ts hf2 => rw [hf] at hf2;cases hf2
 | dir l a e t b c hf hc hd _ ih =>
  intro us h2
  cases h2 with
  | nil => simp [find2] at hf
  | all _ _ _ hf2 => rw [hf] at hf2;cases hf2
  | text _ _ k2 ts2 hf2 h3 => rw [hf] at hf2;cases hf2
  | dir _ _ e2 t2 ts2 hf2 hc2 hd2 h3 =>
   rw [hc] at hc2;injection hc2 with hc2;subst hc2
   exact ih h3
 | trunc l a hf hc =>
  intro us h2
  cases h2 with
  | nil => simp [find2] at hf
  | all _ _ _ hf2 => rw [hf] at hf2;cases hf2
  | text _ _ k2 ts2 hf2 h3 => rw [hf] at hf2;cases hf2
  | dir _ _ e2 t2 ts2 hf2 hc2 => rw [hc] at hc2;cases hc2
 | bad l a e c hf hc hd =>
  intro us h2
  cases h2 with
  | nil => simp [find2] at hf
  | all _ _ _ hf2 => rw [hf] at hf2;cases hf2
  | text _ _ k2 ts2 hf2 h3 => rw [hf] at hf2;cases hf2
  | dir _ _ e2 t2 ts2 hf2 hc2 hd2 =>
   rw [hc] at hc2;injection hc2 with hc2;subst hc2
   rw [hd] at hd2;cases hd2
theorem er_fun {l:List UInt8} {a b c:Nat} (h:Er l a b c):∀ {b2 c2:Nat},Er l a b2 c2→b = b2∧c = c2:=by
 induction h with
 | text l a k b c hf _ ih =>
  intro b2 c2 h2
  cases h2 with
  | text _ _ k2 _ _ hf2 h3 =>
   rw [hf] at hf2
   simp only [Option.some.injEq,Nat.add_right_cancel_iff] at hf2
   subst hf2
   exact ih h3
  | dir _ _ e t _ _ hf2 => rw [hf] at hf2;cases hf2
  | trunc _ _ hf2 => rw [hf] at hf2;cases hf2
  | bad _ _ e _ hf2 => rw [hf] at hf2;cases hf2
 | dir l a e t b c hf hc hd _ ih =>
  intro b2 c2 h2
  cases h2 with
  | text _ _ k2 _ _ hf2 h3 => rw [hf] at hf2;cases hf2
  | dir _ _ e2 t2 _ _ hf2 hc2 hd2 h3 =>
   rw [hc] at hc2;injection hc2 with hc2;subst hc2
   exact ih h3
  | trunc _ _ hf2 hc2 => rw [hc] at hc2;cases hc2
  | bad _ _ e2 _ hf2 hc2 hd2 =>
   rw [hc] at hc2;injection hc2 with hc2;subst hc2
   rw [hd] at hd2;cases hd2
 | trunc l a hf hc =>
  intro b2 c2 h2
  cases h2 with
  | text _ _ k2 _ _ hf2 h3 => rw [hf] at hf2;cases hf2
  | dir _ _ e2 t2 _ _ hf2 hc2 hd2 h3 => rw [hc] at hc2;cases hc2
  | trunc _ _ hf2 hc2 => exact ⟨rfl,rfl⟩
  | bad _ _ e2 _ hf2 hc2 hd2 => rw [hc] at hc2;cases hc2
 | bad l a e c hf hc hd =>
  intro b2 c2 h2
  cases h2 with
  | text _ _ k2 _ _ hf2 h3 => rw [hf] at hf2;cases hf2
  | dir _ _ e2 t2 _ _ hf2 hc2 hd2 h3 =>
   rw [hc] at hc2;injection hc2 with hc2;subst hc2
   rw [hd] at hd2;cases hd2
  | trunc _ _ hf2 hc2 => rw [hc] at hc2;cases hc2
  | bad _ _ e2 _ hf2 hc2 hd2 =>
   rw [hc] at hc2;injection hc2 with hc2;subst hc2
   rw [hd] at hd2;injection hd2 with hd2
   exact ⟨rfl,hd2⟩
def Good (t:Tok):Prop:=(t.k = 0→t.p = []∧t.h = false∧t.s ≠ [])∧(t.k ≠ 0→t.k≤8∧(t.s ≠ [] ↔ t.k = 4 ∨ t.k = 6))∧(t.h = false→t.p = [])
theorem dir_path {ws:List (List UInt8)} {t:Tok} (h:dirOf ws = .ok t):t.h = false→t.p = []:=by
 unfold dirOf at h
 cases hf:formW ws with
 | none => rw [hf] at h;cases h
 | some r =>
  obtain ⟨k,n,p⟩:=r
  rw [hf] at h
  dsimp only at h
  split at h
  ·injection h with h
   subst h
   intro h1
   cases p with
   | none => rfl
   | some q => cases h1
  ·cases h
theorem lx_good {l:List UInt8} {a:Nat} {ts:List Tok} (h:Lx l a ts):∀ t ∈ ts,Good t∧t.s.length≤l.length∧t.p.length≤l.length∧t.a < a + l.length:=by
 induction h with
 | nil a => simp
 | all l a hl hf =>
  intro t ht
  simp at ht;subst ht
  have:0 < l.length:=List.length_pos_iff.2 hl
  exact ⟨⟨fun _ => ⟨rfl,rfl,hl⟩,fun h => absurd rfl h,fun _ => rfl⟩,Nat.le_refl _,Nat.zero_le _,by simp [text];omega⟩
 | text l a k ts hf _ ih =>
  have:=find2_lt hf
  intro t ht
  rcases List.mem_cons.1 ht with rfl | ht
  ·refine ⟨⟨fun _ => ⟨rfl,rfl,?_⟩,fun h => absurd rfl h,fun _ => rfl⟩,by simp [text];omega,by simp [text],by simp [text];omega⟩
   intro h0
   have h9:=congrArg List.length h0
   simp only [text,List.length_take,List.length_nil] at h9
   omega
  ·obtain ⟨h1,h2,h3,h4⟩:=ih t ht
   rw [List.length_drop] at h2 h3 h4
   exact ⟨h1,by omega,by omega,by omega⟩
 | dir l a e t ts hf hc hd _ ih =>
  have hl:=find2_lt hf
  have he:=find2_lt hc
  rw [List.length_drop] at he
  intro u hu
  rcases List.mem_cons.1 hu with rfl | hu
  ·obtain ⟨h1,h2,h3,h4,_⟩:=dir_good hd dir_words
   refine ⟨⟨fun h => absurd h h1,fun _ => ⟨h2,h3⟩,fun h => dir_path (t:=t) hd h⟩,?_,?_,by dsimp only;omega⟩
   ·dsimp only
    by_cases h5:t.s = []
    ·rw [h5];exact Nat.zero_le _
    ·have hm:t.s ∈ words ((l.drop 2).take e):=by rw [← h4];simp [fmtW,h5]
     have hw:=words_len ((l.drop 2).take e)
     have:t.s.length≤(jn (words ((l.drop 2).take e))).length:=by
      revert hm
      generalize words ((l.drop 2).take e) = ws
      intro hm
      clear hw h4 hd
      induction ws with
      | nil => cases hm
      | cons w ws ihw =>
       rw [jn_cons_len]
       rcases List.mem_cons.1 hm with h6 | h6
       ·subst h6;omega
       ·have:=ihw h6
        rw [if_neg (by intro h7;subst h7;cases h6)];omega
     rw [List.length_take,List.length_drop] at hw
     omega
   ·dsimp only
    cases h5:t.h with
    | false => rw [dir_path hd h5];exact Nat.zero_le _
    | true =>
     have hm:46 :: t.p ∈ words ((l.drop 2).take e):=by rw [← h4];simp [fmtW,h5]
     have hw:=words_len ((l.drop 2).take e)
     have:(46 :: t.p).length≤(jn (words ((l.drop 2).take e))).length:=by
      revert hm
      generalize words ((l.drop 2).take e) = ws
      intro hm
      clear hw h4 hd
      induction ws with
      | nil => cases hm
      | cons w ws ihw =>
       rw [jn_cons_len]
       rcases List.mem_cons.1 hm with h6 | h6
       ·subst h6;omega
       ·have:=ihw h6
        rw [if_neg (by intro h7;subst h7;cases h6)];omega
     rw [List.length_take,List.length_drop] at hw
     rw [List.length_cons] at this
     omega
  ·obtain ⟨h1,h2,h3,h4⟩:=ih u hu
   rw [List.length_drop] at h2 h3 h4
   exact ⟨h1,by omega,by omega,by omega⟩
theorem lx_count {l:List UInt8} {a:Nat} {ts:List Tok} (h:Lx l a ts):ts.length≤l.length:=by
 induction h with
 | nil a => simp
 | all l a hl hf => have:0 < l.length:=List.length_pos_iff.2 hl;simp;omega
 | text l a k ts hf _ ih => have:=find2_lt hf;rw [List.length_drop] at ih;simp;omega
 | dir l a e t ts hf hc hd _ ih => have:=find2_lt hf;rw [List.length_drop] at ih;simp;omega
theorem find2_drop {c:UInt8} {l:List UInt8} {i:Nat} (h:find2 c l = some i):find2 c (l.drop i) = some 0:=by
 obtain ⟨h1,h2⟩:=find2_some.1 h
 refine find2_some.2 ⟨?_,fun j hj => absurd hj (Nat.not_lt_zero _)⟩
 unfold BB at h1 ⊢
 rw [List.getElem?_drop,List.getElem?_drop]
 simpa using h1
theorem find2_append_some {c:UInt8} {x:List UInt8} {i:Nat} (h:find2 c x = some i) (y:List UInt8):find2 c (x ++ y) = some i:=by
 have hl:=find2_lt h
 obtain ⟨h1,h2⟩:=find2_some.1 h
 refine find2_some.2 ⟨?_,fun j hj hb => h2 j hj ?_⟩
 ·unfold BB at h1 ⊢
  rw [List.getElem?_append_left (by omega),List.getElem?_append_left (by omega)]
  exact h1
 ·unfold BB at hb ⊢
  rw [List.getElem?_append_left (by omega),List.getElem?_append_left (by omega)] at hb
  exact hb
end
section
def mapW (fs:List (List UInt8)):Option Nat :=
 if fs = [[102,108,117,115,104]] then some 5 else if fs = [[99,97,108,108],[110,97,109,101],[46]] then some 4 else if fs = [[99,97,108,108],[110,97,109,101]] then some 4 else
 if fs = [[100,101,102,105,110,101],[110,97,109,101]] then some 6 else if fs = [[101,110,100]] then some 8 else if fs = [[114,97,110,103,101],[46]] then some 3 else
 if fs = [[101,108,115,101]] then some 7 else if fs = [[105,102],[46]] then some 2 else if fs = [[46]] then some 1 else none
def kindN (k:ByteArray):Option Nat :=
 if k = ⟨#[102,108,117,115,104]⟩ then some 5 else if k = ⟨#[99,97,108,108,32,110,97,109,101,32,46]⟩ then some 4 else if k = ⟨#[99,97,108,108,32,110,97,109,101]⟩ then some 4 else
 if k = ⟨#[100,101,102,105,110,101,32,110,97,109,101]⟩ then some 6 else if k = ⟨#[101,110,100]⟩ then some 8 else if k = ⟨#[114,97,110,103,101,32,46]⟩ then some 3 else
 if k = ⟨#[101,108,115,101]⟩ then some 7 else if k = ⟨#[105,102,32,46]⟩ then some 2 else if k = ⟨#[46]⟩ then some 1 else none
theorem ofL_inj {a b:List UInt8} (h:ofL a = ofL b):a = b:=by
 have:=congrArg toL h
 rwa [toL_ofL,toL_ofL] at this
theorem key_iff {fs lit:List (List UInt8)} (hf:∀ w ∈ fs,Wd w) (hl:lit.all (fun w => decide (w ≠ []) && w.all (·!= 32)) = true) {k:ByteArray} (hk:k = ofL (jn lit)):(ofL (jn fs) = k) = (fs = lit):=by
 subst hk
 have hl':∀ w ∈ lit,Wd w:=by
  intro w hw
  have:=List.all_eq_true.1 hl w hw
  simp only [Bool.and_eq_true,decide_eq_true_eq] at this
  exact ⟨this.1,fun c hc => by simpa using List.all_eq_true.1 this.2 c hc⟩
 exact propext ⟨fun h => jn_inj hf hl' (ofL_inj h),fun h => by rw [h]⟩
theorem kindN_jn {fs:List (List UInt8)} (hf:∀ w ∈ fs,Wd w):kindN (ofL (jn fs)) = mapW fs:=by
 unfold kindN mapW
 have e0:(ofL (jn fs) = ⟨#[102,108,117,115,104]⟩) = (fs = [[102,108,117,115,104]]):=key_iff hf (by decide) rfl
 have e1:(ofL (jn fs) = ⟨#[99,97,108,108,32,110,97,109,101,32,46]⟩) = (fs = [[99,97,108,108],[110,97,109,101],[46]]):=key_iff hf (by decide) rfl
 have e2:(ofL (jn fs) = ⟨#[99,97,108,108,32,110,97,109,101]⟩) = (fs = [[99,97,108,108],[110,97,109,101]]):=key_iff hf (by decide) rfl
 have e3:(ofL (jn fs) = ⟨#[100,101,102,105,110,101,32,110,97,109,101]⟩) = (fs = [[100,101,102,105,110,101],[110,97,109,101]]):=key_iff hf (by decide) rfl
 have e4:(ofL (jn fs) = ⟨#[101,110,100]⟩) = (fs = [[101,110,100]]):=key_iff hf (by decide) rfl
 have e5:(ofL (jn fs) = ⟨#[114,97,110,103,101,32,46]⟩) = (fs = [[114,97,110,103,101],[46]]):=key_iff hf (by decide) rfl
 have e6:(ofL (jn fs) = ⟨#[101,108,115,101]⟩) = (fs = [[101,108,115,101]]):=key_iff hf (by decide) rfl
 have e7:(ofL (jn fs) = ⟨#[105,102,32,46]⟩) = (fs = [[105,102],[46]]):=key_iff hf (by decide) rfl
 have e8:(ofL (jn fs) = ⟨#[46]⟩) = (fs = [[46]]):=key_iff hf (by decide) rfl
 simp only [e0,e1,e2,e3,e4,e5,e6,e7,e8]
def fw (first:Bool) (w:List UInt8):List UInt8:=if isP w then [46] else if first then w else [110,97,109,101]
def formL:List (List UInt8)→List (List UInt8)
 | [] => []
 | w :: r => fw true w :: r.map (fw false)
theorem fw_wd {b:Bool} {w:List UInt8} (h:Wd w):Wd (fw b w):=by
 unfold fw
 split
 ·exact ⟨by simp,by intro c hc;simp at hc;subst hc;decide⟩
 ·split
  ·exact h
  ·exact ⟨by simp,by intro c hc;simp at hc;rcases hc with rfl | rfl | rfl | rfl <;> decide⟩
theorem formL_wd {ws:List (List UInt8)} (h:∀ w ∈ ws,Wd w):∀ w ∈ formL ws,Wd w:=by
 cases ws with
 | nil => intro w hw;cases hw
 | cons x r =>
  intro w hw
  rcases List.mem_cons.1 hw with rfl | hw
  ·exact fw_wd (h x (by simp))
  ·obtain ⟨y,hy,rfl⟩:=List.mem_map.1 hw
   exact fw_wd (h y (by simp [hy]))
theorem formL_len (ws:List (List UInt8)):(formL ws).length = ws.length:=by cases ws <;> simp [formL]
theorem formL_at {ws:List (List UInt8)} {i:Nat} {w:List UInt8} (h:ws[i]? = some w):(formL ws)[i]? = some (fw (decide (i = 0)) w):=by
 cases ws with
 | nil => simp at h
 | cons x r =>
  cases i with
  | zero => simp at h;subst h;simp [formL]
  | succ i => simp at h;simp [formL,h]
theorem jn_le:∀ {ws:List (List UInt8)} {B:Nat},(∀ w ∈ ws,w.length≤B)→(jn ws).length≤ws.length * (B + 1)
 | [],B,_ => by simp [jn]
 | w :: ws,B,h => by
  have h1:=h w (by simp)
  have h2:=jn_le (ws:=ws) (B:=B) fun x hx => h x (by simp [hx])
  rw [jn_cons_len,List.length_cons,Nat.add_mul,Nat.one_mul]
  split <;> omega
theorem fw_le {b:Bool} {w:List UInt8} {B:Nat} (h:w.length≤B):(fw b w).length≤B + 4:=by
 unfold fw
 split
 ·simp
 ·split
  ·omega
  ·simp
theorem formL_le {ws:List (List UInt8)} {B:Nat} (h:∀ w ∈ ws,w.length≤B):∀ w ∈ formL ws,w.length≤B + 4:=by
 intro w hw
 obtain ⟨i,hi,rfl⟩:=List.getElem_of_mem hw
 rw [formL_len] at hi
 have:=formL_at (List.getElem?_eq_getElem hi)
 rw [List.getElem?_eq_getElem (by rw [formL_len];exact hi)] at this
 injection this with this
 rw [this]
 exact fw_le (h _ (List.getElem_mem hi))
theorem kw_cases (w:List UInt8):w = [105,102] ∨ w = [114,97,110,103,101] ∨ w = [99,97,108,108] ∨ w = [102,108,117,115,104] ∨ w = [100,101,102,105,110,101] ∨ w = [101,108,115,101] ∨ w = [101,110,100] ∨
  (isP w = true∧kw w = 1) ∨ (isP w = false∧kw w = 0∧w ≠ [105,102]∧w ≠ [114,97,110,103,101]∧w ≠ [99,97,108,108]∧w ≠ [102,108,117,115,104]∧w ≠ [100,101,102,105,110,101]∧w ≠ [101,108,115,101]∧w ≠ [101,110,100]):=by
 by_cases h1:w = [105,102];·exact .inl h1
 by_cases h2:w = [114,97,110,103,101];·exact .inr (.inl h2)
 by_cases h3:w = [99,97,108,108];·exact .inr (.inr (.inl h3))
 by_cases h4:w = [102,108,117,115,104];·exact .inr (.inr (.inr (.inl h4)))
 by_cases h5:w = [100,101,102,105,110,101];·exact .inr (.inr (.inr (.inr (.inl h5))))
 by_cases h6:w = [101,108,115,101];·exact .inr (.inr (.inr (.inr (.inr (.inl h6)))))
 by_cases h7:w = [101,110,100];·exact .inr (.inr (.inr (.inr (.inr (.inr (.inl h7))))))
 cases hp:isP w with
 | true => exact .inr (.inr (.inr (.inr (.inr (.inr (.inr (.inl ⟨rfl,isP_kw hp⟩)))))))
 | false => exact .inr (.inr (.inr (.inr (.inr (.inr (.inr (.inr ⟨rfl,by simp [kw,h1,h2,h3,h4,h5,h6,h7,hp],h1,h2,h3,h4,h5,h6,h7⟩)))))))
theorem isP_cons (c:UInt8) (w:List UInt8):isP (c :: w) = (c == 46):=rfl
theorem form_map (ws:List (List UInt8)):mapW (formL ws) = (formW ws).map (·.1):=by
 match ws with
 | [] => rfl
 | [w] =>
  rcases kw_cases w with rfl | rfl | rfl | rfl | rfl | rfl | rfl | ⟨h1,h2⟩ | ⟨h1,h2,h3,h4,h5,h6,h7,h8,h9⟩
  iterate 7 rfl
  ·rw [formW1];simp [formL,fw,h1,h2,mapW]
  ·rw [formW1]
   have h10:w ≠ [46]:=by rintro rfl;cases h1
   simp [formL,fw,h1,h2,mapW,h3,h4,h5,h6,h7,h8,h9,h10]
 | [w,x] =>
  rcases kw_cases w with rfl | rfl | rfl | rfl | rfl | rfl | rfl | ⟨h1,h2⟩ | ⟨h1,h2,h3,h4,h5,h6,h7,h8,h9⟩
  iterate 7 (rw [formW2];cases hx:isP x <;> simp [formL,fw,hx,mapW,kw,isP_cons])
  ·rw [formW2];cases hx:isP x <;> simp [formL,fw,h1,h2,hx,mapW]
  ·rw [formW2];cases hx:isP x <;> simp [formL,fw,h1,h2,mapW,h3,h4,h5,h6,h7,h8,h9,hx]
 | [w,x,y] =>
  rcases kw_cases w with rfl | rfl | rfl | rfl | rfl | rfl | rfl | ⟨h1,h2⟩ | ⟨h1,h2,h3,h4,h5,h6,h7,h8,h9⟩
  iterate 7 (rw [formW3];cases hx:isP x <;> cases hy:isP y <;> simp [formL,fw,hx,hy,mapW,kw,isP_cons])
  ·rw [formW3];cases hx:isP x <;> cases hy:isP y <;> simp [formL,fw,h1,h2,hx,hy,mapW]
  ·rw [formW3];cases hx:isP x <;> cases hy:isP y <;> simp [formL,fw,h1,h2,mapW,h3,h4,h5,h6,h7,h8,h9,hx,hy]
 | w :: x :: y :: z :: r => simp [formL,mapW,formW]
def dgo:Bool→List UInt8 × List UInt8 × Bool→List (List UInt8)→Except Nat (List UInt8 × List UInt8 × Bool)
 | _,st,[] => .ok st
 | first,(s,p,h),w :: r => if isP w then (if pathL w.tail then dgo false (s,w.tail,true) r else .error 11) else if first then dgo false (s,p,h) r else if nameL w then dgo false (w,p,h) r else .error 11
theorem kw_notP {w:List UInt8} (h:kw w ≠ 1):isP w = false:=by
 cases hp:isP w with
 | true => exact absurd (isP_kw hp) h
 | false => rfl
theorem dgo_form {ws:List (List UInt8)} {k:Nat} {n:List UInt8} {p:Option (List UInt8)} (h:formW ws = some (k,n,p)):dgo true ([],[],false) ws = if okF k n p then .ok (n,p.getD [],p.isSome) else .error 11:=by
 match ws,h with
 | [],h => cases h
 | [w],h =>
  rw [formW1] at h
  split at h
  ·rename_i h1
   simp only [Option.some.injEq,Prod.mk.injEq] at h
   obtain ⟨rfl,rfl,rfl⟩:=h
   cases hq:pathL w.tail <;> simp [dgo,kw_one h1,okF,hq]
  ·rename_i h1
   split at h
   ·rename_i h2
    simp only [Option.some.injEq,Prod.mk.injEq] at h
    obtain ⟨rfl,rfl,rfl⟩:=h
    have h4:kw w ≠ 4:=by omega
    have h6:kw w ≠ 6:=by omega
    simp [dgo,kw_notP h1,okF,h4,h6]
   ·cases h
 | [w,x],h =>
  rw [formW2] at h
  split at h
  ·rename_i h1
   simp only [Option.some.injEq,Prod.mk.injEq] at h
   obtain ⟨rfl,rfl,rfl⟩:=h
   have h4:kw w ≠ 4:=by omega
   have h6:kw w ≠ 6:=by omega
   have h0:kw w ≠ 1:=by omega
   cases hq:pathL x.tail <;> simp [dgo,kw_notP h0,okF,h4,h6,h1.2,hq]
  ·split at h
   ·rename_i h1
    simp only [Option.some.injEq,Prod.mk.injEq] at h
    obtain ⟨rfl,rfl,rfl⟩:=h
    have h0:kw w ≠ 1:=by omega
    have h46:=h1.1
    cases hq:nameL x <;> simp [dgo,kw_notP h0,okF,h1.2,hq,h46]
    all_goals rcases h46 with h46 | h46 <;> simp [h46]
   ·cases h
 | [w,x,y],h =>
  rw [formW3] at h
  split at h
  ·rename_i h1
   simp only [Option.some.injEq,Prod.mk.injEq] at h
   obtain ⟨rfl,rfl,rfl⟩:=h
   have h0:kw w ≠ 1:=by omega
   cases hq:nameL x <;> cases hq2:pathL y.tail <;> simp [dgo,kw_notP h0,okF,h1.2,hq,hq2]
  ·cases h
 | _ :: _ :: _ :: _ :: _,h => cases h
theorem pathOf_isSome (s:ByteArray):(pathOf s).isSome = pathL (toL s):=by
 unfold pathOf pathL
 by_cases h:s.size = 0
 ·have:toL s = []:=List.length_eq_zero_iff.1 h
  simp [h,this]
 ·have:toL s ≠ []:=fun e => h (by rw [← toL_len,e];rfl)
  rw [if_neg h]
  by_cases h2:(parts (toL s)).length≤8∧(parts (toL s)).all nameL = true
  ·rw [if_pos h2];simp [this,h2.1];simpa using h2.2
  ·rw [if_neg h2]
   rw [Bool.eq_iff_iff]
   simp only [Option.isSome_none,Bool.false_eq_true,Bool.or_eq_true,decide_eq_true_eq,Bool.and_eq_true,false_iff]
   rintro (h3 | h3)
   ·exact this h3
   ·exact h2 h3
end
section
open Go.RowKit Go.BigFrame
def fnum (c:UInt8) (l:List UInt8):Int:=match find2 c l with | none => -1 | some i => (i:Int)
theorem index_c (s:ByteArray) (w:World) (hT:MX w) (hs:s.size < 4294967281) :
  Calls Tryz.prog 52 #[.string s,.string ⟨#[123,123]⟩] w fun e w' => e = .returned (.int .i64 (fnum 123 (toL s)))∧w' = w:=by
 obtain ⟨_,m,hm⟩:=hT
 refine (Any.strings_Index Tryz.laysIX s ⟨#[123,123]⟩ m w hs hm).mono ?_
 rintro e w' ⟨rfl,rfl⟩
 refine ⟨?_,rfl⟩
 have:fnum 123 (toL s) = Lib.index (toL s) [123,123]:=(index_two 123 (toL s)).symm
 rw [this]
 rfl
theorem cut_some {s:ByteArray} {i:Nat} (w:World) (hT:MX w) (hs:s.size < 4294967281) (hf:find2 125 (toL s) = some i) :
  Calls Tryz.prog 53 #[.string s,.string ⟨#[125,125]⟩] w fun e w' => (∃ t,e = .returned (.tuple #[.string (ofL ((toL s).take i)),.string t,.bool true]))∧Bel w w':=by
 obtain ⟨_,m,hm⟩:=hT
 refine (Any.strings_Cut Tryz.laysCU s ⟨#[125,125]⟩ m w hs hm).mono ?_
 rintro e w' ⟨rfl,n,rfl⟩
 have:=cut_two 125 (toL s)
 rw [hf] at this
 refine ⟨?_,Bel.draw _ _⟩
 have e1:Lib.cut s.data.toList (⟨#[125,125]⟩:ByteArray).data.toList = ((toL s).take i,(toL s).drop (i + 2),true):=this
 rw [e1]
 exact ⟨_,rfl⟩
theorem cut_none {s:ByteArray} (w:World) (hT:MX w) (hs:s.size < 4294967281) (hf:find2 125 (toL s) = none) :
  Calls Tryz.prog 53 #[.string s,.string ⟨#[125,125]⟩] w fun e w' => (∃ t u,e = .returned (.tuple #[.string t,.string u,.bool false]))∧Bel w w':=by
 obtain ⟨_,m,hm⟩:=hT
 refine (Any.strings_Cut Tryz.laysCU s ⟨#[125,125]⟩ m w hs hm).mono ?_
 rintro e w' ⟨rfl,n,rfl⟩
 have:=cut_two 125 (toL s)
 rw [hf] at this
 refine ⟨?_,Bel.draw _ _⟩
 have e1:Lib.cut s.data.toList (⟨#[125,125]⟩:ByteArray).data.toList = (toL s,[],false):=this
 rw [e1]
 exact ⟨_,_,rfl⟩
theorem decodeN_space (n b0 b1 b2 b3:Nat) (h:(Lib.decodeN n b0 b1 b2 b3).1 = 32):b0 = 32∧(Lib.decodeN n b0 b1 b2 b3).2 = 1:=by
 unfold Lib.decodeN at h ⊢
 repeat' split
 all_goals first | (simp_all;done) | (exfalso;simp_all;omega)
theorem decodeN_other (n b0 b1 b2 b3:Nat) (h:(Lib.decodeN n b0 b1 b2 b3).1 ≠ 32):b0 ≠ 32:=by
 rintro rfl
 simp [Lib.decodeN] at h
theorem conts (n b0 b1 b2 b3:Nat):(2≤(Lib.decodeN n b0 b1 b2 b3).2→128≤b1∧1 < n)∧(3≤(Lib.decodeN n b0 b1 b2 b3).2→128≤b2∧2 < n)∧(4≤(Lib.decodeN n b0 b1 b2 b3).2→128≤b3∧3 < n)∧(Lib.decodeN n b0 b1 b2 b3).2≤4:=by
 unfold Lib.decodeN
 repeat' split
 all_goals (dsimp only;omega)
def isSp (x:Nat):Bool:=x == 32
theorem spans_words (s:ByteArray):∀ (f pos:Nat) (st:Option Nat) (acc:List (Nat × Nat)) (cur:List UInt8),s.size≤pos + f→pos≤s.size→(match st with | none => cur = [] | some a => a < pos∧cur = ((toL s).take pos).drop a) →
  (Lib.closeSpans s (Lib.spansFromP isSp s f pos st acc)).map (fun x => toL (s.extract x.1 x.2)) = acc.map (fun x => toL (s.extract x.1 x.2)) ++ wl cur ((toL s).drop pos):=by
 have close:∀ (pos:Nat) (st:Option Nat) (acc:List (Nat × Nat)) (cur:List UInt8),pos = s.size→(match st with | none => cur = [] | some a => a < pos∧cur = ((toL s).take pos).drop a) →
   (Lib.closeSpans s (acc,st)).map (fun x => toL (s.extract x.1 x.2)) = acc.map (fun x => toL (s.extract x.1 x.2)) ++ wl cur ((toL s).drop pos):=by
  intro pos st acc cur hp hst
  subst hp
  rw [List.drop_of_length_le (Nat.le_of_eq (toL_len s))]
  cases st with
  | none => subst hst;simp [Lib.closeSpans,wl]
  | some a =>
   obtain ⟨h1,rfl⟩:=hst
   have hne:((toL s).take s.size).drop a ≠ []:=by
    intro h0
    have:=congrArg List.length h0
    rw [List.length_drop,List.length_take,toL_len] at this
    simp at this;omega
   simp only [Lib.closeSpans,List.map_append,List.map_cons,List.map_nil,wl,if_neg hne]
   rw [toL_extract]
 intro f
 induction f with
 | zero => intro pos st acc cur h1 h2 hst;exact close pos st acc cur (by omega) hst
 | succ f ih =>
  intro pos st acc cur h1 h2 hst
  by_cases hlt:pos < s.size
  ·have hN:=Lib.decode_N s pos
   have hle:s.data.toList.length = s.size:=toL_len s
   have hw:=Lib.width_pos s pos
   have hc:=conts (s.data.toList.length - pos) (s.data.toList.getD pos 0).toNat (s.data.toList.getD (pos + 1) 0).toNat (s.data.toList.getD (pos + 2) 0).toNat (s.data.toList.getD (pos + 3) 0).toNat
   have hsp:=decodeN_space (s.data.toList.length - pos) (s.data.toList.getD pos 0).toNat (s.data.toList.getD (pos + 1) 0).toNat (s.data.toList.getD (pos + 2) 0).toNat (s.data.toList.getD (pos + 3) 0).toNat
   have hot:=decodeN_other (s.data.toList.length - pos) (s.data.toList.getD pos 0).toNat (s.data.toList.getD (pos + 1) 0).toNat (s.data.toList.getD (pos + 2) 0).toNat (s.data.toList.getD (pos + 3) 0).toNat
   rw [← hN,hle] at hc
   rw [← hN] at hsp hot
   obtain ⟨c2,c3,c4,c5⟩:=hc
   have hpl:pos < (toL s).length:=hlt
   have hfst:(toL s).drop pos = (toL s)[pos] :: (toL s).drop (pos + 1):=List.drop_eq_getElem_cons hpl
   have hb0:s.data.toList.getD pos 0 = (toL s)[pos]:=by
    rw [List.getD_eq_getElem?_getD,List.getElem?_eq_getElem (show pos < s.data.toList.length from hpl)]
    rfl
   unfold Lib.spansFromP
   rw [if_pos hlt]
   generalize Utf8.decode s pos = d at *
   obtain ⟨r,k⟩:=d
   dsimp only at *
   by_cases hr:r = 32
   ·obtain ⟨h32,hk⟩:=hsp hr
    subst hk
    rw [hb0] at h32
    have h32':(toL s)[pos] = 32:=UInt8.toNat_inj.1 h32
    have hp:isSp r = true:=by rw [hr];rfl
    rw [hp,hfst,h32',wl,if_pos rfl]
    simp only [if_true]
    cases st with
    | none =>
     dsimp only
     dsimp only at hst
     subst hst
     rw [if_pos rfl]
     exact ih (pos + 1) none acc [] (by omega) (by omega) rfl
    | some a =>
     dsimp only
     obtain ⟨h3,rfl⟩:=hst
     have hne:((toL s).take pos).drop a ≠ []:=by
      intro h0
      have:=congrArg List.length h0
      rw [List.length_drop,List.length_take,toL_len] at this
      simp at this;omega
     rw [if_neg hne]
     refine (ih (pos + 1) none (acc ++ [(a,pos)]) [] (by omega) (by omega) rfl).trans ?_
     simp [toL_extract]
   ·have hp:isSp r = false:=by simp [isSp,hr]
    rw [hp]
    simp only [Bool.false_eq_true,if_false]
    have hkn:pos + k≤s.size:=by omega
    have hbytes:∀ c ∈ ((toL s).drop pos).take k,c ≠ 32:=by
     intro c hcm hc32
     obtain ⟨j,hj,hjv⟩:=List.getElem_of_mem hcm
     rw [List.length_take,List.length_drop,toL_len] at hj
     rw [List.getElem_take,List.getElem_drop] at hjv
     have hgd:∀ i,(hi:pos + i < (toL s).length)→s.data.toList.getD (pos + i) 0 = (toL s)[pos + i]:=fun i hi => by
      rw [List.getD_eq_getElem?_getD,List.getElem?_eq_getElem (show pos + i < s.data.toList.length from hi)];rfl
     have hj32:(s.data.toList.getD (pos + j) 0).toNat = 32:=by rw [hgd j (by rw [toL_len];omega),hjv,hc32];rfl
     rcases (by omega:j = 0 ∨ j = 1 ∨ j = 2 ∨ j = 3) with rfl | rfl | rfl | rfl
     ·exact hot hr hj32
     ·have:=(c2 (by omega)).1;omega
     ·have:=(c3 (by omega)).1;omega
     ·have:=(c4 (by omega)).1;omega
    have hsplit:(toL s).drop pos = ((toL s).drop pos).take k ++ (toL s).drop (pos + k):=by
     conv => lhs;rw [← List.take_append_drop k ((toL s).drop pos),List.drop_drop]
    have hcur:∀ a,a≤pos→((toL s).take pos).drop a ++ ((toL s).drop pos).take k = ((toL s).take (pos + k)).drop a:=by
     intro a ha
     have e1:(toL s).take (pos + k) = (toL s).take pos ++ ((toL s).drop pos).take k:=by rw [List.take_add]
     rw [e1,List.drop_append_of_le_length (by rw [List.length_take,toL_len];omega)]
    cases st with
    | none =>
     dsimp only
     dsimp only at hst
     subst hst
     rw [hsplit,wl_word hbytes,List.nil_append]
     refine ih (pos + k) (some pos) acc _ (by omega) hkn ⟨by omega,?_⟩
     have e0:((toL s).take pos).drop pos = []:=List.drop_of_length_le (by rw [List.length_take];omega)
     have e1:=hcur pos (Nat.le_refl _)
     rw [e0,List.nil_append] at e1
     exact e1
    | some a =>
     dsimp only
     obtain ⟨h3,rfl⟩:=hst
     rw [hsplit,wl_word hbytes,hcur a (by omega)]
     exact ih (pos + k) (some a) acc _ (by omega) hkn ⟨by omega,rfl⟩
  ·have hps:pos = s.size:=by omega
   rw [Lib.spansFromP_end _ _ _ _ _ _ hlt]
   exact close pos st acc cur hps hst
def wordsB (s:ByteArray):List ByteArray:=(words (toL s)).map ofL
theorem fields_words (s:ByteArray):Lib.goFieldsP isSp s = wordsB s:=by
 unfold wordsB
 refine L_parts ?_
 have:=spans_words s s.size 0 none [] [] (by omega) (Nat.zero_le _) rfl
 rw [List.drop_zero] at this
 unfold Lib.goFieldsP Lib.spansOfP words
 rw [List.map_map]
 simpa [Function.comp_def] using this
theorem closure_c (w:World) (x:Nat) (hx:x≤1114111):Calls Tryz.prog 78 #[.int .i32 x] w fun e w' => e = .returned (.bool (isSp x))∧w' = w:=by
 have hb:decide ((x:Int) = 32) = isSp x:=by unfold isSp;rw [Bool.eq_iff_iff];simp;omega
 have hb2:((x:Int) == 32) = isSp x:=by unfold isSp;rw [Bool.eq_iff_iff];simp;omega
 go_enter Tryz.func78,Tryz.ntmps78
 go_wp2_with fail
 go_ret
 exact ⟨ret_bool (by first | rfl | exact hb | exact hb2),rfl⟩
theorem isPath_c (s:ByteArray) (w:World) (hs:0 < s.size) :
  Calls Tryz.prog 80 #[.string s] w fun e w' => e = .returned (.bool (isP (toL s)))∧w' = w:=by
 have h0:((s[0].toNat:Int) == 46) = isP (toL s):=by
  have e1:toL s = s[0] :: (toL s).drop 1:=by
   have:=List.drop_eq_getElem_cons (l:=toL s) (i:=0) hs
   rw [List.drop_zero] at this
   exact this
  rw [e1]
  unfold isP
  rw [Bool.eq_iff_iff]
  simp only [beq_iff_eq]
  constructor
  ·intro h;exact UInt8.toNat_inj.1 (by rw [show (46:UInt8).toNat = 46 from rfl];omega)
  ·intro h;rw [h];rfl
 generalize isP (toL s) = b at h0
 go_enter Tryz.func80,Tryz.ntmps80
 go_wp2_with fail
 go_ret
 exact ⟨ret_bool (by first | rfl | exact h0),rfl⟩
theorem refPath_c (s:ByteArray) (w:World) (hs:0 < s.size) :
  Calls Tryz.prog 88 #[.string s] w fun e w' => e = .returned (.bool (isP (toL s)))∧w' = w:=by
 have h0:((s[0].toNat:Int) == 46) = isP (toL s):=by
  have e1:toL s = s[0] :: (toL s).drop 1:=by
   have:=List.drop_eq_getElem_cons (l:=toL s) (i:=0) hs
   rw [List.drop_zero] at this
   exact this
  rw [e1]
  unfold isP
  rw [Bool.eq_iff_iff]
  simp only [beq_iff_eq]
  constructor
  ·intro h;exact UInt8.toNat_inj.1 (by rw [show (46:UInt8).toNat = 46 from rfl];omega)
  ·intro h;rw [h];rfl
 generalize isP (toL s) = b at h0
 go_enter Tryz.func88,Tryz.ntmps88
 go_wp2_with fail
 go_ret
 exact ⟨ret_bool (by first | rfl | exact h0),rfl⟩
end
section
open Go.RowKit Go.BigFrame Go.Maps Go.WideMaps
abbrev kL (k:ByteArray):List UInt8:=k.data.toList
theorem kL_inj {a b:ByteArray} (h:kL a = kL b):a = b:=by
 cases a;cases b
 simp only [kL] at h
 rw [Array.toList_inj.1 h]
theorem keyLaw:Keyed Tryz.prog 9:=string_keyed Tryz.underlying9
def RVal (v:Value):Option (DataW Value × List MemPlace):=some (.held v,[])
def SMap (w:World) (M n:Nat) (f:ByteArray→Option Value):Prop :=
 ∃ D:DataW Value,w.ownsMap Tryz.prog 9 RVal M n D∧∀ key:ByteArray,(f key = none→has D (.string (kL key)) = false) ∧
  ∀ v,f key = some v→has D (.string (kL key)) = true∧∀ z,D.atKey (.string (kL key)) z = .held v
theorem SMap.made (w:World):SMap (w.alloc (.map #[] 0)) w.heap.size 0 (fun _ => none) :=
 ⟨.map [],World.ownsMap_made _ _ _ _,fun key => ⟨fun _ => rfl,fun v hv => by cases hv⟩⟩
theorem SMap.mono {w:World} {M n m:Nat} {f:ByteArray→Option Value} (h:SMap w M n f) (hn:n≤m):SMap w M m f:=by
 obtain ⟨D,h1,h2⟩:=h
 exact ⟨D,h1.mono hn,h2⟩
theorem SMap.congr {w:World} {M n:Nat} {f g:ByteArray→Option Value} (h:SMap w M n f) (e:∀ k,f k = g k):SMap w M n g:=by
 obtain rfl:f = g:=funext e
 exact h
theorem SMap.only {w w':World} {M n:Nat} {f:ByteArray→Option Value} {S:List Nat} (h:SMap w M n f) (ho:Only S w w') (hM:M ∉ S):SMap w' M n f:=by
 obtain ⟨D,h1,h2⟩:=h
 have hlt:=h1.lt
 obtain ⟨es,clock,e,F,hs,hD⟩:=h1
 exact ⟨D,⟨es,clock,(ho.block M hlt hM).trans e,F,hs,hD⟩,h2⟩
theorem SMap.bel {w w':World} {M n:Nat} {f:ByteArray→Option Value} (h:SMap w M n f) (hb:Bel w w'):SMap w' M n f:=h.only (Only.of_below (S:=[]) hb fun _ hk _ => hk) (by simp)
theorem SMap.alloc {w:World} {M n:Nat} {f:ByteArray→Option Value} (h:SMap w M n f) (o:Obj):SMap (w.alloc o) M n f:=h.bel (Bel.alloc _ _)
theorem SMap.push {w:World} {M n:Nat} {f:ByteArray→Option Value} (h:SMap w M n f) {t e:TypeId} (ht:Tryz.prog.underlying t = some (.map 9 e)) (hn:n < maxLen) {key:ByteArray} (hk:key.size≤maxLen) (v:Value) :
  ∃ w',(Instr.mapUpdate t (.map (some M)) (.string key) v).run Tryz.prog w = .ok () w'∧SMap w' M (n + 1) (fun k => if k = key then some v else f k)∧w.grownBy w' (some M):=by
 obtain ⟨D,h1,h2⟩:=h
 have hkey:keyOf Tryz.prog 9 (.string key) = some (.string (kL key)):=keyOf_string_mk Tryz.underlying9 hk
 obtain ⟨w',hrun,hown,hg⟩:=h1.update keyLaw ht hn hkey (val:=v) (show RVal _ = some (.held v,[]) from rfl)
 refine ⟨w',hrun,⟨_,hown,fun k => ?_⟩,hg⟩
 by_cases e:k = key
 ·subst e
  simp only [if_true]
  refine ⟨fun h => (by cases h),fun u hu => ?_⟩
  injection hu with hu
  subst hu
  exact ⟨has_put_same h1.isMap (by simp [WideAt.IsKeyLit]) _,fun z => atKey_put_same h1.isMap (by simp [WideAt.IsKeyLit]) _ _⟩
 ·have hne:(Lit.string (kL k)) ≠ Lit.string (kL key):=by
   intro e2
   injection e2 with e2
   exact e (kL_inj e2)
  simp only [if_neg e]
  refine ⟨fun h => (has_put_other hne _).trans ((h2 k).1 h),fun u hu => ?_⟩
  obtain ⟨a1,a2⟩:=(h2 k).2 u hu
  exact ⟨(has_put_other hne _).trans a1,fun z => (atKey_put_other hne _ _).trans (a2 z)⟩
theorem SMap.look_ok {w:World} {M n:Nat} {f:ByteArray→Option Value} (h:SMap w M n f) {t e:TypeId} (ht:Tryz.prog.underlying t = some (.map 9 e)) {z:Value} (hz:(zeroValue e).run Tryz.prog w = .ok z w) {key:ByteArray} (hk:key.size≤maxLen) :
  (Instr.lookup t (.map (some M)) (.string key) true).run Tryz.prog w = .ok (.tuple #[(f key).getD z,.bool (f key).isSome]) w:=by
 obtain ⟨D,h1,h2⟩:=h
 have hkey:keyOf Tryz.prog 9 (.string key) = some (.string (kL key)):=keyOf_string_mk Tryz.underlying9 hk
 obtain ⟨v,ps,hrun,hv⟩:=h1.look_ok keyLaw ht hz (show RVal _ = some (.held z,[]) from rfl) hkey
 have hv':DataW.held v = D.atKey (.string (kL key)) (.held z):=by
  unfold RVal at hv
  injection hv with hv
  exact congrArg (·.1) hv
 cases hf:f key with
 | none =>
  have a:=(h2 key).1 hf
  rw [atKey_of_not_has a] at hv'
  injection hv' with hv'
  rw [hrun,a,hv'];rfl
 | some u =>
  obtain ⟨a,b⟩:=(h2 key).2 u hf
  rw [b] at hv'
  injection hv' with hv'
  rw [hrun,a,hv'];rfl
theorem SMap.look {w:World} {M n:Nat} {f:ByteArray→Option Value} (h:SMap w M n f) {t e:TypeId} (ht:Tryz.prog.underlying t = some (.map 9 e)) {z:Value} (hz:(zeroValue e).run Tryz.prog w = .ok z w) {key:ByteArray} (hk:key.size≤maxLen) :
  (Instr.lookup t (.map (some M)) (.string key) false).run Tryz.prog w = .ok ((f key).getD z) w:=by
 obtain ⟨D,h1,h2⟩:=h
 have hkey:keyOf Tryz.prog 9 (.string key) = some (.string (kL key)):=keyOf_string_mk Tryz.underlying9 hk
 obtain ⟨v,ps,hrun,hv⟩:=h1.lookup keyLaw ht hz (show RVal _ = some (.held z,[]) from rfl) hkey
 have hv':DataW.held v = D.atKey (.string (kL key)) (.held z):=by
  unfold RVal at hv
  injection hv with hv
  exact congrArg (·.1) hv
 cases hf:f key with
 | none =>
  have a:=(h2 key).1 hf
  rw [atKey_of_not_has a] at hv'
  injection hv' with hv'
  rw [hrun,hv'];rfl
 | some u =>
  obtain ⟨a,b⟩:=(h2 key).2 u hf
  rw [b] at hv'
  injection hv' with hv'
  rw [hrun,hv'];rfl
section
variable {w:World} {ops:Array Oper} {rest:List Oper} {o:Oper} {a:Act} {Q:Exit→Act→World→Prop}
theorem wp_look_ok (hg:o.guard = none) (m x:Operand) (t:TypeId) (hop:o.op = Op.lookup t m x true) (e:TypeId) (ht:Tryz.prog.underlying t = some (.map 9 e)) (z:Value) (hz:∀ w,(zeroValue e).run Tryz.prog w = .ok z w)
  (M n:Nat) (f:ByteArray→Option Value) (hm:a.eval m = .map (some M)) (h:SMap w M n f) (key:ByteArray) (hx:a.eval x = .string key) (hk:key.size≤maxLen) (v:Value) (b:Bool) (hv:(f key).getD z = v) (hb:(f key).isSome = b)
  (hK:wpList Tryz.prog ops Q rest (a.put o.dst (.tuple #[v,.bool b])) w):wpList Tryz.prog ops Q (o :: rest) a w:=by
 refine wpList_plain hg fun K' hK' => ?_
 have hrun:=h.look_ok ht (hz w) hk
 rw [hv,hb] at hrun
 unfold Oper.wp
 simp [execOp,hop,hm,hx,hrun,Result.andThen]
 exact hK' _ _ hK
theorem wp_look (hg:o.guard = none) (m x:Operand) (t:TypeId) (hop:o.op = Op.lookup t m x false) (e:TypeId) (ht:Tryz.prog.underlying t = some (.map 9 e)) (z:Value) (hz:∀ w,(zeroValue e).run Tryz.prog w = .ok z w)
  (M n:Nat) (f:ByteArray→Option Value) (hm:a.eval m = .map (some M)) (h:SMap w M n f) (key:ByteArray) (hx:a.eval x = .string key) (hk:key.size≤maxLen) (v:Value) (hv:(f key).getD z = v)
  (hK:wpList Tryz.prog ops Q rest (a.put o.dst v) w):wpList Tryz.prog ops Q (o :: rest) a w:=by
 refine wpList_plain hg fun K' hK' => ?_
 have hrun:=h.look ht (hz w) hk
 rw [hv] at hrun
 unfold Oper.wp
 simp [execOp,hop,hm,hx,hrun,Result.andThen]
 exact hK' _ _ hK
theorem wp_store (hg:o.guard = none) (m x v:Operand) (t:TypeId) (hop:o.op = Op.mapUpdate t m x v) (e:TypeId) (ht:Tryz.prog.underlying t = some (.map 9 e))
  (M n:Nat) (f:ByteArray→Option Value) (hm:a.eval m = .map (some M)) (h:SMap w M n f) (hn:n < maxLen) (key:ByteArray) (hx:a.eval x = .string key) (hk:key.size≤maxLen) (u:Value) (hv:a.eval v = u)
  (hK:∀ w',Hid (SMap w' M (n + 1) (fun k => if k = key then some u else f k))→w.grownBy w' (some M)→wpList Tryz.prog ops Q rest (a.put o.dst undef) w'):wpList Tryz.prog ops Q (o :: rest) a w:=by
 refine wpList_plain hg fun K' hK' => ?_
 obtain ⟨w',hrun,h1,h2⟩:=h.push ht hn hk u
 unfold Oper.wp
 simp [execOp,hop,hm,hx,hv,hrun,Result.andThen]
 exact hK' _ _ (hK w' (hid h1) h2)
end
end
section
open Go.Joins Go.ChangeShapes Go.WideShapes Go.Deep Go.RowKit
inductive NT where
 | mk (k a:Int) (s p:ByteArray) (h e:Bool) (A:Option Addr) (c:Nat) (b:List NT) (B:Option Addr) (d:Nat) (l:List NT):NT
namespace NT
def k:NT→Int | mk k _ _ _ _ _ _ _ _ _ _ _ => k
def a:NT→Int | mk _ a _ _ _ _ _ _ _ _ _ _ => a
def s:NT→ByteArray | mk _ _ s _ _ _ _ _ _ _ _ _ => s
def p:NT→ByteArray | mk _ _ _ p _ _ _ _ _ _ _ _ => p
def h:NT→Bool | mk _ _ _ _ h _ _ _ _ _ _ _ => h
def e:NT→Bool | mk _ _ _ _ _ e _ _ _ _ _ _ => e
def A:NT→Option Addr | mk _ _ _ _ _ _ A _ _ _ _ _ => A
def c:NT→Nat | mk _ _ _ _ _ _ _ c _ _ _ _ => c
def b:NT→List NT | mk _ _ _ _ _ _ _ _ b _ _ _ => b
def B:NT→Option Addr | mk _ _ _ _ _ _ _ _ _ B _ _ => B
def d:NT→Nat | mk _ _ _ _ _ _ _ _ _ _ d _ => d
def l:NT→List NT | mk _ _ _ _ _ _ _ _ _ _ _ l => l
def cs (t:NT):List Value:=[.int .i64 t.k,.int .i64 t.a,.string t.s,.string t.p,.bool t.h,.bool t.e,.slice t.A t.b.length t.c,.slice t.B t.l.length t.d]
def val (t:NT):Value:=.agg t.cs.toArray
theorem cs_len (t:NT):t.cs.length = 8:=rfl
theorem cs_one (t:NT) (u:Value) (h:u ∈ t.cs):u.oneCell' = true:=by
 simp only [cs,List.mem_cons,List.not_mem_nil,or_false] at h
 rcases h with rfl | rfl | rfl | rfl | rfl | rfl | rfl | rfl <;> rfl
theorem size_b {t x:NT} (h:x ∈ t.b):SizeOf.sizeOf x < SizeOf.sizeOf t:=by
 cases t
 have:=List.sizeOf_lt_of_mem h
 simp only [b] at this
 simp only [NT.mk.sizeOf_spec]
 omega
theorem size_l {t x:NT} (h:x ∈ t.l):SizeOf.sizeOf x < SizeOf.sizeOf t:=by
 cases t
 have:=List.sizeOf_lt_of_mem h
 simp only [l] at this
 simp only [NT.mk.sizeOf_spec]
 omega
theorem ind {M:NT→Prop} (h:∀ t,(∀ x,x ∈ t.b→M x)→(∀ x,x ∈ t.l→M x)→M t) (t:NT):M t:=by
 have key:∀ n (t:NT),SizeOf.sizeOf t < n→M t:=by
  intro n
  induction n with
  | zero => intro t ht;omega
  | succ n ih => intro t ht;exact h t (fun x hx => ih x (by have:=size_b hx;omega)) (fun x hx => ih x (by have:=size_l hx;omega))
 exact key _ t (Nat.lt_succ_self _)
def Cells (w:World) (g o:Nat) (t:NT):Prop:=∀ j u,t.cs[j]? = some u→w.cell? ⟨g,o + j,none⟩ = some u
theorem Cells.all {w:World} {g o:Nat} {t:NT} (h:t.Cells w g o):w.cell? ⟨g,o,none⟩ = some (.int .i64 t.k)∧w.cell? ⟨g,o + 1,none⟩ = some (.int .i64 t.a)∧w.cell? ⟨g,o + 2,none⟩ = some (.string t.s)∧w.cell? ⟨g,o + 3,none⟩ = some (.string t.p) ∧
  w.cell? ⟨g,o + 4,none⟩ = some (.bool t.h)∧w.cell? ⟨g,o + 5,none⟩ = some (.bool t.e)∧w.cell? ⟨g,o + 6,none⟩ = some (.slice t.A t.b.length t.c)∧w.cell? ⟨g,o + 7,none⟩ = some (.slice t.B t.l.length t.d) :=
 ⟨h 0 _ rfl,h 1 _ rfl,h 2 _ rfl,h 3 _ rfl,h 4 _ rfl,h 5 _ rfl,h 6 _ rfl,h 7 _ rfl⟩
theorem Cells.same {w w':World} {g o:Nat} {t:NT} (h:t.Cells w g o) (e:∀ p,w'.cell? ⟨g,p,none⟩ = w.cell? ⟨g,p,none⟩):t.Cells w' g o:=fun j u hu => (e _).trans (h j u hu)
def At (w:World) (Q:Nat→Prop) (A:Option Addr) (c:Nat) (l:List NT):Prop :=
 (l.length≤c∧c≤maxLen∧l.length * 104≤reachBytes)∧(0 < l.length→∃ g o,A = some ⟨g,o,none⟩∧Q g∧∀ i (x:NT),l[i]? = some x→x.Cells w g (o + i * 8))
inductive In (w:World) (Q:Nat→Prop):NT→Prop
 | mk (t:NT) (hk:-9223372036854775808≤t.k∧t.k≤9223372036854775807) (ha:-9223372036854775808≤t.a∧t.a≤9223372036854775807) (hs:t.s.size≤reachBytes) (hp:t.p.size≤reachBytes)
  (hA:At w Q t.A t.c t.b) (hB:At w Q t.B t.d t.l) (hx:∀ x,x ∈ t.b→In w Q x) (hv:∀ x,x ∈ t.l→In w Q x):In w Q t
def Row (w:World) (Q:Nat→Prop) (A:Option Addr) (c:Nat) (l:List NT):Prop:=At w Q A c l∧∀ x,x ∈ l→In w Q x
theorem In.body {w:World} {Q:Nat→Prop} {t:NT} (h:t.In w Q):Row w Q t.A t.c t.b:=by cases h with | mk _ _ _ _ _ hA _ hx _ => exact ⟨hA,hx⟩
theorem In.els {w:World} {Q:Nat→Prop} {t:NT} (h:t.In w Q):Row w Q t.B t.d t.l:=by cases h with | mk _ _ _ _ _ _ hB _ hv => exact ⟨hB,hv⟩
theorem At.same {w w':World} {Q Q':Nat→Prop} {A:Option Addr} {c:Nat} {l:List NT} (h:At w Q A c l) (hq:∀ g,Q g→Q' g) (e:∀ g p,Q g→w'.cell? ⟨g,p,none⟩ = w.cell? ⟨g,p,none⟩):At w' Q' A c l:=by
 obtain ⟨h1,h2⟩:=h
 refine ⟨h1,fun hl => ?_⟩
 obtain ⟨g,o,e1,hg,hi⟩:=h2 hl
 exact ⟨g,o,e1,hq g hg,fun i x hx => (hi i x hx).same fun p => e g p hg⟩
theorem In.same {w w':World} {Q Q':Nat→Prop} {t:NT} (h:t.In w Q) (hq:∀ g,Q g→Q' g) (e:∀ g p,Q g→w'.cell? ⟨g,p,none⟩ = w.cell? ⟨g,p,none⟩):t.In w' Q':=by
 induction h with
 | mk t hk ha hs hp hA hB _ _ ihx ihv => exact .mk t hk ha hs hp (hA.same hq e) (hB.same hq e) ihx ihv
theorem Row.same {w w':World} {Q Q':Nat→Prop} {A:Option Addr} {c:Nat} {l:List NT} (h:Row w Q A c l) (hq:∀ g,Q g→Q' g) (e:∀ g p,Q g→w'.cell? ⟨g,p,none⟩ = w.cell? ⟨g,p,none⟩):Row w' Q' A c l :=
 ⟨h.1.same hq e,fun x hx => (h.2 x hx).same hq e⟩
theorem Row.nil (w:World) (Q:Nat→Prop):Row w Q none 0 []:=⟨⟨⟨Nat.le_refl _,Nat.zero_le _,Nat.zero_le _⟩,fun h => absurd h (by simp)⟩,fun x hx => by cases hx⟩
theorem Row.at_ {w:World} {Q:Nat→Prop} {A:Option Addr} {c:Nat} {l:List NT} (h:Row w Q A c l) {i:Nat} {x:NT} (hx:l[i]? = some x):∃ g o,A = some ⟨g,o,none⟩∧Q g∧x.Cells w g (o + i * 8)∧x.In w Q:=by
 obtain ⟨hi,hv⟩:=List.getElem?_eq_some_iff.1 hx
 obtain ⟨g,o,e1,hg,hc⟩:=h.1.2 (by omega)
 exact ⟨g,o,e1,hg,hc i x hx,h.2 x (List.mem_of_getElem? hx)⟩
mutual
def er:NT→NT | mk k a s p h e _ _ b _ _ l => mk k a s p h e none 0 (ers b) none 0 (ers l)
def ers:List NT→List NT | [] => [] | x :: l => er x :: ers l
end
theorem ers_map:∀ l:List NT,ers l = l.map er
 | [] => by simp [ers]
 | x :: l => by simp [ers,ers_map l]
theorem ers_len (l:List NT):(ers l).length = l.length:=by rw [ers_map,List.length_map]
theorem er_k (t:NT):t.er.k = t.k:=by cases t;simp [er,k]
theorem er_a (t:NT):t.er.a = t.a:=by cases t;simp [er,a]
theorem er_s (t:NT):t.er.s = t.s:=by cases t;simp [er,s]
theorem er_p (t:NT):t.er.p = t.p:=by cases t;simp [er,p]
theorem er_h (t:NT):t.er.h = t.h:=by cases t;simp [er,h]
theorem er_e (t:NT):t.er.e = t.e:=by cases t;simp [er,e]
theorem er_b (t:NT):t.er.b = ers t.b:=by cases t;simp [er,b]
theorem er_l (t:NT):t.er.l = ers t.l:=by cases t;simp [er,l]
mutual
def strip:NT→NT | mk k _ s p h e _ _ b _ _ l => mk k 0 s p h e none 0 (strips b) none 0 (strips l)
def strips:List NT→List NT | [] => [] | x :: l => strip x :: strips l
end
theorem strips_map:∀ l:List NT,strips l = l.map strip
 | [] => by simp [strips]
 | x :: l => by simp [strips,strips_map l]
theorem strip_mk (t:NT):t.strip = mk t.k 0 t.s t.p t.h t.e none 0 (strips t.b) none 0 (strips t.l):=by cases t;simp [strip,k,s,p,h,e,b,l]
theorem strip_er (t:NT):t.er.strip = t.strip:=by
 refine ind (M:=fun t => t.er.strip = t.strip) (fun t h1 h2 => ?_) t
 rw [strip_mk t.er,strip_mk t,er_k,er_s,er_p,er_h,er_e,er_b,er_l,ers_map,ers_map,strips_map,strips_map,strips_map,strips_map,List.map_map,List.map_map]
 congr 1
 ·exact List.map_congr_left h1
 ·exact List.map_congr_left h2
end NT
end
end Go.Proofs.YtpcapmdfjmpdiaaGreatDoor
