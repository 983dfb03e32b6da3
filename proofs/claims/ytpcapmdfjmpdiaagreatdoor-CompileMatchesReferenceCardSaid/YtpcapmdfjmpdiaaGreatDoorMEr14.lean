/- What Lex gives, as one shape -/
import Derived.Test.YtpcapmdfjmpdiaaGreatDoorMLx11
import Derived.Test.YtpcapmdfjmpdiaaGreatDoorMCt12
import Derived.Test.YtpcapmdfjmpdiaaGreatDoorMNt
import Derived.Test.YtpcapmdfjmpdiaaGreatDoorMPz13
import Derived.Test.YtpcapmdfjmpdiaaGreatDoorMKRow
set_option linter.unusedVariables false
set_option linter.unusedSimpArgs false
set_option maxRecDepth 100000
set_option maxHeartbeats 3200000
open Go.Lib (hid)
namespace Go.Proofs.YtpcapmdfjmpdiaaGreatDoor
section
open Go.RowKit Go.BigFrame
theorem tok_at {w:World} {T:TypeId} {A:Option Addr} {c i:Nat} {ts:List Tok} {t:Tok} (h:KRow w T 5 Tok.cs A c ts) (ht:ts[i]? = some t) :
  ∃ g o,A = some ⟨g,o,none⟩∧∀ W,Bel w W→W.cell? ⟨g,o + i * 5,none⟩ = some (.int .i64 t.k)∧W.cell? ⟨g,o + i * 5 + 1,none⟩ = some (.int .i64 t.a)∧W.cell? ⟨g,o + i * 5 + 2,none⟩ = some (.string (ofL t.s))∧W.cell? ⟨g,o + i * 5 + 3,none⟩ = some (.string (ofL t.p))∧W.cell? ⟨g,o + i * 5 + 4,none⟩ = some (.bool t.h):=by
 obtain ⟨g,o,rfl,hg,hc⟩:=h.at_ tok_len ht (by decide)
 refine ⟨g,o,rfl,fun W hb => ⟨?_,?_,?_,?_,?_⟩⟩
 ·have:=hc 0 _ rfl;rw [Nat.add_zero] at this;exact (hb.cell hg).trans this
 ·exact (hb.cell hg).trans (hc 1 _ rfl)
 ·exact (hb.cell hg).trans (hc 2 _ rfl)
 ·exact (hb.cell hg).trans (hc 3 _ rfl)
 ·exact (hb.cell hg).trans (hc 4 _ rfl)
theorem lex_ok {T:TypeId} {s:ByteArray} {ts:List Tok} {w:World} {e:Ending} {w':World} (h:LexPost T s (.ok ts) w e w'):Bel w w'∧∃ A c,e = .returned (.tuple #[.slice A ts.length c,.int .i64 s.size,.int .i64 0])∧KRow w' T 5 Tok.cs A c ts∧∀ k,k ∈ rowT A→w.heap.size≤k:=h
theorem lex_err {T:TypeId} {s:ByteArray} {b c:Nat} {w:World} {e:Ending} {w':World} (h:LexPost T s (.error (b,c)) w e w'):Bel w w'∧e = .returned (.tuple #[.slice none 0 0,.int .i64 b,.int .i64 c]):=h
theorem bel_only {w w':World} (h:Bel w w'):Only [] w w':=Only.of_below (S:=[]) h fun _ hk _ => hk
theorem Bel.drew (w:World):Bel w w.drew:=(Below.refl _ _).drew
theorem Bel.of_later {W:World} (X:Later [] W):Bel W X.w:=bel_of_only X.h
def toksR:LexR→List Tok | .ok ts => ts | .error _ => []
def numR (s:ByteArray):LexR→Nat | .ok _ => s.size | .error (b,_) => b
def errR:LexR→Nat | .ok _ => 0 | .error (_,c) => c
theorem er_bound {l:List UInt8} {a b c:Nat} (h:Er l a b c):b≤a + l.length∧c ≠ 0:=by
 induction h with
 | text l a k b c hf _ ih => have:=find2_lt hf;rw [List.length_drop] at ih;exact ⟨by omega,ih.2⟩
 | dir l a e t b c hf hc hd _ ih => have:=find2_lt hc;rw [List.length_drop] at this ih;have:=find2_lt hf;exact ⟨by omega,ih.2⟩
 | trunc l a hf hc => exact ⟨by omega,by decide⟩
 | bad l a e c hf hc hd => exact ⟨by omega,by rcases dirOf_err hd with h | h <;> omega⟩
theorem lexOf_total (s:ByteArray):∃ r,LexOf s r∧numR s r≤s.size∧(s.size≤5000→errR r = 0→∃ ts,r = .ok ts∧Lx (toL s) 0 ts)∧(errR r ≠ 0→toksR r = []):=by
 by_cases hb:65536 < s.size
 ·exact ⟨.error (0,6),by unfold LexOf;rw [if_pos hb],Nat.zero_le _,fun h => by omega,fun _ => rfl⟩
 ·obtain ⟨r,hr⟩:=rs_total (toL s) 0
  refine ⟨r,by unfold LexOf;rw [if_neg hb];exact hr,?_,?_,?_⟩
  ·match r,hr with
   | .ok ts,_ => exact Nat.le_refl _
   | .error (b,c),hr => have:=(er_bound hr).1;rw [toL_len] at this;simp only [numR];omega
  ·match r,hr with
   | .ok ts,hr => exact fun _ _ => ⟨ts,rfl,hr⟩
   | .error (b,c),hr => exact fun _ h => absurd h (er_bound hr).2
  ·match r,hr with
   | .ok ts,_ => exact fun h => absurd rfl h
   | .error (b,c),_ => exact fun _ => rfl
end
section
def eqH (s t:HS):Bool:=decide (s.c = t.c) && (decide (s.n = t.n) && (decide (s.a = t.a) && decide (s.p = t.p)))
theorem eqH_iff (s t:HS):eqH s t = true ↔ s = t:=by
 unfold eqH
 simp only [Bool.and_eq_true,decide_eq_true_eq]
 constructor
 ·rintro ⟨h1,h2,h3,h4⟩;exact HS.ext_ h1 h2 h3 h4
 ·rintro rfl;exact ⟨rfl,rfl,rfl,rfl⟩
theorem eqH_self (s:HS):eqH s s = true:=(eqH_iff s s).2 rfl
inductive IR where
 | ok (s:HS) (es:List Nat):IR
 | no (a:Int) (e:Nat):IR
namespace IR
def next (r:IR) (f:HS→List Nat→IR):IR:=match r with | ok s es => f s es | no a e => no a e
theorem next_ok (s:HS) (es:List Nat) (f:HS→List Nat→IR):(ok s es).next f = f s es:=rfl
theorem next_no (a:Int) (e:Nat) (f:HS→List Nat→IR):(no a e).next f = no a e:=rfl
end IR
mutual
def nodeI (s:HS):NT→IR
 | .mk k a tx _ _ _ _ _ b _ _ l =>
  if k = 0 then .ok (runS s tx.data.toList) []
  else if k = 1 then (if (escS s).2 = true then .ok s [(escS s).1] else .no a 15)
  else if k = 2 then (listI s b).next fun s1 e1 => (listI s l).next fun s2 e2 => if eqH s1 s2 = true then .ok s1 (e1 ++ e2) else .no a 16
  else if k = 3 then (listI s b).next fun s1 e1 => if eqH s1 s = true then .ok s e1 else .no a 16
  else if k = 4 then (if eqH s (s0 0) = true then .ok s [] else .no a 15)
  else if k = 6 then (listI (s0 0) b).next fun s1 e1 => if eqH s1 (s0 0) = true then .ok s e1 else .no a 16
  else .ok s []
def listI (s:HS):List NT→IR
 | [] => .ok s []
 | x :: l => (nodeI s x).next fun s1 e1 => (listI s1 l).next fun s2 e2 => .ok s2 (e1 ++ e2)
end
theorem nodeI_eq (s:HS) (t:NT):nodeI s t =
  if t.k = 0 then .ok (runS s t.s.data.toList) []
  else if t.k = 1 then (if (escS s).2 = true then .ok s [(escS s).1] else .no t.a 15)
  else if t.k = 2 then (listI s t.b).next fun s1 e1 => (listI s t.l).next fun s2 e2 => if eqH s1 s2 = true then .ok s1 (e1 ++ e2) else .no t.a 16
  else if t.k = 3 then (listI s t.b).next fun s1 e1 => if eqH s1 s = true then .ok s e1 else .no t.a 16
  else if t.k = 4 then (if eqH s (s0 0) = true then .ok s [] else .no t.a 15)
  else if t.k = 6 then (listI (s0 0) t.b).next fun s1 e1 => if eqH s1 (s0 0) = true then .ok s e1 else .no t.a 16
  else .ok s []:=by
 cases t
 rw [nodeI]
 rfl
theorem listI_nil (s:HS):listI s [] = .ok s []:=by rw [listI]
theorem listI_cons (s:HS) (x:NT) (l:List NT):listI s (x :: l) = (nodeI s x).next fun s1 e1 => (listI s1 l).next fun s2 e2 => .ok s2 (e1 ++ e2):=by rw [listI]
theorem listI_append (l m:List NT):∀ s,listI s (l ++ m) = (listI s l).next fun s1 e1 => (listI s1 m).next fun s2 e2 => .ok s2 (e1 ++ e2):=by
 induction l with
 | nil =>
  intro s
  rw [List.nil_append,listI_nil,IR.next_ok]
  cases listI s m <;> rfl
 | cons x l ih =>
  intro s
  rw [List.cons_append,listI_cons,listI_cons]
  cases nodeI s x with
  | no a e => rfl
  | ok s1 e1 =>
   simp only [IR.next_ok]
   rw [ih s1]
   cases listI s1 l with
   | no a e => rfl
   | ok s2 e2 =>
    simp only [IR.next_ok]
    cases listI s2 m with
    | no a e => rfl
    | ok s3 e3 => simp only [IR.next_ok,List.append_assoc]
theorem listI_snoc (s:HS) (l:List NT) (x:NT):listI s (l ++ [x]) = (listI s l).next fun s1 e1 => (nodeI s1 x).next fun s2 e2 => .ok s2 (e1 ++ e2):=by
 rw [listI_append]
 cases listI s l with
 | no a e => rfl
 | ok s1 e1 =>
  simp only [IR.next_ok]
  rw [listI_cons]
  cases nodeI s1 x with
  | no a e => rfl
  | ok s2 e2 => simp only [IR.next_ok,listI_nil,List.append_nil]
theorem listI_take {s:HS} {l:List NT} {i:Nat} {x:NT} (h:l[i]? = some x):listI s (l.take (i + 1)) = (listI s (l.take i)).next fun s1 e1 => (nodeI s1 x).next fun s2 e2 => .ok s2 (e1 ++ e2):=by
 rw [List.take_add_one,h]
 exact listI_snoc s _ x
theorem listI_stop {s:HS} {l:List NT} {i:Nat} {a:Int} {e:Nat} (h:listI s (l.take i) = .no a e):listI s l = .no a e:=by
 rw [← List.take_append_drop i l,listI_append,h]
 rfl
def inferI (l:List NT):List Nat × Int × Nat :=
 match listI (s0 0) l with
 | .no a e => ([],a,e)
 | .ok s es => if eqH s (s0 0) = true then (es,0,0) else ([],(l.getLast?.map NT.a).getD 0,16)
def IR.Good:IR→Prop | .ok s _ => Inv s | .no _ _ => True
theorem IR.Good.next {r:IR} {f:HS→List Nat→IR} (h:r.Good) (hf:∀ s es,Inv s→(f s es).Good):(r.next f).Good:=by
 cases r with
 | no a e => exact trivial
 | ok s es => exact hf s es h
theorem listI_good_of (l:List NT) (h:∀ x,x ∈ l→∀ s,Inv s→(nodeI s x).Good):∀ s,Inv s→(listI s l).Good:=by
 induction l with
 | nil => intro s hs;rw [listI_nil];exact hs
 | cons x l ih =>
  intro s hs
  rw [listI_cons]
  exact (h x (by simp) s hs).next fun s1 e1 h1 => (ih (fun y hy => h y (by simp [hy])) s1 h1).next fun s2 e2 h2 => h2
theorem nodeI_good (t:NT):∀ s,Inv s→(nodeI s t).Good:=by
 refine NT.ind (M:=fun t => ∀ s,Inv s→(nodeI s t).Good) (fun t hb hl s hs => ?_) t
 rw [nodeI_eq]
 split
 ·exact inv_run hs _
 split
 ·split
  ·exact hs
  ·exact trivial
 split
 ·exact (listI_good_of t.b hb s hs).next fun s1 e1 h1 => (listI_good_of t.l hl s hs).next fun s2 e2 h2 => by
   split
   ·exact h1
   ·exact trivial
 split
 ·exact (listI_good_of t.b hb s hs).next fun s1 e1 h1 => by
   split
   ·exact hs
   ·exact trivial
 split
 ·split
  ·exact hs
  ·exact trivial
 split
 ·exact (listI_good_of t.b hb (s0 0) Inv.init).next fun s1 e1 h1 => by
   split
   ·exact hs
   ·exact trivial
 ·exact hs
theorem listI_good (l:List NT) (s:HS) (hs:Inv s):(listI s l).Good:=listI_good_of l (fun x _ => nodeI_good x) s hs
end
section
open NT
structure IN where
 o:Nat
 s:ByteArray
 p:ByteArray
 h:Bool
 e:Nat
 t:Nat
abbrev eB:ByteArray:=ByteArray.empty
def IN.cs (x:IN):List Value:=[.int .i64 (x.o:Nat),.string x.s,.string x.p,.bool x.h,.int .i64 (x.e:Nat),.int .i64 (x.t:Nat)]
theorem IN.cs_len (x:IN):x.cs.length = 6:=rfl
theorem IN.cs_one (x:IN) (u:Value) (h:u ∈ x.cs):u.oneCell' = true:=by
 simp only [IN.cs,List.mem_cons,List.not_mem_nil,or_false] at h
 rcases h with rfl | rfl | rfl | rfl | rfl | rfl <;> rfl
abbrev CE:=List IN × List Nat
def seqC (A:CE) (R:Nat→List Nat→CE) (a:Nat):CE:=(A.1 ++ (R (a + A.1.length) A.2).1,(R (a + A.1.length) A.2).2)
def ifC (a:Nat) (p:ByteArray) (e:Bool) (B:CE) (R:Nat→List Nat→CE):CE :=
 if e = true then (⟨2,eB,p,false,0,a + 2 + B.1.length⟩ :: (B.1 ++ ⟨3,eB,eB,false,0,a + 2 + B.1.length + (R (a + 2 + B.1.length) B.2).1.length⟩ :: (R (a + 2 + B.1.length) B.2).1),(R (a + 2 + B.1.length) B.2).2)
 else (⟨2,eB,p,false,0,a + 1 + B.1.length⟩ :: B.1,B.2)
def rangeC (a:Nat) (p:ByteArray) (B:CE):CE:=(⟨4,eB,p,false,0,a + 2 + B.1.length⟩ :: (B.1 ++ [⟨5,eB,eB,false,0,a + 1⟩]),B.2)
mutual
def nodeC (ad:ByteArray→Nat) (a:Nat) (es:List Nat):NT→CE
 | .mk k _ s p h e _ _ b _ _ l =>
  if k = 0 then ([⟨0,s,eB,false,0,0⟩],es)
  else if k = 1 then ([⟨1,eB,p,false,es.headD 0,0⟩],es.tail)
  else if k = 2 then ifC a p e (listC ad (a + 1) es b) (fun a2 es2 => listC ad a2 es2 l)
  else if k = 3 then rangeC a p (listC ad (a + 1) es b)
  else if k = 4 then ([⟨6,eB,p,h,0,ad s⟩],es)
  else if k = 5 then ([⟨8,eB,eB,false,0,0⟩],es)
  else ([],es)
def listC (ad:ByteArray→Nat) (a:Nat) (es:List Nat):List NT→CE
 | [] => ([],es)
 | x :: l => seqC (nodeC ad a es x) (fun a2 es2 => listC ad a2 es2 l) a
end
theorem nodeC_eq (ad:ByteArray→Nat) (a:Nat) (es:List Nat) (t:NT):nodeC ad a es t =
  if t.k = 0 then ([⟨0,t.s,eB,false,0,0⟩],es)
  else if t.k = 1 then ([⟨1,eB,t.p,false,es.headD 0,0⟩],es.tail)
  else if t.k = 2 then ifC a t.p t.e (listC ad (a + 1) es t.b) (fun a2 es2 => listC ad a2 es2 t.l)
  else if t.k = 3 then rangeC a t.p (listC ad (a + 1) es t.b)
  else if t.k = 4 then ([⟨6,eB,t.p,t.h,0,ad t.s⟩],es)
  else if t.k = 5 then ([⟨8,eB,eB,false,0,0⟩],es)
  else ([],es):=by
 cases t
 rw [nodeC]
 rfl
theorem listC_nil (ad:ByteArray→Nat) (a:Nat) (es:List Nat):listC ad a es [] = ([],es):=by rw [listC]
theorem listC_cons (ad:ByteArray→Nat) (a:Nat) (es:List Nat) (x:NT) (l:List NT):listC ad a es (x :: l) = seqC (nodeC ad a es x) (fun a2 es2 => listC ad a2 es2 l) a:=by rw [listC]
theorem listC_append (ad:ByteArray→Nat) (l m:List NT):∀ (a:Nat) (es:List Nat),listC ad a es (l ++ m) = seqC (listC ad a es l) (fun a2 es2 => listC ad a2 es2 m) a:=by
 induction l with
 | nil => intro a es;rw [List.nil_append,listC_nil];unfold seqC;simp
 | cons x l ih =>
  intro a es
  rw [List.cons_append,listC_cons,listC_cons]
  unfold seqC
  simp only [ih]
  unfold seqC
  simp only [List.append_assoc,List.length_append,Nat.add_assoc]
theorem listC_snoc (ad:ByteArray→Nat) (l:List NT) (x:NT) (a:Nat) (es:List Nat):listC ad a es (l ++ [x]) = seqC (listC ad a es l) (fun a2 es2 => nodeC ad a2 es2 x) a:=by
 rw [listC_append]
 unfold seqC
 simp only [listC_cons,listC_nil]
 unfold seqC
 simp
theorem listC_take {ad:ByteArray→Nat} {l:List NT} {i:Nat} {x:NT} (h:l[i]? = some x) (a:Nat) (es:List Nat):listC ad a es (l.take (i + 1)) = seqC (listC ad a es (l.take i)) (fun a2 es2 => nodeC ad a2 es2 x) a:=by
 rw [List.take_add_one,h]
 exact listC_snoc ad _ x a es
namespace NT
mutual
def siz:NT→Nat | mk k _ _ _ _ e _ _ b _ _ l => if k = 2 then 1 + sizs b + (if e = true then 1 + sizs l else 0) else if k = 3 then 2 + sizs b else if k = 0 ∨ k = 1 ∨ k = 4 ∨ k = 5 then 1 else 0
def sizs:List NT→Nat | [] => 0 | x :: r => siz x + sizs r
end
mutual
def prn:NT→Nat | mk k _ _ _ _ e _ _ b _ _ l => if k = 1 then 1 else if k = 2 then prns b + (if e = true then prns l else 0) else if k = 3 then prns b else 0
def prns:List NT→Nat | [] => 0 | x :: r => prn x + prns r
end
theorem siz_eq (t:NT):t.siz = if t.k = 2 then 1 + sizs t.b + (if t.e = true then 1 + sizs t.l else 0) else if t.k = 3 then 2 + sizs t.b else if t.k = 0 ∨ t.k = 1 ∨ t.k = 4 ∨ t.k = 5 then 1 else 0:=by cases t;rw [siz];rfl
theorem sizs_nil:sizs [] = 0:=by simp [sizs]
theorem sizs_cons (x:NT) (r:List NT):sizs (x :: r) = siz x + sizs r:=by simp [sizs]
theorem sizs_append:∀ l m:List NT,sizs (l ++ m) = sizs l + sizs m
 | [],m => by simp [sizs_nil]
 | x :: l,m => by rw [List.cons_append,sizs_cons,sizs_cons,sizs_append l m];omega
theorem prn_eq (t:NT):t.prn = if t.k = 1 then 1 else if t.k = 2 then prns t.b + (if t.e = true then prns t.l else 0) else if t.k = 3 then prns t.b else 0:=by cases t;rw [prn];rfl
theorem prns_nil:prns [] = 0:=by simp [prns]
theorem prns_cons (x:NT) (r:List NT):prns (x :: r) = prn x + prns r:=by simp [prns]
theorem prns_append:∀ l m:List NT,prns (l ++ m) = prns l + prns m
 | [],m => by simp [prns_nil]
 | x :: l,m => by rw [List.cons_append,prns_cons,prns_cons,prns_append l m];omega
end NT
structure CeOk (r:CE) (n k:Nat) (es:List Nat):Prop where
 len:r.1.length = n
 es:r.2 = es.drop k
theorem listC_ok_of (ad:ByteArray→Nat) (l:List NT) (h:∀ x,x ∈ l→∀ a es,CeOk (nodeC ad a es x) x.siz x.prn es):∀ a es,CeOk (listC ad a es l) (sizs l) (prns l) es:=by
 induction l with
 | nil => intro a es;rw [listC_nil,sizs_nil,prns_nil];exact ⟨rfl,rfl⟩
 | cons x l ih =>
  intro a es
  have h1:=h x (by simp) a es
  have h2:=ih (fun y hy => h y (by simp [hy])) (a + (nodeC ad a es x).1.length) (nodeC ad a es x).2
  rw [listC_cons,sizs_cons,prns_cons]
  refine ⟨?_,?_⟩
  ·show ((nodeC ad a es x).1 ++ _).length = _
   rw [List.length_append,h1.len,← h2.len,h1.len]
  ·show (listC ad _ _ l).2 = _
   rw [h2.es,h1.es,List.drop_drop]
theorem nodeC_ok (ad:ByteArray→Nat) (t:NT):∀ a es,CeOk (nodeC ad a es t) t.siz t.prn es:=by
 refine NT.ind (M:=fun t => ∀ a es,CeOk (nodeC ad a es t) t.siz t.prn es) (fun t hb hl a es => ?_) t
 have HB:=fun a es => listC_ok_of ad t.b hb a es
 have HL:=fun a es => listC_ok_of ad t.l hl a es
 rw [nodeC_eq,siz_eq,prn_eq]
 by_cases h0:t.k = 0
 ·simp [h0];exact ⟨rfl,rfl⟩
 by_cases h1:t.k = 1
 ·simp [h1];exact ⟨rfl,by cases es <;> rfl⟩
 by_cases h2:t.k = 2
 ·rw [if_neg h0,if_neg h1,if_pos h2,if_pos h2,if_neg h1,if_pos h2]
  unfold ifC
  have b1:=HB (a + 1) es
  by_cases he:t.e = true
  ·rw [if_pos he,if_pos he,if_pos he]
   have l1:=HL (a + 2 + (listC ad (a + 1) es t.b).1.length) (listC ad (a + 1) es t.b).2
   refine ⟨?_,?_⟩
   ·simp only [List.length_cons,List.length_append,b1.len]
    rw [b1.len] at l1
    rw [l1.len]
    omega
   ·rw [l1.es,b1.es,List.drop_drop]
  ·rw [if_neg he,if_neg he,if_neg he]
   exact ⟨by simp only [List.length_cons,b1.len];omega,b1.es⟩
 by_cases h3:t.k = 3
 ·rw [if_neg h0,if_neg h1,if_neg h2,if_pos h3,if_neg h2,if_pos h3,if_neg h1,if_neg h2,if_pos h3]
  have b1:=HB (a + 1) es
  exact ⟨by unfold rangeC;simp only [List.length_cons,List.length_append,b1.len,List.length_nil];omega,b1.es⟩
 by_cases h4:t.k = 4
 ·simp [h4];exact ⟨rfl,rfl⟩
 by_cases h5:t.k = 5
 ·simp [h5];exact ⟨rfl,rfl⟩
 ·simp [h0,h1,h2,h3,h4,h5];exact ⟨rfl,rfl⟩
theorem listC_ok (ad:ByteArray→Nat) (l:List NT) (a:Nat) (es:List Nat):CeOk (listC ad a es l) (sizs l) (prns l) es:=listC_ok_of ad l (fun x _ => nodeC_ok ad x) a es
end
section
open NT
structure XI where
 o:Int
 s:ByteArray
 p:ByteArray
 h:Bool
 e:Int
 t:Int
def XI.cs (x:XI):List Value:=[.int .i64 x.o,.string x.s,.string x.p,.bool x.h,.int .i64 x.e,.int .i64 x.t]
def IN.x (x:IN):XI:=⟨x.o,x.s,x.p,x.h,x.e,x.t⟩
def hasP (o:Int):Prop:=o = 1 ∨ o = 2 ∨ o = 4 ∨ o = 6
instance (o:Int):Decidable (hasP o):=by unfold hasP;infer_instance
def hasT (o:Int):Prop:=2≤o∧o≤6
instance (o:Int):Decidable (hasT o):=by unfold hasT;infer_instance
def shapeX (x:XI):Prop:=(x.s.size ≠ 0→x.o = 0)∧(x.p.size ≠ 0→hasP x.o)∧(x.h = true→x.o = 6)∧(x.o = 6→x.h = false→x.p.size = 0)∧(x.e ≠ 0→x.o = 1)∧(x.t ≠ 0→hasT x.o)
instance (x:XI):Decidable (shapeX x):=by unfold shapeX;infer_instance
def prf (t:NT):Nat:=if t.k = 6 then prns t.b else t.prn
def dfs:List NT→List Nat→List (NT × List Nat)
 | [],_ => []
 | x :: l,es => if x.k = 6 then (x,es.take (prf x)) :: dfs l (es.drop (prf x)) else dfs l (es.drop (prf x))
def mainE:List NT→List Nat→List Nat
 | [],_ => []
 | x :: l,es => if x.k = 6 then mainE l (es.drop (prf x)) else es.take (prf x) ++ mainE l (es.drop (prf x))
def adr:List (NT × List Nat)→Nat→ByteArray→Nat
 | [],_,_ => 0
 | d :: r,a,nm => if d.1.s = nm then a else adr r (a + sizs d.1.b + 1) nm
def defsC (ad:ByteArray→Nat):List (NT × List Nat)→Nat→List IN
 | [],_ => []
 | d :: r,a => (listC ad a d.2 d.1.b).1 ++ ⟨7,eB,eB,false,0,0⟩ :: defsC ad r (a + sizs d.1.b + 1)
def codeW (l:List NT) (es:List Nat):List IN :=
 (listC (adr (dfs l es) (sizs l + 1)) 0 (mainE l es) l).1 ++ ⟨9,eB,eB,false,0,0⟩ :: defsC (adr (dfs l es) (sizs l + 1)) (dfs l es) (sizs l + 1)
def dsz:List (NT × List Nat)→Nat | [] => 0 | d :: r => sizs d.1.b + 1 + dsz r
theorem defsC_len (ad:ByteArray→Nat):∀ (ds:List (NT × List Nat)) (a:Nat),(defsC ad ds a).length = dsz ds
 | [],a => rfl
 | d :: r,a => by
  unfold defsC dsz
  rw [List.length_append,List.length_cons,defsC_len ad r,(listC_ok ad d.1.b a d.2).len]
  omega
theorem codeW_len (l:List NT) (es:List Nat):(codeW l es).length = sizs l + 1 + dsz (dfs l es):=by
 unfold codeW
 rw [List.length_append,List.length_cons,defsC_len,(listC_ok _ l 0 _).len]
 omega
end
section
open NT
theorem dfs_mem:∀ (l:List NT) (es:List Nat) (d:NT × List Nat),d ∈ dfs l es→d.1 ∈ l∧d.1.k = 6∧∀ k,k ∈ d.2→k ∈ es
 | [],es,d,h => by cases h
 | x :: l,es,d,h => by
  unfold dfs at h
  split at h
  ·rename_i hk
   rcases List.mem_cons.1 h with rfl | h
   ·exact ⟨by simp,hk,fun k hk => List.mem_of_mem_take hk⟩
   ·obtain ⟨h1,h2,h3⟩:=dfs_mem l _ d h
    exact ⟨by simp [h1],h2,fun k hk => List.mem_of_mem_drop (h3 k hk)⟩
  ·obtain ⟨h1,h2,h3⟩:=dfs_mem l _ d h
   exact ⟨by simp [h1],h2,fun k hk => List.mem_of_mem_drop (h3 k hk)⟩
def IR.Fine4:IR→Prop | .ok _ es => ∀ k,k ∈ es→k≤4 | .no _ _ => True
theorem listI_esc {l:List NT} {s t:HS} {es:List Nat} (h:listI s l = .ok t es):∀ k,k ∈ es→k≤4:=by
 have next:∀ {r:IR} {f:HS→List Nat→IR},r.Fine4→(∀ s es,(∀ k,k ∈ es→k≤4)→(f s es).Fine4)→(r.next f).Fine4:=by
  intro r f h1 h2
  cases r with
  | no a e => exact trivial
  | ok s es => exact h2 s es h1
 have app:∀ {a b:List Nat},(∀ k,k ∈ a→k≤4)→(∀ k,k ∈ b→k≤4)→∀ k,k ∈ a ++ b→k≤4:=by
  intro a b h1 h2 k hk
  rcases List.mem_append.1 hk with h | h
  ·exact h1 k h
  ·exact h2 k h
 have key:∀ l:List NT,(∀ x,x ∈ l→∀ s,(nodeI s x).Fine4)→∀ s,(listI s l).Fine4:=by
  intro l
  induction l with
  | nil => intro _ s;rw [listI_nil];intro k hk;cases hk
  | cons x l ih =>
   intro h s
   rw [listI_cons]
   exact next (h x (by simp) s) fun s1 e1 h1 => next (ih (fun y hy => h y (by simp [hy])) s1) fun s2 e2 h2 => app h1 h2
 have all:∀ x s,(nodeI s x).Fine4:=fun x => NT.ind (M:=fun t => ∀ s,(nodeI s t).Fine4) (fun t hb hl s => by
  rw [nodeI_eq]
  split
  ·intro k hk;cases hk
  split
  ·split
   ·intro k hk
    rw [List.mem_singleton] at hk
    subst hk
    unfold escS
    repeat (first | split | decide)
   ·exact trivial
  split
  ·exact next (key t.b hb s) fun s1 e1 h1 => next (key t.l hl s) fun s2 e2 h2 => by
    split
    ·exact app h1 h2
    ·exact trivial
  split
  ·exact next (key t.b hb s) fun s1 e1 h1 => by
    split
    ·exact h1
    ·exact trivial
  split
  ·split
   ·intro k hk;cases hk
   ·exact trivial
  split
  ·exact next (key t.b hb (s0 0)) fun s1 e1 h1 => by
    split
    ·exact h1
    ·exact trivial
  ·intro k hk;cases hk) x
 have:=key l (fun x _ => all x) s
 rw [h] at this
 exact this
end
section
open Go.RowKit Go.BigFrame NT
theorem callN_len (t:NT):(callN t).length≤t.tot:=by
 refine NT.ind (M:=fun t => (callN t).length≤t.tot) (fun t h1 h2 => ?_) t
 have key:∀ l:List NT,(∀ x,x ∈ l→(callN x).length≤x.tot)→(callNs l).length≤tots l:=by
  intro l
  induction l with
  | nil => intro _;simp [callNs_nil,tots_nil]
  | cons x l ih =>
   intro h
   rw [callNs_cons,tots_cons,List.length_append]
   have:=h x (by simp)
   have:=ih fun y hy => h y (by simp [hy])
   omega
 have:=key _ h1
 have:=key _ h2
 rw [callN_eq,tot_eq,List.length_append,List.length_append]
 split <;> simp <;> omega
theorem callNs_len:∀ l:List NT,(callNs l).length≤tots l
 | [] => by simp [callNs_nil,tots_nil]
 | x :: l => by
  rw [callNs_cons,tots_cons,List.length_append]
  have:=callN_len x
  have:=callNs_len l
  omega
theorem callNs_step {l:List NT} {i:Nat} {x:NT} (h:l[i]? = some x):callNs (l.take (i + 1)) = callNs (l.take i) ++ callN x:=by rw [NT.take_step h,callNs_append,callNs_cons,callNs_nil,List.append_nil]
def RcP (l:List NT) (w:World) (e:Ending) (w':World):Prop:=∃ A c,e = .returned (.slice A (callNs l).length c)∧Hid (KRow w' 69 8 NT.cs A c (callNs l))∧Hid (∀ k,k ∈ rowT A→w.heap.size≤k)∧Hid (Bel w w')
abbrev RcC (w:World) (A:Option Addr) (n c:Nat) (l:List NT):Prop:=Calls Tryz.prog 69 #[.slice A n c] w (RcP l w)
def RcM (x:NT):Prop:=∀ (w:World),x.In w (Lt w)→x.tot≤100000→RcC w x.A x.b.length x.c x.b∧RcC w x.B x.l.length x.d x.l
theorem bel_onK14 {S:List Nat} {w w1 w2:World} (h:Bel w w1) (ho:Only S w1 w2) (hS:∀ k,k ∈ S→w.heap.size≤k):Bel w w2:=bel_of_only ((bel_only h).join ho (fun k hk => .inr (hS k hk)))
structure RkAt (w wr:World) (A:Option Addr) (q c:Nat) (done:List NT):Prop where
 row:KRow wr 69 8 NT.cs A c done
 len:done.length = q
 fresh:∀ k,k ∈ rowT A→w.heap.size≤k
 bel:Bel w wr
theorem RkAt.later {w wr w2:World} {A:Option Addr} {q c:Nat} {done:List NT} (h:RkAt w wr A q c done) (hb:Bel wr w2):RkAt w w2 A q c done :=
 ⟨h.row.only (bel_only hb) (by simp),h.len,h.fresh,h.bel.trans hb⟩
theorem RkAt.push {w wr w2:World} {A A':Option Addr} {q c c':Nat} {done m:List NT} (h:RkAt w wr A q c done) (hR:KRow w2 69 8 NT.cs A' c' (done ++ m)) (hO:Only (rowT A) wr w2) (hK:∀ k,k ∈ rowT A'→k ∈ rowT A ∨ k = wr.heap.size):RkAt w w2 A' (q + m.length) c' (done ++ m):=by
 refine ⟨hR,by rw [List.length_append,h.len],fun k hk => ?_,bel_onK14 h.bel hO h.fresh⟩
 rcases hK k hk with h1 | h1
 ·exact h.fresh k h1
 ·have:=h.bel.size;omega
theorem info_node14:(Tryz.prog.info? 69).map (fun i => (i.zero,i.size,i.bytes)) = some (some (.agg #[.int .i64 0,.int .i64 0,.string ByteArray.empty,.string ByteArray.empty,.bool false,.bool false,.slice none 0 0,.slice none 0 0]),8,104):=by kernel_rfl
theorem cells_node14:(Value.agg #[.int .i64 0,.int .i64 0,.string ByteArray.empty,.string ByteArray.empty,.bool false,.bool false,.slice none 0 0,.slice none 0 0]).cells.size = 8:=by kernel_rfl
section
variable {w:World} {ops:Array Oper} {rest:List Oper} {o:Oper} {a:Act} {Q:Exit→Act→World→Prop}
theorem wp_rkMany (hgd:o.guard = none) (s x:Operand) (ho:o.op = .call { callee:=.builtin .append,args:=#[s,x],argTypes:=#[38,38] })
  {w0:World} {A:Option Addr} {n c:Nat} {l:List NT} (hA:RkAt w0 w A n c l) (hs:a.eval s = .slice A n c) (X:Option Addr) (d:Nat) (m:List NT) (k:Nat) (hk:m.length = k) (hx:a.eval x = .slice X k d) (hX:Src w 8 NT.cs X m) (hle:n + m.length≤100000) (N:Nat) (hN:N = n + k)
  (h:∀ A' c' w',Hid (RkAt w0 w' A' N c' (l ++ m))→wpList Tryz.prog ops Q rest (a.put o.dst (.slice A' N c')) w') :
  wpList Tryz.prog ops Q (o :: rest) a w :=
 wp_kAppend hgd s x 38 ho 69 _ 8 104 NT.cs NT.cs_len NT.cs_one Tryz.underlying38 info_node14 cells_node14 (by decide) A c l n hA.len hs hA.row X d m k hk hx hX (by unfold maxLen;omega) (by omega) N hN
  (fun A' c' w' h1 h2 h3 => h A' c' w' (hid (by have:=hA.push h1.out h2 h3.out;rwa [hk,← hN] at this)))
end
theorem rcalls_row (l:List NT) (ih:∀ x ∈ l,RcM x) (A:Option Addr) (c:Nat) (w:World) (hA:Row w (Lt w) A c l) (ht:tots l≤100000):RcC w A l.length c l:=by
 obtain ⟨n,hn⟩:∃ n,n = l.length:=⟨_,rfl⟩
 have hn5:=hA.len
 rw [← hn] at hn5 ⊢
 have HA:=hid hA
 have HI:=hid ih
 have HN:=hid hn
 have HT:=hid ht
 clear hA ih hn ht
 go_enter Tryz.func69,Tryz.ntmps69
 go_wp2_with fail
 go_loopw [3,4] (fun s3 s4 wr => ∃ (i:Nat) (A':Option Addr) (q c':Nat),i≤n∧s4 = .int .i64 i∧s3 = .slice A' q c'∧Hid (RkAt w wr A' q c' (callNs (l.take i)))) (fun _ s4 _ => n - (intOf s4).toNat)
 case atStart => exact ⟨0,none,0,0,Nat.zero_le _,rfl,rfl,hid ⟨KRow.nil _ _ _ _,rfl,by simp [rowT],Bel.refl _⟩⟩
 case round =>
  obtain ⟨i,A',q,c',hi,rfl,rfl,HRK⟩:=hrel
  by_cases hlt:i < n
  ·have hxt:=List.getElem?_eq_getElem (l:=l) (i:=i) (by have:=HN.out;omega)
   generalize l[i]'(by have:=HN.out;omega) = x at hxt
   have hxm:=List.mem_of_getElem? hxt
   obtain ⟨g,o,hAA,hg,ha⟩:=HA.out.cells hxt
   subst hAA
   have HXI:=hid (HA.out.2 x hxm)
   have hst:=tots_step hxt
   have hle1:tots (l.take (i + 1))≤100000:=by have h1:=HT.out;rw [← List.take_append_drop (i + 1) l,tots_append] at h1;omega
   have hte:=tot_eq x
   have hx1:x.tot≤100000:=by omega
   have HMX:=hid (fun W (hb:Bel w W) => HI.out x hxm W (HXI.out.bel hb) hx1)
   have HCB:=hid (fun W (hb:Bel w W) => (HMX.out W hb).1)
   have HCE:=hid (fun W (hb:Bel w W) => (HMX.out W hb).2)
   have hq:q≤tots (l.take i):=by have:=callNs_len (l.take i);have:=HRK.out.len;omega
   have hbl:=callNs_len x.b
   have hll:=callNs_len x.l
   have hcs:=callNs_step hxt
   rw [callN_eq] at hcs
   have HAA:=hid ha
   have HRS:=HRK
   have HBL:=hid HRK.out.bel
   obtain ⟨a0,a1,a2,a3,a4,a5,a6,a7⟩:=ha wr HRK.out.bel
   by_cases hk:x.k = 4
   ·have k4:(x.k == 4) = true:=by rw [hk];rfl
    rw [if_pos hk] at hcs
    have HCS:=hid hcs
    have HM0:=hid (show q + [x].length≤100000 by simp;omega)
    have HM1:=hid (show q + 1 + (callNs x.b).length≤100000 by omega)
    have HM2:=hid (show q + 1 + (callNs x.b).length + (callNs x.l).length≤100000 by omega)
    have HR0:=hid (HRK.out.later (Bel.alloc wr (.cells #[.int .i64 x.k,.int .i64 x.a,.string x.s,.string x.p,.bool x.h,.bool x.e,.slice x.A x.b.length x.c,.slice x.B x.l.length x.d] 69)))
    have HS0:=hid (src_blk (f:=NT.cs) (z:=8) (m:=[x]) (Blk.new wr 69 [.int .i64 x.k,.int .i64 x.a,.string x.s,.string x.p,.bool x.h,.bool x.e,.slice x.A x.b.length x.c,.slice x.B x.l.length x.d]) (by rw [flat_one];rfl))
    clear hxt hxm hg ha hst hle1 hte hx1 hq hbl hll hcs hk HXI HBL HRK
    go_wp2_with (first
    | ((with_reducible refine wp_rkMany rfl (.tmp 17) (.tmp 22) rfl HR0.out rfl (some ⟨wr.heap.size,0,none⟩) 1 [x] 1 rfl rfl HS0.out HM0.out (q + 1) rfl ?_);intro Az cz wz HRZ;have HCZ:=hid (HAA.out _ HRZ.out.bel).2.2.2.2.2.2.1;have hcz:=HCZ.out;have HBZ:=hid HRZ.out.bel)
    | (go_at_call 69;((with_reducible refine (HCB.out _ HBZ.out).mono ?_);rintro e w1 ⟨X1,d1,rfl,HX1,HF1,HB1⟩;have HR1:=hid (HRZ.out.later HB1.out);have HS1:=hid HX1.out.src;clear HB1))
    | ((with_reducible refine wp_rkMany rfl (.tmp 24) (.tmp 30) rfl HR1.out rfl X1 d1 (callNs x.b) _ rfl rfl HS1.out HM1.out _ rfl ?_);intro A2 c2 w2 HR2;have HC2:=hid (HAA.out _ HR2.out.bel).2.2.2.2.2.2.2;have hc2:=HC2.out;have HBL2:=hid HR2.out.bel)
    | (go_at_call 69;((with_reducible refine (HCE.out _ HBL2.out).mono ?_);rintro e w3 ⟨X3,d3,rfl,HX3,HF3,HB3⟩;have HR3:=hid (HR2.out.later HB3.out);have HS3:=hid HX3.out.src;clear HB3))
    | ((with_reducible refine wp_rkMany rfl (.tmp 32) (.tmp 38) rfl HR3.out rfl X3 d3 (callNs x.l) _ rfl rfl HS3.out HM2.out _ rfl ?_);intro A4 c4 w4 HR4))
    go_roundw
    case rel => exact ⟨i + 1,A4,_,c4,by omega,by go_num,rfl,hid (by rw [HCS.out,← List.append_assoc,← List.append_assoc];exact HR4.out)⟩
    case measure => simp [intOf];omega
   ·have k4:(x.k == 4) = false:=by simpa using hk
    rw [if_neg hk,List.nil_append] at hcs
    have HCS:=hid hcs
    have HM1:=hid (show q + (callNs x.b).length≤100000 by omega)
    have HM2:=hid (show q + (callNs x.b).length + (callNs x.l).length≤100000 by omega)
    clear hxt hxm hg ha hst hle1 hte hx1 hq hbl hll hcs hk HXI HRS
    go_wp2_with (first
    | (go_at_call 69;((with_reducible refine (HCB.out _ HBL.out).mono ?_);rintro e w1 ⟨X1,d1,rfl,HX1,HF1,HB1⟩;have HR1:=hid (HRK.out.later HB1.out);have HS1:=hid HX1.out.src;clear HB1))
    | ((with_reducible refine wp_rkMany rfl (.tmp 24) (.tmp 30) rfl HR1.out rfl X1 d1 (callNs x.b) _ rfl rfl HS1.out HM1.out _ rfl ?_);intro A2 c2 w2 HR2;have HC2:=hid (HAA.out _ HR2.out.bel).2.2.2.2.2.2.2;have hc2:=HC2.out;have HBL2:=hid HR2.out.bel)
    | (go_at_call 69;((with_reducible refine (HCE.out _ HBL2.out).mono ?_);rintro e w3 ⟨X3,d3,rfl,HX3,HF3,HB3⟩;have HR3:=hid (HR2.out.later HB3.out);have HS3:=hid HX3.out.src;clear HB3))
    | ((with_reducible refine wp_rkMany rfl (.tmp 32) (.tmp 38) rfl HR3.out rfl X3 d3 (callNs x.l) _ rfl rfl HS3.out HM2.out _ rfl ?_);intro A4 c4 w4 HR4))
    go_roundw
    case rel => exact ⟨i + 1,A4,_,c4,by omega,by go_num,rfl,hid (by rw [HCS.out,← List.append_assoc];exact HR4.out)⟩
    case measure => simp [intOf];omega
  ·obtain rfl:i = n:=by omega
   have HRF:=hid (show RkAt w wr A' q c' (callNs l) by have h:=HRK.out;rwa [HN.out,List.take_length] at h)
   go_wp2_with fail
   go_ret
   exact ⟨A',c',by rw [HRF.out.len];rfl,hid HRF.out.row,hid HRF.out.fresh,hid HRF.out.bel⟩
theorem rcalls_all (x:NT):RcM x:=by
 refine NT.ind (M:=RcM) (fun t h1 h2 => ?_) x
 intro w ht hz
 rw [tot_eq] at hz
 exact ⟨rcalls_row t.b h1 _ _ w ht.body (by omega),rcalls_row t.l h2 _ _ w ht.els (by omega)⟩
theorem rcalls_c {l:List NT} {A:Option Addr} {c:Nat} {w:World} (hA:Row w (Lt w) A c l) (ht:tots l≤100000):Calls Tryz.prog 69 #[.slice A l.length c] w (RcP l w):=rcalls_row l (fun x _ => rcalls_all x) A c w hA ht
end
section
open NT
theorem callN_er (t:NT):callN t.er = (callN t).map er:=by
 refine NT.ind (M:=fun t => callN t.er = (callN t).map er) (fun t h1 h2 => ?_) t
 have key:∀ l:List NT,(∀ x,x ∈ l→callN x.er = (callN x).map er)→callNs (ers l) = (callNs l).map er:=by
  intro l
  induction l with
  | nil => intro _;simp [ers,callNs_nil]
  | cons x l ih =>
   intro h
   rw [ers,callNs_cons,callNs_cons,List.map_append,h x (by simp),ih fun y hy => h y (by simp [hy])]
 rw [callN_eq t.er,callN_eq t,er_k,er_b,er_l,key _ h1,key _ h2]
 by_cases hk:t.k = 4 <;> simp [hk]
theorem callNs_ers:∀ l:List NT,callNs (ers l) = (callNs l).map er
 | [] => by simp [ers,callNs_nil]
 | x :: l => by rw [ers,callNs_cons,callNs_cons,List.map_append,callN_er,callNs_ers l]
theorem defsN_ers:∀ l:List NT,defsN (ers l) = (defsN l).map er
 | [] => rfl
 | x :: l => by
  have:=defsN_ers l
  unfold defsN at this ⊢
  rw [ers,List.filter_cons,List.filter_cons,show isDef x.er = isDef x from by unfold isDef;rw [er_k],this]
  split <;> rfl
theorem namesN_ers (l:List NT):namesN (ers l) = namesN l:=by
 unfold namesN
 rw [defsN_ers,List.map_map]
 exact List.map_congr_left fun t _ => er_s t
theorem dupN_er:∀ (l:List NT) (seen:List ByteArray),dupN seen (l.map er) = dupN seen l
 | [],seen => rfl
 | x :: l,seen => by
  rw [List.map_cons]
  unfold dupN
  rw [er_s,er_a,dupN_er l]
theorem checkN_ers (l:List NT):checkN (ers l) = checkN l:=by
 unfold checkN
 rw [defsN_ers,dupN_er,callNs_ers,List.find?_map]
 have h:(badCall (ers l) ∘ er) = badCall l:=by
  funext t
  show badCall (ers l) t.er = badCall l t
  unfold badCall
  rw [namesN_ers,er_s]
 rw [h]
 split
 ·rfl
 ·cases (callNs l).find? (badCall l) with
  | none => rfl
  | some t => simp [er_a]
end
end Go.Proofs.YtpcapmdfjmpdiaaGreatDoor
