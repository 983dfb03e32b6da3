/- Plain facts on blocks, worlds and lists of bytes: no program is imported here -/
import Derived.WalkKit
import Derived.WalkSpells
import Derived.WalkLawsBesides
import Derived.Laws.CopyOwn
import Derived.Laws.Rows
import Derived.Lib.Hide
import Derived.Maps.AppendAt
import Derived.Laws.BitsAllLaws
import Derived.OwnWalk
import Derived.Deep.Draws
import Derived.Lib.SlBytesConst
import Derived.Laws.IdiomStrings
import Derived.Laws.BytesString
import Derived.ProofKit
import Derived.OpenShut
import Derived.ShutString
import Derived.ChangeOld
import Derived.Deep.Slices
import Derived.Deep.Fields
import Derived.ChangeSame
import Derived.Lib.SmallJoins
import Derived.Lib.Split
import Derived.Lib.IndexLaws
import Derived.Lib.IndexBytes
import Derived.ArgAppend
set_option linter.unusedVariables false
set_option linter.unusedSimpArgs false
open Go.Lib (hid)
namespace Go.Proofs.YtpcapmdfjmpdiaaGreatDoor
section
open Go.RowKit
def Blk (w:World) (g:Nat) (t:TypeId) (cs:List Value):Prop:=w.heap[g]? = some (.cells cs.toArray t (0,0))
section
variable {w w':World} {g:Nat} {t:TypeId} {cs:List Value}
theorem Blk.lt (h:Blk w g t cs):g < w.heap.size:=by
 unfold Blk at h
 exact (Array.getElem?_eq_some_iff.1 h).1
theorem Blk.cell (h:Blk w g t cs) (i:Nat):w.cell? ⟨g,i,none⟩ = cs[i]?:=by
 unfold Blk at h
 simp [World.cell?,h]
theorem Blk.free (h:Blk w g t cs) (i:Nat):w.frozen? ⟨g,i,none⟩ = false:=by
 unfold Blk at h
 simp [World.frozen?,h]
theorem Blk.new (w:World) (t:TypeId) (cs:List Value):Blk (w.alloc (.cells cs.toArray t)) w.heap.size t cs:=heap_alloc_new w _
theorem Blk.alloc (h:Blk w g t cs) (o:Obj):Blk (w.alloc o) g t cs:=(Below.heap_alloc w o g h.lt).trans h
theorem Blk.drew (h:Blk w g t cs):Blk w.drew g t cs:=h
theorem Blk.drewN (h:Blk w g t cs) (n:Nat):Blk (w.drewN n) g t cs:=h
theorem Blk.set_ (h:Blk w g t cs) (i:Nat) (u:Value):Blk (w.setCell ⟨g,i,none⟩ u) g t (cs.set i u):=by
 unfold Blk at h ⊢
 simp [World.setCell,Array.getElem?_modify,h]
theorem Blk.far (h:Blk w g t cs) {p:Addr} (hp:g ≠ p.block) (u:Value):Blk (w.setCell p u) g t cs:=(Below.heap_setCell w p u g hp).trans h
theorem Blk.ne_ {g':Nat} {t':TypeId} {cs':List Value} (h:Blk w g t cs) (h':Blk w g' t' cs') (hne:t ≠ t'):g ≠ g':=by
 rintro rfl
 unfold Blk at h h'
 rw [h] at h'
 injection h' with h'
 injection h' with _ ht
 exact hne ht
end
structure Only (S:List Nat) (w w':World):Prop where
 os:w'.os = w.os
 tape:w'.tape = w.tape
 output:w'.output = w.output
 size:w.heap.size≤w'.heap.size
 block:∀ k,k < w.heap.size→k ∉ S→w'.heap[k]? = w.heap[k]?
theorem Only.refl (S:List Nat) (w:World):Only S w w:=⟨rfl,rfl,rfl,Nat.le_refl _,fun _ _ _ => rfl⟩
theorem Only.trans {S:List Nat} {a b c:World} (h:Only S a b) (k:Only S b c):Only S a c :=
 ⟨k.os.trans h.os,k.tape.trans h.tape,k.output.trans h.output,Nat.le_trans h.size k.size,
  fun i hi hn => (k.block i (Nat.lt_of_lt_of_le hi h.size) hn).trans (h.block i hi hn)⟩
theorem Only.more {S T:List Nat} {w w':World} (h:Only S w w') (hST:∀ k,k ∈ S→k ∈ T):Only T w w' :=
 ⟨h.os,h.tape,h.output,h.size,fun k hk hn => h.block k hk (fun hs => hn (hST k hs))⟩
theorem Only.join {S T:List Nat} {a b c:World} (h:Only S a b) (k:Only T b c) (hT:∀ i,i ∈ T→i ∈ S ∨ a.heap.size≤i):Only S a c :=
 ⟨k.os.trans h.os,k.tape.trans h.tape,k.output.trans h.output,Nat.le_trans h.size k.size,
  fun i hi hn => (k.block i (Nat.lt_of_lt_of_le hi h.size) (fun ht => by rcases hT i ht with h1 | h1;exact hn h1;omega)).trans (h.block i hi hn)⟩
theorem Only.drew {S:List Nat} {a w:World} (h:Only S a w):Only S a w.drew:=⟨h.os,h.tape,h.output,h.size,h.block⟩
theorem Only.drewN {S:List Nat} {a w:World} (h:Only S a w) (n:Nat):Only S a (w.drewN n):=⟨h.os,h.tape,h.output,h.size,h.block⟩
theorem Only.alloc {S:List Nat} {a w:World} (h:Only S a w) (o:Obj):Only S a (w.alloc o) :=
 h.trans ⟨rfl,rfl,rfl,by simp,fun k hk _ => Below.heap_alloc _ _ _ hk⟩
theorem Only.setCell {S:List Nat} {a w:World} (h:Only S a w) {p:Addr} (hp:p.block ∈ S ∨ a.heap.size≤p.block) (u:Value):Only S a (w.setCell p u) :=
 ⟨h.os,h.tape,h.output,by simpa [World.setCell] using h.size,
  fun k hk hn => (Below.heap_setCell _ _ _ _ (by rintro rfl;rcases hp with hp | hp;exact hn hp;omega)).trans (h.block k hk hn)⟩
theorem Only.grown {S:List Nat} {a w w':World} {row:Option Nat} (h:Only S a w) (hg:w.grownBy w' row) (hr:∀ k,row = some k→k ∈ S ∨ a.heap.size≤k):Only S a w' :=
 ⟨hg.os.trans h.os,hg.tape.trans h.tape,hg.output.trans h.output,Nat.le_trans h.size hg.size,
  fun k hk hn => (hg.block k (Nat.lt_of_lt_of_le hk h.size) (fun e => by rcases hr k e.symm with h1 | h1;exact hn h1;omega)).trans (h.block k hk hn)⟩
theorem Only.of_below {S:List Nat} {B:Nat} {a w:World} (h:Below B a w) (hB:∀ k,k < a.heap.size→k ∉ S→k < B):Only S a w :=
 ⟨h.os,h.tape,h.output,h.size,fun k hk hn => h.block k (hB k hk hn)⟩
theorem Only.below {S:List Nat} {B:Nat} {a w w':World} (hb:Below B a w) (h:Only S w w') (hB:B≤w.heap.size) (hS:∀ k,k ∈ S→B≤k):Below B a w' :=
 hb.trans ⟨h.os,h.tape,h.output,h.size,fun k hk => h.block k (Nat.lt_of_lt_of_le hk hB) (fun hs => by have:=hS k hs;omega)⟩
theorem Only.to_below {B:Nat} {w w':World} {S:List Nat} (h:Only S w w') (hB:B≤w.heap.size) (hS:∀ k,k ∈ S→B≤k):Below B w w' :=
 Only.below (Below.refl _ _) h hB hS
theorem Blk.only {w w':World} {g:Nat} {t:TypeId} {cs:List Value} {S:List Nat} (h:Blk w g t cs) (k:Only S w w') (hg:g ∉ S):Blk w' g t cs:=(k.block g h.lt hg).trans h
theorem Blk.below {w w':World} {g:Nat} {t:TypeId} {cs:List Value} {B:Nat} (h:Blk w g t cs) (k:Below B w w') (hg:g < B):Blk w' g t cs:=(k.block g hg).trans h
def vb (c:UInt8):Value:=.int .u8 c.toNat
def vbs (l:List UInt8):List Value:=l.map vb
theorem vbs_length (l:List UInt8):(vbs l).length = l.length:=by simp [vbs]
theorem vbs_getElem? (l:List UInt8) (i:Nat):(vbs l)[i]? = (l[i]?).map vb:=by simp [vbs]
theorem block_add (a:Addr) (n:Nat):(a.add n).block = a.block:=by unfold Addr.add;split <;> rfl
theorem add_at (b o i:Nat):(⟨b,o,none⟩:Addr).add i = ⟨b,o + i,none⟩:=by
 unfold Addr.add
 by_cases hi:i = 0 <;> simp [hi]
def Reads (w:World) (B:Nat) (A:Option Addr) (n:Nat) (xs:List Value):Prop :=
 xs.length = n∧(0 < n→∃ ad,A = some ad∧ad.block < B∧∀ j u,xs[j]? = some u→w.cell? (ad.add j) = some u)
section
variable {w w':World} {B B' n:Nat} {A:Option Addr} {xs:List Value}
theorem Reads.none_:Reads w B A 0 []:=⟨rfl,fun h => absurd h (by omega)⟩
theorem Reads.of_blk {g:Nat} {t:TypeId} {cs:List Value} (h:Blk w g t cs) (o m:Nat) (hm:o + m≤cs.length) (hB:g < B) :
  Reads w B (some ⟨g,o,none⟩) m ((cs.drop o).take m):=by
 refine ⟨by simp;omega,fun _ => ⟨_,rfl,hB,fun j u hu => ?_⟩⟩
 rw [add_at,h.cell]
 rw [List.getElem?_take] at hu
 split at hu
 ·simpa using hu
 ·cases hu
end
theorem Reads.plain {w:World} {B n:Nat} {A:Option Addr} {xs:List Value} (h:Reads w B A n xs) (hn:0 < n) :
  ∃ g o,A = some ⟨g,o,none⟩∧g < B∧∀ j u,xs[j]? = some u→w.cell? ⟨g,o + j,none⟩ = some u:=by
 obtain ⟨⟨g,o,spot⟩,e,hb,hc⟩:=h.2 hn
 have h0:=hc 0 _ (List.getElem?_eq_getElem (show 0 < xs.length by rw [h.1];exact hn))
 have hs:spot = none:=by
  have:=World.cell?_spot h0
  simpa [Addr.add] using this
 subst hs
 exact ⟨g,o,e,hb,fun j u hu => by rw [← add_at];exact hc j u hu⟩
theorem Reads.only' {w w':World} {B n:Nat} {A:Option Addr} {xs:List Value} {S:List Nat} (h:Reads w B A n xs) (ho:Only S w w') (hB:B≤w.heap.size)
  (hS:0 < n→∀ ad,A = some ad→ad.block ∉ S):Reads w' B A n xs :=
 ⟨h.1,fun hn => by
  obtain ⟨ad,e,hb,hc⟩:=h.2 hn
  exact ⟨ad,e,hb,fun j u hu => (World.cell?_of_block (by rw [block_add];exact ho.block _ (by omega) (hS hn ad e))).trans (hc j u hu)⟩⟩
theorem run_string_of {P:Program} {w:World} {src dst e:TypeId} (hs:P.underlying src = some (.slice e)) (he:P.underlying e = some (.int .u8)) (hd:P.underlying dst = some .string)
  {B n:Nat} {A:Option Addr} {l:List UInt8} (h:Reads w B A n (vbs l)) (c:Nat) :
  (convert src dst (.slice A n c)).run P w = .ok (.string ⟨l.toArray⟩) w:=by
 have hl:l.length = n:=by have:=h.1;rwa [vbs_length] at this
 subst hl
 rcases A with _ | ad
 ·have h0:l.length = 0:=by
   rcases Nat.eq_zero_or_pos l.length with h0 | h0
   ·exact h0
   ·obtain ⟨_,e1,_⟩:=h.2 h0
    cases e1
  have:l = []:=List.eq_nil_of_length_eq_zero h0
  subst this
  rw [run_convert_bytes_string w src dst e none _ c hs he hd]
  rfl
 ·refine run_convert_bytes_back w src dst e ad c l hs he hd (fun j hj => ?_)
  obtain ⟨ad',e1,_,hc⟩:=h.2 (by omega)
  injection e1 with e1
  subst e1
  exact hc j _ (by rw [vbs_getElem?,List.getElem?_eq_getElem hj];rfl)
def imin (x y:Int):Int:=if y < x then y else x
def imax (x y:Int):Int:=if x < y then y else x
theorem run_min2 {P:Program} (w:World) (ts:Array TypeId) (t:TypeId) (k k':IntKind) (x y:Int):(Builtin.min_ ts t #[.int k x,.int k' y]).run P w = .ok (.int k (imin x y)) w :=
 run_min_int2 w ts t k k' x y
theorem run_max2 {P:Program} (w:World) (ts:Array TypeId) (t:TypeId) (k k':IntKind) (x y:Int):(Builtin.max_ ts t #[.int k x,.int k' y]).run P w = .ok (.int k (imax x y)) w :=
 run_max_int2 w ts t k k' x y
def cutA (m l s:Nat) (a:Option Addr):Option Addr:=if m = l then a else a.map (·.add (l * s))
theorem sliced_cut (a:Option Addr) (l h m s:Nat):sliced a l h m s = .slice (cutA m l s a) (h - l) (m - l):=rfl
theorem cutA_zero (m s:Nat) (a:Option Addr):cutA m 0 s a = a:=by
 unfold cutA
 split
 ·rfl
 ·cases a
  ·rfl
  ·simp [Addr.add]
theorem cutA_some {m l:Nat} (b o:Nat) (h:m ≠ l):cutA m l 1 (some ⟨b,o,none⟩) = some ⟨b,o + l,none⟩:=by
 unfold cutA
 rw [if_neg h]
 simp [add_at]
section
variable {P:Program} {w:World} {ops:Array Oper} {rest:List Oper} {o:Oper} {a:Act} {Q:Exit→Act→World→Prop}
end
section
variable {P:Program} {w:World}
variable {ops:Array Oper} {rest:List Oper} {o:Oper} {a:Act} {Q:Exit→Act→World→Prop}
end
theorem Reads.of_own {w:World} {base:Nat} {e:TypeId} {v:Value} {n:Nat} {xs:List Value} (h:w.ownsRow base e 1 v n xs):∃ A c,v = .slice A n c∧n≤c∧c≤maxLen∧Reads w w.heap.size A n xs ∧
  (∀ g,A = some g→g = ⟨g.block,0,none⟩∧base≤g.block∧v.ownBlock = some g.block∧∃ cur:List Value,Blk w g.block e cur∧cur.length = c∧cur.take n = xs)∧(A = none→n = 0):=by
 obtain ⟨hl,h2⟩:=h
 rw [Nat.mul_one] at hl
 rcases h2 with ⟨rfl,rfl⟩ | ⟨g,cap,cur,rfl,hb,hg,hnc,hcm,hcs,htk⟩
 ·have:xs = []:=List.eq_nil_of_length_eq_zero hl
  subst this
  exact ⟨none,0,rfl,Nat.le_refl _,Nat.zero_le _,Reads.none_,(fun g hg => by cases hg),(fun _ => rfl)⟩
 ·rw [Nat.mul_one] at htk hcs
  have hblk:Blk w g e cur.toList:=by simpa [Blk] using hg
  refine ⟨some ⟨g,0,none⟩,cap,rfl,hnc,hcm,⟨hl,fun _ => ⟨_,rfl,hblk.lt,fun j u hu => ?_⟩⟩,fun g' hg' => ?_,fun h => by cases h⟩
  ·rw [add_at,hblk.cell,Nat.zero_add]
   rw [← htk,List.getElem?_take] at hu
   split at hu
   ·exact hu
   ·cases hu
  ·injection hg' with hg'
   subst hg'
   exact ⟨rfl,hb,rfl,cur.toList,hblk,by simpa using hcs,htk⟩
theorem splice_getElem? {α:Type} (L:List α) (o:Nat) (c:List α) (h:o + c.length≤L.length) (j:Nat) :
  (splice L o c)[j]? = if o≤j∧j < o + c.length then c[j - o]? else L[j]?:=by
 unfold splice
 rw [List.getElem?_append,List.length_take,Nat.min_eq_left (by omega)]
 by_cases h1:j < o
 ·rw [if_pos h1,if_neg (by omega),List.getElem?_take,if_pos h1]
 ·rw [if_neg h1,List.getElem?_append]
  by_cases h2:j - o < c.length
  ·rw [if_pos h2,if_pos (by omega)]
  ·rw [if_neg h2,if_neg (by omega),List.getElem?_drop]
   congr 1;omega
end
section
open Go.ChangeShapes Go.WideShapes Go.ChangeAt Go.RowKit
theorem wf_i64 {z:Int} (h:(Lit.int .i64 z).wf = true):-9223372036854775808≤z∧z≤9223372036854775807:=by
 simp [Lit.wf,IntKind.min,IntKind.max,IntKind.signed,IntKind.bits] at h
 omega
end
section
open Go.ChangeShapes Go.WideShapes Go.Deep Go.RowKit
section
variable {H:Type} {enc:TypeId × Value→H} {P:Program} {w:World} {base:Nat} {spare:Nat→Bool} {held:Bool}
end
theorem plain_of_cell {w:World} {a:Addr} {v:Value} (h:w.cell? (a.add 0) = some v):a = ⟨a.block,a.off,none⟩∧a.block < w.heap.size:=by
 have e0:a.add 0 = a:=by simp [Addr.add]
 rw [e0] at h
 have hs:=World.cell?_spot h
 refine ⟨by cases a;simp_all,?_⟩
 have:(w.cell? a).isSome:=by rw [h];rfl
 simp only [World.cell?] at this
 split at this
 ·rename_i hh;exact (Array.getElem?_eq_some_iff.1 hh).1
 ·simp at this
end
section
def first (g:Nat→Int):Nat→Int
 | 0 => 0
 | n + 1 => if first g n ≠ 0 then first g n else g n
def letterB (c:UInt8):Bool:=(decide (65≤c.toNat) && decide (c.toNat≤90)) || (decide (97≤c.toNat) && decide (c.toNat≤122))
def digitB (c:UInt8):Bool:=decide (48≤c.toNat) && decide (c.toNat≤57)
def wordB (c:UInt8):Bool:=letterB c || digitB c || c.toNat == 95
def nameL (l:List UInt8):Bool :=
 match l with
 | [] => false
 | c :: _ => decide (l.length≤32) && letterB c && l.all wordB
def nameB (s:ByteArray):Bool:=nameL s.data.toList
theorem nameL_cons {c:UInt8} {l:List UInt8}:nameL (c :: l) = (decide ((c :: l).length≤32) && letterB c && (c :: l).all wordB):=rfl
theorem all_take_succ {l:List UInt8} {p:UInt8→Bool} {k:Nat} {c:UInt8} (h:(l.take k).all p = true) (hk:l[k]? = some c) (hp:p c = true):(l.take (k + 1)).all p = true:=by
 rw [List.take_add_one,List.all_append,h,hk]
 simp [hp]
theorem not_all_of {l:List UInt8} {p:UInt8→Bool} {k:Nat} {c:UInt8} (hk:l[k]? = some c) (hp:p c = false):l.all p = false:=by
 obtain ⟨h1,h2⟩:=List.getElem?_eq_some_iff.1 hk
 rw [Bool.eq_false_iff]
 intro h
 have:=List.all_eq_true.1 h c (h2 ▸ List.getElem_mem h1)
 rw [hp] at this
 cases this
namespace VT
end VT
end
section
def parts:List UInt8→List (List UInt8)
 | [] => [[]]
 | c :: l => if c = 46 then [] :: parts l else match parts l with
  | p :: ps => (c :: p) :: ps
  | [] => [[c]]
theorem parts_ne:∀ l,parts l ≠ []:=by
 intro l
 cases l with
 | nil => simp [parts]
 | cons c l =>
  unfold parts
  split
  ·simp
  ·split <;> simp
theorem parts_cons {c:UInt8} {l:List UInt8} (h:c ≠ 46):∃ p ps,parts l = p :: ps∧parts (c :: l) = (c :: p) :: ps:=by
 cases hp:parts l with
 | nil => exact absurd hp (parts_ne l)
 | cons p ps => exact ⟨p,ps,rfl,by rw [parts,if_neg h,hp]⟩
theorem parts_plain:∀ {a:List UInt8},(∀ c ∈ a,c ≠ 46)→parts a = [a]:=by
 intro a
 induction a with
 | nil => intro _;rfl
 | cons c a ih =>
  intro h
  obtain ⟨p,ps,h1,h2⟩:=parts_cons (l:=a) (h c (by simp))
  rw [ih fun d hd => h d (by simp [hd])] at h1
  injection h1 with h3 h4
  subst h3 h4
  exact h2
theorem parts_dot:∀ {a b:List UInt8},(∀ c ∈ a,c ≠ 46)→parts (a ++ 46 :: b) = a :: parts b:=by
 intro a
 induction a with
 | nil => intro b _;simp [parts]
 | cons c a ih =>
  intro b h
  obtain ⟨p,ps,h1,h2⟩:=parts_cons (l:=a ++ 46 :: b) (h c (by simp))
  rw [ih fun d hd => h d (by simp [hd])] at h1
  injection h1 with h3 h4
  subst h3 h4
  exact h2
theorem parts_len:∀ l:List UInt8,(parts l).length≤l.length + 1:=by
 intro l
 induction l with
 | nil => simp [parts]
 | cons c l ih =>
  by_cases h:c = 46
  ·subst h;simp [parts];omega
  ·obtain ⟨p,ps,h1,h2⟩:=parts_cons (l:=l) h
   rw [h2]
   rw [h1] at ih
   simp at ih ⊢
   omega
def toL (s:ByteArray):List UInt8:=s.data.toList
def ofL (l:List UInt8):ByteArray:=⟨l.toArray⟩
theorem toL_ofL (l:List UInt8):toL (ofL l) = l:=rfl
theorem ofL_toL (s:ByteArray):ofL (toL s) = s:=by cases s;rfl
theorem toL_len (s:ByteArray):(toL s).length = s.size:=rfl
theorem toL_inj {s t:ByteArray} (h:toL s = toL t):s = t:=by rw [← ofL_toL s,← ofL_toL t,h]
theorem toL_extract (s:ByteArray) (a b:Nat):toL (s.extract a b) = ((toL s).take b).drop a:=by
 unfold toL
 rw [ByteArray.data_extract,Array.toList_extract,List.extract_eq_take_drop]
 rw [List.take_drop]
 by_cases h:a≤b
 ·rw [show a + (b - a) = b by omega]
 ·rw [List.drop_eq_nil_of_le (by simp;omega),List.drop_eq_nil_of_le (by simp;omega)]
def dot:ByteArray:=⟨#[46]⟩
theorem index_dot {s:ByteArray}:(Lib.indexB s dot = -1∧∀ c ∈ toL s,c ≠ 46) ∨
  ∃ i:Nat,Lib.indexB s dot = i∧i < s.size∧(∀ c ∈ (toL s).take i,c ≠ 46)∧toL s = (toL s).take i ++ 46 :: (toL s).drop (i + 1):=by
 have e:Lib.indexB s dot = Lib.indexByte (toL s) 46:=Lib.index_one _ _
 rw [e]
 by_cases h:Lib.indexByte (toL s) 46 = -1
 ·refine .inl ⟨h,fun c hc hc46 => ?_⟩
  subst hc46
  obtain ⟨k,hk,hk'⟩:=List.getElem_of_mem hc
  exact Lib.indexByte_none h k (by rw [List.getElem?_eq_getElem hk,hk'])
 ·have hge:=Lib.indexByte_ge (toL s) 46
  obtain ⟨i,hi⟩:∃ i:Nat,Lib.indexByte (toL s) 46 = i:=⟨(Lib.indexByte (toL s) 46).toNat,by omega⟩
  obtain ⟨h1,h2⟩:=Lib.indexByte_some hi
  obtain ⟨h3,h4⟩:=List.getElem?_eq_some_iff.1 h1
  refine .inr ⟨i,hi,h3,fun c hc hc46 => ?_,?_⟩
  ·subst hc46
   obtain ⟨k,hk,hk'⟩:=List.getElem_of_mem hc
   rw [List.getElem_take] at hk'
   simp at hk
   exact h2 k (by omega) (by rw [List.getElem?_eq_getElem (by omega),hk'])
  ·conv => lhs;rw [← List.take_append_drop i (toL s)]
   rw [List.drop_eq_getElem_cons h3,h4]
theorem split_parts:∀ (k:Nat) (s:ByteArray),((parts (toL s)).length≤k + 1→(Lib.splitB dot 0 k s).map toL = parts (toL s)) ∧
  (Lib.splitB dot 0 k s).length = min (k + 1) (parts (toL s)).length:=by
 intro k
 induction k with
 | zero =>
  intro s
  rw [Lib.splitB_zero]
  have h1:=parts_ne (toL s)
  refine ⟨fun h => ?_,?_⟩
  ·rcases index_dot (s:=s) with ⟨_,h2⟩ | ⟨i,_,hi,h2,h3⟩
   ·rw [parts_plain h2];rfl
   ·rw [h3,parts_dot h2] at h
    have h4:0 < (parts ((toL s).drop (i + 1))).length:=List.length_pos_iff.2 (parts_ne _)
    simp only [List.length_cons] at h
    omega
  ·have:0 < (parts (toL s)).length:=List.length_pos_iff.2 h1
   simp only [List.length_singleton];omega
 | succ k ih =>
  intro s
  rcases index_dot (s:=s) with ⟨h1,h2⟩ | ⟨i,h1,hi,h2,h3⟩
  ·rw [Lib.splitB_miss _ _ _ _ h1,parts_plain h2]
   refine ⟨fun _ => rfl,?_⟩
   simp only [List.length_singleton];omega
  ·rw [Lib.splitB_hit _ _ _ _ _ h1]
   have e1:toL (s.extract 0 (i + 0)) = (toL s).take i:=by rw [toL_extract];simp
   have e2:toL (s.extract (i + dot.size) s.size) = (toL s).drop (i + 1):=by
    rw [toL_extract,show dot.size = 1 from rfl,List.take_of_length_le (Nat.le_of_eq (toL_len s))]
   have e3:parts (toL s) = (toL s).take i :: parts ((toL s).drop (i + 1)):=by
    conv => lhs;rw [h3]
    exact parts_dot h2
   obtain ⟨i1,i2⟩:=ih (s.extract (i + dot.size) s.size)
   rw [e2] at i1 i2
   rw [e3]
   refine ⟨fun h => ?_,?_⟩
   ·rw [List.map_cons,e1,i1 (by simpa using h)]
   ·rw [List.length_cons,i2,List.length_cons];omega
def pathOf (s:ByteArray):Option (List ByteArray) :=
 if s.size = 0 then some [] else if (parts (toL s)).length≤8∧(parts (toL s)).all nameL = true then some ((parts (toL s)).map ofL) else none
end
section
open Go.RowKit
def rowT (A:Option Addr):List Nat:=(A.map (·.block)).toList
theorem mem_rowT {A:Option Addr} {k:Nat}:k ∈ rowT A ↔ ∃ ad,A = some ad∧ad.block = k:=by
 unfold rowT
 cases A <;> simp [eq_comm]
theorem rowT_none:rowT none = []:=rfl
theorem rowT_some (ad:Addr):rowT (some ad) = [ad.block]:=rfl
structure RowAt (w:World) (e:TypeId) (A:Option Addr) (n c:Nat) (xs:List Value):Prop where
 len:xs.length = n
 le:n≤c
 max:c≤maxLen
 none_:A = none→c = 0
 some_:∀ ad,A = some ad→∃ g o cur,ad = ⟨g,o,none⟩∧Blk w g e cur∧o + c≤cur.length∧(cur.drop o).take n = xs
section
variable {w w':World} {e:TypeId} {A:Option Addr} {n c:Nat} {xs:List Value}
theorem RowAt.lt (h:RowAt w e A n c xs):∀ k,k ∈ rowT A→k < w.heap.size:=by
 intro k hk
 obtain ⟨ad,rfl,rfl⟩:=mem_rowT.1 hk
 obtain ⟨g,o,cur,rfl,hb,_⟩:=h.some_ ad rfl
 exact hb.lt
theorem RowAt.nil (w:World) (e:TypeId):RowAt w e none 0 0 []:=⟨rfl,Nat.le_refl _,Nat.zero_le _,fun _ => rfl,fun _ h => by cases h⟩
theorem RowAt.keep (h:RowAt w e A n c xs) (hk:∀ k,k ∈ rowT A→w'.heap[k]? = w.heap[k]?):RowAt w' e A n c xs :=
 ⟨h.len,h.le,h.max,h.none_,fun ad ha => by
  obtain ⟨g,o,cur,rfl,hb,h1,h2⟩:=h.some_ ad ha
  exact ⟨g,o,cur,rfl,(hk g (mem_rowT.2 ⟨_,ha,rfl⟩)).trans hb,h1,h2⟩⟩
theorem RowAt.only {S:List Nat} (h:RowAt w e A n c xs) (ho:Only S w w') (hS:∀ k,k ∈ rowT A→k ∉ S):RowAt w' e A n c xs :=
 h.keep fun k hk => ho.block k (h.lt k hk) (hS k hk)
theorem RowAt.alloc (h:RowAt w e A n c xs) (o:Obj):RowAt (w.alloc o) e A n c xs:=h.keep fun k hk => Below.heap_alloc _ _ _ (h.lt k hk)
theorem RowAt.far (h:RowAt w e A n c xs) {p:Addr} (hp:p.block ∉ rowT A) (u:Value):RowAt (w.setCell p u) e A n c xs :=
 h.keep fun k hk => Below.heap_setCell _ _ _ _ (by rintro rfl;exact hp hk)
theorem RowAt.ne {e':TypeId} {A':Option Addr} {n' c':Nat} {xs':List Value} (h:RowAt w e A n c xs) (h':RowAt w e' A' n' c' xs') (hne:e ≠ e'):∀ k,k ∈ rowT A→k ∉ rowT A':=by
 intro k hk hk'
 obtain ⟨ad,rfl,rfl⟩:=mem_rowT.1 hk
 obtain ⟨ad',rfl,he⟩:=mem_rowT.1 hk'
 obtain ⟨g,o,cur,rfl,hb,_⟩:=h.some_ ad rfl
 obtain ⟨g',o',cur',rfl,hb',_⟩:=h'.some_ ad' rfl
 simp at he
 subst he
 exact hb.ne_ hb' hne rfl
theorem RowAt.ne_blk {g:Nat} {t:TypeId} {cs:List Value} (h:RowAt w e A n c xs) (h':Blk w g t cs) (hne:t ≠ e):g ∉ rowT A:=by
 intro hk
 obtain ⟨ad,rfl,hg⟩:=mem_rowT.1 hk
 obtain ⟨g',o,cur,rfl,hb,_⟩:=h.some_ ad rfl
 simp at hg
 subst hg
 exact h'.ne_ hb hne rfl
theorem RowAt.reads (h:RowAt w e A n c xs):Reads w w.heap.size A n xs:=by
 refine ⟨h.len,fun hn => ?_⟩
 cases hA:A with
 | none => have:=h.none_ hA;have:=h.le;omega
 | some ad =>
  obtain ⟨g,o,cur,rfl,hb,h1,h2⟩:=h.some_ ad hA
  refine ⟨_,rfl,hb.lt,fun j u hu => ?_⟩
  rw [add_at,hb.cell]
  rw [← h2,List.getElem?_take] at hu
  split at hu
  ·simpa using hu
  ·cases hu
theorem RowAt.cell (h:RowAt w e A n c xs) {j:Nat} {u:Value} (hu:xs[j]? = some u):∃ g o,A = some ⟨g,o,none⟩∧w.cell? ⟨g,o + j,none⟩ = some u:=by
 have hj:j < n:=by have:=(List.getElem?_eq_some_iff.1 hu).1;have:=h.len;omega
 obtain ⟨g,o,rfl,_,hc⟩:=h.reads.plain (by omega)
 exact ⟨g,o,rfl,hc j u hu⟩
theorem RowAt.cut (h:RowAt w e A n c xs) (k:Nat) (hk:k≤n):RowAt w e (cutA c k 1 A) (n - k) (c - k) (xs.drop k):=by
 have hle:=h.le
 refine ⟨by simp;have:=h.len;omega,by omega,by have:=h.max;omega,fun hA => ?_,fun ad hA => ?_⟩
 ·unfold cutA at hA
  split at hA
  ·omega
  ·cases hB:A with
   | none => have:=h.none_ hB;omega
   | some ad => rw [hB] at hA;simp at hA
 ·unfold cutA at hA
  split at hA
  ·obtain ⟨g,o,cur,rfl,hb,h1,h2⟩:=h.some_ ad hA
   refine ⟨g,o,cur,rfl,hb,by omega,?_⟩
   have:n - k = 0:=by omega
   rw [this,List.take_zero,List.drop_of_length_le (by have:=h.len;omega)]
  ·cases hB:A with
   | none => rw [hB] at hA;simp at hA
   | some ad' =>
    rw [hB] at hA
    simp at hA
    obtain ⟨g,o,cur,rfl,hb,h1,h2⟩:=h.some_ ad' hB
    subst hA
    refine ⟨g,o + k,cur,by rw [add_at],hb,by omega,?_⟩
    rw [← h2,List.drop_take,List.drop_drop]
theorem rowT_cut (c k s:Nat) (A:Option Addr):rowT (cutA c k s A) = rowT A:=by
 unfold cutA
 split
 ·rfl
 ·cases A with
  | none => rfl
  | some ad => simp [rowT,block_add]
theorem RowAt.first (h:RowAt w e A n c xs) (k:Nat) (hk:k≤n):RowAt w e A k c (xs.take k):=by
 have hle:=h.le
 refine ⟨by simp;have:=h.len;omega,by omega,h.max,h.none_,fun ad hA => ?_⟩
 obtain ⟨g,o,cur,rfl,hb,h1,h2⟩:=h.some_ ad hA
 refine ⟨g,o,cur,rfl,hb,h1,?_⟩
 rw [← h2,List.take_take,Nat.min_eq_left hk]
theorem RowAt.of_blk {g:Nat} {cs:List Value} (h:Blk w g e cs) (hm:cs.length≤maxLen):RowAt w e (some ⟨g,0,none⟩) cs.length cs.length cs :=
 ⟨rfl,Nat.le_refl _,hm,(fun h => by cases h),fun ad ha => by injection ha with ha;subst ha;exact ⟨g,0,cs,rfl,h,by simp,by simp⟩⟩
end
theorem cell_setCells_blk {w:World} {g:Nat} {t:TypeId}:∀ (vs:List Value) (cs:List Value) (o:Nat),Blk w g t cs→o + vs.length≤cs.length→Blk (w.setCells g o vs) g t (splice cs o vs)
 | [],cs,o,h,_ => by simpa [World.setCells,splice] using h
 | v :: r,cs,o,h,hl => by
  rw [World.setCells]
  simp only [List.length_cons] at hl
  have h1:=h.set_ o v
  have h2:=cell_setCells_blk r (cs.set o v) (o + 1) h1 (by simp;omega)
  have e:splice cs o (v :: r) = splice (cs.set o v) (o + 1) r:=by
   apply List.ext_getElem?
   intro j
   rw [splice_getElem? _ _ _ (by simp;omega),splice_getElem? _ _ _ (by simp;omega)]
   simp only [List.length_cons]
   by_cases h3:o≤j∧j < o + (r.length + 1)
   ·rw [if_pos h3]
    by_cases h4:j = o
    ·subst h4
     rw [if_neg (by omega),List.getElem?_set_self (by omega)]
     simp
    ·rw [if_pos (by omega),show j - o = (j - (o + 1)) + 1 by omega,List.getElem?_cons_succ]
   ·rw [if_neg h3,if_neg (by omega),List.getElem?_set_ne (by omega)]
  rw [e]
  exact h2
theorem only_setCells (w:World) (g o:Nat) (vs:List Value):Only [g] w (w.setCells g o vs):=by
 induction vs generalizing w o with
 | nil => exact Only.refl _ _
 | cons v r ih =>
  rw [World.setCells]
  exact ((Only.refl [g] w).setCell (.inl (by simp)) v).trans (ih _ _)
theorem row_of_own {w:World} {base:Nat} {e:TypeId} {v:Value} {n:Nat} {xs:List Value} (h:w.ownsRow base e 1 v n xs) :
  ∃ A c,v = .slice A n c∧RowAt w e A n c xs∧∀ k,k ∈ rowT A→base≤k:=by
 obtain ⟨A,c,rfl,h1,h2,h3,h4,h5⟩:=Reads.of_own h
 refine ⟨A,c,rfl,⟨h3.1,h1,h2,fun hA => ?_,fun ad hA => ?_⟩,fun k hk => ?_⟩
 ·rcases h.2 with ⟨hv,_⟩ | ⟨g,cap,cur,hv,_⟩
  ·injection hv
  ·injection hv with hv
   rw [hA] at hv
   cases hv
 ·obtain ⟨e1,_,_,cur,hb,hl,ht⟩:=h4 ad hA
  exact ⟨ad.block,0,cur,e1,hb,by omega,by simpa using ht⟩
 ·obtain ⟨ad,hA,rfl⟩:=mem_rowT.1 hk
  exact (h4 ad hA).2.1
section
variable {P:Program} {w:World}
theorem row_append_at {t e:TypeId} (ty:TypeId) {i:TypeInfo} {z:Value} {bytes:Nat} (ht:P.underlying t = some (.slice e)) (hi:P.info? e = some i) (hz:i.zero = some z)
  (hsize:i.size = 1) (hby:i.bytes = bytes) (hzs:z.cells.size = 1) {A:Option Addr} {n c:Nat} {xs:List Value} (hA:RowAt w e A n c xs)
  {B:Nat} {X:Option Addr} {m:Nat} (d:Nat) {news:List Value} (hr:Reads w B X m news) (h1:∀ u ∈ news,u.oneCell' = true)
  (h63:n + m≤maxLen) (hbytes:(n + m) * bytes≤140737488355328) :
  ∃ A' c' w',(Builtin.append_ #[t,t] ty #[.slice A n c,.slice X m d]).run P w = .ok (.slice A' (n + m) c') w'∧RowAt w' e A' (n + m) c' (xs ++ news)∧Only (rowT A) w w' ∧
   ∀ k,k ∈ rowT A'→k ∈ rowT A ∨ k = w.heap.size:=by
 rcases X with _ | ad
 ·have hm:m = 0:=by
   rcases Nat.eq_zero_or_pos m with h0 | h0
   ·exact h0
   ·obtain ⟨_,e1,_⟩:=hr.2 h0
    cases e1
  subst hm
  obtain rfl:news = []:=List.eq_nil_of_length_eq_zero hr.1
  refine ⟨A,c,w,?_,by simpa using hA,Only.refl _ _,fun k hk => .inl hk⟩
  have hle:=hA.le
  cases A with
  | none =>
   have hc:=hA.none_ rfl
   subst hc
   have hn:n = 0:=by omega
   subst hn
   simp [Builtin.append_,run_underlying ht,sizeOf,typeInfo,hi,Builtin.lenOf,Builtin.firstCells]
  | some ad => simp [Builtin.append_,run_underlying ht,sizeOf,typeInfo,hi,Builtin.lenOf,Builtin.firstCells,hle,storeCells]
 ·have hcells:∀ j u,news[j]? = some u→w.cell? (ad.add j) = some u:=by
   intro j u hu
   rcases Nat.eq_zero_or_pos m with h0 | h0
   ·subst h0
    obtain rfl:news = []:=List.eq_nil_of_length_eq_zero hr.1
    simp at hu
   ·obtain ⟨ad',e1,_,hc⟩:=hr.2 h0
    injection e1 with e1
    subst e1
    exact hc j u hu
  have hnl:news.length = m * 1:=by rw [hr.1,Nat.mul_one]
  cases A with
  | none =>
   have hc:=hA.none_ rfl
   subst hc
   have hn:n = 0:=by have:=hA.le;omega
   subst hn
   obtain rfl:xs = []:=List.eq_nil_of_length_eq_zero hA.len
   obtain ⟨v',w',hrun,r1,r2,_,r3⟩:=run_append_own_at (P:=P) w w.heap.size t ty e i z 1 bytes ht hi hz hsize hby hzs (by omega) (.slice none 0 0) 0 [] (World.ownsRow_nil w _ e 1) ad m d news hnl hcells h1 h63 hbytes (Nat.le_refl _)
   obtain ⟨A',c',rfl,hR,hk⟩:=row_of_own r1
   refine ⟨A',c',w',hrun,hR,(Only.refl _ w).grown r2 (fun k hk => by simp [Value.ownBlock] at hk),fun k hk' => .inr ?_⟩
   obtain ⟨ad',rfl,rfl⟩:=mem_rowT.1 hk'
   simpa [Value.ownBlock] using r3
  | some b =>
   obtain ⟨g,o,cur,rfl,hb,hfit,hxs⟩:=hA.some_ b rfl
   by_cases hroom:n + m≤c
   ·have hc0:∀ j,j < news.length→(w.cell? ⟨g,o + n * i.size + j,none⟩).isSome = true:=by
     intro j hj
     rw [hb.cell,hsize,Nat.mul_one,List.getElem?_eq_getElem (by rw [hr.1] at hj;omega)]
     rfl
    have hrun:=run_append_room_cells (P:=P) w t ty e i ht hi g o n c ad m d news (by rw [hsize];exact hnl) hcells h1 hroom hc0 (fun j _ => hb.free _)
    rw [hsize,Nat.mul_one] at hrun
    have hfit2:o + n + news.length≤cur.length:=by rw [hr.1];omega
    have hb2:=cell_setCells_blk news cur (o + n) hb hfit2
    refine ⟨_,c,_,hrun,⟨by simp [hA.len,hr.1],hroom,hA.max,(fun h => by cases h),fun ad' h' => ?_⟩,only_setCells _ _ _ _,fun k hk => .inl hk⟩
    injection h' with h'
    subst h'
    refine ⟨g,o,_,rfl,hb2,by rw [length_splice _ _ _ hfit2];exact hfit,?_⟩
    apply List.ext_getElem?
    intro j
    rw [List.getElem?_take,List.getElem?_drop,splice_getElem? _ _ _ hfit2,List.getElem?_append,hA.len]
    by_cases h2:j < n
    ·rw [if_pos (by omega),if_neg (by omega),if_pos h2,← hxs,List.getElem?_take,if_pos h2,List.getElem?_drop]
    ·rw [if_neg h2]
     by_cases h3:j < n + m
     ·rw [if_pos h3,if_pos (by rw [hr.1];omega)]
      congr 1;omega
     ·rw [if_neg h3,List.getElem?_eq_none (by rw [hr.1];omega)]
   ·have holds:∀ j u,xs[j]? = some u→w.cell? ((⟨g,o,none⟩:Addr).add j) = some u:=by
     intro j u hu
     have hj:j < n:=by have:=(List.getElem?_eq_some_iff.1 hu).1;have:=hA.len;omega
     obtain ⟨ad',e1,_,hc⟩:=hA.reads.2 (by omega)
     injection e1 with e1
     subst e1
     exact hc j u hu
    subst hby
    have hge:=grownCap_ge w (n + m) c e
    have hcm:grownCap w (n + m) c e≤maxLen:=grownCap_le_maxLen w (n + m) c e h63
    have hsmall:n + m≤9223372036854775807:=by simp only [maxLen] at h63;omega
    have hlen:(xs ++ news).length = n + m:=by rw [List.length_append,hA.len,hr.1]
    have hrun:=run_append_grow (P:=P) w t ty e i z ht hi hz ⟨g,o,none⟩ n c xs (by rw [hA.len,hsize,Nat.mul_one]) holds ad m d news (by rw [hsize];exact hnl) hcells (by omega) (by omega) (growslice_fits (by omega) hbytes)
    refine ⟨_,_,_,hrun,⟨hlen,hge,hcm,(fun h => by cases h),fun ad' h' => ?_⟩,⟨rfl,rfl,rfl,by simp,fun k hk _ => Below.heap_alloc w.drew _ k hk⟩,fun k hk => .inr (by simpa [rowT_some] using hk)⟩
    injection h' with h'
    subst h'
    refine ⟨w.heap.size,0,xs ++ news ++ (Builtin.zeroCells z.cells (grownCap w (n + m) c e - (n + m))).toList,rfl,?_,?_,?_⟩
    ·have:=heap_alloc_new w.drew (.cells (xs.toArray ++ news.toArray ++ Builtin.zeroCells z.cells (grownCap w (n + m) c e - (n + m))) e)
     unfold Blk
     refine this.trans ?_
     congr 2
     apply Array.ext'
     simp
    ·have hzl:(Builtin.zeroCells z.cells (grownCap w (n + m) c e - (n + m))).toList.length = grownCap w (n + m) c e - (n + m):=by
      rw [Array.length_toList,size_zeroCells,hzs,Nat.mul_one]
     rw [List.length_append,hlen,hzl]
     omega
    ·rw [List.drop_zero,← hlen,List.take_left]
theorem row_append {t e:TypeId} (ty:TypeId) {i:TypeInfo} {z:Value} {bytes:Nat} (ht:P.underlying t = some (.slice e)) (hi:P.info? e = some i) (hz:i.zero = some z)
  (hsize:i.size = 1) (hby:i.bytes = bytes) (hzs:z.cells.size = 1) {A:Option Addr} {n c:Nat} {xs:List Value} (hA:RowAt w e A n c xs)
  {B:Nat} {X:Option Addr} {m:Nat} (d:Nat) {news:List Value} (hr:Reads w B X m news) (h1:∀ u ∈ news,u.oneCell' = true)
  (h63:n + m≤maxLen) (hbytes:(n + m) * bytes≤140737488355328) :
  ∃ A' c' w',(Builtin.append_ #[t,t] ty #[.slice A n c,.slice X m d]).run P w = .ok (.slice A' (n + m) c') w'∧RowAt w' e A' (n + m) c' (xs ++ news)∧Only (rowT A) w w' ∧
   ∀ k,k ∈ rowT A'→k ∈ rowT A ∨ w.heap.size≤k:=by
 obtain ⟨A',c',w',h2,h3,h4,h5⟩:=row_append_at (P:=P) ty ht hi hz hsize hby hzs hA d hr h1 h63 hbytes
 exact ⟨A',c',w',h2,h3,h4,fun k hk => (h5 k hk).imp id (fun h => by omega)⟩
variable {ops:Array Oper} {rest:List Oper} {o:Oper} {a:Act} {Q:Exit→Act→World→Prop}
theorem wp_rowAppend (hgd:o.guard = none) (s x:Operand) (t:TypeId) (ho:o.op = .call { callee:=.builtin .append,args:=#[s,x],argTypes:=#[t,t] })
  (e:TypeId) (i:TypeInfo) (z:Value) (bytes:Nat) (ht:P.underlying t = some (.slice e)) (hi:P.info? e = some i) (hz:i.zero = some z)
  (hsize:i.size = 1) (hby:i.bytes = bytes) (hzs:z.cells.size = 1) (A:Option Addr) (n c:Nat) (xs:List Value) (hs:a.eval s = .slice A n c) (hA:RowAt w e A n c xs)
  (B:Nat) (X:Option Addr) (m d:Nat) (news:List Value) (hx:a.eval x = .slice X m d) (hr:Reads w B X m news) (h1:∀ u ∈ news,u.oneCell' = true)
  (h63:n + m≤maxLen) (hbytes:(n + m) * bytes≤140737488355328) (N:Nat) (hN:N = n + m)
  (h:∀ A' c' w',Hid (RowAt w' e A' N c' (xs ++ news))→Only (rowT A) w w'→Hid (∀ k,k ∈ rowT A'→k ∈ rowT A ∨ w.heap.size≤k)→wpList P ops Q rest (a.put o.dst (.slice A' N c')) w') :
  wpList P ops Q (o :: rest) a w:=by
 subst hN
 refine wpList_plain hgd fun K hK => ?_
 obtain ⟨A',c',w',hrun,h2,h3,h4⟩:=row_append (P:=P) o.type ht hi hz hsize hby hzs hA d hr h1 h63 hbytes
 unfold Oper.wp execOp
 simp only [ho,resolve,invoke,builtin,Sem.run_bind,Sem.run_pure,Result.andThen_ok,List.map_toArray,List.map_cons,List.map_nil,hs,hx,hrun]
 exact hK _ _ (h A' c' w' h2 h3 h4)
end
end
section
open Go.RowKit
structure RowK (w:World) (e:TypeId) (z:Nat) (A:Option Addr) (n c:Nat) (xs:List Value):Prop where
 len:xs.length = n * z
 le:n≤c
 max:c≤maxLen
 none_:A = none→c = 0
 some_:∀ ad,A = some ad→∃ g o cur,ad = ⟨g,o,none⟩∧Blk w g e cur∧o + c * z≤cur.length∧(cur.drop o).take (n * z) = xs
section
variable {w w':World} {e:TypeId} {z:Nat} {A:Option Addr} {n c:Nat} {xs:List Value}
theorem RowK.lt (h:RowK w e z A n c xs):∀ k,k ∈ rowT A→k < w.heap.size:=by
 intro k hk
 obtain ⟨ad,rfl,rfl⟩:=mem_rowT.1 hk
 obtain ⟨g,o,cur,rfl,hb,_⟩:=h.some_ ad rfl
 exact hb.lt
theorem RowK.nil (w:World) (e:TypeId) (z:Nat):RowK w e z none 0 0 []:=⟨by simp,Nat.le_refl _,Nat.zero_le _,fun _ => rfl,fun _ h => by cases h⟩
theorem RowK.keep (h:RowK w e z A n c xs) (hk:∀ k,k ∈ rowT A→w'.heap[k]? = w.heap[k]?):RowK w' e z A n c xs :=
 ⟨h.len,h.le,h.max,h.none_,fun ad ha => by
  obtain ⟨g,o,cur,rfl,hb,h1,h2⟩:=h.some_ ad ha
  exact ⟨g,o,cur,rfl,(hk g (mem_rowT.2 ⟨_,ha,rfl⟩)).trans hb,h1,h2⟩⟩
theorem RowK.only {S:List Nat} (h:RowK w e z A n c xs) (ho:Only S w w') (hS:∀ k,k ∈ rowT A→k ∉ S):RowK w' e z A n c xs :=
 h.keep fun k hk => ho.block k (h.lt k hk) (hS k hk)
theorem RowK.alloc (h:RowK w e z A n c xs) (o:Obj):RowK (w.alloc o) e z A n c xs:=h.keep fun k hk => Below.heap_alloc _ _ _ (h.lt k hk)
theorem RowK.cell (h:RowK w e z A n c xs) {j:Nat} {u:Value} (hu:xs[j]? = some u):∃ g o,A = some ⟨g,o,none⟩∧w.cell? ⟨g,o + j,none⟩ = some u:=by
 have hj:j < n * z:=by have:=(List.getElem?_eq_some_iff.1 hu).1;have:=h.len;omega
 cases hA:A with
 | none =>
  have h1:=h.none_ hA
  have h2:=h.le
  have h3:n = 0:=by omega
  rw [h3,Nat.zero_mul] at hj
  omega
 | some ad =>
  obtain ⟨g,o,cur,rfl,hb,h1,h2⟩:=h.some_ ad hA
  refine ⟨g,o,rfl,?_⟩
  rw [hb.cell]
  rw [← h2,List.getElem?_take,if_pos hj] at hu
  simpa using hu
theorem RowK.addr (h:RowK w e z A n c xs) (hn:0 < c):∃ g o,A = some ⟨g,o,none⟩∧g < w.heap.size∧∀ j u,xs[j]? = some u→w.cell? ⟨g,o + j,none⟩ = some u:=by
 cases hA:A with
 | none => have:=h.none_ hA;omega
 | some ad =>
  obtain ⟨g,o,cur,rfl,hb,h1,h2⟩:=h.some_ ad hA
  refine ⟨g,o,rfl,hb.lt,fun j u hu => ?_⟩
  rw [hb.cell]
  rw [← h2,List.getElem?_take] at hu
  by_cases hj:j < n * z
  ·rw [if_pos hj] at hu
   simpa using hu
  ·rw [if_neg hj] at hu
   cases hu
theorem RowK.free (h:RowK w e z A n c xs) {g o:Nat} (hA:A = some ⟨g,o,none⟩) (j:Nat):w.frozen? ⟨g,j,none⟩ = false:=by
 obtain ⟨g',o',cur,e1,hb,_⟩:=h.some_ _ hA
 injection e1 with e1 e2
 subst e1
 exact hb.free _
theorem RowK.cut (h:RowK w e z A n c xs) (k:Nat) (hk:k≤n):RowK w e z (cutA c k z A) (n - k) (c - k) (xs.drop (k * z)):=by
 have hle:=h.le
 have hkz:k * z≤n * z:=Nat.mul_le_mul_right _ hk
 have hnz:n * z≤c * z:=Nat.mul_le_mul_right _ hle
 have hs1:(n - k) * z = n * z - k * z:=Nat.sub_mul _ _ _
 have hs2:(c - k) * z = c * z - k * z:=Nat.sub_mul _ _ _
 refine ⟨by rw [List.length_drop,h.len,hs1],by omega,by have:=h.max;omega,fun hA => ?_,fun ad hA => ?_⟩
 ·unfold cutA at hA
  split at hA
  ·omega
  ·cases hB:A with
   | none => have:=h.none_ hB;omega
   | some ad => rw [hB] at hA;simp at hA
 ·unfold cutA at hA
  split at hA
  ·rename_i hck
   obtain ⟨g,o,cur,rfl,hb,h1,h2⟩:=h.some_ ad hA
   refine ⟨g,o,cur,rfl,hb,?_,?_⟩
   ·rw [hs2];omega
   ·have hnk:n - k = 0:=by omega
    rw [hnk,Nat.zero_mul,List.take_zero,List.drop_of_length_le]
    rw [h.len]
    have:n≤k:=by omega
    exact Nat.mul_le_mul_right _ this
  ·cases hB:A with
   | none => rw [hB] at hA;simp at hA
   | some ad' =>
    rw [hB] at hA
    simp at hA
    obtain ⟨g,o,cur,rfl,hb,h1,h2⟩:=h.some_ ad' hB
    subst hA
    refine ⟨g,o + k * z,cur,by rw [add_at],hb,by rw [hs2];omega,?_⟩
    rw [← h2,List.drop_take,List.drop_drop,hs1]
theorem RowK.of_blk {g:Nat} {cs:List Value} (h:Blk w g e cs) (m:Nat) (hl:cs.length = m * z) (hm:m≤maxLen):RowK w e z (some ⟨g,0,none⟩) m m cs :=
 ⟨hl,Nat.le_refl _,hm,(fun h => by cases h),fun ad ha => by injection ha with ha;subst ha;exact ⟨g,0,cs,rfl,h,by omega,by rw [List.drop_zero,← hl,List.take_length]⟩⟩
theorem RowK.set_ (h:RowK w e z A n c xs) {g o:Nat} (hA:A = some ⟨g,o,none⟩) (j:Nat) (hj:j < n * z) (v:Value):RowK (w.setCell ⟨g,o + j,none⟩ v) e z A n c (xs.set j v):=by
 refine ⟨by rw [List.length_set];exact h.len,h.le,h.max,h.none_,fun ad ha => ?_⟩
 obtain ⟨g',o',cur,rfl,hb,h1,h2⟩:=h.some_ ad ha
 rw [hA] at ha
 injection ha with ha
 injection ha with e1 e2
 subst e1 e2
 refine ⟨g,o,cur.set (o + j) v,rfl,hb.set_ _ v,by rw [List.length_set];exact h1,?_⟩
 rw [← h2]
 apply List.ext_getElem?
 intro i
 rw [List.getElem?_take,List.getElem?_drop,List.getElem?_set]
 have hn:n * z≤c * z:=Nat.mul_le_mul_right _ h.le
 by_cases hi:i < n * z
 ·rw [if_pos hi]
  by_cases e:o + j = o + i
  ·have:j = i:=by omega
   subst this
   rw [if_pos rfl,if_pos (by omega),List.getElem?_set_self (by rw [List.length_take,List.length_drop];omega)]
  ·rw [if_neg e,List.getElem?_set_ne (by omega),List.getElem?_take,if_pos hi,List.getElem?_drop]
 ·rw [if_neg hi,List.getElem?_eq_none (by rw [List.length_set,List.length_take];omega)]
end
theorem rowK_of_own {w:World} {base:Nat} {e:TypeId} {z:Nat} {v:Value} {n:Nat} {xs:List Value} (h:w.ownsRow base e z v n xs) :
  ∃ A c,v = .slice A n c∧RowK w e z A n c xs∧∀ k,k ∈ rowT A→base≤k:=by
 obtain ⟨hl,h2⟩:=h
 rcases h2 with ⟨rfl,rfl⟩ | ⟨g,cap,cur,rfl,hb,hg,hnc,hcm,hcs,htk⟩
 ·rw [Nat.zero_mul] at hl
  obtain rfl:=List.eq_nil_of_length_eq_zero hl
  exact ⟨none,0,rfl,RowK.nil _ _ _,fun k hk => by simp [rowT_none] at hk⟩
 ·refine ⟨_,cap,rfl,⟨hl,hnc,hcm,(fun h => by cases h),fun ad ha => ?_⟩,fun k hk => ?_⟩
  ·injection ha with ha
   subst ha
   refine ⟨g,0,cur.toList,rfl,?_,?_,?_⟩
   ·unfold Blk
    exact hg
   ·rw [Array.length_toList,hcs];omega
   ·rw [List.drop_zero];exact htk
  ·rw [rowT_some] at hk
   simp at hk
   subst hk
   exact hb
section
variable {P:Program} {w:World}
theorem rowK_append {t e:TypeId} (ty:TypeId) {i:TypeInfo} {zv:Value} {z bytes:Nat} (ht:P.underlying t = some (.slice e)) (hi:P.info? e = some i) (hz:i.zero = some zv)
  (hsize:i.size = z) (hby:i.bytes = bytes) (hzs:zv.cells.size = z) (hz0:0 < z) {A:Option Addr} {n c:Nat} {xs:List Value} (hA:RowK w e z A n c xs)
  {X:Option Addr} {m:Nat} (d:Nat) {news:List Value} (hnl:news.length = m * z) (hr:0 < m→∃ ad,X = some ad∧∀ j u,news[j]? = some u→w.cell? (ad.add j) = some u) (h1:∀ u ∈ news,u.oneCell' = true)
  (h63:n + m≤maxLen) (hbytes:(n + m) * bytes≤140737488355328) :
  ∃ A' c' w',(Builtin.append_ #[t,t] ty #[.slice A n c,.slice X m d]).run P w = .ok (.slice A' (n + m) c') w'∧RowK w' e z A' (n + m) c' (xs ++ news)∧Only (rowT A) w w' ∧
   ∀ k,k ∈ rowT A'→k ∈ rowT A ∨ k = w.heap.size:=by
 rcases X with _ | ad
 ·have hm:m = 0:=by
   rcases Nat.eq_zero_or_pos m with h0 | h0
   ·exact h0
   ·obtain ⟨_,e1,_⟩:=hr h0
    cases e1
  subst hm
  rw [Nat.zero_mul] at hnl
  obtain rfl:news = []:=List.eq_nil_of_length_eq_zero hnl
  refine ⟨A,c,w,?_,by simpa using hA,Only.refl _ _,fun k hk => .inl hk⟩
  have hle:=hA.le
  cases A with
  | none =>
   have hc:=hA.none_ rfl
   subst hc
   have hn:n = 0:=by omega
   subst hn
   simp [Builtin.append_,run_underlying ht,sizeOf,typeInfo,hi,Builtin.lenOf,Builtin.firstCells]
  | some ad => simp [Builtin.append_,run_underlying ht,sizeOf,typeInfo,hi,Builtin.lenOf,Builtin.firstCells,hle,storeCells]
 ·have hcells:∀ j u,news[j]? = some u→w.cell? (ad.add j) = some u:=by
   intro j u hu
   rcases Nat.eq_zero_or_pos m with h0 | h0
   ·subst h0
    rw [Nat.zero_mul] at hnl
    obtain rfl:news = []:=List.eq_nil_of_length_eq_zero hnl
    simp at hu
   ·obtain ⟨ad',e1,hc⟩:=hr h0
    injection e1 with e1
    subst e1
    exact hc j u hu
  cases A with
  | none =>
   have hc:=hA.none_ rfl
   subst hc
   have hn:n = 0:=by have:=hA.le;omega
   subst hn
   have hx0:xs = []:=List.eq_nil_of_length_eq_zero (by rw [hA.len,Nat.zero_mul])
   subst hx0
   obtain ⟨v',w',hrun,r1,r2,_,r3⟩:=run_append_own_at (P:=P) w w.heap.size t ty e i zv z bytes ht hi hz hsize hby hzs hz0 (.slice none 0 0) 0 [] (World.ownsRow_nil w _ e z) ad m d news hnl hcells h1 h63 hbytes (Nat.le_refl _)
   obtain ⟨A',c',rfl,hR,hk⟩:=rowK_of_own r1
   refine ⟨A',c',w',hrun,hR,(Only.refl _ w).grown r2 (fun k hk => by simp [Value.ownBlock] at hk),fun k hk' => .inr ?_⟩
   obtain ⟨ad',rfl,rfl⟩:=mem_rowT.1 hk'
   simpa [Value.ownBlock] using r3
  | some b =>
   obtain ⟨g,o,cur,rfl,hb,hfit,hxs⟩:=hA.some_ b rfl
   by_cases hroom:n + m≤c
   ·have hnm:n * z + m * z≤c * z:=by rw [← Nat.add_mul];exact Nat.mul_le_mul_right _ hroom
    have hc0:∀ j,j < news.length→(w.cell? ⟨g,o + n * i.size + j,none⟩).isSome = true:=by
     intro j hj
     rw [hb.cell,hsize,List.getElem?_eq_getElem (by rw [hnl] at hj;omega)]
     rfl
    have hrun:=run_append_room_cells (P:=P) w t ty e i ht hi g o n c ad m d news (by rw [hsize];exact hnl) hcells h1 hroom hc0 (fun j _ => hb.free _)
    rw [hsize] at hrun
    have hfit2:o + n * z + news.length≤cur.length:=by rw [hnl];omega
    have hb2:=cell_setCells_blk news cur (o + n * z) hb hfit2
    refine ⟨_,c,_,hrun,⟨by rw [List.length_append,hA.len,hnl,Nat.add_mul],hroom,hA.max,(fun h => by cases h),fun ad' h' => ?_⟩,only_setCells _ _ _ _,fun k hk => .inl hk⟩
    injection h' with h'
    subst h'
    refine ⟨g,o,_,rfl,hb2,by rw [length_splice _ _ _ hfit2];exact hfit,?_⟩
    apply List.ext_getElem?
    intro j
    rw [List.getElem?_take,List.getElem?_drop,splice_getElem? _ _ _ hfit2,List.getElem?_append,hA.len,Nat.add_mul]
    by_cases h2:j < n * z
    ·rw [if_pos (by omega),if_neg (by omega),if_pos h2,← hxs,List.getElem?_take,if_pos h2,List.getElem?_drop]
    ·rw [if_neg h2]
     by_cases h3:j < n * z + m * z
     ·rw [if_pos h3,if_pos (by rw [hnl];omega)]
      congr 1;omega
     ·rw [if_neg h3,List.getElem?_eq_none (by rw [hnl];omega)]
   ·have holds:∀ j u,xs[j]? = some u→w.cell? ((⟨g,o,none⟩:Addr).add j) = some u:=by
     intro j u hu
     obtain ⟨g',o',e1,hc⟩:=hA.cell hu
     injection e1 with e1
     injection e1 with e1 e2
     subst e1 e2
     rw [add_at]
     exact hc
    subst hby
    have hge:=grownCap_ge w (n + m) c e
    have hcm:grownCap w (n + m) c e≤maxLen:=grownCap_le_maxLen w (n + m) c e h63
    have hsmall:n + m≤9223372036854775807:=by simp only [maxLen] at h63;omega
    have hlen:(xs ++ news).length = (n + m) * z:=by rw [List.length_append,hA.len,hnl,Nat.add_mul]
    have hrun:=run_append_grow (P:=P) w t ty e i zv ht hi hz ⟨g,o,none⟩ n c xs (by rw [hA.len,hsize]) holds ad m d news (by rw [hsize];exact hnl) hcells (by omega) (by omega) (growslice_fits (by omega) hbytes)
    refine ⟨_,_,_,hrun,⟨hlen,hge,hcm,(fun h => by cases h),fun ad' h' => ?_⟩,⟨rfl,rfl,rfl,by simp,fun k hk _ => Below.heap_alloc w.drew _ k hk⟩,fun k hk => .inr (by simpa [rowT_some] using hk)⟩
    injection h' with h'
    subst h'
    refine ⟨w.heap.size,0,xs ++ news ++ (Builtin.zeroCells zv.cells (grownCap w (n + m) c e - (n + m))).toList,rfl,?_,?_,?_⟩
    ·have:=heap_alloc_new w.drew (.cells (xs.toArray ++ news.toArray ++ Builtin.zeroCells zv.cells (grownCap w (n + m) c e - (n + m))) e)
     unfold Blk
     refine this.trans ?_
     congr 2
     apply Array.ext'
     simp
    ·have hzl:(Builtin.zeroCells zv.cells (grownCap w (n + m) c e - (n + m))).toList.length = (grownCap w (n + m) c e - (n + m)) * z:=by
      rw [Array.length_toList,size_zeroCells,hzs]
     have hmul:(n + m) * z≤grownCap w (n + m) c e * z:=Nat.mul_le_mul_right _ hge
     rw [List.length_append,hlen,hzl,Nat.sub_mul]
     omega
    ·rw [List.drop_zero,← hlen,List.take_left]
variable {ops:Array Oper} {rest:List Oper} {o:Oper} {a:Act} {Q:Exit→Act→World→Prop}
theorem wp_rowKAppend (hgd:o.guard = none) (s x:Operand) (t:TypeId) (ho:o.op = .call { callee:=.builtin .append,args:=#[s,x],argTypes:=#[t,t] })
  (e:TypeId) (i:TypeInfo) (zv:Value) (z bytes:Nat) (ht:P.underlying t = some (.slice e)) (hi:P.info? e = some i) (hz:i.zero = some zv)
  (hsize:i.size = z) (hby:i.bytes = bytes) (hzs:zv.cells.size = z) (hz0:0 < z) (A:Option Addr) (n c:Nat) (xs:List Value) (hs:a.eval s = .slice A n c) (hA:RowK w e z A n c xs)
  (X:Option Addr) (m d:Nat) (news:List Value) (hx:a.eval x = .slice X m d) (hnl:news.length = m * z) (hr:0 < m→∃ ad,X = some ad∧∀ j u,news[j]? = some u→w.cell? (ad.add j) = some u) (h1:∀ u ∈ news,u.oneCell' = true)
  (h63:n + m≤maxLen) (hbytes:(n + m) * bytes≤140737488355328) (N:Nat) (hN:N = n + m)
  (h:∀ A' c' w',Hid (RowK w' e z A' N c' (xs ++ news))→Only (rowT A) w w'→Hid (∀ k,k ∈ rowT A'→k ∈ rowT A ∨ k = w.heap.size)→wpList P ops Q rest (a.put o.dst (.slice A' N c')) w') :
  wpList P ops Q (o :: rest) a w:=by
 subst hN
 refine wpList_plain hgd fun K hK => ?_
 obtain ⟨A',c',w',hrun,h2,h3,h4⟩:=rowK_append (P:=P) o.type ht hi hz hsize hby hzs hz0 hA d hnl hr h1 h63 hbytes
 unfold Oper.wp execOp
 simp only [ho,resolve,invoke,builtin,Sem.run_bind,Sem.run_pure,Result.andThen_ok,List.map_toArray,List.map_cons,List.map_nil,hs,hx,hrun]
 exact hK _ _ (h A' c' w' (hid h2) h3 (hid h4))
end
end
section
open Go.RowKit
section
variable {α:Type} {f:α→List Value} {z:Nat}
def flat (f:α→List Value) (l:List α):List Value:=(l.map f).flatten
theorem flat_cons (a:α) (l:List α):flat f (a :: l) = f a ++ flat f l:=rfl
theorem flat_append (l m:List α):flat f (l ++ m) = flat f l ++ flat f m:=by simp [flat]
theorem flat_one (a:α):flat f [a] = f a:=by simp [flat]
theorem flat_length (hf:∀ a,(f a).length = z):∀ l:List α,(flat f l).length = l.length * z
 | [] => by simp [flat]
 | a :: l => by rw [flat_cons,List.length_append,hf,flat_length hf l,List.length_cons,Nat.add_mul];omega
theorem flat_take (hf:∀ a,(f a).length = z):∀ (l:List α) (k:Nat),(flat f l).take (k * z) = flat f (l.take k)
 | [],k => by simp [flat]
 | a :: l,0 => by simp [flat]
 | a :: l,k + 1 => by
  rw [flat_cons,List.take_succ_cons,flat_cons,Nat.add_mul,Nat.one_mul,Nat.add_comm,← hf a,List.take_length_add_append,hf a,flat_take hf l k]
theorem flat_drop (hf:∀ a,(f a).length = z):∀ (l:List α) (k:Nat),(flat f l).drop (k * z) = flat f (l.drop k)
 | [],k => by simp [flat]
 | a :: l,0 => by simp [flat]
 | a :: l,k + 1 => by
  rw [flat_cons,List.drop_succ_cons,Nat.add_mul,Nat.one_mul,Nat.add_comm,← hf a,List.drop_length_add_append,hf a,flat_drop hf l k]
theorem flat_at (hf:∀ a,(f a).length = z) {l:List α} {i:Nat} {a:α} (h:l[i]? = some a) {j:Nat} (hj:j < z):(flat f l)[i * z + j]? = (f a)[j]?:=by
 obtain ⟨hi,hv⟩:=List.getElem?_eq_some_iff.1 h
 have e1:((flat f l).drop (i * z))[j]? = (flat f l)[i * z + j]?:=List.getElem?_drop
 rw [← e1,flat_drop hf,List.drop_eq_getElem_cons hi,flat_cons,List.getElem?_append_left (by rw [hf];exact hj),hv]
theorem flat_mem {l:List α} {u:Value} (h:u ∈ flat f l):∃ a,a ∈ l∧u ∈ f a:=by
 unfold flat at h
 obtain ⟨x,hx,hu⟩:=List.mem_flatten.1 h
 obtain ⟨a,ha,rfl⟩:=List.mem_map.1 hx
 exact ⟨a,ha,hu⟩
def KRow (w:World) (e:TypeId) (z:Nat) (f:α→List Value) (A:Option Addr) (c:Nat) (l:List α):Prop:=RowK w e z A l.length c (flat f l)
variable {w w':World} {e:TypeId} {A:Option Addr} {c:Nat} {l:List α}
theorem KRow.nil (w:World) (e:TypeId) (z:Nat) (f:α→List Value):KRow w e z f none 0 ([]:List α):=RowK.nil w e z
theorem KRow.lt (h:KRow w e z f A c l):∀ k,k ∈ rowT A→k < w.heap.size:=RowK.lt h
theorem KRow.only {S:List Nat} (h:KRow w e z f A c l) (ho:Only S w w') (hS:∀ k,k ∈ rowT A→k ∉ S):KRow w' e z f A c l:=RowK.only h ho hS
theorem KRow.alloc (h:KRow w e z f A c l) (o:Obj):KRow (w.alloc o) e z f A c l:=RowK.alloc h o
theorem KRow.at_ (h:KRow w e z f A c l) (hf:∀ a,(f a).length = z) {i:Nat} {a:α} (ha:l[i]? = some a) (hz:0 < z):∃ g o,A = some ⟨g,o,none⟩∧g < w.heap.size∧∀ j u,(f a)[j]? = some u→w.cell? ⟨g,o + i * z + j,none⟩ = some u:=by
 have hi:=(List.getElem?_eq_some_iff.1 ha).1
 obtain ⟨g,o,rfl,hg,hc⟩:=RowK.addr h (by have:=h.le;omega)
 refine ⟨g,o,rfl,hg,fun j u hu => ?_⟩
 have hj:j < z:=by rw [← hf a];exact (List.getElem?_eq_some_iff.1 hu).1
 have:=hc (i * z + j) u (by rw [flat_at hf ha hj];exact hu)
 rwa [← Nat.add_assoc] at this
theorem KRow.cut (h:KRow w e z f A c l) (hf:∀ a,(f a).length = z) (k:Nat) (hk:k≤l.length):KRow w e z f (cutA c k z A) (c - k) (l.drop k):=by
 have:=RowK.cut h k hk
 rw [flat_drop hf] at this
 unfold KRow
 rw [List.length_drop]
 exact this
theorem KRow.of_blk {g:Nat} (h:Blk w g e (flat f l)) (hf:∀ a,(f a).length = z) (hm:l.length≤maxLen):KRow w e z f (some ⟨g,0,none⟩) l.length l:=RowK.of_blk h l.length (flat_length hf l) hm
def Src (w:World) (z:Nat) (f:α→List Value) (X:Option Addr) (m:List α):Prop:=0 < m.length→∃ ad,X = some ad∧∀ j u,(flat f m)[j]? = some u→w.cell? (ad.add j) = some u
theorem KRow.src {m:List α} {X:Option Addr} {d:Nat} (h:KRow w e z f X d m):Src w z f X m:=fun hm => by
 obtain ⟨g,o,rfl,_,hc⟩:=RowK.addr h (by have:=h.le;omega)
 exact ⟨_,rfl,fun j u hu => by rw [add_at];exact hc j u hu⟩
theorem src_blk {g:Nat} {m:List α} {cs:List Value} (h:Blk w g e cs) (hc:cs = flat f m):Src w z f (some ⟨g,0,none⟩) m:=fun _ => ⟨_,rfl,fun j u hu => by rw [add_at,Nat.zero_add,h.cell,hc];exact hu⟩
end
section
variable {P:Program} {w:World} {ops:Array Oper} {rest:List Oper} {o:Oper} {a:Act} {Q:Exit→Act→World→Prop}
theorem wp_kAppend {α:Type} (hgd:o.guard = none) (s x:Operand) (t:TypeId) (ho:o.op = .call { callee:=.builtin .append,args:=#[s,x],argTypes:=#[t,t] })
  (e:TypeId) (zv:Value) (z bytes:Nat) (f:α→List Value) (hf:∀ a,(f a).length = z) (h1:∀ a u,u ∈ f a→u.oneCell' = true) (ht:P.underlying t = some (.slice e)) (hinfo:(P.info? e).map (fun i => (i.zero,i.size,i.bytes)) = some (some zv,z,bytes))
  (hzs:zv.cells.size = z) (hz0:0 < z) (A:Option Addr) (c:Nat) (l:List α) (n:Nat) (hn:l.length = n) (hs:a.eval s = .slice A n c) (hA:KRow w e z f A c l)
  (X:Option Addr) (d:Nat) (m:List α) (k:Nat) (hk:m.length = k) (hx:a.eval x = .slice X k d) (hr:Src w z f X m)
  (h63:n + k≤maxLen) (hbytes:(n + k) * bytes≤140737488355328) (N:Nat) (hN:N = n + k)
  (h:∀ A' c' w',Hid (KRow w' e z f A' c' (l ++ m))→Only (rowT A) w w'→Hid (∀ k,k ∈ rowT A'→k ∈ rowT A ∨ k = w.heap.size)→wpList P ops Q rest (a.put o.dst (.slice A' N c')) w') :
  wpList P ops Q (o :: rest) a w:=by
 obtain ⟨i0,hi,hz,hsize,hby⟩:=info_parts hinfo
 subst hn hk
 refine wp_rowKAppend hgd s x t ho e i0 zv z bytes ht hi hz hsize hby hzs hz0 A l.length c (flat f l) hs hA X m.length d (flat f m) hx (flat_length hf m) hr (fun u hu => by obtain ⟨y,_,hy⟩:=flat_mem hu;exact h1 y u hy) h63 hbytes N hN ?_
 intro A' c' w' h2 h3 h4
 refine h A' c' w' (hid ?_) h3 h4
 have:=h2.out
 unfold KRow
 rw [flat_append,List.length_append,← hN]
 exact this
end
end
end Go.Proofs.YtpcapmdfjmpdiaaGreatDoor
