/- Comparing states of layer 15 -/
import Derived.Test.YtpcapmdfjmpdiaaGreatDoorMRc14
import Derived.Laws.StructEq
import Derived.Test.YtpcapmdfjmpdiaaGreatDoorMShaped11
import Derived.Test.YtpcapmdfjmpdiaaGreatDoorMCt12
import Derived.Test.YtpcapmdfjmpdiaaGreatDoorMSz17
import Derived.Test.YtpcapmdfjmpdiaaGreatDoorMEr14
set_option linter.unusedVariables false
set_option linter.unusedSimpArgs false
set_option maxRecDepth 100000
set_option maxHeartbeats 6400000
open Go.Lib (hid)
namespace Go.Proofs.YtpcapmdfjmpdiaaGreatDoor
section
open Go.RowKit Go.BigFrame
def stB (s t:HS):Bool:=decide (s.c = t.c) && (decide (s.n = t.n) && (decide (s.a = t.a) && decide (s.p = t.p)))
theorem stB_iff (s t:HS):stB s t = true ↔ s = t:=by
 unfold stB
 simp only [Bool.and_eq_true,decide_eq_true_eq]
 constructor
 ·rintro ⟨h1,h2,h3,h4⟩;exact HS.ext_ h1 h2 h3 h4
 ·rintro rfl;exact ⟨rfl,rfl,rfl,rfl⟩
theorem st_eql (s t:HS) (w:World):(binOp .eql 74 (.agg #[.int .i64 (s.c:Nat),.string (ofL s.n),.string (ofL s.a),.string (ofL s.p)]) (.agg #[.int .i64 (t.c:Nat),.string (ofL t.n),.string (ofL t.a),.string (ofL t.p)])).run Tryz.prog w = .ok (.bool (stB s t)) w:=by
 have u3:=Tryz.underlying3
 have a3:=Tryz.isAgg3
 have z3:=Tryz.sizeOf3
 have u9:=Tryz.underlying9
 have a9:=Tryz.isAgg9
 have z9:=Tryz.sizeOf9
 have hS:Tryz.prog.underlying 74 = some (.struct (Tryz.prog.fieldsOf 74)):=by kernel_rfl
 have hp:Tryz.prog.stoodInHeld 74 = false:=by kernel_rfl
 rw [run_eql_struct,show (10000:Nat) = 9999 + 1 from rfl,run_equalIn_agg w 9999 74 _ _ hS hp]
 simp only [Program.fieldsOf,Tryz.underlying74]
 go_simp
 unfold stB
 simp only [ofL_list]
 have hc:((s.c:Int) = (t.c:Int)) ↔ s.c = t.c:=by omega
 by_cases h1:s.c = t.c <;> by_cases h2:s.n = t.n <;> by_cases h3:s.a = t.a <;> by_cases h4:s.p = t.p <;> simp [h1,h2,h3,h4,hc]
theorem st_guard (op:BinOp) (x y:Operand) (xs ys:Array Value) (w:World):(eqGuard op 74 x y (.agg xs) (.agg ys)).run Tryz.prog w = .ok () w:=run_eqGuard_agg w op 74 x y xs ys (by kernel_rfl)
end
section
open Go.RowKit Go.BigFrame NT
theorem rst_neq (s t:HS) (w:World):(binOp .neq 153 (.agg #[.int .i64 (s.c:Nat),.string (ofL s.n),.string (ofL s.a),.string (ofL s.p)]) (.agg #[.int .i64 (t.c:Nat),.string (ofL t.n),.string (ofL t.a),.string (ofL t.p)])).run Tryz.prog w = .ok (.bool (!eqH s t)) w:=by
 have u3:=Tryz.underlying3
 have a3:=Tryz.isAgg3
 have z3:=Tryz.sizeOf3
 have u9:=Tryz.underlying9
 have a9:=Tryz.isAgg9
 have z9:=Tryz.sizeOf9
 have hS:Tryz.prog.underlying 153 = some (.struct (Tryz.prog.fieldsOf 153)):=by kernel_rfl
 have hp:Tryz.prog.stoodInHeld 153 = false:=by kernel_rfl
 rw [run_neq_struct,show (10000:Nat) = 9999 + 1 from rfl,run_equalIn_agg w 9999 153 _ _ hS hp]
 simp only [Program.fieldsOf,Tryz.underlying153]
 go_simp
 unfold eqH
 simp only [ofL_list]
 have hc:((s.c:Int) = (t.c:Int)) ↔ s.c = t.c:=by omega
 by_cases h1:s.c = t.c <;> by_cases h2:s.n = t.n <;> by_cases h3:s.a = t.a <;> by_cases h4:s.p = t.p <;> simp [h1,h2,h3,h4,hc]
theorem rst_guard16 (op:BinOp) (x y:Operand) (xs ys:Array Value) (w:World):(eqGuard op 153 x y (.agg xs) (.agg ys)).run Tryz.prog w = .ok () w:=run_eqGuard_agg w op 153 x y xs ys (by kernel_rfl)
abbrev nV (t:NT):Value:=.agg #[.int .i64 t.k,.int .i64 t.a,.string t.s,.string t.p,.bool t.h,.bool t.e,.slice t.A t.b.length t.c,.slice t.B t.l.length t.d]
abbrev sC (s:HS):List Value:=[.int .i64 (s.c:Nat),.string (ofL s.n),.string (ofL s.a),.string (ofL s.p)]
abbrev rsV (s:HS) (A:Option Addr) (n c:Nat) (a k:Int):Value:=.agg #[.int .i64 (s.c:Nat),.string (ofL s.n),.string (ofL s.a),.string (ofL s.p),.slice A n c,.int .i64 a,.int .i64 k]
abbrev rsC (s:HS) (A:Option Addr) (n c:Nat) (a k:Int):List Value:=[.int .i64 (s.c:Nat),.string (ofL s.n),.string (ofL s.a),.string (ofL s.p),.slice A n c,.int .i64 a,.int .i64 k]
def vin (es:List Nat):List Value:=es.map fun k => .int .i64 (k:Nat)
theorem vin_append (a b:List Nat):vin (a ++ b) = vin a ++ vin b:=by simp [vin]
theorem vin_one (l:List Nat):∀ v ∈ vin l,v.oneCell' = true:=by
 intro v hv
 simp only [vin,List.mem_map] at hv
 obtain ⟨c,_,rfl⟩:=hv
 rfl
def Es (w w':World) (A:Option Addr) (n c:Nat) (es:List Nat):Prop:=n = es.length∧RowAt w' 3 A n c (vin es)∧∀ k,k ∈ rowT A→w.heap.size≤k
theorem Es.nil (w w':World):Es w w' none 0 0 []:=⟨rfl,RowAt.nil _ _,by simp [rowT]⟩
theorem Es.only {w w1 w2:World} {A:Option Addr} {n c:Nat} {es:List Nat} {S:List Nat} (h:Es w w1 A n c es) (ho:Only S w1 w2) (hS:∀ k,k ∈ rowT A→k ∉ S):Es w w2 A n c es:=⟨h.1,h.2.1.only ho hS,h.2.2⟩
theorem Es.later {w w1 w2:World} {A:Option Addr} {n c:Nat} {es:List Nat} (h:Es w w1 A n c es) (hb:Bel w1 w2):Es w w2 A n c es:=h.only (bel_only hb) (by simp)
theorem Es.since {w0 w w1:World} {A:Option Addr} {n c:Nat} {es:List Nat} (h:Es w w1 A n c es) (hw:w0.heap.size≤w.heap.size):Es w0 w1 A n c es:=⟨h.1,h.2.1,fun k hk => Nat.le_trans hw (h.2.2 k hk)⟩
theorem Es.blk {w w1:World} {A:Option Addr} {n c:Nat} {es:List Nat} {g:Nat} {t:TypeId} {cs:List Value} (h:Es w w1 A n c es) (hB:Blk w1 g t cs) (hne:t ≠ 3):g ∉ rowT A:=h.2.1.ne_blk hB hne
def RsQ (r:IR) (a0:Int) (w w':World) (t:HS) (A:Option Addr) (n c:Nat) (a k:Int):Prop:=match r with
 | .ok s es => t = s∧a = a0∧k = 0∧Es w w' A n c es
 | .no a' k' => a = a'∧k = (k':Nat)∧k' ≠ 0
def RnP (r:IR) (a0:Int) (w:World) (e:Ending) (w':World):Prop:=Bel w w'∧∃ t A n c a k,e = .returned (rsV t A n c a k)∧Hid (RsQ r a0 w w' t A n c a k)
theorem RsQ.later {r:IR} {a0:Int} {w w1 w2:World} {t:HS} {A:Option Addr} {n c:Nat} {a k:Int} (h:RsQ r a0 w w1 t A n c a k) (hb:Bel w1 w2):RsQ r a0 w w2 t A n c a k:=by
 cases r with
 | ok s es => exact ⟨h.1,h.2.1,h.2.2.1,h.2.2.2.later hb⟩
 | no a' k' => exact h
def IR.Fine0:IR→Prop | .ok _ _ => True | .no _ k => k = 15 ∨ k = 16
theorem IR.Fine0.next {r:IR} {f:HS→List Nat→IR} (h:r.Fine0) (hf:∀ s es,(f s es).Fine0):(r.next f).Fine0:=by
 cases r with
 | no a e => exact h
 | ok s es => exact hf s es
theorem nodeI_err {s:HS} {x:NT} {a:Int} {k:Nat} (h:nodeI s x = .no a k):k = 15 ∨ k = 16:=by
 have key:∀ l:List NT,(∀ x,x ∈ l→∀ s,(nodeI s x).Fine0)→∀ s,(listI s l).Fine0:=by
  intro l
  induction l with
  | nil => intro _ s;rw [listI_nil];exact trivial
  | cons x l ih =>
   intro h s
   rw [listI_cons]
   exact (h x (by simp) s).next fun s1 e1 => (ih (fun y hy => h y (by simp [hy])) s1).next fun s2 e2 => trivial
 have all:∀ x s,(nodeI s x).Fine0:=fun x => NT.ind (M:=fun t => ∀ s,(nodeI s t).Fine0) (fun t hb hl s => by
  rw [nodeI_eq]
  split
  ·exact trivial
  split
  ·split
   ·exact trivial
   ·exact .inl rfl
  split
  ·exact (key t.b hb s).next fun s1 e1 => (key t.l hl s).next fun s2 e2 => by
    split
    ·exact trivial
    ·exact .inr rfl
  split
  ·exact (key t.b hb s).next fun s1 e1 => by
    split
    ·exact trivial
    ·exact .inr rfl
  split
  ·split
   ·exact trivial
   ·exact .inl rfl
  split
  ·exact (key t.b hb (s0 0)).next fun s1 e1 => by
    split
    ·exact trivial
    ·exact .inr rfl
  ·exact trivial) x
 have:=all x s
 rw [h] at this
 exact this
theorem listI_err {s:HS} {l:List NT} {a:Int} {k:Nat} (h:listI s l = .no a k):k = 15 ∨ k = 16:=by
 induction l generalizing s with
 | nil => rw [listI_nil] at h;cases h
 | cons x l ih =>
  rw [listI_cons] at h
  cases hx:nodeI s x with
  | no a' k' =>
   rw [hx] at h
   injection h with h1 h2
   subst h1 h2
   exact nodeI_err hx
  | ok s1 e1 =>
   rw [hx,IR.next_ok] at h
   cases hl:listI s1 l with
   | no a' k' =>
    rw [hl] at h
    injection h with h1 h2
    subst h1 h2
    exact ih hl
   | ok s2 e2 => rw [hl,IR.next_ok] at h;cases h
theorem only7 (W:World) (g:Nat) (a0 a1 a2 a3 a4 a5 a6:Value):Only [g] W (((((((W.setCell ⟨g,0,none⟩ a0).setCell ⟨g,1,none⟩ a1).setCell ⟨g,2,none⟩ a2).setCell ⟨g,3,none⟩ a3).setCell ⟨g,4,none⟩ a4).setCell ⟨g,5,none⟩ a5).setCell ⟨g,6,none⟩ a6) :=
 ((((((((Only.refl [g] W).setCell (.inl (by simp)) _).setCell (.inl (by simp)) _).setCell (.inl (by simp)) _).setCell (.inl (by simp)) _).setCell (.inl (by simp)) _).setCell (.inl (by simp)) _).setCell (.inl (by simp)) _)
theorem rs_set {f:Func} {k g:Nat} {tmps:Array Value} {w w1:World} {r:IR} {x0:Int} {a0 a1 a2 a3 a4 a5 a6 v0 v1 v2 v3 v4 v5 v6:Value} (hf:f.results = #[.cell k 155]) (hp:tmps.getD k undef = .pointer (some ⟨g,0,none⟩))
  (hB:Blk w1 g 155 [a0,a1,a2,a3,a4,a5,a6]) (hb:Bel w w1) (hg:w.heap.size≤g)
  (he:∀ w2,Only [g] w1 w2→∃ t A n c a k,Value.agg #[v0,v1,v2,v3,v4,v5,v6] = rsV t A n c a k∧Hid (RsQ r x0 w w2 t A n c a k)) :
  bodyPost Tryz.prog f (RnP r x0 w) .ret { tmps:=tmps,defers:=[] } (((((((w1.setCell ⟨g,0,none⟩ v0).setCell ⟨g,1,none⟩ v1).setCell ⟨g,2,none⟩ v2).setCell ⟨g,3,none⟩ v3).setCell ⟨g,4,none⟩ v4).setCell ⟨g,5,none⟩ v5).setCell ⟨g,6,none⟩ v6):=by
 have h1:=((((((hB.set_ 0 v0).set_ 1 v1).set_ 2 v2).set_ 3 v3).set_ 4 v4).set_ 5 v5).set_ 6 v6
 simp only [List.set_cons_succ,List.set_cons_zero] at h1
 have hO:=only7 w1 g v0 v1 v2 v3 v4 v5 v6
 refine bodyPost_ret (results_cell_row hf _ _ g _ _ (0,0) _ hp h1 Tryz.underlying155 rfl (by kernel_rfl)) rfl ?_
 obtain ⟨t,A,n,c,a,k,e1,e2⟩:=he _ hO
 exact ⟨bel_on1 hb hO hg,t,A,n,c,a,k,by rw [← e1],e2⟩
theorem cells7 {w:World} {g:Nat} {T:TypeId} {a0 a1 a2 a3 a4 a5 a6:Value} (h:Blk w g T [a0,a1,a2,a3,a4,a5,a6]) :
  w.cell? ⟨g,0,none⟩ = some a0∧w.cell? ⟨g,1,none⟩ = some a1∧w.cell? ⟨g,2,none⟩ = some a2∧w.cell? ⟨g,3,none⟩ = some a3∧w.cell? ⟨g,4,none⟩ = some a4∧w.cell? ⟨g,5,none⟩ = some a5∧w.cell? ⟨g,6,none⟩ = some a6:=⟨h.cell 0,h.cell 1,h.cell 2,h.cell 3,h.cell 4,h.cell 5,h.cell 6⟩
theorem frees7 {w:World} {g:Nat} {T:TypeId} {cs:List Value} (h:Blk w g T cs) :
  w.frozen? ⟨g,0,none⟩ = false∧w.frozen? ⟨g,1,none⟩ = false∧w.frozen? ⟨g,2,none⟩ = false∧w.frozen? ⟨g,3,none⟩ = false∧w.frozen? ⟨g,4,none⟩ = false∧w.frozen? ⟨g,5,none⟩ = false∧w.frozen? ⟨g,6,none⟩ = false:=⟨h.free 0,h.free 1,h.free 2,h.free 3,h.free 4,h.free 5,h.free 6⟩
theorem info_int16:∃ i,Tryz.prog.info? 3 = some i∧i.zero = some (.int .i64 0)∧i.size = 1∧i.bytes = 8:=by
 refine ⟨_,rfl,?_,?_,?_⟩ <;> kernel_rfl
end
section
open Go.RowKit Go.BigFrame
theorem rrun_c (s:HS) (hi:Inv s) (t:ByteArray) (ht:t.size≤140737488351232) (w:World):Calls Tryz.prog 111 #[s.val,.string t] w (SvP (runS s (toL t)) w):=by
 obtain ⟨l,rfl⟩:∃ l,t = ofL l:=⟨toL t,(ofL_toL t).symm⟩
 rw [toL_ofL]
 have hz:(ofL l).size = l.length:=rfl
 have hl:l.length≤140737488351232:=by omega
 have HI:=hid hi
 obtain ⟨R,hR⟩:∃ R,R = runS s l:=⟨_,rfl⟩
 rw [← hR]
 have HR:=hid hR
 clear hR hi ht
 unfold SvP HS.val stV
 go_enter Tryz.func111,Tryz.ntmps111
 go_wp2_with fail
 go_loopw [5] (fun s5 wr => ∃ (i:Nat) (S:HS),i≤l.length∧s5 = .int .i64 i∧Hid (S = runS s (l.take i))∧Hid (Bel w wr)∧Hid (Blk wr w.heap.size 153 [.int .i64 (S.c:Nat),.string (ofL S.n),.string (ofL S.a),.string (ofL S.p)])∧Hid (Blk wr (w.heap.size + 1) 153 [.int .i64 0,.string ⟨#[]⟩,.string ⟨#[]⟩,.string ⟨#[]⟩])) (fun s5 _ => l.length - (intOf s5).toNat)
 case atStart => exact ⟨0,s,Nat.zero_le _,rfl,hid rfl,hid ((Bel.alloc _ _).trans (Bel.alloc _ _)),hid ((Blk.new w 153 [.int .i64 (s.c:Nat),.string (ofL s.n),.string (ofL s.a),.string (ofL s.p)]).alloc _),hid (blk_at1h w _ 153 [.int .i64 0,.string ⟨#[]⟩,.string ⟨#[]⟩,.string ⟨#[]⟩])⟩
 case round =>
  obtain ⟨i,S,hil,rfl,HS,HB,HK,HM⟩:=hrel
  by_cases hlt:i < l.length
  ·have hI:Inv S:=by rw [HS.out];exact inv_run HI.out _
   obtain ⟨c,hc⟩:∃ c,l[i]? = some c:=⟨_,List.getElem?_eq_getElem hlt⟩
   have f5:=fun W => run_index_ofL l i c hc W
   obtain ⟨T,hT⟩:∃ T,T = stepS S c:=⟨_,rfl⟩
   have HT:=hid (show T = runS s (l.take (i + 1)) by rw [runS_take hc,← HS.out];exact hT)
   have HPS:Hid (∀ W,Calls Tryz.prog 125 #[.agg #[.int .i64 (S.c:Nat),.string (ofL S.n),.string (ofL S.a),.string (ofL S.p)],.int .u8 c.toNat] W (SvV (.agg #[.int .i64 (T.c:Nat),.string (ofL T.n),.string (ofL T.a),.string (ofL T.p)]) W)):=hid (fun W => by have h:=rstep_c S c W (by have:=hI.n.1;omega) (by have:=hI.a.1;omega) (by have:=hI.part.1;omega);rw [← hT] at h;exact h)
   clear hc hI hT
   obtain ⟨k0,k1,k2,k3⟩:=cells4 HK.out
   go_wp2_with fail
   clear k0 k1 k2 k3
   refine region_begin (T:=[w.heap.size]) (by kernel_rfl) ?_
   have HBd:=hid (HB.out.trans (Bel.drew _))
   have HKd:=hid HK.out.drew
   have HMd:=hid HM.out.drew
   generalize wr.drew = W at HBd HKd HMd ⊢
   refine region_seg [false,true,true,true] 3 (by kernel_rfl) (by kernel_rfl) (by kernel_rfl) rfl (fun _ _ d _ _ h => by cases d <;> exact h) ?_
   repeat (first | with_reducible refine wpMask_pass ?_ | (refine wpMask_want (by rfl) (fun K hK => ?_);go_big_quiet_op;refine hK _ ?_;clear hK K))
   with_reducible refine wpMask_nil ?_
   obtain ⟨k0,k1,k2,k3⟩:=cells4 HKd.out
   refine region_make 0 (v:=.agg #[.int .i64 (S.c:Nat),.string (ofL S.n),.string (ofL S.a),.string (ofL S.p)]) (w1:=W) (by kernel_rfl) rfl (by rfl) (by go_simp) (Only.refl _ _) ?_
   simp only [List.getElem_toArray,List.getElem_cons_zero,List.getElem_cons_succ,Act.put,List.setIfInBounds_toArray,List.set_cons_zero,List.set_cons_succ]
   refine region_call 4 (by kernel_rfl) rfl (by rfl) (by go_simp;exact ⟨rfl,rfl⟩) ?_
   (with_reducible refine (HPS.out _).mono ?_);rintro e w2 ⟨rfl,hb⟩;refine ⟨_,rfl,(Only.refl _ W).join (bel_only hb) (by simp),?_⟩
   simp only [List.getElem_toArray,List.getElem_cons_zero,List.getElem_cons_succ,Act.put,List.setIfInBounds_toArray,List.set_cons_zero,List.set_cons_succ]
   have HB2:=hid (HBd.out.trans hb)
   have HK2:=hid (HKd.out.belh hb)
   have HM2:=hid (HMd.out.belh hb)
   clear hb k0 k1 k2 k3
   obtain ⟨k0,k1,k2,k3⟩:=cells4 HK2.out
   obtain ⟨y0,y1,y2,y3⟩:=frees4 HK2.out
   have hP:Only [w.heap.size] w2 ((((w2.setCell ⟨w.heap.size,0,none⟩ (.int .i64 (T.c:Nat))).setCell ⟨w.heap.size,1,none⟩ (.string (ofL T.n))).setCell ⟨w.heap.size,2,none⟩ (.string (ofL T.a))).setCell ⟨w.heap.size,3,none⟩ (.string (ofL T.p))):=((((Only.refl [w.heap.size] w2).setCell (.inl (by simp)) _).setCell (.inl (by simp)) _).setCell (.inl (by simp)) _).setCell (.inl (by simp)) _
   have hK4:=(((HK2.out.set_ 0 (.int .i64 (T.c:Nat))).set_ 1 (.string (ofL T.n))).set_ 2 (.string (ofL T.a))).set_ 3 (.string (ofL T.p))
   simp only [List.set_cons_succ,List.set_cons_zero] at hK4
   have HK4:=hid hK4
   have HM4:=hid (HM2.out.only hP (by simp))
   have HB4:=hid (show Bel w _ from hP.below HB2.out (by have:=HB2.out.size;omega) (by simp))
   refine region_store 5 (w1:=((((w2.setCell ⟨w.heap.size,0,none⟩ (.int .i64 (T.c:Nat))).setCell ⟨w.heap.size,1,none⟩ (.string (ofL T.n))).setCell ⟨w.heap.size,2,none⟩ (.string (ofL T.a))).setCell ⟨w.heap.size,3,none⟩ (.string (ofL T.p)))) (by kernel_rfl) rfl (by rfl) (by go_simp) hP ?_
   simp only [List.getElem_toArray,List.getElem_cons_zero,List.getElem_cons_succ,Act.put,List.setIfInBounds_toArray,List.set_cons_zero,List.set_cons_succ]
   refine region_end (by kernel_rfl) ?_
   clear k0 k1 k2 k3 y0 y1 y2 y3 hP hK4
   generalize ((((w2.setCell ⟨w.heap.size,0,none⟩ (.int .i64 (T.c:Nat))).setCell ⟨w.heap.size,1,none⟩ (.string (ofL T.n))).setCell ⟨w.heap.size,2,none⟩ (.string (ofL T.a))).setCell ⟨w.heap.size,3,none⟩ (.string (ofL T.p))) = w4 at HK4 HM4 HB4 ⊢
   go_wp2_with fail
   go_roundw
   case rel => exact ⟨i + 1,T,by omega,by go_num,HT,HB4,HK4,HM4⟩
   case measure => simp [intOf];omega
  ·obtain rfl:i = l.length:=by omega
   have hRS:S = R:=by have h:=HS.out;rw [List.take_length] at h;rw [h,HR.out]
   rw [hRS] at HK
   obtain ⟨k0,k1,k2,k3⟩:=cells4 HK.out
   obtain ⟨m0,m1,m2,m3⟩:=cells4 HM.out
   obtain ⟨y0,y1,y2,y3⟩:=frees4 HM.out
   go_wp2_with fail
   (with_reducible apply st_set (k:=4) (g:=w.heap.size + 1))
   case hf => rfl
   case hp => rfl
   case hB => exact HM.out
   case hb => exact HB.out
   case hg => omega
   rfl
end
section
open NT
def adsOf:List (NT × List Nat)→Nat→List Nat
 | [],_ => []
 | d :: r,a => a :: adsOf r (a + sizs d.1.b + 1)
def nmsOf (ds:List (NT × List Nat)):List ByteArray:=ds.map fun d => d.1.s
theorem adsOf_len:∀ (ds:List (NT × List Nat)) (a:Nat),(adsOf ds a).length = ds.length
 | [],_ => rfl
 | d :: r,a => by unfold adsOf;rw [List.length_cons,List.length_cons,adsOf_len r]
theorem nmsOf_len (ds:List (NT × List Nat)):(nmsOf ds).length = ds.length:=by unfold nmsOf;rw [List.length_map]
theorem adZ_adr:∀ (ds:List (NT × List Nat)) (a:Nat) (nm:ByteArray),adZ (nmsOf ds) (adsOf ds a) nm = adr ds a nm
 | [],_,_ => rfl
 | d :: r,a,nm => by
  show (if d.1.s = nm then a else adZ (nmsOf r) (adsOf r (a + sizs d.1.b + 1)) nm) = (if d.1.s = nm then a else adr r (a + sizs d.1.b + 1) nm)
  rw [adZ_adr r]
theorem adZ_fun (ds:List (NT × List Nat)) (a:Nat):adZ (nmsOf ds) (adsOf ds a) = adr ds a:=funext fun nm => adZ_adr ds a nm
theorem dfs_snoc:∀ (l:List NT) (x:NT) (es:List Nat),dfs (l ++ [x]) es = dfs l es ++ dfs [x] (es.drop ((l.map prf).sum))
 | [],x,es => by show _ = [] ++ _;rw [List.nil_append];rfl
 | y :: l,x,es => by
  rw [List.cons_append]
  unfold dfs
  rw [dfs_snoc l x,List.drop_drop,List.map_cons,List.sum_cons]
  split
  ·rw [List.cons_append];rfl
  ·rfl
theorem mainE_snoc:∀ (l:List NT) (x:NT) (es:List Nat),mainE (l ++ [x]) es = mainE l es ++ mainE [x] (es.drop ((l.map prf).sum))
 | [],x,es => by show _ = [] ++ _;rw [List.nil_append];rfl
 | y :: l,x,es => by
  rw [List.cons_append]
  unfold mainE
  rw [mainE_snoc l x,List.drop_drop,List.map_cons,List.sum_cons]
  split
  ·rfl
  ·rw [List.append_assoc];rfl
theorem adsOf_snoc:∀ (ds:List (NT × List Nat)) (d:NT × List Nat) (a:Nat),adsOf (ds ++ [d]) a = adsOf ds a ++ [a + dsz ds]
 | [],d,a => by simp [adsOf,dsz]
 | e :: r,d,a => by
  rw [List.cons_append]
  unfold adsOf dsz
  rw [adsOf_snoc r,List.cons_append,show a + sizs e.1.b + 1 + dsz r = a + (sizs e.1.b + 1 + dsz r) by omega]
theorem dsz_snoc:∀ (ds:List (NT × List Nat)) (d:NT × List Nat),dsz (ds ++ [d]) = dsz ds + (sizs d.1.b + 1)
 | [],d => by simp [dsz]
 | e :: r,d => by
  rw [List.cons_append]
  unfold dsz
  rw [dsz_snoc r]
  omega
inductive Wk:Bool→NT→Prop
 | mk (n:Bool) (t:NT) (h0:0≤t.k) (h6:t.k≤6) (hn:n = true→t.k ≠ 6) (he:t.e = false→t.l = []) (h2:t.k ≠ 2→t.l = []) (h2e:t.k ≠ 2→t.e = false) (hk:t.k ≠ 2→t.k ≠ 3→t.k ≠ 6→t.b = []) (hb:∀ x,x ∈ t.b→Wk true x) (hl:∀ x,x ∈ t.l→Wk true x):Wk n t
theorem Wk.body {n:Bool} {t:NT} (h:Wk n t):∀ x,x ∈ t.b→Wk true x:=by cases h;assumption
theorem Wk.els {n:Bool} {t:NT} (h:Wk n t):∀ x,x ∈ t.l→Wk true x:=by cases h;assumption
theorem Wk.facts {n:Bool} {t:NT} (h:Wk n t):0≤t.k∧t.k≤6∧(n = true→t.k ≠ 6)∧(t.e = false→t.l = [])∧(t.k ≠ 2→t.l = [])∧(t.k ≠ 2→t.k ≠ 3→t.k ≠ 6→t.b = []):=by
 cases h with
 | mk n t h0 h6 hn he h2 _ hk _ _ => exact ⟨h0,h6,hn,he,h2,hk⟩
theorem Wk.noElse {n:Bool} {t:NT} (h:Wk n t):t.k ≠ 2→t.e = false:=by cases h;assumption
theorem ers_nil17 {l:List NT} (h:ers l = []):l = []:=by
 have:=congrArg List.length h
 rw [ers_len] at this
 exact List.eq_nil_of_length_eq_zero (by simpa using this)
theorem wk_er (t:NT):∀ n,Wk n t.er→Wk n t:=by
 refine ind (M:=fun t => ∀ n,Wk n t.er→Wk n t) (fun t h1 h2 n h => ?_) t
 have hb:=h.body
 have hl:=h.els
 obtain ⟨e1,e2,e3,e4,e5,e6⟩:=h.facts
 rw [er_b,ers_map] at hb
 rw [er_l,ers_map] at hl
 rw [er_k] at e1 e2 e3 e5 e6
 rw [er_e,er_l] at e4
 rw [er_l] at e5
 rw [er_b] at e6
 have e7:=h.noElse
 rw [er_k,er_e] at e7
 exact .mk n t e1 e2 e3 (fun he => ers_nil17 (e4 he)) (fun he => ers_nil17 (e5 he)) e7 (fun a b c => ers_nil17 (e6 a b c)) (fun x hx => h1 x hx _ (hb _ (List.mem_map_of_mem hx))) (fun x hx => h2 x hx _ (hl _ (List.mem_map_of_mem hx)))
theorem wk_ers {n:Bool} {l m:List NT} (h:∀ x,x ∈ l→Wk n x) (he:ers m = l):∀ x,x ∈ m→Wk n x:=by
 intro x hx
 refine wk_er x n (h _ ?_)
 rw [← he,ers_map]
 exact List.mem_map_of_mem hx
theorem nd_wk {n:Bool} {t:Tok} {e:Bool} {b l:List NT} (h6:t.k≤6) (hn:n = true→t.k ≠ 6) (he:e = false→l = []) (h2:t.k ≠ 2→l = []) (h2e:t.k ≠ 2→e = false) (hk:blk t.k = false→b = []) (hb:∀ x,x ∈ b→Wk true x) (hl:∀ x,x ∈ l→Wk true x):Wk n (nd t e b l):=by
 refine .mk n _ (show (0:Int)≤((t.k:Nat):Int) by omega) (show ((t.k:Nat):Int)≤6 by omega) (fun h => show ((t.k:Nat):Int) ≠ 6 by have:=hn h;omega) he (fun h => h2 ?_) (fun h => h2e ?_) (fun a b c => hk ?_) hb hl
 ·intro e
  exact h (show ((t.k:Nat):Int) = 2 by omega)
 ·intro e
  exact h (show ((t.k:Nat):Int) = 2 by omega)
 ·replace a:((t.k:Nat):Int) ≠ 2:=a
  replace b:((t.k:Nat):Int) ≠ 3:=b
  replace c:((t.k:Nat):Int) ≠ 6:=c
  unfold blk
  rw [show (t.k == 2) = false from beq_eq_false_iff_ne.2 (by omega),show (t.k == 3) = false from beq_eq_false_iff_ne.2 (by omega),show (t.k == 6) = false from beq_eq_false_iff_ne.2 (by omega)]
  rfl
def K8 (t:Tok):Prop:=t.k≤8
theorem pl_wk:∀ (f:Nat) (ts:List Tok) (op:Nat) (ie:Bool) (d c:Nat) (l:List NT) (r:List Tok) (c':Nat),(∀ t ∈ ts,K8 t)→pl f ts op ie d c = .ok (l,r,c') →
  (∀ x,x ∈ l→Wk (decide (0 < d)) x)∧(∀ t ∈ r,K8 t)∧∀ u r',r = u :: r'→u.k = 7→op = 2
 | 0,_,_,_,_,_,_,_,_,_,h => by cases h
 | f + 1,[],op,ie,d,c,l,r,c',hg,h => by
  simp [pl] at h
  obtain ⟨rfl,rfl,rfl⟩:=h
  exact ⟨by simp,hg,fun u r' h => by cases h⟩
 | f + 1,t :: ts,op,ie,d,c,l,r,c',hg,h => by
  have hgt:∀ u ∈ ts,K8 u:=fun u hu => hg u (by simp [hu])
  have hg0:t.k≤8:=hg t (by simp)
  unfold pl at h
  split at h
  ·rename_i h7
   split at h
   ·rename_i ho
    simp at h;obtain ⟨rfl,rfl,rfl⟩:=h
    exact ⟨by simp,hg,fun u r' he hu => ho.1⟩
   ·cases h
  rename_i h7
  split at h
  ·rename_i h8
   split at h
   ·cases h
   ·simp at h;obtain ⟨rfl,rfl,rfl⟩:=h
    refine ⟨by simp,hg,fun u r' he hu => ?_⟩
    injection he with h1 h2
    subst h1
    omega
  rename_i h8
  split at h
  ·cases h
  rename_i hd
  have h6:t.k≤6:=by omega
  have hn6:decide (0 < d) = true→t.k ≠ 6:=fun h e => hd (.inl ⟨e,of_decide_eq_true h⟩)
  split at h
  ·cases h
  split at h
  ·obtain ⟨l1,rfl,h1⟩:=cons_ok h
   obtain ⟨e1,e2,e3⟩:=pl_wk f ts _ _ _ _ _ _ _ hgt h1
   refine ⟨fun x hx => ?_,e2,e3⟩
   rcases List.mem_cons.1 hx with rfl | hx
   ·exact nd_wk h6 hn6 (fun _ => rfl) (fun _ => rfl) (fun _ => rfl) (fun _ => rfl) (by simp) (by simp)
   ·exact e1 x hx
  rename_i hbk
  have hbk:blk t.k = true:=by simpa using hbk
  split at h
  ·cases h
  rename_i b r1 c1 hp
  obtain ⟨e1,e2,e3⟩:=pl_wk f ts _ _ _ _ _ _ _ hgt hp
  rw [decide_eq_true (show 0 < d + 1 by omega)] at e1
  split at h
  ·cases h
  rename_i u r2
  split at h
  ·rename_i hu7
   have ho2:=e3 u r2 rfl hu7
   split at h
   ·cases h
   rename_i b2 r3 c2 hp2
   obtain ⟨f1,f2,f3⟩:=pl_wk f r2 _ _ _ _ _ _ _ (fun v hv => e2 v (by simp [hv])) hp2
   rw [decide_eq_true (show 0 < d + 1 by omega)] at f1
   split at h
   ·cases h
   rename_i v r4
   obtain ⟨l1,rfl,h1⟩:=cons_ok h
   obtain ⟨g1,g2,g3⟩:=pl_wk f r4 _ _ _ _ _ _ _ (fun y hy => f2 y (by simp [hy])) h1
   refine ⟨fun x hx => ?_,g2,g3⟩
   rcases List.mem_cons.1 hx with rfl | hx
   ·exact nd_wk h6 hn6 (fun h => by cases h) (fun h => absurd ho2 h) (fun h => absurd ho2 h) (fun h => by rw [hbk] at h;cases h) e1 f1
   ·exact g1 x hx
  ·obtain ⟨l1,rfl,h1⟩:=cons_ok h
   obtain ⟨g1,g2,g3⟩:=pl_wk f r2 _ _ _ _ _ _ _ (fun v hv => e2 v (by simp [hv])) h1
   refine ⟨fun x hx => ?_,g2,g3⟩
   rcases List.mem_cons.1 hx with rfl | hx
   ·exact nd_wk h6 hn6 (fun _ => rfl) (fun _ => rfl) (fun _ => rfl) (fun h => by rw [hbk] at h;cases h) e1 (by simp)
   ·exact g1 x hx
theorem form_k8 {ws:List (List UInt8)} {k:Nat} {n:List UInt8} {p:Option (List UInt8)} (h:formW ws = some (k,n,p)):k≤8:=by
 unfold formW at h
 split at h
 ·cases h
 all_goals (repeat' (split at h))
 all_goals first
  | (cases h;done)
  | (simp at h;obtain ⟨rfl,_⟩:=h;omega)
  | (simp at h;omega)
theorem dir_k8 {ws:List (List UInt8)} {t:Tok} (h:dirOf ws = .ok t):K8 t:=by
 unfold dirOf at h
 cases hf:formW ws with
 | none => rw [hf] at h;cases h
 | some r =>
  obtain ⟨k,n,p⟩:=r
  rw [hf] at h
  dsimp only at h
  split at h
  ·injection h with h
   subst h
   exact form_k8 hf
  ·cases h
theorem lx_k8 {l:List UInt8} {a:Nat} {ts:List Tok} (h:Lx l a ts):∀ t ∈ ts,K8 t:=by
 induction h with
 | nil a => simp
 | all l a hl hf => intro t ht;simp at ht;subst ht;exact Nat.zero_le _
 | text l a k ts hf _ ih =>
  intro t ht
  rcases List.mem_cons.1 ht with rfl | ht
  ·exact Nat.zero_le _
  ·exact ih t ht
 | dir l a e t ts hf hc hd _ ih =>
  intro u hu
  rcases List.mem_cons.1 hu with rfl | hu
  ·exact (show K8 t from dir_k8 hd)
  ·exact ih u hu
theorem Parsed.wk {l:List NT} (h:Parsed l):∀ x,x ∈ l→Wk false x:=by
 obtain ⟨x,ts,c,hx,hl,hp⟩:=h
 exact (pl_wk _ ts _ _ _ _ _ _ _ (lx_k8 hl) hp).1
theorem wk_counts (t:NT):∀ n,Wk n t→szr t = siz t∧prr t = prf t:=by
 refine ind (M:=fun t => ∀ n,Wk n t→szr t = siz t∧prr t = prf t) (fun t h1 h2 n h => ?_) t
 have key:∀ l:List NT,(∀ x,x ∈ l→Wk true x)→(∀ x,x ∈ l→∀ n,Wk n x→szr x = siz x∧prr x = prf x)→szrs l = sizs l∧prrs l = prns l:=by
  intro l
  induction l with
  | nil => intro _ _;exact ⟨by rw [szrs_nil,sizs_nil],by rw [prrs_nil,prns_nil]⟩
  | cons x l ih =>
   intro hw hm
   obtain ⟨e1,e2⟩:=hm x (by simp) _ (hw x (by simp))
   obtain ⟨e3,e4⟩:=ih (fun y hy => hw y (by simp [hy])) (fun y hy => hm y (by simp [hy]))
   have h6:=(hw x (by simp)).facts.2.2.1 rfl
   unfold prf at e2
   rw [if_neg h6] at e2
   rw [szrs_cons,sizs_cons,prrs_cons,prns_cons,e1,e2,e3,e4]
   exact ⟨rfl,rfl⟩
 obtain ⟨b1,b2⟩:=key t.b h.body h1
 obtain ⟨l1,l2⟩:=key t.l h.els h2
 obtain ⟨f1,f2,f3,f4,f5,f6⟩:=h.facts
 unfold prf
 rw [szr_eq,siz_eq,prr_eq,prn_eq,b1,b2,l1,l2]
 have hk:t.k = 0 ∨ t.k = 1 ∨ t.k = 2 ∨ t.k = 3 ∨ t.k = 4 ∨ t.k = 5 ∨ t.k = 6:=by omega
 have hl:t.k ≠ 2→prns t.l = 0:=fun h => by rw [f5 h,prns_nil]
 have hb:t.k ≠ 2→t.k ≠ 3→t.k ≠ 6→prns t.b = 0:=fun a b c => by rw [f6 a b c,prns_nil]
 rcases hk with hk | hk | hk | hk | hk | hk | hk
 ·have:=hl (by omega);have:=hb (by omega) (by omega) (by omega);simp [hk];omega
 ·have:=hl (by omega);have:=hb (by omega) (by omega) (by omega);simp [hk];omega
 ·cases he:t.e with
  | false =>
   have h0:=f4 he
   rw [h0,prns_nil,sizs_nil]
   simp [hk]
  | true => simp [hk];omega
 ·have:=hl (by omega);simp [hk];omega
 ·have:=hl (by omega);have:=hb (by omega) (by omega) (by omega);simp [hk];omega
 ·have:=hl (by omega);have:=hb (by omega) (by omega) (by omega);simp [hk];omega
 ·have:=hl (by omega);simp [hk];omega
theorem wk_szrs:∀ {n:Bool} {l:List NT},(∀ x,x ∈ l→Wk n x)→szrs l = sizs l∧prrs l = (l.map prf).sum
 | n,[],_ => ⟨by rw [szrs_nil,sizs_nil],by rw [prrs_nil];rfl⟩
 | n,x :: l,h => by
  obtain ⟨e1,e2⟩:=wk_counts x n (h x (by simp))
  obtain ⟨e3,e4⟩:=wk_szrs (n:=n) (l:=l) fun y hy => h y (by simp [hy])
  rw [szrs_cons,sizs_cons,prrs_cons,List.map_cons,List.sum_cons,e1,e2,e3,e4]
  exact ⟨rfl,rfl⟩
end
section
open NT
theorem dfs_fst:∀ (l:List NT) (es:List Nat),(dfs l es).map (fun d => d.1) = defsN l
 | [],_ => rfl
 | x :: l,es => by
  unfold dfs defsN
  by_cases h:x.k = 6
  ·rw [if_pos h,List.map_cons,dfs_fst l,List.filter_cons_of_pos (by unfold isDef;exact beq_iff_eq.2 h)]
   rfl
  ·rw [if_neg h,dfs_fst l,List.filter_cons_of_neg (by unfold isDef;rw [beq_iff_eq];exact h)]
   rfl
theorem nmsOf_dfs (l:List NT) (es:List Nat):nmsOf (dfs l es) = namesN l:=by
 unfold nmsOf namesN
 rw [← dfs_fst l es,List.map_map]
 rfl
theorem nodup_key17:∀ {l:List NT},(l.map NT.s).Nodup→∀ x y,x ∈ l→y ∈ l→x.s = y.s→x = y
 | [],_,x,y,h,_,_ => by cases h
 | z :: l,hn,x,y,hx,hy,he => by
  rw [List.map_cons,List.nodup_cons] at hn
  rcases List.mem_cons.1 hx with rfl | hx1
  ·rcases List.mem_cons.1 hy with rfl | hy1
   ·rfl
   ·exact absurd (by rw [he];exact List.mem_map_of_mem hy1) hn.1
  ·rcases List.mem_cons.1 hy with rfl | hy1
   ·exact absurd (by rw [← he];exact List.mem_map_of_mem hx1) hn.1
   ·exact nodup_key17 hn.2 x y hx1 hy1 he
theorem find_dfs {l:List NT} {a:Int} (hc:checkN l = (a,0)) {es:List Nat} {d:NT × List Nat} (hd:d ∈ dfs l es):findN l d.1.s = some d.1:=by
 obtain ⟨h1,h2,_⟩:=dfs_mem l es d hd
 obtain ⟨t,ht⟩:=findN_of_mem (mem_names.2 ⟨d.1,h1,h2,rfl⟩)
 obtain ⟨t1,t2,t3⟩:=findN_some ht
 have key:=nodup_key17 (l:=defsN l) (checkN_ok hc).1 t d.1 (by unfold defsN isDef;rw [List.mem_filter];exact ⟨t1,beq_iff_eq.2 t2⟩) (by unfold defsN isDef;rw [List.mem_filter];exact ⟨h1,beq_iff_eq.2 h2⟩) t3
 rw [ht,key]
def IR.Nz:IR→Prop | .ok _ _ => True | .no _ e => e ≠ 0
theorem IR.Nz.next {r:IR} {f:HS→List Nat→IR} (h1:r.Nz) (h2:∀ s es,(f s es).Nz):(r.next f).Nz:=by
 cases r with
 | no a e => exact h1
 | ok s es => exact h2 s es
theorem listI_nz_of:∀ (l:List NT),(∀ x,x ∈ l→∀ s,(nodeI s x).Nz)→∀ s,(listI s l).Nz
 | [],_,s => by rw [listI_nil];exact trivial
 | x :: l,hm,s => by
  rw [listI_cons]
  exact (hm x (by simp) s).next fun s1 e1 => (listI_nz_of l (fun y hy => hm y (by simp [hy])) s1).next fun s2 e2 => trivial
theorem nodeI_nz (t:NT):∀ s,(nodeI s t).Nz:=by
 refine ind (M:=fun t => ∀ s,(nodeI s t).Nz) (fun t h1 h2 s => ?_) t
 have no:∀ a e,e ≠ 0→(IR.no a e).Nz:=fun a e h => h
 rw [nodeI_eq]
 split
 ·exact trivial
 split
 ·split
  ·exact trivial
  ·exact no _ _ (by decide)
 split
 ·refine (listI_nz_of _ h1 s).next fun s1 e1 => (listI_nz_of _ h2 s).next fun s2 e2 => ?_
  split
  ·exact trivial
  ·exact no _ _ (by decide)
 split
 ·refine (listI_nz_of _ h1 s).next fun s1 e1 => ?_
  split
  ·exact trivial
  ·exact no _ _ (by decide)
 split
 ·split
  ·exact trivial
  ·exact no _ _ (by decide)
 split
 ·refine (listI_nz_of _ h1 (s0 0)).next fun s1 e1 => ?_
  split
  ·exact trivial
  ·exact no _ _ (by decide)
 ·exact trivial
def IR.Ln17 (r:IR) (n:Nat):Prop:=∀ s es,r = .ok s es→es.length = n
theorem IR.Ln17.next {r:IR} {f:HS→List Nat→IR} {m n:Nat} (h1:r.Ln17 m) (h2:∀ s es,es.length = m→(f s es).Ln17 n):(r.next f).Ln17 n:=by
 intro s es h
 cases r with
 | no a e => cases h
 | ok s' es' => exact h2 s' es' (h1 s' es' rfl) s es h
theorem IR.Ln17.no (a:Int) (e n:Nat):(IR.no a e).Ln17 n:=fun _ _ h => by cases h
theorem IR.Ln17.ok {s:HS} {es:List Nat} {n:Nat} (h:es.length = n):(IR.ok s es).Ln17 n:=fun _ _ g => by
 injection g with _ g2
 rw [← g2,h]
theorem listI_ln_of:∀ (l:List NT) (n:Bool),(∀ x,x ∈ l→Wk n x)→(∀ x,x ∈ l→∀ n,Wk n x→∀ s,(nodeI s x).Ln17 (prf x))→∀ s,(listI s l).Ln17 (l.map prf).sum
 | [],n,_,_,s => by rw [listI_nil];exact .ok rfl
 | x :: l,n,hw,hm,s => by
  rw [listI_cons,List.map_cons,List.sum_cons]
  refine (hm x (by simp) n (hw x (by simp)) s).next fun s1 e1 h1 => (listI_ln_of l n (fun y hy => hw y (by simp [hy])) (fun y hy => hm y (by simp [hy])) s1).next fun s2 e2 h2 => .ok ?_
  rw [List.length_append,h1,h2]
theorem sum_prns:∀ {l:List NT},(∀ x,x ∈ l→Wk true x)→(l.map prf).sum = prns l
 | [],_ => by rw [prns_nil];rfl
 | x :: l,h => by
  rw [List.map_cons,List.sum_cons,prns_cons,sum_prns fun y hy => h y (by simp [hy])]
  unfold prf
  rw [if_neg ((h x (by simp)).facts.2.2.1 rfl)]
theorem nodeI_ln17 (t:NT):∀ n,Wk n t→∀ s,(nodeI s t).Ln17 (prf t):=by
 refine ind (M:=fun t => ∀ n,Wk n t→∀ s,(nodeI s t).Ln17 (prf t)) (fun t h1 h2 n h s => ?_) t
 have hb:=fun s => listI_ln_of t.b true h.body h1 s
 have hl:=fun s => listI_ln_of t.l true h.els h2 s
 simp only [sum_prns h.body] at hb
 simp only [sum_prns h.els] at hl
 obtain ⟨f1,f2,f3,f4,f5,f6⟩:=h.facts
 have hk:t.k = 0 ∨ t.k = 1 ∨ t.k = 2 ∨ t.k = 3 ∨ t.k = 4 ∨ t.k = 5 ∨ t.k = 6:=by omega
 rw [nodeI_eq]
 unfold prf
 rw [prn_eq]
 rcases hk with hk | hk | hk | hk | hk | hk | hk
 ·simp [hk];exact .ok rfl
 ·simp [hk]
  split
  ·exact .ok rfl
  ·exact .no _ _ _
 ·simp [hk]
  refine (hb s).next fun s1 e1 g1 => (hl s).next fun s2 e2 g2 => ?_
  split
  ·refine .ok ?_
   rw [List.length_append,g1,g2]
   cases he:t.e with
   | true => simp
   | false => rw [f4 he,prns_nil];simp
  ·exact .no _ _ _
 ·simp [hk]
  refine (hb s).next fun s1 e1 g1 => ?_
  split
  ·exact .ok g1
  ·exact .no _ _ _
 ·simp [hk]
  split
  ·exact .ok rfl
  ·exact .no _ _ _
 ·simp [hk];exact .ok rfl
 ·simp [hk]
  refine (hb (s0 0)).next fun s1 e1 g1 => ?_
  split
  ·exact .ok g1
  ·exact .no _ _ _
theorem listI_ln17 {n:Bool} {l:List NT} (h:∀ x,x ∈ l→Wk n x) {s t:HS} {es:List Nat} (he:listI s l = .ok t es):es.length = (l.map prf).sum :=
 listI_ln_of l n h (fun x _ => nodeI_ln17 x) s t es he
theorem inferI_len {n:Bool} {l:List NT} (h:∀ x,x ∈ l→Wk n x) {es:List Nat} {a:Int} (he:inferI l = (es,a,0)):es.length = (l.map prf).sum∧a = 0∧∀ k,k ∈ es→k≤4:=by
 unfold inferI at he
 cases hr:listI (s0 0) l with
 | no b e =>
  rw [hr] at he
  have h2:=listI_nz_of l (fun x _ => nodeI_nz x) (s0 0)
  rw [hr] at h2
  injection he with _ g
  injection g with _ g
  exact absurd g h2
 | ok s fs =>
  rw [hr] at he
  dsimp only at he
  split at he
  ·injection he with g1 g2
   injection g2 with g2 g3
   subst g1
   exact ⟨listI_ln17 h hr,g2.symm,listI_esc hr⟩
  ·injection he with _ g
   injection g with _ g
   cases g
theorem dfs_lens:∀ (l:List NT) (es:List Nat),es.length = (l.map prf).sum→∀ d,d ∈ dfs l es→d.2.length = prns d.1.b
 | [],es,_,d,h => by cases h
 | x :: l,es,hl,d,h => by
  rw [List.map_cons,List.sum_cons] at hl
  have hl2:(es.drop (prf x)).length = (l.map prf).sum:=by rw [List.length_drop];omega
  unfold dfs at h
  split at h
  ·rename_i hk
   rcases List.mem_cons.1 h with rfl | h
   ·show (es.take (prf x)).length = _
    rw [List.length_take,Nat.min_eq_left (by omega)]
    unfold prf
    rw [if_pos hk]
   ·exact dfs_lens l _ hl2 d h
  ·exact dfs_lens l _ hl2 d h
theorem mainE_len:∀ (l:List NT) (es:List Nat),es.length = (l.map prf).sum→(mainE l es).length = prns l
 | [],es,_ => by rw [prns_nil];rfl
 | x :: l,es,hl => by
  rw [List.map_cons,List.sum_cons] at hl
  have hl2:(es.drop (prf x)).length = (l.map prf).sum:=by rw [List.length_drop];omega
  unfold mainE
  rw [prns_cons]
  split
  ·rename_i hk
   rw [mainE_len l _ hl2,prn_eq,if_neg (by omega),if_neg (by omega),if_neg (by omega),Nat.zero_add]
  ·rename_i hk
   rw [List.length_append,mainE_len l _ hl2,List.length_take,Nat.min_eq_left (by omega)]
   unfold prf
   rw [if_neg hk]
theorem take_at17 {l:List NT} {i:Nat} {x:NT} (h:l[i]? = some x):l.take (i + 1) = l.take i ++ [x]:=by
 rw [List.take_add_one,h]
 rfl
def pfx (l:List NT) (i:Nat):Nat:=((l.take i).map prf).sum
theorem pfx_step {l:List NT} {i:Nat} {x:NT} (h:l[i]? = some x):pfx l (i + 1) = pfx l i + prf x:=by
 unfold pfx
 rw [take_at17 h,List.map_append,List.sum_append]
 simp
theorem pfx_le {l:List NT} {i:Nat} {x:NT} (h:l[i]? = some x):pfx l i + prf x≤(l.map prf).sum:=by
 rw [← pfx_step h]
 unfold pfx
 conv => rhs;rw [← List.take_append_drop (i + 1) l]
 rw [List.map_append,List.sum_append]
 omega
theorem dfs_take {l:List NT} {i:Nat} {x:NT} (h:l[i]? = some x) (es:List Nat):dfs (l.take (i + 1)) es = dfs (l.take i) es ++ (if x.k = 6 then [(x,(es.drop (pfx l i)).take (prf x))] else []):=by
 rw [take_at17 h,dfs_snoc]
 show _ = dfs (l.take i) es ++ _
 congr 1
theorem mainE_take {l:List NT} {i:Nat} {x:NT} (h:l[i]? = some x) (es:List Nat):mainE (l.take (i + 1)) es = mainE (l.take i) es ++ (if x.k = 6 then [] else (es.drop (pfx l i)).take (prf x)):=by
 rw [take_at17 h,mainE_snoc]
 congr 1
 show (if x.k = 6 then mainE [] _ else _ ++ mainE [] _) = _
 unfold mainE
 rw [List.append_nil]
 rfl
theorem defsC_snoc (ad:ByteArray→Nat):∀ (ds:List (NT × List Nat)) (d:NT × List Nat) (a:Nat),defsC ad (ds ++ [d]) a = defsC ad ds a ++ ((listC ad (a + dsz ds) d.2 d.1.b).1 ++ [⟨7,eB,eB,false,0,0⟩])
 | [],d,a => by simp [defsC,dsz]
 | e :: r,d,a => by
  rw [List.cons_append]
  unfold defsC dsz
  rw [defsC_snoc ad r,List.append_assoc,List.cons_append,show a + sizs e.1.b + 1 + dsz r = a + (sizs e.1.b + 1 + dsz r) by omega]
theorem defsC_take (ad:ByteArray→Nat) {ds:List (NT × List Nat)} {i:Nat} {d:NT × List Nat} (h:ds[i]? = some d) (a:Nat):defsC ad (ds.take (i + 1)) a = defsC ad (ds.take i) a ++ ((listC ad (a + dsz (ds.take i)) d.2 d.1.b).1 ++ [⟨7,eB,eB,false,0,0⟩]):=by
 have e:ds.take (i + 1) = ds.take i ++ [d]:=by rw [List.take_add_one,h];rfl
 rw [e,defsC_snoc]
end
section
open NT
theorem eqH_eq {s t:HS} (h:eqH s t = true):s = t:=(eqH_iff s t).1 h
theorem nodeI_def {x:NT} (h:x.k = 6) {s t:HS} {es:List Nat} (he:nodeI s x = .ok t es):t = s∧listI (s0 0) x.b = .ok (s0 0) es:=by
 rw [nodeI_eq,if_neg (by omega),if_neg (by omega),if_neg (by omega),if_neg (by omega),if_neg (by omega),if_pos h] at he
 cases hr:listI (s0 0) x.b with
 | no a e => rw [hr] at he;cases he
 | ok s1 e1 =>
  rw [hr,IR.next_ok] at he
  split at he
  ·rename_i hq
   injection he with h1 h2
   rw [← h1,← h2,eqH_eq hq]
   exact ⟨rfl,rfl⟩
  ·cases he
theorem mainN_cons (x:NT) (l:List NT):mainN (x :: l) = if x.k = 6 then mainN l else x :: mainN l:=by
 unfold mainN isDef
 by_cases h:x.k = 6
 ·rw [if_pos h,List.filter_cons_of_neg (by simp [h])]
 ·rw [if_neg h,List.filter_cons_of_pos (by simp [h])]
theorem parts_list:∀ (l:List NT) (s t:HS) (es:List Nat),(∀ x,x ∈ l→Wk false x)→listI s l = .ok t es →
  listI s (mainN l) = .ok t (mainE l es)∧∀ d,d ∈ dfs l es→listI (s0 0) d.1.b = .ok (s0 0) d.2
 | [],s,t,es,_,h => by
  rw [listI_nil] at h
  injection h with h1 h2
  subst h1 h2
  exact ⟨by show listI s [] = _;rw [listI_nil];rfl,fun d hd => by cases hd⟩
 | x :: l,s,t,es,hw,h => by
  rw [listI_cons] at h
  cases hr:nodeI s x with
  | no a e => rw [hr] at h;cases h
  | ok s1 e1 =>
   rw [hr,IR.next_ok] at h
   cases hl:listI s1 l with
   | no a e => rw [hl] at h;cases h
   | ok s2 e2 =>
    rw [hl,IR.next_ok] at h
    injection h with h1 h2
    subst h1 h2
    have hlen:=nodeI_ln17 x false (hw x (by simp)) s s1 e1 hr
    have ht:(e1 ++ e2).take (prf x) = e1:=by rw [← hlen];exact List.take_left
    have hd:(e1 ++ e2).drop (prf x) = e2:=by rw [← hlen];exact List.drop_left
    obtain ⟨g1,g2⟩:=parts_list l s1 s2 e2 (fun y hy => hw y (by simp [hy])) hl
    rw [mainN_cons]
    unfold mainE dfs
    rw [ht,hd]
    by_cases hk:x.k = 6
    ·rw [if_pos hk,if_pos hk,if_pos hk]
     obtain ⟨rfl,h3⟩:=nodeI_def hk hr
     refine ⟨g1,fun d hd => ?_⟩
     rcases List.mem_cons.1 hd with rfl | hd
     ·exact h3
     ·exact g2 d hd
    ·rw [if_neg hk,if_neg hk,if_neg hk]
     refine ⟨?_,g2⟩
     rw [listI_cons,hr,IR.next_ok,g1,IR.next_ok]
theorem inferI_of {l:List NT} {es:List Nat} (h:listI (s0 0) l = .ok (s0 0) es):inferI l = (es,0,0):=by
 unfold inferI
 rw [h]
 dsimp only
 rw [if_pos (eqH_self _)]
theorem of_inferI {l:List NT} {es:List Nat} {a:Int} (h:inferI l = (es,a,0)):listI (s0 0) l = .ok (s0 0) es:=by
 unfold inferI at h
 cases hr:listI (s0 0) l with
 | no b e =>
  rw [hr] at h
  have h2:=listI_nz_of l (fun x _ => nodeI_nz x) (s0 0)
  rw [hr] at h2
  injection h with _ g
  injection g with _ g
  exact absurd g h2
 | ok s fs =>
  rw [hr] at h
  dsimp only at h
  split at h
  ·rename_i hq
   injection h with g1 g2
   rw [← g1,eqH_eq hq]
  ·injection h with _ g
   injection g with _ g
   cases g
theorem parts17 {l:List NT} (hw:∀ x,x ∈ l→Wk false x) {es:List Nat} {a:Int} (h:inferI l = (es,a,0)) :
  inferI (mainN l) = (mainE l es,0,0)∧∀ d,d ∈ dfs l es→inferI d.1.b = (d.2,0,0):=by
 obtain ⟨h1,h2⟩:=parts_list l _ _ _ hw (of_inferI h)
 exact ⟨inferI_of h1,fun d hd => inferI_of (h2 d hd)⟩
theorem listC_main (ad:ByteArray→Nat):∀ (l:List NT) (a:Nat) (es:List Nat),listC ad a es (mainN l) = listC ad a es l
 | [],a,es => rfl
 | x :: l,a,es => by
  rw [mainN_cons]
  by_cases hk:x.k = 6
  ·rw [if_pos hk,listC_main ad l,listC_cons]
   unfold seqC
   rw [nodeC_eq,if_neg (by omega),if_neg (by omega),if_neg (by omega),if_neg (by omega),if_neg (by omega),if_neg (by omega)]
   simp
  ·rw [if_neg hk,listC_cons,listC_cons]
   unfold seqC
   simp only [listC_main ad l]
theorem sizs_main:∀ l:List NT,sizs (mainN l) = sizs l
 | [] => rfl
 | x :: l => by
  rw [mainN_cons]
  by_cases hk:x.k = 6
  ·rw [if_pos hk,sizs_main l,sizs_cons,siz_eq,if_neg (by omega),if_neg (by omega),if_neg (by omega),Nat.zero_add]
  ·rw [if_neg hk,sizs_cons,sizs_cons,sizs_main l]
theorem prns_main:∀ l:List NT,prns (mainN l) = prns l
 | [] => rfl
 | x :: l => by
  rw [mainN_cons]
  by_cases hk:x.k = 6
  ·rw [if_pos hk,prns_main l,prns_cons,prn_eq,if_neg (by omega),if_neg (by omega),if_neg (by omega),Nat.zero_add]
  ·rw [if_neg hk,prns_cons,prns_cons,prns_main l]
abbrev CK:=Nat × ByteArray
mutual
def nodeK (a:Nat):NT→List CK
 | .mk k _ s _ _ e _ _ b _ _ l =>
  if k = 2 then listK (a + 1) b ++ (if e = true then listK (a + 2 + sizs b) l else [])
  else if k = 3 then listK (a + 1) b
  else if k = 4 then [(a,s)]
  else []
def listK (a:Nat):List NT→List CK
 | [] => []
 | x :: l => nodeK a x ++ listK (a + siz x) l
end
theorem nodeK_eq (a:Nat) (t:NT):nodeK a t =
  if t.k = 2 then listK (a + 1) t.b ++ (if t.e = true then listK (a + 2 + sizs t.b) t.l else [])
  else if t.k = 3 then listK (a + 1) t.b
  else if t.k = 4 then [(a,t.s)]
  else []:=by
 cases t
 rw [nodeK]
 rfl
theorem listK_nil (a:Nat):listK a [] = []:=by rw [listK]
theorem listK_cons (a:Nat) (x:NT) (l:List NT):listK a (x :: l) = nodeK a x ++ listK (a + siz x) l:=by rw [listK]
theorem listK_append:∀ (l m:List NT) (a:Nat),listK a (l ++ m) = listK a l ++ listK (a + sizs l) m
 | [],m,a => by rw [List.nil_append,listK_nil,sizs_nil];rfl
 | x :: l,m,a => by
  rw [List.cons_append,listK_cons,listK_cons,listK_append l m,sizs_cons,List.append_assoc,Nat.add_assoc]
theorem listK_take {l:List NT} {i:Nat} {x:NT} (h:l[i]? = some x) (a:Nat):listK a (l.take (i + 1)) = listK a (l.take i) ++ nodeK (a + sizs (l.take i)) x:=by
 rw [take_at17 h,listK_append,listK_cons,listK_nil,List.append_nil]
theorem sizs_take {l:List NT} {i:Nat} {x:NT} (h:l[i]? = some x):sizs (l.take (i + 1)) = sizs (l.take i) + siz x:=by
 rw [take_at17 h,sizs_append,sizs_cons,sizs_nil,Nat.add_zero]
theorem prns_take {l:List NT} {i:Nat} {x:NT} (h:l[i]? = some x):prns (l.take (i + 1)) = prns (l.take i) + prn x:=by
 rw [take_at17 h,prns_append,prns_cons,prns_nil,Nat.add_zero]
theorem sizs_take_le (l:List NT) (i:Nat):sizs (l.take i)≤sizs l:=by
 conv => rhs;rw [← List.take_append_drop i l]
 rw [sizs_append]
 omega
theorem prns_take_le (l:List NT) (i:Nat):prns (l.take i)≤prns l:=by
 conv => rhs;rw [← List.take_append_drop i l]
 rw [prns_append]
 omega
theorem listK_len_of:∀ (l:List NT),(∀ x,x ∈ l→∀ a,(nodeK a x).length≤siz x)→∀ a,(listK a l).length≤sizs l
 | [],_,a => by rw [listK_nil,sizs_nil];exact Nat.le_refl _
 | x :: l,h,a => by
  have:=h x (by simp) a
  have:=listK_len_of l (fun y hy => h y (by simp [hy])) (a + siz x)
  rw [listK_cons,sizs_cons,List.length_append]
  omega
theorem nodeK_len (t:NT):∀ a,(nodeK a t).length≤siz t:=by
 refine ind (M:=fun t => ∀ a,(nodeK a t).length≤siz t) (fun t hb hl a => ?_) t
 have h1:=listK_len_of t.b hb (a + 1)
 have h2:=listK_len_of t.l hl (a + 2 + sizs t.b)
 rw [nodeK_eq,siz_eq]
 split
 ·rw [List.length_append]
  split
  ·omega
  ·simp;omega
 split
 ·omega
 split
 ·rename_i h4
  rw [if_pos (by omega)]
  simp
 ·simp
theorem listK_len (l:List NT) (a:Nat):(listK a l).length≤sizs l:=listK_len_of l (fun x _ => nodeK_len x) a
def stT (L:List IN) (i t:Nat):List IN:=L.modify i fun x => { x with t:=t }
def lnk (ad:ByteArray→Nat) (L:List IN):List CK→List IN
 | [] => L
 | k :: r => lnk ad (stT L k.1 (ad k.2)) r
theorem stT_len (L:List IN) (i t:Nat):(stT L i t).length = L.length:=by unfold stT;rw [List.length_modify]
theorem lnk_len (ad:ByteArray→Nat):∀ (ks:List CK) (L:List IN),(lnk ad L ks).length = L.length
 | [],L => rfl
 | k :: r,L => by rw [lnk,lnk_len ad r,stT_len]
theorem lnk_append (ad:ByteArray→Nat):∀ (ks ms:List CK) (L:List IN),lnk ad L (ks ++ ms) = lnk ad (lnk ad L ks) ms
 | [],ms,L => rfl
 | k :: r,ms,L => by rw [List.cons_append,lnk,lnk,lnk_append ad r]
theorem lnk_take (ad:ByteArray→Nat) {ks:List CK} {i:Nat} {k:CK} (h:ks[i]? = some k) (L:List IN):lnk ad L (ks.take (i + 1)) = stT (lnk ad L (ks.take i)) k.1 (ad k.2):=by
 rw [List.take_add_one,h,lnk_append]
 rfl
theorem stT_at (P S:List IN) (x:IN) {i:Nat} (h:i = P.length) (t:Nat):stT (P ++ x :: S) i t = P ++ { x with t:=t } :: S:=by
 subst h
 unfold stT
 induction P with
 | nil => rfl
 | cons p P ih => exact congrArg (p :: ·) ih
def LnkOk (ad:ByteArray→Nat) (a:Nat) (c d:List IN) (ks:List CK):Prop:=∀ P S:List IN,P.length = a→lnk ad (P ++ (c ++ S)) ks = P ++ (d ++ S)
theorem LnkOk.nil (ad:ByteArray→Nat) (a:Nat) (c:List IN):LnkOk ad a c c []:=fun P S h => rfl
theorem LnkOk.append {ad:ByteArray→Nat} {a:Nat} {c d c2 d2:List IN} {ks ms:List CK} (hl:d.length = c.length) (h1:LnkOk ad a c d ks) (h2:LnkOk ad (a + c.length) c2 d2 ms):LnkOk ad a (c ++ c2) (d ++ d2) (ks ++ ms):=by
 intro P S h
 rw [lnk_append,List.append_assoc,h1 P (c2 ++ S) h]
 have:=h2 (P ++ d) S (by rw [List.length_append,h,hl])
 rw [List.append_assoc,List.append_assoc] at this
 rw [this,List.append_assoc]
theorem LnkOk.front {ad:ByteArray→Nat} {a:Nat} {c d:List IN} {ks:List CK} (x:IN) (h:LnkOk ad (a + 1) c d ks):LnkOk ad a (x :: c) (x :: d) ks:=by
 intro P S hP
 have:=h (P ++ [x]) S (by rw [List.length_append,hP];rfl)
 rw [List.append_assoc,List.append_assoc] at this
 exact this
theorem LnkOk.back {ad:ByteArray→Nat} {a:Nat} {c d:List IN} {ks:List CK} (s:List IN) (h:LnkOk ad a c d ks):LnkOk ad a (c ++ s) (d ++ s) ks:=by
 intro P S hP
 have:=h P (s ++ S) hP
 rw [List.append_assoc,List.append_assoc]
 exact this
abbrev Z0:ByteArray→Nat:=fun _ => 0
theorem listC_es (ad ad2:ByteArray→Nat) (a a2:Nat) (es:List Nat) (l:List NT):(listC ad a es l).2 = (listC ad2 a2 es l).2:=by rw [(listC_ok ad l a es).es,(listC_ok ad2 l a2 es).es]
theorem nodeC_es (ad ad2:ByteArray→Nat) (a a2:Nat) (es:List Nat) (x:NT):(nodeC ad a es x).2 = (nodeC ad2 a2 es x).2:=by rw [(nodeC_ok ad x a es).es,(nodeC_ok ad2 x a2 es).es]
theorem listC_lnk_of (ad:ByteArray→Nat) (l:List NT) (h:∀ x,x ∈ l→∀ a es,LnkOk ad a (nodeC Z0 a es x).1 (nodeC ad a es x).1 (nodeK a x)):∀ a es,LnkOk ad a (listC Z0 a es l).1 (listC ad a es l).1 (listK a l):=by
 induction l with
 | nil => intro a es;rw [listC_nil,listC_nil,listK_nil];exact .nil _ _ _
 | cons x l ih =>
  intro a es
  have l1:=(nodeC_ok Z0 x a es).len
  have l2:=(nodeC_ok ad x a es).len
  rw [listC_cons,listC_cons,listK_cons]
  unfold seqC
  dsimp only
  rw [nodeC_es Z0 ad a a es x,l1,l2]
  refine .append (by rw [l1,l2]) (h x (by simp) a es) ?_
  rw [l1]
  exact ih (fun y hy => h y (by simp [hy])) _ _
theorem nodeC_lnk (ad:ByteArray→Nat) (t:NT):∀ a es,LnkOk ad a (nodeC Z0 a es t).1 (nodeC ad a es t).1 (nodeK a t):=by
 refine ind (M:=fun t => ∀ a es,LnkOk ad a (nodeC Z0 a es t).1 (nodeC ad a es t).1 (nodeK a t)) (fun t hb hl a es => ?_) t
 have HB:=listC_lnk_of ad t.b hb (a + 1) es
 have l1:=(listC_ok Z0 t.b (a + 1) es).len
 have l2:=(listC_ok ad t.b (a + 1) es).len
 rw [nodeC_eq,nodeC_eq,nodeK_eq]
 by_cases h0:t.k = 0
 ·simp [h0];exact .nil _ _ _
 by_cases h1:t.k = 1
 ·simp [h1];exact .nil _ _ _
 by_cases h2:t.k = 2
 ·rw [if_neg h0,if_neg h1,if_pos h2,if_neg h0,if_neg h1,if_pos h2,if_pos h2]
  unfold ifC
  by_cases he:t.e = true
  ·rw [if_pos he,if_pos he,if_pos he]
   dsimp only
   rw [listC_es Z0 ad (a + 1) (a + 1) es t.b,l1,l2]
   have HL:=listC_lnk_of ad t.l hl (a + 2 + sizs t.b) (listC ad (a + 1) es t.b).2
   have m1:=(listC_ok Z0 t.l (a + 2 + sizs t.b) (listC ad (a + 1) es t.b).2).len
   have m2:=(listC_ok ad t.l (a + 2 + sizs t.b) (listC ad (a + 1) es t.b).2).len
   rw [m1,m2]
   refine .front _ (.append (by rw [l1,l2]) HB (.front _ ?_))
   rw [l1,show a + 1 + sizs t.b + 1 = a + 2 + sizs t.b by omega]
   exact HL
  ·rw [if_neg he,if_neg he,if_neg he,List.append_nil]
   dsimp only
   rw [l1,l2]
   exact .front _ HB
 by_cases h3:t.k = 3
 ·rw [if_neg h0,if_neg h1,if_neg h2,if_pos h3,if_neg h0,if_neg h1,if_neg h2,if_pos h3,if_neg h2,if_pos h3]
  unfold rangeC
  dsimp only
  rw [l1,l2]
  exact .front _ (.back _ HB)
 by_cases h4:t.k = 4
 ·rw [if_neg h0,if_neg h1,if_neg h2,if_neg h3,if_pos h4,if_neg h0,if_neg h1,if_neg h2,if_neg h3,if_pos h4,if_neg h2,if_neg h3,if_pos h4]
  intro P S h
  show stT (P ++ _ :: S) a (ad t.s) = _
  rw [stT_at P S _ h.symm]
  rfl
 by_cases h5:t.k = 5
 ·simp [h5];exact .nil _ _ _
 ·simp [h0,h1,h2,h3,h4,h5];exact .nil _ _ _
theorem listC_lnk (ad:ByteArray→Nat) (l:List NT) (a:Nat) (es:List Nat):LnkOk ad a (listC Z0 a es l).1 (listC ad a es l).1 (listK a l):=listC_lnk_of ad l (fun x _ => nodeC_lnk ad x) a es
def defsK:List (NT × List Nat)→Nat→List CK
 | [],_ => []
 | d :: r,a => listK a d.1.b ++ defsK r (a + sizs d.1.b + 1)
theorem defsC_lnk (ad:ByteArray→Nat):∀ (ds:List (NT × List Nat)) (a:Nat),LnkOk ad a (defsC Z0 ds a) (defsC ad ds a) (defsK ds a)
 | [],a => .nil _ _ _
 | d :: r,a => by
  have l1:=(listC_ok Z0 d.1.b a d.2).len
  have l2:=(listC_ok ad d.1.b a d.2).len
  unfold defsC defsK
  refine .append (by rw [l1,l2]) (listC_lnk ad d.1.b a d.2) (.front _ ?_)
  rw [l1]
  exact defsC_lnk ad r _
theorem defsK_snoc:∀ (ds:List (NT × List Nat)) (d:NT × List Nat) (a:Nat),defsK (ds ++ [d]) a = defsK ds a ++ listK (a + dsz ds) d.1.b
 | [],d,a => by simp [defsK,dsz]
 | e :: r,d,a => by
  rw [List.cons_append]
  unfold defsK dsz
  rw [defsK_snoc r,List.append_assoc,show a + sizs e.1.b + 1 + dsz r = a + (sizs e.1.b + 1 + dsz r) by omega]
theorem defsK_len:∀ (ds:List (NT × List Nat)) (a:Nat),(defsK ds a).length≤dsz ds
 | [],a => Nat.le_refl _
 | d :: r,a => by
  have:=listK_len d.1.b a
  have:=defsK_len r (a + sizs d.1.b + 1)
  unfold defsK dsz
  rw [List.length_append]
  omega
def codeZ (l:List NT) (ds:List (NT × List Nat)) (es:List Nat):List IN :=
 (listC Z0 0 es l).1 ++ ⟨9,eB,eB,false,0,0⟩ :: defsC Z0 ds (sizs l + 1)
def callsZ (l:List NT) (ds:List (NT × List Nat)):List CK:=listK 0 l ++ defsK ds (sizs l + 1)
theorem code_lnk (l:List NT) (es:List Nat):lnk (adr (dfs l es) (sizs l + 1)) (codeZ (mainN l) (dfs l es) (mainE l es)) (callsZ (mainN l) (dfs l es)) = codeW l es:=by
 have l1:=(listC_ok Z0 (mainN l) 0 (mainE l es)).len
 have l2:=(listC_ok (adr (dfs l es) (sizs l + 1)) (mainN l) 0 (mainE l es)).len
 unfold codeZ callsZ codeW
 rw [sizs_main] at l1 l2 ⊢
 have h:=(listC_lnk (adr (dfs l es) (sizs l + 1)) (mainN l) 0 (mainE l es)).append (by rw [l1,l2]) (.front ⟨9,eB,eB,false,0,0⟩ (by rw [l1,Nat.zero_add];exact defsC_lnk (adr (dfs l es) (sizs l + 1)) (dfs l es) (sizs l + 1)))
 have:=h [] [] rfl
 rw [List.append_nil,List.append_nil,List.nil_append,List.nil_append] at this
 rw [this,listC_main]
theorem adr_snoc:∀ (ds:List (NT × List Nat)) (d:NT × List Nat) (a:Nat) (nm:ByteArray),nm ∉ nmsOf ds→adr (ds ++ [d]) a nm = if d.1.s = nm then a + dsz ds else 0
 | [],d,a,nm,_ => by simp [adr,dsz]
 | e :: r,d,a,nm,h => by
  have h1:¬ e.1.s = nm:=fun g => h (by unfold nmsOf;rw [List.map_cons,g];simp)
  have h2:nm ∉ nmsOf r:=fun g => h (by unfold nmsOf at g ⊢;rw [List.map_cons];exact List.mem_cons_of_mem _ g)
  rw [List.cons_append]
  unfold adr dsz
  rw [if_neg h1,adr_snoc r d _ nm h2,show a + sizs e.1.b + 1 + dsz r = a + (sizs e.1.b + 1 + dsz r) by omega]
theorem adr_old:∀ (ds:List (NT × List Nat)) (d:NT × List Nat) (a:Nat) (nm:ByteArray),nm ∈ nmsOf ds→adr (ds ++ [d]) a nm = adr ds a nm
 | [],d,a,nm,h => by cases h
 | e :: r,d,a,nm,h => by
  rw [List.cons_append]
  unfold adr
  by_cases h1:e.1.s = nm
  ·rw [if_pos h1,if_pos h1]
  ·rw [if_neg h1,if_neg h1,adr_old r d _ nm (by
    unfold nmsOf at h ⊢
    rw [List.map_cons] at h
    rcases List.mem_cons.1 h with g | g
    ·exact absurd g.symm h1
    ·exact g)]
theorem adr_none:∀ (ds:List (NT × List Nat)) (a:Nat) (nm:ByteArray),nm ∉ nmsOf ds→adr ds a nm = 0
 | [],_,_,_ => rfl
 | e :: r,a,nm,h => by
  unfold adr
  rw [if_neg (fun g => h (by unfold nmsOf;rw [List.map_cons,g];simp)),adr_none r _ nm (fun g => h (by unfold nmsOf at g ⊢;rw [List.map_cons];exact List.mem_cons_of_mem _ g))]
def startF (ds:List (NT × List Nat)) (a:Nat) (nm:ByteArray):Option Value:=if hasN (nmsOf ds) nm = true then some (.int .i64 (adr ds a nm:Nat)) else none
theorem startF_get (ds:List (NT × List Nat)) (a:Nat) (nm:ByteArray):(startF ds a nm).getD (.int .i64 0) = .int .i64 (adr ds a nm:Nat):=by
 unfold startF
 split
 ·rfl
 ·rename_i h
  rw [adr_none ds a nm (fun g => h (hasN_iff.2 g))]
  rfl
theorem startF_snoc (ds:List (NT × List Nat)) (d:NT × List Nat) (a:Nat) (h:d.1.s ∉ nmsOf ds) (k:ByteArray):(if k = d.1.s then some (Value.int .i64 (a + dsz ds:Nat)) else startF ds a k) = startF (ds ++ [d]) a k:=by
 have hn:nmsOf (ds ++ [d]) = nmsOf ds ++ [d.1.s]:=by unfold nmsOf;rw [List.map_append];rfl
 unfold startF
 by_cases hk:k = d.1.s
 ·subst hk
  rw [if_pos rfl,if_pos (hasN_iff.2 (by rw [hn];simp)),adr_snoc ds d a _ h,if_pos rfl]
 ·rw [if_neg hk]
  by_cases hm:hasN (nmsOf ds) k = true
  ·rw [if_pos hm,if_pos (hasN_iff.2 (by rw [hn];exact List.mem_append_left _ (hasN_iff.1 hm))),adr_old ds d a k (hasN_iff.1 hm)]
  ·rw [if_neg hm,if_neg (fun g => by
    have:=hasN_iff.1 g
    rw [hn] at this
    rcases List.mem_append.1 this with h1 | h1
    ·exact hm (hasN_iff.2 h1)
    ·exact hk (by simpa using h1))]
theorem nms_take {ds:List (NT × List Nat)} (h:(nmsOf ds).Nodup) {i:Nat} {d:NT × List Nat} (hd:ds[i]? = some d):d.1.s ∉ nmsOf (ds.take i):=by
 intro hm
 have e:nmsOf ds = nmsOf (ds.take i) ++ (d.1.s :: nmsOf (ds.drop (i + 1))):=by
  have hi:=(List.getElem?_eq_some_iff.1 hd).1
  have hx:ds[i] = d:=(List.getElem?_eq_some_iff.1 hd).2
  conv => lhs;rw [← List.take_append_drop i ds,List.drop_eq_getElem_cons hi,hx]
  unfold nmsOf
  rw [List.map_append,List.map_cons]
 rw [e,List.nodup_append] at h
 exact h.2.2 _ hm _ (by simp) rfl
theorem dfs_cons (x:NT) (l:List NT) (es:List Nat):dfs (x :: l) es = if x.k = 6 then (x,es.take (prf x)) :: dfs l (es.drop (prf x)) else dfs l (es.drop (prf x)):=by rw [dfs]
theorem dfs_append:∀ (m r:List NT) (es:List Nat),dfs (m ++ r) es = dfs m es ++ dfs r (es.drop ((m.map prf).sum))
 | [],r,es => rfl
 | y :: m,r,es => by
  rw [List.cons_append,dfs_cons,dfs_cons,dfs_append m r,List.map_cons,List.sum_cons,List.drop_drop]
  split
  ·rfl
  ·rfl
theorem dfs_at {l:List NT} {i:Nat} {x:NT} (h:l[i]? = some x) (hk:x.k = 6) (es:List Nat):(dfs l es)[(dfs (l.take i) es).length]? = some (x,(es.drop (pfx l i)).take (prf x)):=by
 have e:dfs l es = dfs (l.take (i + 1)) es ++ dfs (l.drop (i + 1)) (es.drop (((l.take (i + 1)).map prf).sum)):=by
  rw [← dfs_append,List.take_append_drop]
 rw [e,dfs_take h,if_pos hk,List.append_assoc,List.getElem?_append_right (Nat.le_refl _),Nat.sub_self]
 rfl
theorem dfs_pre (l:List NT) (i:Nat) (es:List Nat):dfs (l.take i) es = (dfs l es).take (dfs (l.take i) es).length:=by
 have ht:dfs l es = dfs (l.take i) es ++ dfs (l.drop i) (es.drop (((l.take i).map prf).sum)):=by rw [← dfs_append,List.take_append_drop]
 rw [ht,List.take_left]
end
section
open NT
theorem listK_lt_of:∀ (l:List NT),(∀ x,x ∈ l→∀ a k,k ∈ nodeK a x→k.1 < a + siz x)→∀ a k,k ∈ listK a l→k.1 < a + sizs l
 | [],_,a,k,h => by rw [listK_nil] at h;cases h
 | x :: l,hm,a,k,h => by
  rw [listK_cons] at h
  rw [sizs_cons]
  rcases List.mem_append.1 h with h | h
  ·have:=hm x (by simp) a k h;omega
  ·have:=listK_lt_of l (fun y hy => hm y (by simp [hy])) (a + siz x) k h;omega
theorem nodeK_lt (t:NT):∀ a k,k ∈ nodeK a t→k.1 < a + siz t:=by
 refine ind (M:=fun t => ∀ a k,k ∈ nodeK a t→k.1 < a + siz t) (fun t hb hl a k h => ?_) t
 have h1:=listK_lt_of t.b hb (a + 1) k
 have h2:=listK_lt_of t.l hl (a + 2 + sizs t.b) k
 rw [nodeK_eq] at h
 rw [siz_eq]
 split at h
 ·rename_i g
  rw [if_pos g]
  rcases List.mem_append.1 h with h | h
  ·have:=h1 h;omega
  ·split at h
   ·rename_i ge
    rw [if_pos ge]
    have:=h2 h;omega
   ·cases h
 split at h
 ·rename_i g2 g
  rw [if_neg g2,if_pos g]
  have:=h1 h;omega
 split at h
 ·rename_i g2 g3 g
  rw [if_neg g2,if_neg g3,if_pos (by omega)]
  rw [List.mem_singleton] at h
  subst h
  show a < a + 1
  omega
 ·cases h
theorem listK_lt (l:List NT) (a:Nat) (k:CK) (h:k ∈ listK a l):k.1 < a + sizs l:=listK_lt_of l (fun x _ => nodeK_lt x) a k h
theorem defsK_lt:∀ (ds:List (NT × List Nat)) (a:Nat) (k:CK),k ∈ defsK ds a→k.1 < a + dsz ds
 | [],a,k,h => by cases h
 | d :: r,a,k,h => by
  unfold defsK at h
  unfold dsz
  rcases List.mem_append.1 h with h | h
  ·have:=listK_lt d.1.b a k h;omega
  ·have:=defsK_lt r _ k h;omega
theorem codeZ_len (l:List NT) (ds:List (NT × List Nat)) (es:List Nat):(codeZ l ds es).length = sizs l + 1 + dsz ds:=by
 unfold codeZ
 rw [List.length_append,List.length_cons,defsC_len,(listC_ok _ l 0 _).len]
 omega
theorem callsZ_lt {l:List NT} {ds:List (NT × List Nat)} {es:List Nat} {k:CK} (h:k ∈ callsZ l ds):k.1 < (codeZ l ds es).length:=by
 rw [codeZ_len]
 unfold callsZ at h
 rcases List.mem_append.1 h with h | h
 ·have:=listK_lt l 0 k h;omega
 ·have:=defsK_lt ds _ k h;omega
theorem sizs_le {n:Bool} {l:List NT} (h:∀ x,x ∈ l→Wk n x):sizs l≤3 * tots l:=by
 have h1:=(wk_szrs h).1
 have h2:=(szrs_bound l).1
 omega
theorem dsz_le:∀ {l:List NT},(∀ x,x ∈ l→Wk false x)→∀ es,dsz (dfs l es)≤3 * tots l
 | [],_,es => Nat.zero_le _
 | x :: l,h,es => by
  have h1:=dsz_le (l:=l) (fun y hy => h y (by simp [hy])) (es.drop (prf x))
  have h2:=sizs_le (h x (by simp)).body
  have h3:=tot_eq x
  rw [dfs_cons,tots_cons]
  split
  ·show sizs x.b + 1 + dsz _≤_
   omega
  ·omega
def codeN (l:List NT):List IN × Int × Nat:=if (checkN l).2 ≠ 0 then ([],checkN l) else if (inferI l).2.2 ≠ 0 then ([],(inferI l).2) else (codeW l (inferI l).1,0,0)
end
end Go.Proofs.YtpcapmdfjmpdiaaGreatDoor
