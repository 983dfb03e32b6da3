/- Contracts: the reference of layer 15: Step -/
import Derived.Test.YtpcapmdfjmpdiaaGreatDoorMHy15
import Derived.Test.YtpcapmdfjmpdiaaGreatDoorMEr14
import Derived.Test.YtpcapmdfjmpdiaaGreatDoorMCt12
import Derived.Test.YtpcapmdfjmpdiaaGreatDoorMKRow
import Derived.Test.YtpcapmdfjmpdiaaGreatDoorMHp15
import Derived.HandedShaped
import Derived.Shelf.Vars
set_option linter.unusedVariables false
set_option linter.unusedSimpArgs false
set_option maxRecDepth 100000
set_option maxHeartbeats 3200000
open Go.Lib (hid)
namespace Go.Proofs.YtpcapmdfjmpdiaaGreatDoor
section
open Go.RowKit Go.BigFrame
theorem rstep_text (k:Int) (N A' P:ByteArray) (t:HS) (c:UInt8) (w:World) (q0:(k == 0) = true)
  (hc:∀ W,Calls Tryz.prog 143 #[.agg #[.int .i64 k,.string N,.string A',.string P],.int .u8 c.toNat] W (SvV (.agg #[.int .i64 (t.c:Nat),.string (ofL t.n),.string (ofL t.a),.string (ofL t.p)]) W)) :
  Calls Tryz.prog 125 #[stV k N A' P,.int .u8 c.toNat] w (SvV t.val w):=by
 unfold stV
 have HC:=hid hc
 clear hc
 have HB2:=hid ((Bel.alloc w (.cells #[.int .i64 k,.string N,.string A',.string P] 153)).trans (Bel.alloc (w.alloc (.cells #[.int .i64 k,.string N,.string A',.string P] 153)) (.cells #[.int .i64 0,.string ⟨#[]⟩,.string ⟨#[]⟩,.string ⟨#[]⟩] 153)))
 have HR2:=hid (blk_at1h w (.cells #[.int .i64 k,.string N,.string A',.string P] 153) 153 [.int .i64 0,.string ⟨#[]⟩,.string ⟨#[]⟩,.string ⟨#[]⟩])
 go_enter Tryz.func125,Tryz.ntmps125
 go_wp2_with (go_at_call 143;((with_reducible refine (HC.out _).mono ?_);rintro e w2 ⟨rfl,hb⟩;have HB:=hid (HB2.out.trans hb);have HR:=hid (HR2.out.belh hb);clear hb;obtain ⟨r0,r1,r2,r3⟩:=cells4 HR.out;obtain ⟨v0,v1,v2,v3⟩:=frees4 HR.out))
 all_goals first
  | ((with_reducible apply st_set (k:=4) (g:=w.heap.size + 1));(case hf => rfl);(case hp => rfl);(case hB => exact HR.out);(case hb => exact HB.out);(case hg => omega);rfl)
  | (exfalso;omega)
  | trace_state
theorem rstep_tag (k:Int) (N A' P:ByteArray) (t:HS) (c:UInt8) (w:World) (q0:(k == 0) = false) (q1:k≤12)
  (hc:∀ W,Calls Tryz.prog 144 #[.agg #[.int .i64 k,.string N,.string A',.string P],.int .u8 c.toNat] W (SvV (.agg #[.int .i64 (t.c:Nat),.string (ofL t.n),.string (ofL t.a),.string (ofL t.p)]) W)) :
  Calls Tryz.prog 125 #[stV k N A' P,.int .u8 c.toNat] w (SvV t.val w):=by
 unfold stV
 have HC:=hid hc
 clear hc
 have HB2:=hid ((Bel.alloc w (.cells #[.int .i64 k,.string N,.string A',.string P] 153)).trans (Bel.alloc (w.alloc (.cells #[.int .i64 k,.string N,.string A',.string P] 153)) (.cells #[.int .i64 0,.string ⟨#[]⟩,.string ⟨#[]⟩,.string ⟨#[]⟩] 153)))
 have HR2:=hid (blk_at1h w (.cells #[.int .i64 k,.string N,.string A',.string P] 153) 153 [.int .i64 0,.string ⟨#[]⟩,.string ⟨#[]⟩,.string ⟨#[]⟩])
 go_enter Tryz.func125,Tryz.ntmps125
 go_wp2_with (go_at_call 144;((with_reducible refine (HC.out _).mono ?_);rintro e w2 ⟨rfl,hb⟩;have HB:=hid (HB2.out.trans hb);have HR:=hid (HR2.out.belh hb);clear hb;obtain ⟨r0,r1,r2,r3⟩:=cells4 HR.out;obtain ⟨v0,v1,v2,v3⟩:=frees4 HR.out))
 all_goals first
  | ((with_reducible apply st_set (k:=4) (g:=w.heap.size + 1));(case hf => rfl);(case hp => rfl);(case hB => exact HR.out);(case hb => exact HB.out);(case hg => omega);rfl)
  | (exfalso;omega)
  | trace_state
theorem rstep_com (k:Int) (N A' P:ByteArray) (t:HS) (c:UInt8) (w:World) (q0:(k == 0) = false) (q1:¬ k≤12) (q2:(k == 13) = true)
  (hc:∀ W,Calls Tryz.prog 145 #[.agg #[.int .i64 k,.string N,.string A',.string P],.int .u8 c.toNat] W (SvV (.agg #[.int .i64 (t.c:Nat),.string (ofL t.n),.string (ofL t.a),.string (ofL t.p)]) W)) :
  Calls Tryz.prog 125 #[stV k N A' P,.int .u8 c.toNat] w (SvV t.val w):=by
 unfold stV
 have HC:=hid hc
 clear hc
 have HB2:=hid ((Bel.alloc w (.cells #[.int .i64 k,.string N,.string A',.string P] 153)).trans (Bel.alloc (w.alloc (.cells #[.int .i64 k,.string N,.string A',.string P] 153)) (.cells #[.int .i64 0,.string ⟨#[]⟩,.string ⟨#[]⟩,.string ⟨#[]⟩] 153)))
 have HR2:=hid (blk_at1h w (.cells #[.int .i64 k,.string N,.string A',.string P] 153) 153 [.int .i64 0,.string ⟨#[]⟩,.string ⟨#[]⟩,.string ⟨#[]⟩])
 go_enter Tryz.func125,Tryz.ntmps125
 go_wp2_with (go_at_call 145;((with_reducible refine (HC.out _).mono ?_);rintro e w2 ⟨rfl,hb⟩;have HB:=hid (HB2.out.trans hb);have HR:=hid (HR2.out.belh hb);clear hb;obtain ⟨r0,r1,r2,r3⟩:=cells4 HR.out;obtain ⟨v0,v1,v2,v3⟩:=frees4 HR.out))
 all_goals first
  | ((with_reducible apply st_set (k:=4) (g:=w.heap.size + 1));(case hf => rfl);(case hp => rfl);(case hB => exact HR.out);(case hb => exact HB.out);(case hg => omega);rfl)
  | (exfalso;omega)
  | trace_state
theorem rstep_raw (k:Int) (N A' P:ByteArray) (t:HS) (c:UInt8) (w:World) (q0:(k == 0) = false) (q1:¬ k≤12) (q2:(k == 13) = false) (q3:¬ k≤15)
  (hc:∀ W,Calls Tryz.prog 146 #[.agg #[.int .i64 k,.string N,.string A',.string P],.int .u8 c.toNat] W (SvV (.agg #[.int .i64 (t.c:Nat),.string (ofL t.n),.string (ofL t.a),.string (ofL t.p)]) W)) :
  Calls Tryz.prog 125 #[stV k N A' P,.int .u8 c.toNat] w (SvV t.val w):=by
 unfold stV
 have HC:=hid hc
 clear hc
 have HB2:=hid ((Bel.alloc w (.cells #[.int .i64 k,.string N,.string A',.string P] 153)).trans (Bel.alloc (w.alloc (.cells #[.int .i64 k,.string N,.string A',.string P] 153)) (.cells #[.int .i64 0,.string ⟨#[]⟩,.string ⟨#[]⟩,.string ⟨#[]⟩] 153)))
 have HR2:=hid (blk_at1h w (.cells #[.int .i64 k,.string N,.string A',.string P] 153) 153 [.int .i64 0,.string ⟨#[]⟩,.string ⟨#[]⟩,.string ⟨#[]⟩])
 go_enter Tryz.func125,Tryz.ntmps125
 go_wp2_with (go_at_call 146;((with_reducible refine (HC.out _).mono ?_);rintro e w2 ⟨rfl,hb⟩;have HB:=hid (HB2.out.trans hb);have HR:=hid (HR2.out.belh hb);clear hb;obtain ⟨r0,r1,r2,r3⟩:=cells4 HR.out;obtain ⟨v0,v1,v2,v3⟩:=frees4 HR.out))
 all_goals first
  | ((with_reducible apply st_set (k:=4) (g:=w.heap.size + 1));(case hf => rfl);(case hp => rfl);(case hB => exact HR.out);(case hb => exact HB.out);(case hg => omega);rfl)
  | (exfalso;omega)
  | trace_state
theorem rstep_end (k:Int) (N A' P:ByteArray) (c:UInt8) (w:World) (q0:(k == 0) = false) (q1:¬ k≤12) (q2:(k == 13) = false) (q3:k≤15) :
  Calls Tryz.prog 125 #[stV k N A' P,.int .u8 c.toNat] w (SvV (if ((c.toNat:Int) == 62) = true then stV 0 ⟨#[]⟩ ⟨#[]⟩ ⟨#[]⟩ else stV k N A' P) w):=by
 unfold stV
 go_enter Tryz.func125,Tryz.ntmps125
 go_wp2_with fail
 all_goals first
  | ((with_reducible apply st_new (k:=4) (g:=w.heap.size + 1));(case hf => rfl);(case hp => rfl);(case hg => simp);(case hb => exact (Bel.alloc _ _).trans (Bel.alloc _ _));simp only [*,if_true,if_false,Bool.false_eq_true])
  | trace_state
theorem rstep_c (s:HS) (c:UInt8) (w:World) (hn:s.n.length≤100000) (ha:s.a.length≤100000) (hp:s.p.length≤100000) :
  Calls Tryz.prog 125 #[s.val,.int .u8 c.toNat] w (SvP (stepS s c) w):=by
 have hk:∀ j:Nat,((s.c:Int) == (j:Int)) = decide (s.c = j):=fun j => by rw [Bool.eq_iff_iff,beq_iff_eq,decide_eq_true_iff];omega
 have k0:((s.c:Int) == 0) = decide (s.c = 0):=hk 0
 have k13:((s.c:Int) == 13) = decide (s.c = 13):=hk 13
 unfold stepS
 by_cases h0:s.c = 0
 ·rw [if_pos h0]
  exact rstep_text _ _ _ _ _ c w (by rw [k0,decide_eq_true h0]) fun W => rtext_c _ _ _ s.p c W
 rw [if_neg h0]
 by_cases h12:s.c≤12
 ·rw [if_pos h12]
  exact rstep_tag _ _ _ _ _ c w (by rw [k0,decide_eq_false h0]) (by omega) fun W => rtag_c s c W hn ha
 rw [if_neg h12]
 by_cases h13:s.c = 13
 ·rw [if_pos h13]
  exact rstep_com _ _ _ _ _ c w (by rw [k0,decide_eq_false h0]) (by omega) (by rw [k13,decide_eq_true h13]) fun W => rcomment_c _ _ _ s.p c W
 rw [if_neg h13]
 by_cases h15:s.c≤15
 ·rw [if_pos h15]
  have:=rstep_end s.c (ofL s.n) (ofL s.a) (ofL s.p) c w (by rw [k0,decide_eq_false h0]) (by omega) (by rw [k13,decide_eq_false h13]) (by omega)
  have h62:((c.toNat:Int) == 62) = true ↔ c = 62:=by rw [u8_iff,beq_iff_eq];rfl
  simp only [h62] at this
  by_cases hc:c = 62
  ·rw [if_pos hc] at this ⊢;exact this
  ·rw [if_neg hc] at this ⊢;exact this
 rw [if_neg h15]
 exact rstep_raw _ _ _ _ _ c w (by rw [k0,decide_eq_false h0]) (by omega) (by rw [k13,decide_eq_false h13]) (by omega) fun W => rraw_c s c W hp
end
section
open Go.RowKit Go.BigFrame NT
def IR.Len (n:Nat):IR→Prop | .ok _ es => es.length≤n | .no _ _ => True
theorem IR.Len.next {n m:Nat} {r:IR} {f:HS→List Nat→IR} (h:r.Len n) (hf:∀ s es,es.length≤n→(f s es).Len m):(r.next f).Len m:=by
 cases r with
 | no a e => exact trivial
 | ok s es => exact hf s es h
theorem listI_len_of (l:List NT) (h:∀ x,x ∈ l→∀ s,(nodeI s x).Len x.tot):∀ s,(listI s l).Len (tots l):=by
 induction l with
 | nil => intro s;rw [listI_nil];exact Nat.zero_le _
 | cons x l ih =>
  intro s
  rw [listI_cons,tots_cons]
  exact (h x (by simp) s).next fun s1 e1 h1 => (ih (fun y hy => h y (by simp [hy])) s1).next fun s2 e2 h2 => by
   show (e1 ++ e2).length≤_
   rw [List.length_append];omega
theorem nodeI_len (t:NT):∀ s,(nodeI s t).Len t.tot:=by
 refine NT.ind (M:=fun t => ∀ s,(nodeI s t).Len t.tot) (fun t hb hl s => ?_) t
 rw [nodeI_eq,tot_eq]
 split
 ·exact Nat.zero_le _
 split
 ·split
  ·show 1≤_;omega
  ·exact trivial
 split
 ·exact (listI_len_of t.b hb s).next fun s1 e1 h1 => (listI_len_of t.l hl s).next fun s2 e2 h2 => by
   split
   ·show (e1 ++ e2).length≤_
    rw [List.length_append];omega
   ·exact trivial
 split
 ·exact (listI_len_of t.b hb s).next fun s1 e1 h1 => by
   split
   ·show e1.length≤_;omega
   ·exact trivial
 split
 ·split
  ·exact Nat.zero_le _
  ·exact trivial
 split
 ·exact (listI_len_of t.b hb (s0 0)).next fun s1 e1 h1 => by
   split
   ·show e1.length≤_;omega
   ·exact trivial
 ·exact Nat.zero_le _
theorem listI_len (l:List NT) (s:HS):(listI s l).Len (tots l):=listI_len_of l (fun x _ => nodeI_len x) s
theorem listI_le {l:List NT} {s t:HS} {es:List Nat} (h:listI s l = .ok t es):es.length≤tots l:=by have:=listI_len l s;rw [h] at this;exact this
theorem listI_ers_of (l:List NT) (h:∀ x,x ∈ l→∀ s,nodeI s x.er = nodeI s x):∀ s,listI s (ers l) = listI s l:=by
 induction l with
 | nil => intro s;rw [show ers [] = [] from by simp [ers]]
 | cons x l ih =>
  intro s
  rw [show ers (x :: l) = x.er :: ers l from by simp [ers],listI_cons,listI_cons,h x (by simp) s]
  congr 1
  funext s1 e1
  rw [ih (fun y hy => h y (by simp [hy])) s1]
theorem nodeI_er (t:NT):∀ s,nodeI s t.er = nodeI s t:=by
 refine NT.ind (M:=fun t => ∀ s,nodeI s t.er = nodeI s t) (fun t hb hl s => ?_) t
 rw [nodeI_eq,nodeI_eq,er_k,er_a,er_s,er_b,er_l,listI_ers_of t.b hb,listI_ers_of t.b hb]
 simp only [listI_ers_of t.l hl]
theorem listI_ers (l:List NT) (s:HS):listI s (ers l) = listI s l:=listI_ers_of l (fun x _ => nodeI_er x) s
theorem last_ers (l:List NT):(ers l).getLast?.map NT.a = l.getLast?.map NT.a:=by
 rw [ers_map,List.getLast?_map,Option.map_map]
 congr 1
 funext x
 exact er_a x
theorem inferI_ers (l:List NT):inferI (ers l) = inferI l:=by
 unfold inferI
 rw [listI_ers,last_ers]
theorem lx_txt16 {l:List UInt8} {s r:List UInt8} {a k:Nat} {ts:List Tok} (hl:l = s ++ r) (h:find2 123 (s ++ r) = some (k + 1)) (hs:s.length = k + 1) (hr:Lx r (a + (k + 1)) ts):Lx l a (⟨0,a,s,[],false⟩ :: ts):=by
 subst hl
 have h1:(s ++ r).drop (k + 1) = r:=by rw [← hs,List.drop_left]
 have h2:(s ++ r).take (k + 1) = s:=by rw [← hs,List.take_left]
 have:=Lx.text (s ++ r) a k ts h (by rw [h1];exact hr)
 rw [h2] at this
 exact this
theorem nodeI_text {s t:HS} {x:NT} (hk:x.k = 0) (h:runS s x.s.data.toList = t):nodeI s x = .ok t []:=by rw [nodeI_eq,if_pos hk,h]
end
section
open Go.Joins Go.ChangeShapes Go.WideShapes Go.Deep Go.RowKit
theorem mx_of_shaped {w:World} (h:w.ShapedOpen Tryz.prog):MX w:=by
 obtain ⟨m,hm⟩:=cell_of_shapedOpen_int (P:=Tryz.prog) (g:=1) (t:=3) (zero:=#[.int .i64 0]) (k:=.i64) h (of_decide_eq_true (by kernel_rfl)) (by kernel_rfl) rfl (by kernel_rfl) (by kernel_rfl) Tryz.underlying3
 refine ⟨?_,m,hm⟩
 have:(w.cell? ⟨1,0,none⟩).isSome:=by rw [hm];rfl
 simp only [World.cell?] at this
 split at this
 ·rename_i hh;exact (Array.getElem?_eq_some_iff.1 hh).1
 ·simp at this
theorem returnsIn_listed_shaped {H:Type} {enc:TypeId × Value→H} {a:Assume} {C:Checked} {os:Os} {f:FuncId} {fn:Func} {s:ChangeSpec} {conds:List PathCond} {apart fresh handsOn again:Bool} {X:World→Array Value→Prop}
  (hX:∀ (w w':World) (args:Array Value),w.heap = w'.heap→X w args→X w' args)
  (own:ownKnob C.prog.godebug = none) (started:os.Started) (noInit:C.prog.inits.idxOf? f = none) (hfn:C.prog.funcs[f]? = some fn)
  (witness:∃ (w:World) (tape:Tape) (i:Input),w.os = os∧(w.forCall tape i).Shaped C.prog∧i.vars = []∧Input.okWide C.prog (w.forCall tape i) .any w.heap.size f i ∧
   ((s.pre enc C.prog fn conds apart (w.forCall tape i).memory i.args∧X (w.forCall tape i).memory i.args)∧sizedMet enc C.prog fn (OpenSpec.ofChange s) apart (w.forCall tape i).memory i.args)∧a.holds C.prog (lone (Frame.enter C.prog f i.args .normal) [] (w.forCall tape i)))
  (contract:∀ (W:World) (base:Nat) (args:Array Value) (ds gs:List (DataW H)) (before:List MemPlace),W.ShapedOpen C.prog →
   (∀ (j:Nat) t v,fn.params[j]? = some t→args[j]? = some v→Value.okWide C.prog W .any base t v) →
   DataW.Whole enc C.prog fn.params.toList s.vars apart W args.toList ds gs before →
   conds.all (PathCond.test C.prog ⟨fn.params.toList,ds,s.plain.varTypes C.prog,gs⟩) = true →
   (DataW.weightsEach C.prog (fn.params.toList ++ s.plain.varTypes C.prog) (ds ++ gs)).all (·≤ reachBytes) = true→X W args →
   a.holds C.prog (lone (Frame.enter C.prog f args .normal) [] W) →
   Calls C.prog f args W fun e W' => ∃ v,e = .returned v∧s.post enc C.prog fn apart fresh handsOn again W args v W') :
  ReturnsInHanded a C os f .any (fun w args => (s.pre enc C.prog fn conds apart w args∧X w args)∧sizedMet enc C.prog fn (OpenSpec.ofChange s) apart w args) (s.post enc C.prog fn apart fresh handsOn again):=by
 refine returnsInHanded_of_calls own started noInit witness ?_
 intro w tape i _ hsh _ hok hpre hholds
 obtain ⟨_,_,_,fn',hfn',_,_,_,_,hval⟩:=hok
 obtain rfl:fn' = fn:=Option.some.inj (hfn'.symm.trans hfn)
 obtain ⟨⟨⟨ds,gs,before,hw,hc⟩,hx⟩,hz⟩:=hpre
 have hw':=DataW.Whole.of_heap (w':=w.forCall tape i) (by rfl) hw
 refine (contract (w.forCall tape i) w.heap.size i.args ds gs before hsh hval hw' hc (hz.weights hw) (hX _ _ _ (by rfl) hx) hholds).mono fun e W' ⟨v,he,hp⟩ => ?_
 subst he
 exact ChangeSpec.post_blind hp
end
end Go.Proofs.YtpcapmdfjmpdiaaGreatDoor
