/- Contracts: the reference of layer 15: small functions of bytes and names -/
import Derived.Test.YtpcapmdfjmpdiaaGreatDoorMEr14
import Derived.Test.YtpcapmdfjmpdiaaGreatDoorMCt12
import Derived.Test.YtpcapmdfjmpdiaaGreatDoorMKRow
set_option linter.unusedVariables false
set_option linter.unusedSimpArgs false
set_option maxRecDepth 100000
set_option maxHeartbeats 3200000
open Go.Lib (hid)
namespace Go.Proofs.YtpcapmdfjmpdiaaGreatDoor
section
open Go.RowKit Go.BigFrame
theorem ret_u8 {a b:Int} (h:a = b):Ending.returned (.int .u8 a) = .returned (.int .u8 b):=by rw [h]
theorem lowB_nat (c:UInt8):((lowB c).toNat:Int) = if 65≤c.toNat∧c.toNat≤90 then (c.toNat:Int) + 32 else c.toNat:=by
 unfold lowB
 split
 ·rw [UInt8.toNat_add]
  show (((c.toNat + 32) % 256:Nat):Int) = _
  omega
 ·rfl
theorem rlower_c (c:UInt8) (w:World) :
  Calls Tryz.prog 160 #[.int .u8 c.toNat] w fun e w' => e = .returned (.int .u8 (lowB c).toNat)∧w' = w:=by
 have hlt:=c.toNat_lt
 go_enter Tryz.func160,Tryz.ntmps160
 go_wp2_with fail
 all_goals (go_ret;exact ⟨ret_u8 (by rw [lowB_nat];split <;> omega),rfl⟩)
abbrev stV (k:Int) (n a p:ByteArray):Value:=.agg #[.int .i64 k,.string n,.string a,.string p]
def HS.val (s:HS):Value:=stV s.c (ofL s.n) (ofL s.a) (ofL s.p)
def SvV (v:Value) (w:World) (e:Ending) (w':World):Prop:=e = .returned v∧Bel w w'
abbrev SvP (s:HS) (w:World):Ending→World→Prop:=SvV s.val w
theorem str_eq (l:List UInt8) (b:ByteArray):((ofL l).toList == b.toList) = decide (l = b.data.toList):=by
 rw [ByteArray.toList_eq,ByteArray.toList_eq,Bool.eq_iff_iff,beq_iff_eq,decide_eq_true_iff]
 show l.toArray.toList = _ ↔ _
 simp
theorem str_eq' (l m:List UInt8):((ofL l).toList == m) = decide (l = m):=by
 rw [ByteArray.toList_eq,Bool.eq_iff_iff,beq_iff_eq,decide_eq_true_iff]
 show l.toArray.toList = _ ↔ _
 simp
theorem st_new {f:Func} {k g:Nat} {tmps:Array Value} {w w1:World} {v0 v1 v2 v3:Value} {v:Value} (hf:f.results = #[.cell k 153]) (hp:tmps.getD k undef = .pointer (some ⟨g,0,none⟩)) (hg:g = w1.heap.size)
  (he:Value.agg #[v0,v1,v2,v3] = v) (hb:Bel w (w1.alloc (.cells #[v0,v1,v2,v3] 153))):bodyPost Tryz.prog f (SvV v w) .ret { tmps:=tmps,defers:=[] } (w1.alloc (.cells #[v0,v1,v2,v3] 153)):=by
 subst hg
 refine bodyPost_ret (results_cell_row hf _ _ w1.heap.size _ _ (0,0) _ hp (Blk.new w1 153 [v0,v1,v2,v3]) Tryz.underlying153 rfl (by kernel_rfl)) rfl ?_
 exact ⟨by rw [← he],hb⟩
theorem ropen_c (n:List UInt8) (w:World):Calls Tryz.prog 157 #[.string (ofL n)] w (SvP (openS n) w):=by
 have t1:=str_eq n ⟨#[115,99,114,105,112,116]⟩
 have t2:=str_eq n ⟨#[115,116,121,108,101]⟩
 go_enter Tryz.func157,Tryz.ntmps157
 go_wp2_with fail
 all_goals refine st_new rfl rfl (by simp) ?_ (Bel.alloc _ _)
 all_goals simp_all [str_eq',openS,scriptL,styleL,HS.val,stV,s0,ofL]
theorem ltrB_eq (c:UInt8):ltrB c = (decide ((97:Int)≤((lowB c).toNat:Int)) && decide (((lowB c).toNat:Int)≤122)):=by
 unfold ltrB
 rw [Bool.eq_iff_iff]
 simp
 omega
theorem spcB_iff (c:UInt8):spcB c = true ↔ c.toNat = 32 ∨ c.toNat = 9 ∨ c.toNat = 10 ∨ c.toNat = 12 ∨ c.toNat = 13:=by
 unfold spcB
 simp only [Bool.or_eq_true,beq_iff_eq,← UInt8.toNat_inj]
 simp
theorem rletter_c (c:UInt8) (w:World) :
  Calls Tryz.prog 155 #[.int .u8 c.toNat] w fun e w' => e = .returned (.bool (ltrB c))∧w' = w:=by
 have hlt:=c.toNat_lt
 have HL:=hid (rlower_c c w)
 go_enter Tryz.func155,Tryz.ntmps155
 go_wp2_with (go_at_call 160;((with_reducible refine HL.out.mono ?_);rintro e w' ⟨rfl,rfl⟩))
 all_goals (go_ret;refine ⟨ret_bool ?_,rfl⟩;rw [ltrB_eq];simp;try omega)
theorem rspace_c (c:UInt8) (w:World) :
  Calls Tryz.prog 158 #[.int .u8 c.toNat] w fun e w' => e = .returned (.bool (spcB c))∧w' = w:=by
 have hlt:=c.toNat_lt
 go_enter Tryz.func158,Tryz.ntmps158
 go_wp2_with fail
 all_goals (go_ret;refine ⟨ret_bool ?_,rfl⟩;rw [Bool.eq_iff_iff,spcB_iff];simp;try omega)
theorem one_str (d:UInt8) (W:World):(convert 85 9 (.slice (some ⟨W.heap.size,0,none⟩) 1 1)).run Tryz.prog (W.alloc (.cells #[.int .u8 d.toNat] 5)) = .ok (.string ⟨#[d]⟩) (W.alloc (.cells #[.int .u8 d.toNat] 5)) :=
 run_string_of (l:=[d]) Tryz.underlying85 Tryz.underlying5 Tryz.underlying9 (Reads.of_blk (Blk.new W 5 (vbs [d])) 0 1 (by simp [vbs]) (Nat.lt_succ_self _)) 1
theorem ofL_snoc (s:List UInt8) (d:UInt8):ofL s ++ ⟨#[d]⟩ = ofL (s ++ [d]):=by
 apply toL_inj
 show (ofL s ++ ⟨#[d]⟩:ByteArray).data.toList = _
 rw [ByteArray.data_append]
 simp [toL,ofL]
theorem ofL_list (p:List UInt8):(ofL p).toList = p:=by rw [ByteArray.toList_eq];simp [ofL]
theorem u8_iff (c k:UInt8):c = k ↔ (c.toNat:Int) = (k.toNat:Int):=by rw [← UInt8.toNat_inj];omega
theorem radd_c (s:List UInt8) (c:UInt8) (w:World) (hs:s.length≤100000) :
  Calls Tryz.prog 156 #[.string (ofL s),.int .u8 c.toNat] w fun e w' => e = .returned (.string (ofL (addL s c)))∧Bel w w':=by
 have HL:=hid (rlower_c c w)
 have HO:=hid (one_str (lowB c) w)
 have hz:(ofL s).size = s.length:=rfl
 have ho:=HO.out
 go_enter Tryz.func156,Tryz.ntmps156
 go_wp2_with (go_at_call 160;((with_reducible refine HL.out.mono ?_);rintro e w' ⟨rfl,rfl⟩))
 ·go_ret
  exact ⟨by unfold addL;rw [if_pos (by omega)];rfl,Bel.refl _⟩
 ·go_ret
  exact ⟨by unfold addL;rw [if_neg (by omega),← ofL_snoc];rfl,Bel.alloc _ _⟩
theorem rcomment_c (k:Int) (n a:ByteArray) (p:List UInt8) (c:UInt8) (w:World):Calls Tryz.prog 145 #[stV k n a (ofL p),.int .u8 c.toNat] w (SvP (commentS p c) w):=by
 unfold stV
 go_enter Tryz.func145,Tryz.ntmps145
 go_wp2_with fail
 all_goals refine st_new rfl rfl (by simp) ?_ ((Bel.alloc _ _).trans (Bel.alloc _ _))
 all_goals simp_all [ofL_list,u8_iff,commentS,HS.val,stV,s0,ofL]
theorem blk_at1h (w:World) (o:Obj) (T:TypeId) (L:List Value):Blk ((w.alloc o).alloc (.cells L.toArray T)) (w.heap.size + 1) T L:=by
 have:=Blk.new (w.alloc o) T L
 rwa [show (w.alloc o).heap.size = w.heap.size + 1 by simp] at this
theorem Blk.belh {w w':World} {g:Nat} {t:TypeId} {cs:List Value} (h:Blk w g t cs) (hb:Bel w w'):Blk w' g t cs:=h.below hb h.lt
theorem cells4 {w:World} {g:Nat} {T:TypeId} {a0 a1 a2 a3:Value} (h:Blk w g T [a0,a1,a2,a3]) :
  w.cell? ⟨g,0,none⟩ = some a0∧w.cell? ⟨g,1,none⟩ = some a1∧w.cell? ⟨g,2,none⟩ = some a2∧w.cell? ⟨g,3,none⟩ = some a3:=⟨h.cell 0,h.cell 1,h.cell 2,h.cell 3⟩
theorem frees4 {w:World} {g:Nat} {T:TypeId} {cs:List Value} (h:Blk w g T cs) :
  w.frozen? ⟨g,0,none⟩ = false∧w.frozen? ⟨g,1,none⟩ = false∧w.frozen? ⟨g,2,none⟩ = false∧w.frozen? ⟨g,3,none⟩ = false:=⟨h.free 0,h.free 1,h.free 2,h.free 3⟩
theorem st_set {f:Func} {k g:Nat} {tmps:Array Value} {w w1:World} {a0 a1 a2 a3 v0 v1 v2 v3:Value} {v:Value} (hf:f.results = #[.cell k 153]) (hp:tmps.getD k undef = .pointer (some ⟨g,0,none⟩))
  (he:Value.agg #[v0,v1,v2,v3] = v) (hB:Blk w1 g 153 [a0,a1,a2,a3]) (hb:Bel w w1) (hg:w.heap.size≤g) :
  bodyPost Tryz.prog f (SvV v w) .ret { tmps:=tmps,defers:=[] } ((((w1.setCell ⟨g,0,none⟩ v0).setCell ⟨g,1,none⟩ v1).setCell ⟨g,2,none⟩ v2).setCell ⟨g,3,none⟩ v3):=by
 have h1:=(((hB.set_ 0 v0).set_ 1 v1).set_ 2 v2).set_ 3 v3
 simp only [List.set_cons_succ,List.set_cons_zero] at h1
 refine bodyPost_ret (results_cell_row hf _ _ g _ _ (0,0) _ hp h1 Tryz.underlying153 rfl (by kernel_rfl)) rfl ?_
 exact ⟨by rw [← he],bel_on1 hb (((((Only.refl [g] w1).setCell (.inl (by simp)) _).setCell (.inl (by simp)) _).setCell (.inl (by simp)) _).setCell (.inl (by simp)) _) hg⟩
theorem ofL_nil:ofL [] = ⟨#[]⟩:=rfl
theorem pt {p q:List UInt8} (h:p = q):((ofL p).toList == q) = true:=by rw [str_eq'];exact decide_eq_true h
theorem ct {c k:UInt8} (h:c = k) (m:Int) (hm:(k.toNat:Int) = m):((c.toNat:Int) == m) = true:=by subst h;rw [hm];exact beq_self_eq_true m
theorem cf {c k:UInt8} (h:¬ c = k) (m:Int) (hm:(k.toNat:Int) = m):((c.toNat:Int) == m) = false:=by
 rw [beq_eq_false_iff_ne,← hm]
 intro e
 exact h ((u8_iff c k).2 e)
theorem st_mid {f:Func} {k g:Nat} {tmps:Array Value} {w w1:World} {o:Obj} {v0 v1 v2 v3:Value} {v:Value} (hf:f.results = #[.cell k 153]) (hp:tmps.getD k undef = .pointer (some ⟨g,0,none⟩)) (hg:g = w1.heap.size)
  (he:Value.agg #[v0,v1,v2,v3] = v) (hb:Bel w ((w1.alloc (.cells #[v0,v1,v2,v3] 153)).alloc o)):bodyPost Tryz.prog f (SvV v w) .ret { tmps:=tmps,defers:=[] } ((w1.alloc (.cells #[v0,v1,v2,v3] 153)).alloc o):=by
 subst hg
 refine bodyPost_ret (results_cell_row hf _ _ w1.heap.size _ _ (0,0) _ hp ((Blk.new w1 153 [v0,v1,v2,v3]).alloc o) Tryz.underlying153 rfl (by kernel_rfl)) rfl ?_
 exact ⟨by rw [← he],hb⟩
section
variable {P:Program} {ops:Array Oper} {Q:Exit→Act→World→Prop} {S:World→Prop}
theorem reg_call (e:Nat) {listed:Array Bool} {fuel:Nat} {a:Act} {w:World} {o:Oper} {f:FuncId} {args:Array Value} (hr:Region.ready .any ops listed = [e])
  (ho:ops[e]? = some o) (hw:Region.wanted o (yielded ops a.tmps) = true) (hrun:(execOp a.eval o).run P w = .ok (.enter f args) w)
  (hc:Calls P f args w fun x w1 => ∃ v,x = .returned v∧S w1∧wpAnyH P .any ops Q S fuel (listed.setIfInBounds e true) (a.put o.dst v) w1):wpAnyH P .any ops Q S (fuel + 1) listed a w:=by
 refine wpAnyH_all hr (by simp) (fun i hi => ?_)
 simp only [List.mem_singleton] at hi
 subst hi
 unfold wpOp
 simp only [ho,hw,if_true]
 refine .inl ?_
 unfold Oper.wp
 rw [hrun]
 simp only [Oper.upon]
 refine hc.mono ?_
 rintro x w1 ⟨v,rfl,hO,h⟩
 exact ⟨hO,h⟩
theorem op_call0 {e:Nat} {listed:Array Bool} {fuel:Nat} {a:Act} {w:World} {o:Oper} {f:FuncId} {args:Array Value}
  (ho:ops[e]? = some o) (hw:Region.wanted o (yielded ops a.tmps) = true) (hrun:(execOp a.eval o).run P w = .ok (.enter f args) w)
  (hc:Calls P f args w fun x w1 => ∃ v,x = .returned v∧S w1∧wpAnyH P .any ops Q S fuel (listed.setIfInBounds e true) (a.put o.dst v) w1) :
  wpOp P ops Q e (fun a' w' => S w'∧wpAnyH P .any ops Q S fuel (listed.setIfInBounds e true) a' w') a w:=by
 unfold wpOp
 simp only [ho,hw,if_true]
 refine .inl ?_
 unfold Oper.wp
 rw [hrun]
 simp only [Oper.upon]
 refine hc.mono ?_
 rintro x w1 ⟨v,rfl,hO,h⟩
 exact ⟨hO,h⟩
theorem op_make0 {e:Nat} {listed:Array Bool} {fuel:Nat} {a:Act} {w w1:World} {o:Oper} {v:Value}
  (ho:ops[e]? = some o) (hw:Region.wanted o (yielded ops a.tmps) = true) (hrun:(execOp a.eval o).run P w = .ok (.value v) w1) (hO:S w1)
  (h:wpAnyH P .any ops Q S fuel (listed.setIfInBounds e true) (a.put o.dst v) w1) :
  wpOp P ops Q e (fun a' w' => S w'∧wpAnyH P .any ops Q S fuel (listed.setIfInBounds e true) a' w') a w:=by
 unfold wpOp
 simp only [ho,hw,if_true]
 refine .inl ?_
 unfold Oper.wp
 rw [hrun]
 simp only [Oper.upon]
 exact ⟨hO,h⟩
theorem reg_make (e:Nat) {listed:Array Bool} {fuel:Nat} {a:Act} {w w1:World} {o:Oper} {v:Value} (hr:Region.ready .any ops listed = [e])
  (ho:ops[e]? = some o) (hw:Region.wanted o (yielded ops a.tmps) = true) (hrun:(execOp a.eval o).run P w = .ok (.value v) w1) (hO:S w1)
  (h:wpAnyH P .any ops Q S fuel (listed.setIfInBounds e true) (a.put o.dst v) w1):wpAnyH P .any ops Q S (fuel + 1) listed a w:=by
 refine wpAnyH_all hr (by simp) (fun i hi => ?_)
 simp only [List.mem_singleton] at hi
 subst hi
 exact op_make0 ho hw hrun hO h
theorem reg_store (e:Nat) {listed:Array Bool} {fuel:Nat} {a:Act} {w w1:World} {o:Oper} (hr:Region.ready .any ops listed = [e])
  (ho:ops[e]? = some o) (hw:Region.wanted o (yielded ops a.tmps) = true) (hrun:(execOp a.eval o).run P w = .ok .skip w1) (hO:S w1)
  (h:wpAnyH P .any ops Q S fuel (listed.setIfInBounds e true) (a.put o.dst undef) w1):wpAnyH P .any ops Q S (fuel + 1) listed a w:=by
 refine wpAnyH_all hr (by simp) (fun i hi => ?_)
 simp only [List.mem_singleton] at hi
 subst hi
 unfold wpOp
 simp only [ho,hw,if_true]
 refine .inl ?_
 unfold Oper.wp
 rw [hrun]
 simp only [Oper.upon]
 exact ⟨hO,h⟩
theorem reg_seg {T:List Nat} {w0:World} (m:List Bool) {listed:Array Bool} {fuel:Nat} (fuel':Nat) {a:Act} {w:World} {l:List Oper} (hS:Only T w0 w) (hs:Region.noSelect l.toArray = true) (hm:(decide (m.length≤l.length)) = true)
  (hok:segOk l.toArray (places 0 m) listed = true)
  (hf:fuel' + (places 0 m).length = fuel) (hQ:∀ c (a:Act) d v w,Q (.panic c) (a.put d v) w→Q (.panic c) a w)
  (h:wpMask P l.toArray (fun w' => ∃ x:Later T w0,w' = x.w) (fun b => wpAnyH P .any l.toArray Q (Only T w0) fuel' (marked listed (places 0 m)) b w) m l a):wpAnyH P .any l.toArray Q (Only T w0) fuel listed a w:=by
 subst hf
 refine take_list (fun w' h' => ⟨⟨w',h'⟩,rfl⟩) hs hQ (places 0 m) fuel' listed a w hok hS (wpSeg_of_mask m l 0 a (fun j => by simp) ?_ h)
 have:=of_decide_eq_true hm
 simpa using this
end
end
section
open Go.RowKit Go.BigFrame NT
def vst (ns:List ByteArray):List Value:=ns.map .string
def vin17 (es:List Nat):List Value:=es.map fun k => .int .i64 (k:Nat)
theorem vin17_drop (es:List Nat) (k:Nat):vin17 (es.drop k) = (vin17 es).drop k:=by simp [vin17]
theorem vin17_take (es:List Nat) (k:Nat):vin17 (es.take k) = (vin17 es).take k:=by simp [vin17]
theorem vin17_append (a b:List Nat):vin17 (a ++ b) = vin17 a ++ vin17 b:=by simp [vin17]
def adZ:List ByteArray→List Nat→ByteArray→Nat
 | n :: ns,a :: ads,nm => if n = nm then a else adZ ns ads nm
 | _,_,_ => 0
theorem toL_beq17 (a b:ByteArray):(a.toList == b.toList) = decide (a = b):=by
 rw [ByteArray.toList_eq,ByteArray.toList_eq,Bool.eq_iff_iff,beq_iff_eq,decide_eq_true_iff]
 exact ⟨fun h => toL_inj h,fun h => by rw [h]⟩
structure Cm (r:Nat) (w:World) (N:Option Addr) (cn:Nat) (D:Option Addr) (cd:Nat) (E:Option Addr) (m ce:Nat) (ns:List ByteArray) (ads es:List Nat):Prop where
 blk:Blk w r 114 [.slice N ns.length cn,.slice D ads.length cd,.slice E m ce]
 rn:RowAt w 9 N ns.length cn (vst ns)
 ra:RowAt w 3 D ads.length cd (vin17 ads)
 re:RowAt w 3 E m ce (vin17 es)
 rm:m = es.length
theorem Cm.bel {r:Nat} {w w':World} {N:Option Addr} {cn:Nat} {D:Option Addr} {cd:Nat} {E:Option Addr} {m ce:Nat} {ns:List ByteArray} {ads es:List Nat} (h:Cm r w N cn D cd E m ce ns ads es) (hb:Bel w w'):Cm r w' N cn D cd E m ce ns ads es :=
 ⟨h.blk.bel hb,h.rn.only (S:=[]) (bel_only hb) (fun _ _ h => by cases h),h.ra.only (S:=[]) (bel_only hb) (fun _ _ h => by cases h),h.re.only (S:=[]) (bel_only hb) (fun _ _ h => by cases h),h.rm⟩
theorem adZ_step:∀ (ns:List ByteArray) (ads:List Nat) (nm:ByteArray) (i:Nat),ns.length = ads.length→(∀ j x,j < i→ns[j]? = some x→x ≠ nm)→(i = ns.length→adZ ns ads nm = 0)∧∀ a,ns[i]? = some nm→ads[i]? = some a→adZ ns ads nm = a
 | [],[],nm,i,_,_ => ⟨fun _ => rfl,fun a h => by simp at h⟩
 | [],a :: ads,nm,i,h,_ => by cases h
 | n :: ns,[],nm,i,h,_ => by cases h
 | n :: ns,b :: ads,nm,i,hl,hne => by
  cases i with
  | zero =>
   refine ⟨fun h => by simp at h,fun a h1 h2 => ?_⟩
   simp at h1 h2
   subst h1 h2
   show (if n = n then b else _) = b
   rw [if_pos rfl]
  | succ i =>
   have h0:n ≠ nm:=hne 0 n (Nat.succ_pos _) rfl
   obtain ⟨g1,g2⟩:=adZ_step ns ads nm i (by simpa using hl) (fun j x hj hx => hne (j + 1) x (by omega) (by simpa using hx))
   have e:adZ (n :: ns) (b :: ads) nm = adZ ns ads nm:=by show (if n = nm then b else _) = _;rw [if_neg h0]
   rw [e]
   exact ⟨fun h => g1 (by simpa using h),fun a h1 h2 => g2 a (by simpa using h1) (by simpa using h2)⟩
theorem addr_c {r:Nat} {w:World} {N:Option Addr} {cn:Nat} {D:Option Addr} {cd:Nat} {E:Option Addr} {m ce:Nat} {ns:List ByteArray} {ads es:List Nat} (h:Cm r w N cn D cd E m ce ns ads es) (hl:ns.length = ads.length) (nm:ByteArray) :
  Calls Tryz.prog 94 #[.pointer (some ⟨r,0,none⟩),.string nm] w fun e w' => e = .returned (.int .i64 (adZ ns ads nm:Nat))∧w' = w:=by
 obtain ⟨R,hR⟩:∃ R,R = adZ ns ads nm:=⟨_,rfl⟩
 rw [← hR]
 obtain ⟨n,hn⟩:∃ n,n = ns.length:=⟨_,rfl⟩
 have hna:ads.length = n:=by rw [hn,hl]
 have hb0:=h.blk.cell 0
 have hb1:=h.blk.cell 1
 rw [← hn] at hb0
 rw [hna] at hb1
 have hN:=h.rn
 have hD:=h.ra
 have HN:=hid hN
 have HD:=hid hD
 have HL:=hid hn
 have HA:=hid hna
 have HST:=hid (fun i => adZ_step ns ads nm i hl)
 have HR:=hid hR
 have hm:n≤maxLen:=by rw [hn];exact Nat.le_trans h.rn.le h.rn.max
 unfold maxLen at hm
 clear hN hD hn hna hR h hl
 go_enter Tryz.func94,Tryz.ntmps94
 go_wp2_with fail
 go_loopw [5] (fun s5 wr => ∃ i:Nat,i≤n∧s5 = .int .i64 i∧Hid (∀ j x,j < i→ns[j]? = some x→x ≠ nm)∧wr = w) (fun s5 _ => n - (intOf s5).toNat)
 case atStart => exact ⟨0,Nat.zero_le _,rfl,hid (fun j x hj => by omega),rfl⟩
 case round =>
  obtain ⟨i,hin,rfl,HP,rfl⟩:=hrel
  by_cases hlt:i < n
  ·have hx:=List.getElem?_eq_getElem (l:=ns) (i:=i) (by have:=HL.out;omega)
   generalize ns[i]'(by have:=HL.out;omega) = x at hx
   have hy:=List.getElem?_eq_getElem (l:=ads) (i:=i) (by have:=HA.out;omega)
   generalize ads[i]'(by have:=HA.out;omega) = y at hy
   obtain ⟨g1,o1,rfl,hc1⟩:=HN.out.cell (j:=i) (u:=.string x) (by unfold vst;rw [List.getElem?_map,hx];rfl)
   obtain ⟨g2,o2,rfl,hc2⟩:=HD.out.cell (j:=i) (u:=.int .i64 (y:Nat)) (by unfold vin17;rw [List.getElem?_map,hy];rfl)
   have HX:=hid hx
   have HY:=hid hy
   clear hx hy
   by_cases he:x = nm
   ·have hb:(x.toList == nm.toList) = true:=by rw [he];exact beq_self_eq_true _
    have hRy:R = y:=by rw [HR.out];exact (HST.out i HP.out).2 y (by rw [HX.out,he]) HY.out
    subst hRy
    clear he
    go_wp2_with fail
    go_ret
    exact ⟨rfl,rfl⟩
   ·have hb:(x.toList == nm.toList) = false:=by rw [toL_beq17,decide_eq_false he]
    have HE:=hid he
    clear he
    go_wp2_with fail
    go_roundw
    case rel =>
     refine ⟨i + 1,by omega,by go_num,hid (fun j z hj hz => ?_),trivial⟩
     by_cases hji:j = i
     ·subst hji
      rw [HX.out] at hz
      injection hz with hz
      subst hz
      exact HE.out
     ·exact HP.out j z (by omega) hz
    case measure => simp [intOf];omega
  ·obtain rfl:i = n:=by omega
   have hR0:R = 0:=by rw [HR.out];exact (HST.out _ HP.out).1 HL.out
   subst hR0
   go_wp2_with fail
   go_ret
   exact ⟨rfl,rfl⟩
end
section
open Go.RowKit Go.BigFrame NT
def ZN:NT:=.mk 0 0 ByteArray.empty ByteArray.empty false false none 0 [] none 0 []
abbrev nVal (k a:Int) (s p:ByteArray) (h e:Bool) (A:Option Addr) (n c:Nat) (B:Option Addr) (m d:Nat):Value:=.agg #[.int .i64 k,.int .i64 a,.string s,.string p,.bool h,.bool e,.slice A n c,.slice B m d]
def NT.vv (t:NT):Value:=nVal t.k t.a t.s t.p t.h t.e t.A t.b.length t.c t.B t.l.length t.d
def RfP (l:List NT) (nm:ByteArray) (w:World) (e:Ending) (w':World):Prop:=Bel w w'∧((∃ d,findN l nm = some d∧e = .returned (.tuple #[d.vv,.bool true])) ∨ (findN l nm = none∧e = .returned (.tuple #[ZN.vv,.bool false])))
theorem findN_take {l:List NT} {nm:ByteArray} {i:Nat} {x:NT} (h:findN (l.take i) nm = none) (hx:l[i]? = some x):(isDefOf nm x = true→findN l nm = some x)∧(isDefOf nm x = false→findN (l.take (i + 1)) nm = none):=by
 have hl:l = l.take i ++ x :: l.drop (i + 1):=by
  have hi:=(List.getElem?_eq_some_iff.1 hx).1
  rw [List.getElem?_eq_getElem hi] at hx
  injection hx with hx
  conv => lhs;rw [← List.take_append_drop i l,List.drop_eq_getElem_cons hi,hx]
 constructor
 ·intro hd
  unfold findN at h ⊢
  rw [hl,List.find?_append,h,Option.none_or,List.find?_cons,hd]
 ·intro hd
  rw [NT.take_step hx]
  unfold findN at h ⊢
  rw [List.find?_append,h,Option.none_or,List.find?_cons,hd]
  rfl
theorem isDefOf_eq (nm:ByteArray) (t:NT):isDefOf nm t = ((t.k == 6) && decide (t.s = nm)):=rfl
theorem toL_beq14 (a b:ByteArray):(a.toList == b.toList) = decide (a = b):=by
 rw [ByteArray.toList_eq,ByteArray.toList_eq,Bool.eq_iff_iff,beq_iff_eq,decide_eq_true_iff]
 exact ⟨fun h => toL_inj h,fun h => by rw [h]⟩
theorem only8_14 (W:World) (g:Nat) (a0 a1 a2 a3 a4 a5 a6 a7:Value):Only [g] W ((((((((W.setCell ⟨g,0,none⟩ a0).setCell ⟨g,1,none⟩ a1).setCell ⟨g,2,none⟩ a2).setCell ⟨g,3,none⟩ a3).setCell ⟨g,4,none⟩ a4).setCell ⟨g,5,none⟩ a5).setCell ⟨g,6,none⟩ a6).setCell ⟨g,7,none⟩ a7) :=
 (((((((((Only.refl [g] W).setCell (.inl (by simp)) _).setCell (.inl (by simp)) _).setCell (.inl (by simp)) _).setCell (.inl (by simp)) _).setCell (.inl (by simp)) _).setCell (.inl (by simp)) _).setCell (.inl (by simp)) _).setCell (.inl (by simp)) _)
theorem results_row_tmp14 {P:Program} {fn:Func} {p u:Tmp} {ty:TypeId} (h:fn.results = #[.cell p ty,.tmp u]) (tmps:Array Value) (w:World) (g:Nat) (t:TypeId) (cs:Array Value) (fr:Nat × Nat) (d:TypeDesc)
  (hp:tmps.getD p undef = .pointer (some ⟨g,0,none⟩)) (hg:w.heap[g]? = some (.cells cs t fr)) (hu:P.underlying ty = some d) (hd:(match d with | .struct _ | .array _ _ => true | _ => false) = true) (hi:(P.info? ty).map (·.size) = some cs.size) :
  (results fn tmps).run P w = .ok (.tuple #[.agg cs,tmps.getD u undef]) w:=by
 rw [results_cell_tmp h,hp]
 simp only [asAddr,Sem.run_pure,Result.andThen_ok,run_loadVar_row w g t ty cs fr d hg hu hd hi]
theorem rfind_c {l:List NT} {A:Option Addr} {c:Nat} {w:World} (hA:Row w (Lt w) A c l) (nm:ByteArray):Calls Tryz.prog 47 #[.slice A l.length c,.string nm] w (RfP l nm w):=by
 have hn5:=hA.len
 obtain ⟨n,hn⟩:∃ n,n = l.length:=⟨_,rfl⟩
 rw [← hn] at hn5 ⊢
 have HA:=hid hA
 have HN:=hid hn
 clear hA hn
 have HB0:=hid (Bel.alloc w (.cells #[.int .i64 0,.int .i64 0,.string ⟨#[]⟩,.string ⟨#[]⟩,.bool false,.bool false,.slice none 0 0,.slice none 0 0] 69))
 have HZ:=hid (Blk.new w 69 [.int .i64 0,.int .i64 0,.string ⟨#[]⟩,.string ⟨#[]⟩,.bool false,.bool false,.slice none 0 0,.slice none 0 0])
 go_enter Tryz.func47,Tryz.ntmps47
 go_wp2_with fail
 generalize w.alloc (.cells #[.int .i64 0,.int .i64 0,.string ⟨#[]⟩,.string ⟨#[]⟩,.bool false,.bool false,.slice none 0 0,.slice none 0 0] 69) = W at HB0 HZ ⊢
 go_loopw [6] (fun s6 wr => ∃ i:Nat,i≤n∧s6 = .int .i64 i∧Hid (findN (l.take i) nm = none)∧Hid (wr = W)) (fun s6 _ => n - (intOf s6).toNat)
 case atStart => exact ⟨0,Nat.zero_le _,rfl,hid rfl,hid rfl⟩
 case round =>
  obtain ⟨i,hi,rfl,HF,HW⟩:=hrel
  obtain rfl:=HW.out
  by_cases hlt:i < n
  ·obtain ⟨x,hx⟩:∃ x,l[i]? = some x:=⟨_,List.getElem?_eq_getElem (by have:=HN.out;omega)⟩
   obtain ⟨g,o,hAA,hg,ha⟩:=HA.out.cells hx
   subst hAA
   obtain ⟨a0,a1,a2,a3,a4,a5,a6,a7⟩:=ha wr HB0.out
   have HX:=hid (findN_take HF.out hx)
   clear hx ha
   by_cases hk:x.k = 6
   ·have k6:(x.k == 6) = true:=by rw [hk];rfl
    by_cases hs:x.s = nm
    ·have hs6:(x.s.toList == nm.toList) = true:=by rw [toL_beq14];simpa using hs
     have HR:=hid (HX.out.1 (by rw [isDefOf_eq,k6,hs];simp))
     obtain ⟨z0,z1,z2,z3,z4,z5,z6,z7⟩:=cells8 HZ.out
     have f0:=HZ.out.free 0
     have f1:=HZ.out.free 1
     have f2:=HZ.out.free 2
     have f3:=HZ.out.free 3
     have f4:=HZ.out.free 4
     have f5:=HZ.out.free 5
     have f6:=HZ.out.free 6
     have f7:=HZ.out.free 7
     clear hk hs
     go_wp2_with fail
     have hb8:=(((((((HZ.out.set_ 0 (.int .i64 x.k)).set_ 1 (.int .i64 x.a)).set_ 2 (.string x.s)).set_ 3 (.string x.p)).set_ 4 (.bool x.h)).set_ 5 (.bool x.e)).set_ 6 (.slice x.A x.b.length x.c)).set_ 7 (.slice x.B x.l.length x.d)
     simp only [List.set_cons_succ,List.set_cons_zero] at hb8
     refine bodyPost_ret (results_row_tmp14 rfl _ _ w.heap.size _ _ (0,0) _ rfl hb8 Tryz.underlying69 rfl (by kernel_rfl)) rfl ?_
     refine ⟨?_,.inl ⟨x,HR.out,rfl⟩⟩
     exact bel_on1 HB0.out (only8_14 _ _ _ _ _ _ _ _ _ _) (Nat.le_refl _)
    ·have hs6:(x.s.toList == nm.toList) = false:=by rw [toL_beq14];simpa using hs
     have HR:=hid (HX.out.2 (by rw [isDefOf_eq];simp [hs]))
     clear hk hs
     go_wp2_with fail
     go_roundw
     case rel => exact ⟨i + 1,by omega,by go_num,HR,hid trivial⟩
     case measure => simp [intOf];omega
   ·have k6:(x.k == 6) = false:=by simpa using hk
    have HR:=hid (HX.out.2 (by rw [isDefOf_eq,k6];rfl))
    clear hk
    go_wp2_with fail
    go_roundw
    case rel => exact ⟨i + 1,by omega,by go_num,HR,hid trivial⟩
    case measure => simp [intOf];omega
  ·obtain rfl:i = n:=by omega
   have HR:=hid (show findN l nm = none by have h:=HF.out;rwa [HN.out,List.take_length] at h)
   obtain ⟨z0,z1,z2,z3,z4,z5,z6,z7⟩:=cells8 HZ.out
   have f0:=HZ.out.free 0
   have f1:=HZ.out.free 1
   have f2:=HZ.out.free 2
   have f3:=HZ.out.free 3
   have f4:=HZ.out.free 4
   have f5:=HZ.out.free 5
   have f6:=HZ.out.free 6
   have f7:=HZ.out.free 7
   go_wp2_with fail
   have hb8:=(((((((HZ.out.set_ 0 (.int .i64 0)).set_ 1 (.int .i64 0)).set_ 2 (.string ⟨#[]⟩)).set_ 3 (.string ⟨#[]⟩)).set_ 4 (.bool false)).set_ 5 (.bool false)).set_ 6 (.slice none 0 0)).set_ 7 (.slice none 0 0)
   simp only [List.set_cons_succ,List.set_cons_zero] at hb8
   refine bodyPost_ret (results_row_tmp14 rfl _ _ w.heap.size _ _ (0,0) _ rfl hb8 Tryz.underlying69 rfl (by kernel_rfl)) rfl ?_
   refine ⟨?_,.inr ⟨HR.out,rfl⟩⟩
   exact bel_on1 HB0.out (only8_14 _ _ _ _ _ _ _ _ _ _) (Nat.le_refl _)
end
end Go.Proofs.YtpcapmdfjmpdiaaGreatDoor
