/- Contracts: the program's isBlock and inside -/
import Derived.Test.YtpcapmdfjmpdiaaGreatDoorMCt12
import Derived.Test.YtpcapmdfjmpdiaaGreatDoorMLn17
import Derived.Test.YtpcapmdfjmpdiaaGreatDoorMDb17
import Derived.Test.YtpcapmdfjmpdiaaGreatDoorMNt
import Derived.Test.YtpcapmdfjmpdiaaGreatDoorMEr14
import Derived.Sort.KeysCollected
import Derived.Test.YtpcapmdfjmpdiaaGreatDoorMPz13
import Derived.Recover
import Derived.Tactics
import Derived.WalkLawsBesides
import Derived.Defers
import Derived.Test.YtpcapmdfjmpdiaaGreatDoorMRlist
set_option linter.unusedVariables false
set_option linter.unusedSimpArgs false
set_option maxRecDepth 100000
set_option maxHeartbeats 6400000
open Go.Lib (hid)
namespace Go.Proofs.YtpcapmdfjmpdiaaGreatDoor
section
open Go.RowKit Go.BigFrame NT
theorem isBlock_c (k:Int) (w:World):Calls Tryz.prog 81 #[.int .i64 k] w fun e w' => e = .returned (.bool (blkI k))∧w' = w:=by
 by_cases h2:k = 2
 ·subst h2
  go_enter Tryz.func81,Tryz.ntmps81
  go_wp2_with fail
  go_ret
  exact ⟨rfl,rfl⟩
 by_cases h3:k = 3
 ·subst h3
  go_enter Tryz.func81,Tryz.ntmps81
  go_wp2_with fail
  go_ret
  exact ⟨rfl,rfl⟩
 by_cases h6:k = 6
 ·subst h6
  go_enter Tryz.func81,Tryz.ntmps81
  go_wp2_with fail
  go_ret
  exact ⟨rfl,rfl⟩
 have e2:(k == 2) = false:=by simpa using h2
 have e3:(k == 3) = false:=by simpa using h3
 have e6:(k == 6) = false:=by simpa using h6
 have hb:blkI k = false:=by unfold blkI;rw [e2,e3,e6];rfl
 have HB:=hid hb
 clear hb
 go_enter Tryz.func81,Tryz.ntmps81
 go_wp2_with fail
 go_ret
 exact ⟨by rw [HB.out];rfl,rfl⟩
abbrev nval (k a:Int) (s p:ByteArray) (h e:Bool) (A:Option Addr) (n c:Nat) (B:Option Addr) (m d:Nat):Value:=.agg #[.int .i64 k,.int .i64 a,.string s,.string p,.bool h,.bool e,.slice A n c,.slice B m d]
end
section
open Go.RowKit Go.BigFrame NT
end
section
open Go.RowKit Go.BigFrame NT
end
section
open Go.RowKit Go.BigFrame NT
def ckcs (k:CK):List Value:=[.int .i64 (k.1:Nat),.string k.2]
theorem ckcs_len (k:CK):(ckcs k).length = 2:=rfl
theorem ckcs_one (k:CK) (u:Value) (h:u ∈ ckcs k):u.oneCell' = true:=by
 simp only [ckcs,List.mem_cons,List.not_mem_nil,or_false] at h
 rcases h with rfl | rfl <;> rfl
theorem info_call17:(Tryz.prog.info? 107).map (fun i => (i.zero,i.size,i.bytes)) = some (some (.agg #[.int .i64 0,.string ByteArray.empty]),2,24):=by kernel_rfl
theorem cells_call17:(Value.agg #[.int .i64 0,.string ByteArray.empty]).cells.size = 2:=by kernel_rfl
structure AV where
 A:Option Addr
 c:Nat
 L:List IN
 E:Option Addr
 ce:Nat
 es:List Nat
 M:Nat
 K:Option Addr
 kc:Nat
 ks:List CK
abbrev AV.cs (v:AV):List Value:=[.slice v.A v.L.length v.c,.slice v.E v.es.length v.ce,.map (some v.M),.slice v.K v.ks.length v.kc]
structure As (Q:Nat→Prop) (rr:Nat) (w:World) (v:AV):Prop where
 blk:Blk w rr 104 v.cs
 code:KRow w 31 6 IN.cs v.A v.c v.L
 escs:RowAt w 3 v.E v.es.length v.ce (vin17 v.es)
 calls:KRow w 107 2 ckcs v.K v.kc v.ks
 fr:∀ g,Q g→g < w.heap.size∧g ≠ rr∧g ∉ rowT v.A∧g ∉ rowT v.K
theorem krow_bel {α:Type} {f:α→List Value} {z:Nat} {w w':World} {e:TypeId} {A:Option Addr} {c:Nat} {l:List α} (h:KRow w e z f A c l) (hb:Bel w w'):KRow w' e z f A c l:=h.only (bel_only hb) (by simp)
theorem As.bel {Q:Nat→Prop} {rr:Nat} {w w':World} {v:AV} (h:As Q rr w v) (hb:Bel w w'):As Q rr w' v :=
 ⟨h.blk.bel hb,krow_bel h.code hb,h.escs.only (bel_only hb) (by simp),krow_bel h.calls hb,fun g hg => ⟨Nat.lt_of_lt_of_le (h.fr g hg).1 hb.size,(h.fr g hg).2⟩⟩
abbrev AV.T (v:AV) (rr:Nat):List Nat:=rr :: (rowT v.A ++ rowT v.K)
structure Ev17 (Q:Nat→Prop) (rr:Nat) (w:World) (v0:AV) (W:World) (v:AV):Prop where
 st:As Q rr W v
 only:Only (v0.T rr) w W
 subA:∀ k,k ∈ rowT v.A→k ∈ rowT v0.A ∨ w.heap.size≤k
 subK:∀ k,k ∈ rowT v.K→k ∈ rowT v0.K ∨ w.heap.size≤k
theorem Ev17.refl {Q:Nat→Prop} {rr:Nat} {w:World} {v:AV} (h:As Q rr w v):Ev17 Q rr w v w v:=⟨h,Only.refl _ _,fun k hk => .inl hk,fun k hk => .inl hk⟩
theorem Ev17.bel {Q:Nat→Prop} {rr:Nat} {w W W':World} {v0 v:AV} (h:Ev17 Q rr w v0 W v) (hb:Bel W W'):Ev17 Q rr w v0 W' v:=⟨h.st.bel hb,h.only.join (bel_only hb) (by simp),h.subA,h.subK⟩
theorem Ev17.trans {Q:Nat→Prop} {rr:Nat} {w W W':World} {v0 v v':AV} (h:Ev17 Q rr w v0 W v) (h2:Ev17 Q rr W v W' v'):Ev17 Q rr w v0 W' v' :=
 ⟨h2.st,h.only.join h2.only (fun i hi => by
  rcases List.mem_cons.1 hi with rfl | hi
  ·exact .inl (by simp)
  ·rcases List.mem_append.1 hi with hi | hi
   ·exact (h.subA i hi).imp (fun h => by simp [h]) id
   ·exact (h.subK i hi).imp (fun h => by simp [h]) id),fun k hk => by
  rcases h2.subA k hk with h1 | h1
  ·exact h.subA k h1
  ·exact .inr (Nat.le_trans h.only.size h1),fun k hk => by
  rcases h2.subK k hk with h1 | h1
  ·exact h.subK k h1
  ·exact .inr (Nat.le_trans h.only.size h1)⟩
theorem cell_only {S:List Nat} {w W:World} (h:Only S w W) {g:Nat} (h1:g < w.heap.size) (h2:g ∉ S) (p:Nat):W.cell? ⟨g,p,none⟩ = w.cell? ⟨g,p,none⟩:=by
 have:=h.block g h1 h2
 simp only [World.cell?,this]
theorem Ev17.q {Q:Nat→Prop} {rr:Nat} {w W:World} {v0 v:AV} (h:Ev17 Q rr w v0 W v) (h0:As Q rr w v0):∀ g p,Q g→W.cell? ⟨g,p,none⟩ = w.cell? ⟨g,p,none⟩:=fun g p hg => by
 obtain ⟨h1,h2,h3,h4⟩:=h0.fr g hg
 exact cell_only h.only h1 (by simp [h2,h3,h4]) p
theorem Ev17.row {Q:Nat→Prop} {rr:Nat} {w W:World} {v0 v:AV} (h:Ev17 Q rr w v0 W v) (h0:As Q rr w v0) {A:Option Addr} {c:Nat} {l:List NT} (hr:Row w Q A c l):Row W Q A c l:=hr.same (fun _ h => h) (h.q h0)
theorem Ev17.in_ {Q:Nat→Prop} {rr:Nat} {w W:World} {v0 v:AV} (h:Ev17 Q rr w v0 W v) (h0:As Q rr w v0) {x:NT} (hr:x.In w Q):x.In W Q:=hr.same (fun _ h => h) (h.q h0)
structure St17 (v:AV) (L:List IN) (es:List Nat) (ks:List CK) (M:Nat):Prop where
 L:v.L = L
 es:v.es = es
 ks:v.ks = ks
 M:v.M = M
def AsP (Q:Nat→Prop) (rr:Nat) (w:World) (v0:AV) (r:Value) (L:List IN) (es:List Nat) (ks:List CK) (e:Ending) (w':World):Prop :=
 e = .returned r∧∃ v,Hid (Ev17 Q rr w v0 w' v)∧Hid (St17 v L es ks v0.M)
theorem As.ne {Q:Nat→Prop} {rr:Nat} {w:World} {v:AV} (h:As Q rr w v) {g:Nat} {t:TypeId} {cs:List Value} (hB:Blk w g t cs) (h1:t ≠ 104) (h2:t ≠ 31) (h3:t ≠ 107):g ∉ v.T rr:=by
 rw [List.mem_cons,List.mem_append,not_or,not_or]
 refine ⟨?_,?_,?_⟩
 ·rintro rfl
  exact hB.ne_ h.blk h1 rfl
 ·intro hk
  obtain ⟨ad,ha,hg⟩:=mem_rowT.1 hk
  obtain ⟨g',o,cur,rfl,hb,_⟩:=RowK.some_ h.code ad ha
  simp at hg
  subst hg
  exact hB.ne_ hb h2 rfl
 ·intro hk
  obtain ⟨ad,ha,hg⟩:=mem_rowT.1 hk
  obtain ⟨g',o,cur,rfl,hb,_⟩:=RowK.some_ h.calls ad ha
  simp at hg
  subst hg
  exact hB.ne_ hb h3 rfl
theorem As.keep {Q:Nat→Prop} {rr:Nat} {w W:World} {v0 v:AV} (h0:As Q rr w v0) (h:Ev17 Q rr w v0 W v) {g:Nat} {t:TypeId} {cs:List Value} (hB:Blk w g t cs) (h1:t ≠ 104) (h2:t ≠ 31) (h3:t ≠ 107):Blk W g t cs:=hB.only h.only (h0.ne hB h1 h2 h3)
theorem As.ne_ra {Q:Nat→Prop} {rr:Nat} {w:World} {v:AV} (h:As Q rr w v):rr ∉ rowT v.A:=fun hk => by
 obtain ⟨ad,ha,hg⟩:=mem_rowT.1 hk
 obtain ⟨g',o,cur,rfl,hb,_⟩:=RowK.some_ h.code ad ha
 simp at hg
 subst hg
 exact h.blk.ne_ hb (by decide) rfl
theorem As.ne_rk {Q:Nat→Prop} {rr:Nat} {w:World} {v:AV} (h:As Q rr w v):rr ∉ rowT v.K:=fun hk => by
 obtain ⟨ad,ha,hg⟩:=mem_rowT.1 hk
 obtain ⟨g',o,cur,rfl,hb,_⟩:=RowK.some_ h.calls ad ha
 simp at hg
 subst hg
 exact h.blk.ne_ hb (by decide) rfl
theorem As.ne_ak {Q:Nat→Prop} {rr:Nat} {w:World} {v:AV} (h:As Q rr w v):∀ k,k ∈ rowT v.K→k ∉ rowT v.A:=fun k hk hk2 => by
 obtain ⟨ad,ha,hg⟩:=mem_rowT.1 hk
 obtain ⟨g',o,cur,rfl,hb,_⟩:=RowK.some_ h.calls ad ha
 obtain ⟨ad2,ha2,hg2⟩:=mem_rowT.1 hk2
 obtain ⟨g2,o2,cur2,rfl,hb2,_⟩:=RowK.some_ h.code ad2 ha2
 simp at hg hg2
 subst hg hg2
 exact hb.ne_ hb2 (by decide) rfl
theorem As.ne_ea {Q:Nat→Prop} {rr:Nat} {w:World} {v:AV} (h:As Q rr w v):∀ k,k ∈ rowT v.E→k ∉ v.T rr:=fun k hk => by
 obtain ⟨ad,ha,hg⟩:=mem_rowT.1 hk
 obtain ⟨g',o,cur,rfl,hb,_⟩:=h.escs.some_ ad ha
 simp at hg
 subst hg
 exact h.ne hb (by decide) (by decide) (by decide)
theorem As.push {Q:Nat→Prop} {rr:Nat} {w w6:World} {v:AV} (h:As Q rr w v) {A':Option Addr} {c' N:Nat} {m:List IN} (hR:KRow w6 31 6 IN.cs A' c' (v.L ++ m)) (hN:N = (v.L ++ m).length) (hO:Only (rowT v.A) w w6) (hK:∀ k,k ∈ rowT A'→k ∈ rowT v.A ∨ k = w.heap.size) :
  Ev17 Q rr w v (w6.setCell ⟨rr,0,none⟩ (.slice A' N c')) { v with A:=A',c:=c',L:=v.L ++ m }:=by
 subst hN
 have hX:Blk w6 rr 104 v.cs:=h.blk.only hO h.ne_ra
 have hO7:Only [rr] w6 (w6.setCell ⟨rr,0,none⟩ (.slice A' (v.L ++ m).length c')):=(Only.refl _ _).setCell (.inl (by simp)) _
 have hrl:=h.blk.lt
 have hK':∀ k,k ∈ rowT A'→k ∈ rowT v.A ∨ w.heap.size≤k:=fun k hk => (hK k hk).imp id (fun e => by omega)
 have hrA:rr ∉ rowT A':=fun hk => by
  rcases hK rr hk with g | g
  ·exact h.ne_ra g
  ·omega
 refine ⟨⟨?_,?_,?_,?_,fun g hg => ?_⟩,?_,hK',fun k hk => .inl hk⟩
 ·exact hX.set_ 0 (.slice A' (v.L ++ m).length c')
 ·exact hR.only hO7 (fun k hk hm => by rw [List.mem_singleton] at hm;subst hm;exact hrA hk)
 ·refine (h.escs.only hO (fun k hk hm => h.ne_ea k hk (by simp [hm]))).only hO7 (fun k hk hm => ?_)
  rw [List.mem_singleton] at hm
  subst hm
  exact h.ne_ea k hk (by simp)
 ·refine (h.calls.only hO h.ne_ak).only hO7 (fun k hk hm => ?_)
  rw [List.mem_singleton] at hm
  subst hm
  exact h.ne_rk hk
 ·obtain ⟨g1,g2,g3,g4⟩:=h.fr g hg
  refine ⟨by have:=hO.size;have:=hO7.size;omega,g2,fun hk => ?_,g4⟩
  rcases hK g hk with e | e
  ·exact g3 e
  ·omega
 ·refine (hO.more (T:=v.T rr) (fun k hk => by simp [hk])).setCell (.inl (by simp)) _
section
variable {ops:Array Oper} {Q:Exit→Act→World→Prop}
theorem region_insAppend {T:List Nat} (k:Nat) {listed:Array Bool} {fuel:Nat} {a:Act} {w:World} {o:Oper} (hr:Region.ready .any ops listed = [k])
  (ho:ops[k]? = some o) (hw:Region.wanted o (yielded ops a.tmps) = true) (s x:Operand) (hop:o.op = .call { callee:=.builtin .append,args:=#[s,x],argTypes:=#[23,23] })
  (A:Option Addr) (n c:Nat) (l:List IN) (hn:l.length = n) (hs:a.eval s = .slice A n c) (hA:KRow w 31 6 IN.cs A c l) (X:Option Addr) (d:Nat) (m:List IN) (j:Nat) (hj:m.length = j) (hx:a.eval x = .slice X j d) (hX:Src w 6 IN.cs X m)
  (hle:n + j≤100000) (hT:∀ g,g ∈ rowT A→g ∈ T)
  (h:∀ A' c' w',Hid (KRow w' 31 6 IN.cs A' c' (l ++ m))→Hid (Only (rowT A) w w')→Hid (∀ k,k ∈ rowT A'→k ∈ rowT A ∨ k = w.heap.size) →
   wpAnyH Tryz.prog .any ops Q (Only T w') fuel (listed.setIfInBounds k true) (a.put o.dst (.slice A' (n + j) c')) w') :
  wpAnyH Tryz.prog .any ops Q (Only T w) (fuel + 1) listed a w:=by
 obtain ⟨i0,hi,hz,hsize,hby⟩:=info_parts info_ins17
 subst hn hj
 obtain ⟨A',c',w',hrun,h2,h3,h4⟩:=rowK_append (P:=Tryz.prog) o.type Tryz.underlying23 hi hz hsize hby cells_ins17 (by decide) hA d (flat_length IN.cs_len m) hX (fun u hu => by obtain ⟨y,_,hy⟩:=flat_mem hu;exact IN.cs_one y u hy) (by unfold maxLen;omega) (by omega)
 refine region_make k hr ho hw (exec_append hop hs hx hrun) (h3.more hT) (h A' c' w' (hid ?_) (hid h3) (hid h4))
 unfold KRow
 rw [flat_append,List.length_append]
 exact h2
end
section
variable {P:Program} {ops:Array Oper} {Q:Exit→Act→World→Prop}
theorem region_two {T:List Nat} (p q:Nat) {listed:Array Bool} {fuel:Nat} {a:Act} {w w1:World} {op oq:Oper} {v u:Value} (hr:Region.ready .any ops listed = [p,q]) (hrp:Region.ready .any ops (listed.setIfInBounds p true) = [q]) (hrq:Region.ready .any ops (listed.setIfInBounds q true) = [p])
  (hop:ops[p]? = some op) (hoq:ops[q]? = some oq) (hwp:Region.wanted op (yielded ops a.tmps) = true) (hwq:Region.wanted oq (yielded ops a.tmps) = true) (hwq2:Region.wanted oq (yielded ops (a.put op.dst v).tmps) = true) (hwp2:Region.wanted op (yielded ops (a.put oq.dst u).tmps) = true)
  (hp:(execOp a.eval op).run P w = .ok (.value v) w) (hq:(execOp a.eval oq).run P w = .ok (.value u) w1) (hq2:(execOp (a.put op.dst v).eval oq).run P w = .ok (.value u) w1) (hp2:(execOp (a.put oq.dst u).eval op).run P w1 = .ok (.value v) w1) (hO:Only T w w1)
  (hl:(listed.setIfInBounds q true).setIfInBounds p true = (listed.setIfInBounds p true).setIfInBounds q true) (ha:(a.put oq.dst u).put op.dst v = (a.put op.dst v).put oq.dst u)
  (h:wpAnyH P .any ops Q (Only T w1) fuel ((listed.setIfInBounds p true).setIfInBounds q true) ((a.put op.dst v).put oq.dst u) w1):wpAnyH P .any ops Q (Only T w) (fuel + 2) listed a w:=by
 refine wpAnyH_all hr (by simp) (fun i hi => ?_)
 simp only [List.mem_cons,List.not_mem_nil,or_false] at hi
 rcases hi with rfl | rfl
 ·exact op_make hop hwp hp (Only.refl _ _) (region_make q hrp hoq hwq2 hq2 hO h)
 ·exact op_make hoq hwq hq hO (region_make p hrq hop hwp2 hp2 (Only.refl _ _) (by rw [hl,ha];exact h))
end
abbrev iV (x:IN):Value:=.agg #[.int .i64 (x.o:Nat),.string x.s,.string x.p,.bool x.h,.int .i64 (x.e:Nat),.int .i64 (x.t:Nat)]
abbrev iO (x:IN):Obj:=.cells #[.int .i64 (x.o:Nat),.string x.s,.string x.p,.bool x.h,.int .i64 (x.e:Nat),.int .i64 (x.t:Nat)] 31
theorem add_c {Q:Nat→Prop} {rr:Nat} {w:World} {v:AV} (h:As Q rr w v) (x:IN) (hle:v.L.length + 1≤100000) :
  Calls Tryz.prog 67 #[.pointer (some ⟨rr,0,none⟩),iV x] w (AsP Q rr w v (.int .i64 (v.L.length:Nat)) (v.L ++ [x]) v.es v.ks):=by
 obtain ⟨n,hn⟩:∃ n,n = v.L.length:=⟨_,rfl⟩
 have HH:=hid h
 have hrl:=h.blk.lt
 have HN:=hid hn
 rw [← hn] at hle ⊢
 clear h hn
 go_enter Tryz.func67,Tryz.ntmps67
 go_wp2_with fail
 obtain ⟨W,hW⟩:∃ W,W = (w.alloc (iO x)).drew:=⟨_,rfl⟩
 have HB:=hid (show Bel w W by rw [hW];exact (Bel.alloc w _).trans (Bel.drew16 _))
 have HX:=hid (show Blk W w.heap.size 31 x.cs by rw [hW];exact (Blk.new w 31 x.cs).drew)
 have HSZ:=hid (show W.heap.size = w.heap.size + 1 by rw [hW];show (w.alloc _).heap.size = _;simp)
 have HA:=hid (HH.out.bel HB.out)
 have HNX:=hid (show w.heap.size ∉ rr :: rowT v.A by
  rw [List.mem_cons,not_or]
  exact ⟨by omega,fun hk => Nat.lt_irrefl _ (HH.out.code.lt _ hk)⟩)
 refine region_begin (T:=rr :: rowT v.A) (by kernel_rfl) ?_
 rw [show (World.drew _) = W from hW.symm]
 clear hW
 have x0:∀ X:Later (rr :: rowT v.A) W,X.w.cell? ⟨w.heap.size,0,none⟩ = some (.int .i64 (x.o:Nat)):=fun X => (HX.out.only X.h HNX.out).cell 0
 have x1:∀ X:Later (rr :: rowT v.A) W,X.w.cell? ⟨w.heap.size,1,none⟩ = some (.string x.s):=fun X => (HX.out.only X.h HNX.out).cell 1
 have x2:∀ X:Later (rr :: rowT v.A) W,X.w.cell? ⟨w.heap.size,2,none⟩ = some (.string x.p):=fun X => (HX.out.only X.h HNX.out).cell 2
 have x3:∀ X:Later (rr :: rowT v.A) W,X.w.cell? ⟨w.heap.size,3,none⟩ = some (.bool x.h):=fun X => (HX.out.only X.h HNX.out).cell 3
 have x4:∀ X:Later (rr :: rowT v.A) W,X.w.cell? ⟨w.heap.size,4,none⟩ = some (.int .i64 (x.e:Nat)):=fun X => (HX.out.only X.h HNX.out).cell 4
 have x5:∀ X:Later (rr :: rowT v.A) W,X.w.cell? ⟨w.heap.size,5,none⟩ = some (.int .i64 (x.t:Nat)):=fun X => (HX.out.only X.h HNX.out).cell 5
 refine region_seg [true,true,true,true,false,true] 6 (by kernel_rfl) (by kernel_rfl) (by kernel_rfl) rfl (fun _ _ d _ _ h => by cases d <;> exact h) ?_
 repeat (first | with_reducible refine wpMask_pass ?_ | (refine wpMask_want (by rfl) (fun K hK => ?_);go_big_quiet_op;refine hK _ ?_;clear hK K))
 with_reducible refine wpMask_nil ?_
 clear x0 x1 x2 x3 x4 x5
 have c0:=HA.out.blk.cell 0
 simp only [List.getElem?_cons_zero] at c0
 rw [← HN.out] at c0
 have HA2:=hid (HA.out.bel (Bel.alloc W (iO x)))
 have c1:=HA2.out.blk.cell 0
 simp only [List.getElem?_cons_zero] at c1
 rw [← HN.out] at c1
 refine region_two 4 6 (v:=.slice v.A n v.c) (u:=.slice (some ⟨W.heap.size,0,none⟩) 1 1) (w1:=W.alloc (iO x)) (by kernel_rfl) (by kernel_rfl) (by kernel_rfl) rfl rfl (by rfl) (by rfl) (by rfl) (by rfl) (by go_simp) (by go_simp) (by go_simp) (by go_simp) ((Only.refl _ _).alloc _) (by kernel_rfl) (by rfl) ?_
 simp only [List.getElem_toArray,List.getElem_cons_zero,List.getElem_cons_succ,Act.put,List.setIfInBounds_toArray,List.set_cons_zero,List.set_cons_succ]
 clear c0 c1
 have HS:=hid (show Src (W.alloc (iO x)) 6 IN.cs (some ⟨W.heap.size,0,none⟩) [x] from src_blk (f:=IN.cs) (z:=6) (m:=[x]) (Blk.new W 31 x.cs) (by rw [flat_one]))
 refine region_insAppend 7 (by kernel_rfl) rfl (by rfl) (.tmp 9) (.tmp 11) rfl v.A n v.c v.L HN.out.symm rfl HA2.out.code (some ⟨W.heap.size,0,none⟩) 1 [x] 1 rfl rfl HS.out hle (fun g hg => List.mem_cons_of_mem _ hg) ?_
 intro A' c' W4 HR4 HO4 HK4
 simp only [List.getElem_toArray,List.getElem_cons_zero,List.getElem_cons_succ,Act.put,List.setIfInBounds_toArray,List.set_cons_zero,List.set_cons_succ]
 refine region_seg [false,false,false,false,false,false,false,false,true,true] 1 (by kernel_rfl) (by kernel_rfl) (by kernel_rfl) rfl (fun _ _ d _ _ h => by cases d <;> exact h) ?_
 repeat (first | with_reducible refine wpMask_pass ?_ | (refine wpMask_want (by rfl) (fun K hK => ?_);go_big_quiet_op;refine hK _ ?_;clear hK K))
 with_reducible refine wpMask_nil ?_
 have HX4:=hid (show Blk W4 rr 104 v.cs from HA2.out.blk.only HO4.out HA2.out.ne_ra)
 have c0:=HX4.out.cell 0
 have f0:=HX4.out.free 0
 simp only [List.getElem?_cons_zero] at c0
 refine region_store 10 (w1:=W4.setCell ⟨rr,0,none⟩ (.slice A' (n + 1) c')) (by kernel_rfl) rfl (by rfl) (by go_simp) ((Only.refl _ _).setCell (.inl (by simp)) _) ?_
 simp only [List.getElem_toArray,List.getElem_cons_zero,List.getElem_cons_succ,Act.put,List.setIfInBounds_toArray,List.set_cons_zero,List.set_cons_succ]
 refine region_end (by kernel_rfl) ?_
 clear c0 f0
 have HE:=hid (((Ev17.refl HH.out).bel (HB.out.trans (Bel.alloc W (iO x)))).trans (As.push HA2.out (N:=n + 1) HR4.out (by rw [List.length_append,← HN.out];rfl) HO4.out HK4.out))
 have c5:=HE.out.st.blk.cell 0
 simp only [List.getElem?_cons_zero,List.length_append,List.length_cons,List.length_nil] at c5
 rw [← HN.out] at c5
 have e5:((n:Int) + 1) - 1 = n:=by omega
 have e6:IntKind.i64.wrap (((n:Int) + 1) - 1) = n:=(IntWalk.i64_in _ (by omega)).trans (by omega)
 go_wp2_with fail
 go_ret
 exact ⟨rfl,_,HE,hid ⟨rfl,rfl,rfl,rfl⟩⟩
end
section
open Go.RowKit Go.BigFrame Go.Maps Go.Sort Go.Shelf NT
def fF (F:List ByteArray) (k:ByteArray):Option Value:=if hasN F k = true then some (.bool true) else none
theorem fF_in {F:List ByteArray} {k:ByteArray} (h:k ∈ F):fF F k = some (.bool true):=if_pos (hasN_iff.2 h)
theorem fF_out {F:List ByteArray} {k:ByteArray} (h:k ∉ F):fF F k = none:=if_neg (fun e => h (hasN_iff.1 e))
theorem fF_nil (k:ByteArray):(none:Option Value) = fF [] k:=(fF_out (by simp)).symm
theorem fF_push (F:List ByteArray) (x k:ByteArray):(if k = x then some (.bool true) else fF F k) = fF (F ++ [x]) k:=by
 by_cases h:k = x
 ·subst h;rw [if_pos rfl,fF_in (by simp)]
 ·rw [if_neg h]
  by_cases h2:k ∈ F
  ·rw [fF_in h2,fF_in (by simp [h2])]
  ·rw [fF_out h2,fF_out (by simp [h,h2])]
theorem SMap.perm {w:World} {M n:Nat} {F:List ByteArray} (h:SMap w M n (fF F)) (hn:F.Nodup):∃ D:DataW Value,w.ownsMap Tryz.prog 9 RVal M n D∧(strKeys D).Perm (F.map kL):=by
 obtain ⟨D,h1,h2⟩:=h
 refine ⟨D,h1,List.Perm.symm ?_⟩
 have hC:Collected D (fun _ => false) (F.map kL):=by
  refine ⟨?_,fun x => ?_⟩
  ·rw [List.nodup_iff_pairwise_ne,List.pairwise_map]
   exact (List.nodup_iff_pairwise_ne.1 hn).imp fun hne e => hne (kL_inj e)
  ·rw [List.mem_map]
   have e:x = kL ⟨x.toArray⟩:=by simp [kL]
   constructor
   ·rintro ⟨k,hk,rfl⟩
    exact ⟨((h2 k).2 _ (fF_in hk)).1,rfl⟩
   ·rintro ⟨hx,_⟩
    refine ⟨⟨x.toArray⟩,?_,e.symm⟩
    by_cases hm:(⟨x.toArray⟩:ByteArray) ∈ F
    ·exact hm
    ·have:=(h2 _).1 (fF_out hm)
     rw [← e,hx] at this
     cases this
 exact hC.perm h1 keyLaw Tryz.underlying9 (fun _ => rfl)
theorem size_strKeys {H:Type} {D:DataW H}:Maps.size D = (strKeys D).length:=by
 cases D <;> simp [Maps.size,strKeys]
end
section
open NT
def fin (op:Nat) (ie:Bool):PR→PR
 | .error e => .error e
 | .ok (l,[],c) => .ok (l,[],c)
 | .ok (l,u :: r,c) => if u.k = 7 then (if op = 2∧ie = false then .ok (l,u :: r,c) else .error (u.a,13)) else (if op = 0 then .error (u.a,13) else .ok (l,u :: r,c))
theorem fin_cons (op:Nat) (ie:Bool) (x:NT) (r:PR):fin op ie (r.cons x) = (fin op ie r).cons x:=by
 cases r with
 | error e => rfl
 | ok y =>
  obtain ⟨l,ts,c⟩:=y
  cases ts with
  | nil => rfl
  | cons u r =>
   simp only [PR.cons,fin]
   split
   ·split <;> rfl
   ·split <;> rfl
theorem pl_conv (op:Nat) (ie:Bool):∀ (f:Nat) (ts:List Tok) (d c:Nat),pl f ts op ie d c = fin op ie (pl f ts 2 false d c)
 | 0,_,_,_ => rfl
 | f + 1,[],_,_ => rfl
 | f + 1,t :: r,d,c => by
  unfold pl
  by_cases h7:t.k = 7
  ·rw [if_pos h7,if_pos h7,if_pos (show (2:Nat) = 2∧false = false from ⟨rfl,rfl⟩)]
   simp only [fin]
   rw [if_pos h7]
  rw [if_neg h7,if_neg h7]
  by_cases h8:t.k = 8
  ·rw [if_pos h8,if_pos h8,if_neg (show ¬ ((2:Nat) = 0) by decide)]
   simp only [fin]
   rw [if_neg h7]
  rw [if_neg h8,if_neg h8]
  by_cases hn:t.k = 6∧0 < d ∨ blk t.k = true∧32≤d
  ·rw [if_pos hn,if_pos hn];rfl
  rw [if_neg hn,if_neg hn]
  by_cases hc:4096≤c
  ·rw [if_pos hc,if_pos hc];rfl
  rw [if_neg hc,if_neg hc]
  cases hb:blk t.k with
  | false => rw [if_pos rfl,if_pos rfl,fin_cons,pl_conv op ie f r]
  | true =>
   rw [if_neg (by decide),if_neg (by decide)]
   cases hp:pl f r t.k false (d + 1) (c + 1) with
   | error e => rfl
   | ok x =>
    obtain ⟨b,r1,c1⟩:=x
    cases r1 with
    | nil => rfl
    | cons u r2 =>
     dsimp only
     by_cases hu:u.k = 7
     ·rw [if_pos hu,if_pos hu]
      cases hp2:pl f r2 t.k true (d + 1) c1 with
      | error e => rfl
      | ok x =>
       obtain ⟨b2,r3,c2⟩:=x
       cases r3 with
       | nil => rfl
       | cons v r4 => dsimp only;rw [fin_cons,pl_conv op ie f r4]
     ·rw [if_neg hu,if_neg hu,fin_cons,pl_conv op ie f r2]
theorem P_conv (ts:List Tok) (op:Nat) (ie:Bool) (d c:Nat):P ts op ie d c = fin op ie (P ts 2 false d c):=pl_conv op ie _ ts d c
abbrev NXR:=Except (Nat × Nat) (NT × List Tok × Nat)
def NX (t:Tok) (r:List Tok) (d c:Nat):NXR :=
 if t.k = 6∧0 < d ∨ blk t.k = true∧32≤d then .error (t.a,13)
 else if 4096≤c then .error (t.a,14)
 else if blk t.k = false then .ok (nd t false [] [],r,c + 1)
 else match P r 2 false (d + 1) (c + 1) with
  | .error e => .error e
  | .ok (b,[],_) => .error (t.a,7)
  | .ok (b,u :: r2,c1) =>
   if u.k = 7 then
    (if t.k = 2 then match P r2 2 false (d + 1) c1 with
     | .error e => .error e
     | .ok (b2,[],_) => .error (t.a,7)
     | .ok (b2,v :: r4,c2) => if v.k = 7 then .error (v.a,13) else .ok (nd t true b b2,r4,c2)
    else .error (u.a,13))
   else .ok (nd t false b [],r2,c1)
theorem P_nx {t:Tok} {r:List Tok} {d c:Nat} (h7:t.k ≠ 7) (h8:t.k ≠ 8):P (t :: r) 2 false d c = match NX t r d c with
  | .error e => .error e
  | .ok (x,r',c') => (P r' 2 false d c').cons x:=by
 unfold NX
 by_cases hn:t.k = 6∧0 < d ∨ blk t.k = true∧32≤d
 ·rw [if_pos hn,P_nest h7 h8 hn]
 rw [if_neg hn]
 by_cases hc:4096≤c
 ·rw [if_pos hc,P_many h7 h8 hn hc]
 rw [if_neg hc]
 cases hb:blk t.k with
 | false => rw [if_pos rfl,P_leaf h7 h8 (by omega) hb]
 | true =>
  rw [if_neg (by decide),P_step_block hn (by omega) hb,P_conv r t.k false]
  have h0:t.k ≠ 0:=by intro h;rw [h] at hb;cases hb
  cases hp:P r 2 false (d + 1) (c + 1) with
  | error e => rfl
  | ok x =>
   obtain ⟨b,r1,c1⟩:=x
   cases r1 with
   | nil => rfl
   | cons u r2 =>
    simp only [fin]
    by_cases hu:u.k = 7
    ·rw [if_pos hu,if_pos hu]
     by_cases h2:t.k = 2
     ·rw [if_pos ⟨h2,trivial⟩,if_pos h2]
      dsimp only
      rw [if_pos hu,P_conv r2 t.k true]
      cases hp2:P r2 2 false (d + 1) c1 with
      | error e => rfl
      | ok x =>
       obtain ⟨b2,r3,c2⟩:=x
       cases r3 with
       | nil => rfl
       | cons v r4 =>
        simp only [fin]
        by_cases hv:v.k = 7
        ·rw [if_pos hv,if_neg (fun h => by cases h.2),if_pos hv]
        ·rw [if_neg hv,if_neg h0,if_neg hv]
     ·rw [if_neg (fun h => h2 h.1),if_neg h2]
    ·rw [if_neg hu,if_neg hu,if_neg h0]
     dsimp only
     rw [if_neg hu]
theorem nx_good {t:Tok} {r:List Tok} {d c:Nat} {x:NT} {r':List Tok} {c':Nat} (h:NX t r d c = .ok (x,r',c')) (hc:c≤4096) (hd:d≤32):r'.length≤r.length∧c'≤4096:=by
 unfold NX at h
 split at h
 ·cases h
 rename_i hn
 split at h
 ·cases h
 rename_i hc4
 split at h
 ·simp at h;obtain ⟨_,rfl,rfl⟩:=h;exact ⟨Nat.le_refl _,by omega⟩
 rename_i hb
 have hb:blk t.k = true:=by simpa using hb
 have hd32:d + 1≤32:=by
  rcases Nat.lt_or_ge d 32 with h1 | h1
  ·omega
  ·exact absurd (.inr ⟨hb,h1⟩) hn
 split at h
 ·cases h
 ·cases h
 ·rename_i b u r2 c1 hp
  have h1:=P_rest hp
  have h2:=P_good hp (by omega) hd32
  simp only [List.length_cons] at h1
  split at h
  ·split at h
   ·split at h
    ·cases h
    ·cases h
    ·rename_i b2 v r4 c2 hp2
     have h3:=P_rest hp2
     have h4:=P_good hp2 h2.2.1 hd32
     simp only [List.length_cons] at h3
     split at h
     ·cases h
     ·simp at h;obtain ⟨_,rfl,rfl⟩:=h
      exact ⟨by omega,h4.2.1⟩
   ·cases h
  ·simp at h;obtain ⟨_,rfl,rfl⟩:=h
   exact ⟨by omega,h2.2.1⟩
end
section
open Go
theorem wpS_region_recover {P:Program} {Q:Exit→Act→List Frame→World→Prop} {a:Act} {cs cs':List Frame} {w:World} {id:Nat} {ops:Array Oper} {o:Oper} {rest:List Oper} (hl:ops.toList = o :: rest)
  (hw:Region.wanted o (yielded ops a.tmps) = true) (hr:(execOp a.eval o).run P w = .ok .recover w) (v:Value) (hc:recoverD cs = some (v,cs') ∨ (recoverD cs = none∧v = .nilIface∧cs' = cs))
  (h:wpList P ops (fun e a' w' => Q e a' cs' w') rest (a.put o.dst v) w):(Code.region id ops false).wpS P Q a cs w:=by
 intro b k hb hro
 have h0:ops[0]? = some o:=by rw [← Array.getElem?_toList,hl];rfl
 have hsz:ops.size = rest.length + 1:=by rw [← Array.length_toList,hl];rfl
 have he:wpOps P ops (fun e a' w' => Q e a' cs' w') (List.range' 1 rest.length) = wpList P ops (fun e a' w' => Q e a' cs' w') rest :=
  wpOps_eq_wpList rest 1 (fun j => by rw [← Array.getElem?_toList,hl,Nat.add_comm];rfl)
 rw [← he] at h
 obtain ⟨e,a',w',hq,harr⟩:=wp_ops _ _ _ h b k cs'
 have hrng:List.range ops.size = 0 :: List.range' 1 rest.length:=by rw [hsz,List.range_eq_range',List.range'_succ]
 have hg:=stepG_op (P:=P) (b:=b) (k:=k) (cs:=cs) (w:=w) (rest:=List.range' 1 rest.length) h0 hw
 have hfin:∀ v,(b.at a (.inRegion ops (0 :: List.range' 1 rest.length) :: k)).finish v = b.at (a.put o.dst v) (.inRegion ops (List.range' 1 rest.length) :: k):=by
  intro v;rw [Frame.finish_at,h0];rfl
 have hk:(b.at a (.inRegion ops (0 :: List.range' 1 rest.length) :: k)).kind = .deferred:=hb
 have htr:=tryRecover_deferred hk cs
 have hs1:step P (lone (b.at a (.code (Code.region id ops false) :: k)) cs w) = .next (lone (b.at a (.inRegion ops (0 :: List.range' 1 rest.length) :: k)) cs w):=by
  rw [← hrng];exact step_region
 refine ⟨e,a',cs',w',hq,.of_steps (.one hs1) (.of_steps (.one (step_lone_go ?_)) harr)⟩
 rw [hg,← hfin]
 simp only [Frame.at] at htr ⊢
 rcases hc with hrec | ⟨hrec,rfl,rfl⟩
 ·simp [stepG.apply,hr,htr,hrec]
 ·simp [stepG.apply,hr,htr,hrec]
end
section
open Go.RowKit
section
variable {P:Program} {ops:Array Oper} {Q:Exit→Act→World→Prop} {S:World→Prop}
structure Held (S:World→Prop) where
 w:World
 h:S w
def calm (Q:Exit→Act→World→Prop):Exit→Act→World→Prop
 | .panic _,_,_ => False
 | e,a,w => Q e a w
theorem calm_le (e:Exit) (a:Act) (w:World) (h:calm Q e a w):Q e a w:=by
 cases e <;> first | exact h | exact h.elim
theorem held_begin {id:Nat} {a:Act} {w:World} (hm:P.follows .mixedOrders = true)
  (h:wpAnyH P .any ops (calm Q) S ops.size (Array.replicate ops.size false) a w.drew):(Code.region id ops true).wp P Q a w:=wp_mono (wp_region_held hm h) calm_le
theorem held_seg (m:List Bool) {listed:Array Bool} {fuel:Nat} (fuel':Nat) {a:Act} {w:World} {l:List Oper} (hs:Region.noSelect l.toArray = true) (hm:(decide (m.length≤l.length)) = true)
  (hok:segOk l.toArray (places 0 m) listed = true)
  (hf:fuel' + (places 0 m).length = fuel) (hS:S w)
  (h:wpMask P l.toArray (fun w' => ∃ x:Held S,w' = x.w) (fun b => wpAnyH P .any l.toArray (calm Q) S fuel' (marked listed (places 0 m)) b w) m l a):wpAnyH P .any l.toArray (calm Q) S fuel listed a w:=by
 subst hf
 refine take_list (fun w' h' => ⟨⟨w',h'⟩,rfl⟩) hs (fun _ _ _ _ _ h => h) (places 0 m) fuel' listed a w hok hS (wpSeg_of_mask m l 0 a (fun j => by simp) ?_ h)
 have:=of_decide_eq_true hm
 simpa using this
theorem held_store (e:Nat) {listed:Array Bool} {fuel:Nat} {a:Act} {w w1:World} {o:Oper} (hr:Region.ready .any ops listed = [e])
  (ho:ops[e]? = some o) (hw:Region.wanted o (yielded ops a.tmps) = true) (hrun:(execOp a.eval o).run P w = .ok .skip w1) (hS:S w1)
  (h:wpAnyH P .any ops Q S fuel (listed.setIfInBounds e true) (a.put o.dst undef) w1) :
  wpAnyH P .any ops Q S (fuel + 1) listed a w:=by
 refine wpAnyH_all hr (by simp) (fun i hi => ?_)
 simp only [List.mem_singleton] at hi
 subst hi
 unfold wpOp
 simp only [ho,hw,if_true]
 refine .inl ?_
 unfold Oper.wp
 rw [hrun]
 simp only [Oper.upon]
 exact ⟨hS,h⟩
end
end
section
open Go.RowKit Go.BigFrame NT
attribute [local go_sem ↓] sliced_cut run_min2 run_max2
attribute [local go_sem] cutA_zero
structure Pq (w:World) (g:Nat) (A:Option Addr) (cA:Nat) (ts:List Tok) (c:Nat):Prop where
 blk:Blk w g 61 [.slice A ts.length cA,.int .i64 c]
 row:KRow w 64 5 Tok.cs A cA ts
 ne:g ∉ rowT A
theorem Pq.only {w w':World} {g:Nat} {A:Option Addr} {cA:Nat} {ts:List Tok} {c:Nat} {S:List Nat} (h:Pq w g A cA ts c) (ho:Only S w w') (hg:g ∉ S) (hL:∀ k,k ∈ rowT A→k ∉ S):Pq w' g A cA ts c :=
 ⟨h.blk.only ho hg,h.row.only ho hL,h.ne⟩
theorem Pq.cells {w:World} {g:Nat} {A:Option Addr} {cA:Nat} {ts:List Tok} {c:Nat} (h:Pq w g A cA ts c) :
  w.cell? ⟨g,0,none⟩ = some (.slice A ts.length cA)∧w.cell? ⟨g,1,none⟩ = some (.int .i64 c):=⟨h.blk.cell 0,h.blk.cell 1⟩
theorem Pq.frees {w:World} {g:Nat} {A:Option Addr} {cA:Nat} {ts:List Tok} {c:Nat} (h:Pq w g A cA ts c) :
  w.frozen? ⟨g,0,none⟩ = false∧w.frozen? ⟨g,1,none⟩ = false:=⟨h.blk.free 0,h.blk.free 1⟩
theorem Pq.tok {w:World} {g:Nat} {A:Option Addr} {cA:Nat} {t:Tok} {r:List Tok} {c:Nat} (h:Pq w g A cA (t :: r) c) :
  ∃ g1 o1,A = some ⟨g1,o1,none⟩∧g1 < w.heap.size∧w.cell? ⟨g1,o1,none⟩ = some (.int .i64 t.k)∧w.cell? ⟨g1,o1 + 1,none⟩ = some (.int .i64 t.a)∧w.cell? ⟨g1,o1 + 2,none⟩ = some (.string (ofL t.s))∧w.cell? ⟨g1,o1 + 3,none⟩ = some (.string (ofL t.p))∧w.cell? ⟨g1,o1 + 4,none⟩ = some (.bool t.h):=by
 obtain ⟨g1,o1,e,hc⟩:=tok_at (i:=0) (t:=t) h.row rfl
 obtain ⟨c0,c1,c2,c3,c4⟩:=hc w (Bel.refl _)
 simp only [Nat.zero_mul,Nat.add_zero] at c0 c1 c2 c3 c4
 exact ⟨g1,o1,e,h.row.lt g1 (by rw [e];simp [rowT]),c0,c1,c2,c3,c4⟩
theorem Pq.take {w:World} {g:Nat} {A:Option Addr} {cA:Nat} {t:Tok} {r:List Tok} {c:Nat} (h:Pq w g A cA (t :: r) c):Pq (w.setCell ⟨g,0,none⟩ (.slice (cutA cA 1 5 A) r.length (cA - 1))) g (cutA cA 1 5 A) (cA - 1) r c:=by
 have h1:=h.row.cut tok_len 1 (by simp)
 refine ⟨h.blk.set_ 0 _,h1.only (S:=[g]) ((Only.refl [g] w).setCell (.inl (by simp)) _) (fun k hk => ?_),by rw [rowT_cut];exact h.ne⟩
 rw [rowT_cut] at hk
 intro hk2
 simp at hk2
 subst hk2
 exact h.ne hk
theorem Pq.count {w:World} {g:Nat} {A:Option Addr} {cA:Nat} {ts:List Tok} {c:Nat} (h:Pq w g A cA ts c) (j:Nat):Pq (w.setCell ⟨g,1,none⟩ (.int .i64 (j:Int))) g A cA ts j :=
 ⟨h.blk.set_ 1 _,h.row.only (S:=[g]) ((Only.refl [g] w).setCell (.inl (by simp)) _) (fun k hk h1 => by simp at h1;subst h1;exact h.ne hk),h.ne⟩
def flt (a k:Nat):Value:=.iface 58 (.agg #[.int .i64 a,.int .i64 k])
abbrev tval (t:Tok):Value:=.agg #[.int .i64 t.k,.int .i64 t.a,.string (ofL t.s),.string (ofL t.p),.bool t.h]
theorem ending_none (g b:Nat) (A:Option Addr) (cA c a:Nat) (w:World) (hP:Pq w g A cA [] c) (hb:w.cell? ⟨b,1,none⟩ = some (.int .i64 a)) (hbl:b < w.heap.size) :
  Calls Tryz.prog 103 #[.pointer (some ⟨g,0,none⟩),.pointer (some ⟨b,0,none⟩)] w fun e w' => e = .panicked [{ v:=flt a 7,recovered:=false }]∧Bel w w':=by
 have hgl:=hP.blk.lt
 obtain ⟨q0,q1⟩:=hP.cells
 simp only [List.length_nil] at q0
 have hg1:¬ g = w.heap.size:=by omega
 have hg2:¬ b = w.heap.size:=by omega
 clear hP
 go_enter Tryz.func103,Tryz.ntmps103
 go_wp2_with fail
 exact ⟨rfl,rfl,Bel.alloc _ _⟩
theorem doneT {f:Func} (hf:f.results = #[.cell 4 64]) {tmps:Array Value} {b:Nat} {v0 v1 v2 v3 v4:Value} {W:World} (hp:tmps.getD 4 undef = .pointer (some ⟨b,0,none⟩))
  (h1:v0.oneCell' = true∧v1.oneCell' = true∧v2.oneCell' = true∧v3.oneCell' = true∧v4.oneCell' = true)
  (hB:Blk W b 64 [v0,v1,v2,v3,v4]):(results f tmps).run Tryz.prog W = .ok (.agg #[v0,v1,v2,v3,v4]) W:=by
 have hp':tmps[4]?.getD undef = .pointer (some ⟨b,0,none⟩):=by simpa using hp
 have hl:=run_loadVar_row W b 64 #[v0,v1,v2,v3,v4] (0,0) _ (P:=Tryz.prog) (ty:=64) hB Tryz.underlying64 rfl (by kernel_rfl)
 simp [results,hf,hp',asAddr,hl]
theorem ending_some (g:Nat) (b:Addr) (A:Option Addr) (cA c:Nat) (t:Tok) (r:List Tok) (w:World) (hP:Pq w g A cA (t :: r) c) :
  Calls Tryz.prog 103 #[.pointer (some ⟨g,0,none⟩),.pointer (some b)] w fun e w' => e = .returned (tval t)∧Only [g] w w'∧Pq w' g (cutA cA 1 5 A) (cA - 1) r c:=by
 have hgl:=hP.blk.lt
 have HP:=hid hP
 have hle:=hP.row.le
 have hmx:=hP.row.max
 unfold maxLen at hmx
 obtain ⟨q0,q1⟩:=hP.cells
 obtain ⟨f0,f1⟩:=hP.frees
 obtain ⟨g1,o1,rfl,hg1,c0,c1,c2,c3,c4⟩:=hP.tok
 simp only [List.length_cons] at q0 hle
 have e1:¬ g = w.heap.size:=by omega
 have e2:¬ g1 = w.heap.size:=by omega
 have e3:¬ g = w.heap.size + 1:=by omega
 have e4:¬ w.heap.size = g:=by omega
 have e5:¬ w.heap.size + 1 = g:=by omega
 have HRL:Hid (∃ n,n = r.length):=hid ⟨_,rfl⟩
 clear hP
 go_enter Tryz.func103,Tryz.ntmps103
 go_wp2_with fail
 have hB:=(Blk.new (w.setCell ⟨g,0,none⟩ (.slice (cutA cA 1 5 (some ⟨g1,o1,none⟩)) r.length (cA - 1))) 64 [.int .i64 t.k,.int .i64 t.a,.string (ofL t.s),.string (ofL t.p),.bool t.h]).alloc (.cells #[.int .i64 t.k,.int .i64 t.a,.string (ofL t.s),.string (ofL t.p),.bool t.h] 64)
 rw [show (w.setCell ⟨g,0,none⟩ (.slice (cutA cA 1 5 (some ⟨g1,o1,none⟩)) r.length (cA - 1))).heap.size = w.heap.size by simp [World.setCell]] at hB
 refine bodyPost_ret (doneT rfl rfl ⟨rfl,rfl,rfl,rfl,rfl⟩ hB) rfl ⟨rfl,?_,?_⟩
 ·exact (((Only.refl [g] w).setCell (.inl (by simp)) _).alloc _).alloc _
 ·have h:=HP.out.take
  refine h.only (S:=[]) ((((Only.refl [] _).alloc _).alloc _)) (by simp) (by simp)
end
section
open Go.RowKit Go.BigFrame NT
theorem TsOk.drop {ts:List Tok} (h:TsOk ts) (k:Nat):TsOk (ts.drop k) :=
 ⟨by have:=h.1;rw [List.length_drop];omega,fun t ht => h.2 t (List.mem_of_mem_drop ht)⟩
theorem TsOk.tail {t:Tok} {r:List Tok} (h:TsOk (t :: r)):TsOk r:=h.drop 1
abbrev pan (a k:Nat):Ending:=.panicked [{ v:=.iface 58 (.agg #[.int .i64 a,.int .i64 k]),recovered:=false }]
def ListPq (g:Nat) (A:Option Addr) (ts:List Tok) (w:World) (res:PR) (e:Ending) (w':World):Prop:=Only [g] w w'∧match res with
 | .error (a,k) => e = pan a k
 | .ok (l,r,c) => ∃ (B:Option Addr) (cB:Nat) (m:List NT),ers m = l∧Row w' (Fr w w') B cB m∧e = .returned (.slice B m.length cB)∧(∃ A' cA',Pq w' g A' cA' r c∧rowT A' = rowT A)∧∃ k,r = ts.drop k
def ListQ (g n:Nat):Prop:=∀ (A:Option Addr) (cA:Nat) (ts:List Tok) (d c:Nat) (w:World),Pq w g A cA ts c→TsOk ts→ts.length≤n→d≤32→c≤4096 →
 Calls Tryz.prog 28 #[.pointer (some ⟨g,0,none⟩),.int .i64 d] w (ListPq g A ts w (P ts 2 false d c))
abbrev FXR:=Except (Nat × Nat) (Bool × List NT × List NT × List Tok × Nat)
def FX (t:Tok) (r:List Tok) (d c:Nat):FXR:=match P r 2 false d c with
 | .error e => .error e
 | .ok (b,[],_) => .error (t.a,7)
 | .ok (b,u :: r2,c1) =>
  if u.k = 7 then
   (if t.k = 2 then match P r2 2 false d c1 with
    | .error e => .error e
    | .ok (b2,[],_) => .error (t.a,7)
    | .ok (b2,v :: r4,c2) => if v.k = 7 then .error (v.a,13) else .ok (true,b,b2,r4,c2)
   else .error (u.a,13))
  else .ok (false,b,[],r2,c1)
theorem NX_fx {t:Tok} {r:List Tok} {d c:Nat} (hn:¬ (t.k = 6∧0 < d ∨ blk t.k = true∧32≤d)) (hc:c < 4096) (hb:blk t.k = true):NX t r d c = match FX t r (d + 1) (c + 1) with
  | .error e => .error e
  | .ok (h,b,l,r',c') => .ok (nd t h b l,r',c'):=by
 unfold NX FX
 rw [if_neg hn,if_neg (by omega),if_neg (by rw [hb];decide)]
 cases P r 2 false (d + 1) (c + 1) with
 | error e => rfl
 | ok x =>
  obtain ⟨b,r1,c1⟩:=x
  cases r1 with
  | nil => rfl
  | cons u r2 =>
   dsimp only
   by_cases hu:u.k = 7
   ·rw [if_pos hu,if_pos hu]
    by_cases h2:t.k = 2
    ·rw [if_pos h2,if_pos h2]
     cases P r2 2 false (d + 1) c1 with
     | error e => rfl
     | ok x =>
      obtain ⟨b2,r3,c2⟩:=x
      cases r3 with
      | nil => rfl
      | cons v r4 =>
       dsimp only
       by_cases hv:v.k = 7
       ·rw [if_pos hv,if_pos hv]
       ·rw [if_neg hv,if_neg hv]
    ·rw [if_neg h2,if_neg h2]
   ·rw [if_neg hu,if_neg hu]
theorem tail_of {u:Tok} {r2 r:List Tok} {k:Nat} (h:u :: r2 = r.drop k):r2 = r.drop (k + 1):=by
 have e:r.drop (k + 1) = (r.drop k).drop 1:=by rw [List.drop_drop]
 rw [e,← h];rfl
def FillPq (g b:Nat) (A:Option Addr) (t:Tok) (r:List Tok) (w:World) (res:FXR) (e:Ending) (w':World):Prop:=Only [g,b] w w'∧match res with
 | .error (a,k) => e = pan a k
 | .ok (h,x,l,r',c) => e = .returned (.tuple #[])∧∃ (B:Option Addr) (cB:Nat) (m:List NT) (D:Option Addr) (cD:Nat) (q:List NT),ers m = x∧ers q = l∧Row w' (Fr w w') B cB m∧Row w' (Fr w w') D cD q ∧
  Blk w' b 69 [.int .i64 t.k,.int .i64 t.a,.string (ofL t.s),.string (ofL t.p),.bool t.h,.bool h,.slice B m.length cB,.slice D q.length cD]∧(∃ A' cA',Pq w' g A' cA' r' c∧rowT A' = rowT A)∧∃ k,r' = r.drop k
theorem fill_c {g n:Nat} (IH:ListQ g n) (b:Nat) (A:Option Addr) (cA:Nat) (t:Tok) (r:List Tok) (d c:Nat) (w:World) (hP:Pq w g A cA r c) (hG:TsOk r) (hn:r.length≤n) (hd:d≤32) (hc:c≤4096)
  (hB:Blk w b 69 [.int .i64 t.k,.int .i64 t.a,.string (ofL t.s),.string (ofL t.p),.bool t.h,.bool false,.slice none 0 0,.slice none 0 0]) (hbg:b ≠ g) (hbA:b ∉ rowT A) :
  Calls Tryz.prog 82 #[.pointer (some ⟨g,0,none⟩),.pointer (some ⟨b,0,none⟩),.int .i64 d] w (FillPq g b A t r w (FX t r d c)):=by
 have HIH:=hid (fun (A:Option Addr) (cA:Nat) (ts:List Tok) (c:Nat) (W:World) (h1:Pq W g A cA ts c) (h2:TsOk ts) (h3:ts.length≤n) (h4:c≤4096) => IH A cA ts d c W h1 h2 h3 hd h4)
 have HP:=hid hP
 have HG:=hid hG
 have HN:=hid hn
 have HB:=hid hB
 have HBA:=hid hbA
 have HD:=hid hd
 have hbl:=hB.lt
 have hgl:=hP.blk.lt
 have HAL:Hid (∀ k,k ∈ rowT A→k < w.heap.size):=hid (fun k hk => hP.row.lt k hk)
 clear hP hG hn hB hbA IH
 go_enter Tryz.func82,Tryz.ntmps82
 go_wp2_with fail
 refine (HIH.out A cA r c w HP.out HG.out HN.out hc).mono ?_
 rintro e w1 ⟨hO,hp⟩
 have HO1:=hid hO
 have HB1:=hid (HB.out.only hO (by simp;exact hbg))
 clear hO
 cases hres:P r 2 false d c with
 | error ak =>
  obtain ⟨a,k⟩:=ak
  rw [hres] at hp
  dsimp only at hp
  subst hp
  have HRES:=hid hres
  clear hres
  go_wp2_with fail
  refine ⟨rfl,?_⟩
  unfold FX
  rw [HRES.out]
  exact ⟨HO1.out.more (by simp),rfl⟩
 | ok x =>
  obtain ⟨x,rr,c1⟩:=x
  rw [hres] at hp
  obtain ⟨B,cB,m,hers,hrow,rfl,⟨A1,cA1,hPs,hA1⟩,k1,hk1⟩:=hp
  have HRES:=hid hres
  have HER:=hid hers
  have HA1:=hid hA1
  have HK1:=hid hk1
  have hpg:=P_good hres hc HD.out
  have hc14:=hpg.2.1
  have hrl:=P_rest hres
  have HRL:Hid (rr.length≤n):=hid (by have:=HN.out;omega)
  have HGR:Hid (TsOk rr):=hid (by rw [hk1];exact HG.out.drop k1)
  have HS1:=hid HO1.out.size
  have hb1:b < w1.heap.size:=by have:=HS1.out;omega
  obtain ⟨x0,x1,x2,x3,x4,x5,x6,x7⟩:=cells8 HB1.out
  have f6:=HB1.out.free 6
  have HPS:=hid hPs
  have HRW:=hid hrow
  clear hres hers hA1 hk1 hpg hrl hPs hrow
  go_wp2_with fail
  have HO2:=hid ((HO1.out.more (T:=[g,b]) (by simp)).setCell (p:=⟨b,6,none⟩) (.inl (by simp)) (.slice B m.length cB))
  have HB2:=hid (HB1.out.set_ 6 (.slice B m.length cB))
  have HPS2:=hid (HPS.out.only ((Only.refl [b] w1).setCell (p:=⟨b,6,none⟩) (.inl (by simp)) (.slice B m.length cB)) (by simp;exact fun h => hbg h.symm) (fun k hk => by rw [HA1.out] at hk;simp;intro h;subst h;exact HBA.out hk))
  have HRW2:Hid (Row (w1.setCell ⟨b,6,none⟩ (.slice B m.length cB)) (fun q => w.heap.size≤q∧q < (w1.setCell ⟨b,6,none⟩ (.slice B m.length cB)).heap.size) B cB m):=hid (HRW.out.onlyS (S:=[b]) ((Only.refl _ _).setCell (.inl (by simp)) _) (fun q hq => ⟨by have:=hq.1;simp;omega,hq.2⟩) (fun q hq => ⟨hq.1,by have:=hq.2;simpa [World.setCell] using this⟩))
  have hs2:w.heap.size≤(w1.setCell ⟨b,6,none⟩ (.slice B m.length cB)).heap.size:=by have:=HS1.out;simpa [World.setCell] using this
  simp only [List.set_cons_zero,List.set_cons_succ] at HB2
  clear x0 x1 x2 x3 x4 x5 x6 x7 f6 hb1
  clear HPS HB1 HO1 HRW HS1
  generalize w1.setCell ⟨b,6,none⟩ (.slice B m.length cB) = w2 at HPS2 HB2 HO2 HRW2 hs2 ⊢
  cases rr with
  | nil =>
   refine (ending_none g b A1 cA1 c1 t.a w2 HPS2.out (HB2.out.cell 1) (by omega)).mono ?_
   rintro e w3 ⟨rfl,hb⟩
   have HO3:=hid (HO2.out.trans ((bel_only hb).more (by simp)))
   clear hb
   unfold flt
   go_wp2_with fail
   refine ⟨rfl,?_⟩
   unfold FX
   rw [HRES.out]
   exact ⟨HO3.out,rfl⟩
  | cons u r2 =>
   refine (ending_some g ⟨b,0,none⟩ A1 cA1 c1 u r2 w2 HPS2.out).mono ?_
   rintro e w3 ⟨rfl,hO3,hP3⟩
   have HO3:=hid (HO2.out.trans (hO3.more (by simp)))
   have HB3:=hid (HB2.out.only hO3 (by simp;exact hbg))
   have HP3:=hid hP3
   have hs3:w2.heap.size≤w3.heap.size:=hO3.size
   have HRW3:Hid (Row w3 (fun q => w.heap.size≤q∧q < w3.heap.size) B cB m):=hid (HRW2.out.onlyS (S:=[g]) hO3 (fun q hq => ⟨by have:=hq.1;simp;omega,hq.2⟩) (fun q hq => ⟨hq.1,by have:=hq.2;omega⟩))
   have hb3:¬ b = w3.heap.size:=by omega
   have hb4:¬ w3.heap.size = b:=by omega
   have hg3:¬ g = w3.heap.size:=by omega
   have hg4:¬ w3.heap.size = g:=by omega
   clear hO3 hP3 HO2 HB2 HPS2 HRW2
   obtain ⟨x0,x1,x2,x3,x4,x5,x6,x7⟩:=cells8 HB3.out
   have f5:=HB3.out.free 5
   have m0:∀ ob,(w3.alloc ob).cell? ⟨b,0,none⟩ = some (.int .i64 t.k):=fun ob => (HB3.out.alloc ob).cell 0
   have m5:∀ ob,(w3.alloc ob).cell? ⟨b,5,none⟩ = some (.bool false):=fun ob => (HB3.out.alloc ob).cell 5
   have n5:∀ ob,(w3.alloc ob).frozen? ⟨b,5,none⟩ = false:=fun ob => (HB3.out.alloc ob).free 5
   by_cases hu:u.k = 7
   ·have h7b:((u.k:Int) == 7) = true:=by rw [hu];rfl
    have HU7:=hid hu
    by_cases h2:t.k = 2
    ·have h2b:((t.k:Int) == 2) = true:=by rw [h2];rfl
     have HK2:=hid h2
     clear hu h2
     go_wp2_with fail
     have HT4:=hid ((Blk.new w3 64 [.int .i64 u.k,.int .i64 u.a,.string (ofL u.s),.string (ofL u.p),.bool u.h]).far (p:=⟨b,5,none⟩) hb4 (.bool true))
     have HB4:=hid ((HB3.out.alloc (.cells #[.int .i64 u.k,.int .i64 u.a,.string (ofL u.s),.string (ofL u.p),.bool u.h] 64)).set_ 5 (.bool true))
     have ho:Only [b] w3 ((w3.alloc (.cells #[.int .i64 u.k,.int .i64 u.a,.string (ofL u.s),.string (ofL u.p),.bool u.h] 64)).setCell ⟨b,5,none⟩ (.bool true)):=((Only.refl [b] w3).alloc _).setCell (.inl (by simp)) _
     have HP4:=hid (HP3.out.only ho (by simp;exact fun h => hbg h.symm) (fun k hk => by rw [rowT_cut,HA1.out] at hk;simp;intro h;subst h;exact HBA.out hk))
     have HO4:=hid (HO3.out.trans (ho.more (T:=[g,b]) (by simp)))
     have HRW4:=hid (HRW3.out.onlyS (S:=[b]) (Q':=fun q => w.heap.size≤q∧q < w3.heap.size) ho (fun q hq => ⟨by have:=hq.1;simp;omega,hq.2⟩) (fun q hq => hq))
     have hsz4:((w3.alloc (.cells #[.int .i64 u.k,.int .i64 u.a,.string (ofL u.s),.string (ofL u.p),.bool u.h] 64)).setCell ⟨b,5,none⟩ (.bool true)).heap.size = w3.heap.size + 1:=by simp [World.setCell]
     simp only [List.set_cons_zero,List.set_cons_succ] at HB4
     have htA:∀ k,k ∈ rowT (cutA cA1 1 5 A1)→k ≠ w3.heap.size:=fun k hk => by rw [rowT_cut,HA1.out] at hk;have:=HAL.out k hk;omega
     have HTA:=hid htA
     have hwt:w.heap.size≤w3.heap.size:=by omega
     clear ho htA m0 m5 n5 x0 x1 x2 x3 x4 x5 x6 x7 f5
     clear HO3 HB3 HP3 HRW3
     generalize (w3.alloc (.cells #[.int .i64 u.k,.int .i64 u.a,.string (ofL u.s),.string (ofL u.p),.bool u.h] 64)).setCell ⟨b,5,none⟩ (.bool true) = w4 at HT4 HB4 HP4 HO4 HRW4 hsz4 ⊢
     generalize w3.heap.size = tb at *
     refine (HIH.out _ _ r2 c1 w4 HP4.out HGR.out.tail (by have:=HRL.out;simp at this;omega) hc14).mono ?_
     rintro e w5 ⟨hO5,hp5⟩
     have HO5:=hid (HO4.out.trans (hO5.more (T:=[g,b]) (by simp)))
     have HB5:=hid (HB4.out.only hO5 (by simp;exact hbg))
     have HT5:=hid (HT4.out.only hO5 (by simp;exact fun h => hg3 h.symm))
     have HRW5:=hid (HRW4.out.onlyS (S:=[g]) (Q':=fun q => w.heap.size≤q∧q < tb) hO5 (fun q hq => ⟨by have:=hq.1;simp;omega,by have:=hq.2;omega⟩) (fun q hq => hq))
     have hsz5:tb + 1≤w5.heap.size:=by have:=hO5.size;omega
     clear hO5 HO4 HB4 HT4 HP4 HRW4
     cases hres2:P r2 2 false d c1 with
     | error ak =>
      obtain ⟨a,k⟩:=ak
      rw [hres2] at hp5
      dsimp only at hp5
      subst hp5
      have HRES2:=hid hres2
      clear hres2
      go_wp2_with fail
      refine ⟨rfl,?_⟩
      unfold FX
      rw [HRES.out]
      dsimp only
      rw [if_pos HU7.out,if_pos HK2.out,HRES2.out]
      exact ⟨HO5.out,rfl⟩
     | ok y =>
      obtain ⟨y,r3,c2⟩:=y
      rw [hres2] at hp5
      obtain ⟨D,cD,q,hers,hrow,rfl,⟨A2,cA2,hPs,hA2⟩,k2,hk2⟩:=hp5
      have HRES2:=hid hres2
      have HER2:=hid hers
      have HA2:Hid (rowT A2 = rowT A):=hid (by rw [hA2,rowT_cut,HA1.out])
      have HK2':=hid hk2
      have HPS5:=hid hPs
      have HRW5':=hid hrow
      obtain ⟨x0,x1,x2,x3,x4,x5,x6,x7⟩:=cells8 HB5.out
      have f7:=HB5.out.free 7
      clear hres2 hers hA2 hk2 hPs hrow
      go_wp2_with fail
      have ho:Only [b] w5 (w5.setCell ⟨b,7,none⟩ (.slice D q.length cD)):=(Only.refl [b] w5).setCell (.inl (by simp)) _
      have HO6:=hid (HO5.out.trans (ho.more (T:=[g,b]) (by simp)))
      have HB6:=hid (HB5.out.set_ 7 (.slice D q.length cD))
      have HT6:=hid (HT5.out.only ho (by simp;exact hb4))
      have HPS6:=hid (HPS5.out.only ho (by simp;exact fun h => hbg h.symm) (fun k hk => by rw [HA2.out] at hk;simp;intro h;subst h;exact HBA.out hk))
      have HRW6:=hid (HRW5.out.onlyS (S:=[b]) (Q':=fun q => w.heap.size≤q∧q < tb) ho (fun q hq => ⟨by have:=hq.1;simp;omega,by have:=hq.2;omega⟩) (fun q hq => hq))
      have HRW6':=hid (HRW5'.out.onlyS (S:=[b]) (Q':=fun q => tb < q∧q < w5.heap.size) ho (fun q hq => ⟨by have:=hq.1;simp;omega,by have:=hq.2;omega⟩) (fun q hq => ⟨by have:=hq.1;omega,hq.2⟩))
      have hsz6:(w5.setCell ⟨b,7,none⟩ (.slice D q.length cD)).heap.size = w5.heap.size:=by simp [World.setCell]
      simp only [List.set_cons_zero,List.set_cons_succ] at HB6
      clear ho x0 x1 x2 x3 x4 x5 x6 x7 f7
      clear HO5 HB5 HT5 HPS5 HRW5 HRW5'
      generalize w5.setCell ⟨b,7,none⟩ (.slice D q.length cD) = w6 at HO6 HB6 HT6 HPS6 HRW6 HRW6' hsz6 ⊢
      rw [← hsz6] at HRW6' hsz5
      cases r3 with
      | nil =>
       refine (ending_none g b A2 cA2 c2 t.a w6 HPS6.out (HB6.out.cell 1) (by omega)).mono ?_
       rintro e w7 ⟨rfl,hb⟩
       have HO7:=hid (HO6.out.trans ((bel_only hb).more (by simp)))
       clear hb
       unfold flt
       go_wp2_with fail
       refine ⟨rfl,?_⟩
       unfold FX
       rw [HRES.out]
       dsimp only
       rw [if_pos HU7.out,if_pos HK2.out,HRES2.out]
       exact ⟨HO7.out,rfl⟩
      | cons v r4 =>
       refine (ending_some g ⟨b,0,none⟩ A2 cA2 c2 v r4 w6 HPS6.out).mono ?_
       rintro e w7 ⟨rfl,hO7,hP7⟩
       have HO7:=hid (HO6.out.trans (hO7.more (by simp)))
       have HB7:=hid (HB6.out.only hO7 (by simp;exact hbg))
       have HT7:=hid (HT6.out.only hO7 (by simp;exact fun h => hg3 h.symm))
       have HP7:=hid hP7
       have hs7:w6.heap.size≤w7.heap.size:=hO7.size
       have HRW7:=hid (HRW6.out.onlyS (S:=[g]) (Q':=fun q => w.heap.size≤q∧q < tb) hO7 (fun q hq => ⟨by have:=hq.1;simp;omega,by have:=hq.2;omega⟩) (fun q hq => hq))
       have HRW7':=hid (HRW6'.out.onlyS (S:=[g]) (Q':=fun q => tb < q∧q < w7.heap.size) hO7 (fun q hq => ⟨by have:=hq.1;simp;omega,hq.2⟩) (fun q hq => ⟨hq.1,by have:=hq.2;omega⟩))
       clear hO7 hP7 HO6 HB6 HT6 HPS6 HRW6 HRW6'
       obtain ⟨z0,z1,z2,z3,z4⟩:=cells5 HT7.out
       obtain ⟨f0,f1,f2,f3,f4⟩:=frees5 HT7.out
       by_cases hv:v.k = 7
       ·have hv7:((v.k:Int) == 7) = true:=by rw [hv];rfl
        have HV7:=hid hv
        clear hv
        go_wp2_with fail
        refine ⟨rfl,?_⟩
        unfold FX
        rw [HRES.out]
        dsimp only
        rw [if_pos HU7.out,if_pos HK2.out,HRES2.out]
        dsimp only
        rw [if_pos HV7.out]
        exact ⟨HO7.out.join (only5 w7 tb _ _ _ _ _) (fun k hk => .inr (by simp at hk;omega)),rfl⟩
       ·have hv7:((v.k:Int) == 7) = false:=by rw [beq_eq_false_iff_ne];omega
        have HV7:=hid hv
        clear hv
        go_wp2_with fail
        have hos:Only [tb] w7 (((((w7.setCell ⟨tb,0,none⟩ (.int .i64 v.k)).setCell ⟨tb,1,none⟩ (.int .i64 v.a)).setCell ⟨tb,2,none⟩ (.string (ofL v.s))).setCell ⟨tb,3,none⟩ (.string (ofL v.p))).setCell ⟨tb,4,none⟩ (.bool v.h)):=only5 w7 tb _ _ _ _ _
        have hsz8:(((((w7.setCell ⟨tb,0,none⟩ (.int .i64 v.k)).setCell ⟨tb,1,none⟩ (.int .i64 v.a)).setCell ⟨tb,2,none⟩ (.string (ofL v.s))).setCell ⟨tb,3,none⟩ (.string (ofL v.p))).setCell ⟨tb,4,none⟩ (.bool v.h)).heap.size = w7.heap.size:=by simp [World.setCell]
        go_end0
        unfold FX
        rw [HRES.out]
        dsimp only
        rw [if_pos HU7.out,if_pos HK2.out,HRES2.out]
        dsimp only
        rw [if_neg HV7.out]
        exact ⟨HO7.out.join hos (fun k hk => .inr (by simp at hk;omega)),rfl,B,cB,m,D,cD,q,HER.out,HER2.out,HRW7.out.onlyS hos (fun z hz => ⟨by have:=hz.2;simp;omega,by have:=hz.2;omega⟩) (fun z hz => ⟨hz.1,by have:=hz.2;rw [hsz8];omega⟩),HRW7'.out.onlyS hos (fun z hz => ⟨by have:=hz.1;simp;omega,hz.2⟩) (fun z hz => ⟨by have:=hz.1;omega,by have:=hz.2;rw [hsz8];omega⟩),HB7.out.only hos (by simp;exact hb3),⟨_,_,HP7.out.only hos (by simp;exact hg3) (fun k hk => by rw [rowT_cut,HA2.out] at hk;have:=HAL.out k hk;simp;omega),by rw [rowT_cut];exact HA2.out⟩,k1 + 1 + (k2 + 1),by rw [tail_of HK2'.out,tail_of HK1.out,List.drop_drop]⟩
    ·have h2b:((t.k:Int) == 2) = false:=by rw [beq_eq_false_iff_ne];omega
     have HK2:=hid h2
     clear hu h2
     go_wp2_with fail
     refine ⟨rfl,?_⟩
     unfold FX
     rw [HRES.out]
     dsimp only
     rw [if_pos HU7.out,if_neg HK2.out]
     exact ⟨HO3.out.alloc _,rfl⟩
   ·have h7b:((u.k:Int) == 7) = false:=by rw [beq_eq_false_iff_ne];omega
    have HU7:=hid hu
    clear hu
    go_wp2_with fail
    have hos:Only [] w3 (w3.alloc (.cells #[.int .i64 u.k,.int .i64 u.a,.string (ofL u.s),.string (ofL u.p),.bool u.h] 64)):=(Only.refl [] w3).alloc _
    go_end0
    unfold FX
    rw [HRES.out]
    dsimp only
    rw [if_neg HU7.out]
    exact ⟨HO3.out.alloc _,rfl,B,cB,m,none,0,[],HER.out,by simp [ers],HRW3.out.onlyS hos (fun q hq => ⟨by simp,hq.2⟩) (fun q hq => ⟨hq.1,by have:=hq.2;simp;omega⟩),Row.nil _ _,HB3.out.alloc _,⟨_,_,HP3.out.only hos (by simp) (by simp),by rw [rowT_cut];exact HA1.out⟩,k1 + 1,tail_of HK1.out⟩
end
end Go.Proofs.YtpcapmdfjmpdiaaGreatDoor
