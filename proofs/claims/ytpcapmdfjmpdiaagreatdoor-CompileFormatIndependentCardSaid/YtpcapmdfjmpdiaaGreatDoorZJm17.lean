/- Contracts: the program's token, isBlock -/
import Derived.Test.YtpcapmdfjmpdiaaGreatDoorZWk13
import Derived.Test.YtpcapmdfjmpdiaaGreatDoorZFm11
import Derived.Test.YtpcapmdfjmpdiaaGreatDoorZRegion2
import Derived.Test.YtpcapmdfjmpdiaaGreatDoorZPure12
import Derived.Test.YtpcapmdfjmpdiaaGreatDoorZSs14
import Derived.Shelf.Strings.BuilderK
import Derived.Test.YtpcapmdfjmpdiaaGreatDoorZPb17
import Derived.Test.YtpcapmdfjmpdiaaGreatDoorZJl17
set_option linter.unusedVariables false
set_option linter.unusedSimpArgs false
set_option maxRecDepth 100000
set_option maxHeartbeats 12800000
open Go.Lib (hid)
namespace Go.Proofs.YtpcapmdfjmpdiaaGreatDoor
section
open Go.RowKit Go.BigFrame Go.Shelf NT
theorem pblock_c (k:Int) (w:World):Calls Tryz.prog 38 #[.int .i64 k] w fun e w' => e = .returned (.bool (blkI k))∧w' = w:=by
 by_cases h2:k = 2
 ·subst h2
  go_enter Tryz.func38,Tryz.ntmps38
  go_wp2_with fail
  go_ret
  exact ⟨rfl,rfl⟩
 by_cases h3:k = 3
 ·subst h3
  go_enter Tryz.func38,Tryz.ntmps38
  go_wp2_with fail
  go_ret
  exact ⟨rfl,rfl⟩
 by_cases h6:k = 6
 ·subst h6
  go_enter Tryz.func38,Tryz.ntmps38
  go_wp2_with fail
  go_ret
  exact ⟨rfl,rfl⟩
 have e2:(k == 2) = false:=beq_eq_false_iff_ne.2 h2
 have e3:(k == 3) = false:=beq_eq_false_iff_ne.2 h3
 have e6:(k == 6) = false:=beq_eq_false_iff_ne.2 h6
 have hb:blkI k = false:=by unfold blkI;rw [e2,e3,e6];rfl
 rw [hb]
 clear hb
 go_enter Tryz.func38,Tryz.ntmps38
 go_wp2_with fail
 go_ret
 exact ⟨rfl,rfl⟩
theorem token_c {w:World} {g o:Nat} {t:NT} (hc:t.Cells w g o) (hg:g < w.heap.size):Calls Tryz.prog 37 #[.pointer (some ⟨g,o,none⟩)] w fun e w' => e = .returned (.agg #[.int .i64 t.k,.int .i64 0,.string t.s,.string t.p,.bool t.h])∧Bel w w':=by
 have HC:=hid hc.all
 go_enter Tryz.func37,Tryz.ntmps37
 go_wp2_with fail
 refine region_begin (T:=[w.heap.size]) (by kernel_rfl) ?_
 have HB:=hid (Blk.new w 64 [.int .i64 0,.int .i64 0,.string ⟨#[]⟩,.string ⟨#[]⟩,.bool false]).drew
 have HBW:Hid (Bel w (w.alloc (.cells #[.int .i64 0,.int .i64 0,.string ⟨#[]⟩,.string ⟨#[]⟩,.bool false] 64)).drew):=hid ((Bel.alloc _ _).trans (Bel.drew _))
 generalize (w.alloc (.cells #[.int .i64 0,.int .i64 0,.string ⟨#[]⟩,.string ⟨#[]⟩,.bool false] 64)).drew = W at HB HBW ⊢
 have hcc:∀ (X:Later [w.heap.size] W) (j:Nat),X.w.cell? ⟨g,j,none⟩ = w.cell? ⟨g,j,none⟩:=fun X j => (bel_on1 HBW.out X.h (Nat.le_refl _)).cell hg
 obtain ⟨c0,_,c2,c3,c4,_⟩:=HC.out
 have p0:∀ X:Later [w.heap.size] W,X.w.cell? ⟨g,o,none⟩ = some (.int .i64 t.k):=fun X => (hcc X _).trans c0
 have p2:∀ X:Later [w.heap.size] W,X.w.cell? ⟨g,o + 2,none⟩ = some (.string t.s):=fun X => (hcc X _).trans c2
 have p3:∀ X:Later [w.heap.size] W,X.w.cell? ⟨g,o + 3,none⟩ = some (.string t.p):=fun X => (hcc X _).trans c3
 have p4:∀ X:Later [w.heap.size] W,X.w.cell? ⟨g,o + 4,none⟩ = some (.bool t.h):=fun X => (hcc X _).trans c4
 clear hcc c0 c2 c3 c4
 refine region_seg [true,true,true,true,true,true,true,true,true,true,true,true,true,true,true,true] 2 (by kernel_rfl) (by kernel_rfl) (by kernel_rfl) rfl (fun _ _ d _ _ h => by cases d <;> exact h) ?_
 repeat (first | with_reducible refine wpMask_pass ?_ | (refine wpMask_want (by rfl) (fun K hK => ?_);go_big_quiet_op;refine hK _ ?_;clear hK K))
 with_reducible refine wpMask_nil ?_
 clear p0 p2 p3 p4
 refine region_make 16 (v:=.agg #[.int .i64 t.k,.int .i64 0,.string t.s,.string t.p,.bool t.h]) (w1:=W) (by kernel_rfl) rfl (by rfl) (by go_simp) (Only.refl _ _) ?_
 simp only [List.getElem_toArray,List.getElem_cons_zero,List.getElem_cons_succ,Act.put,List.setIfInBounds_toArray,List.set_cons_zero,List.set_cons_succ]
 have hk0:=HB.out
 have hk1:=set5 hk0 (.int .i64 t.k) (.int .i64 0) (.string t.s) (.string t.p) (.bool t.h)
 have ho1:=only5 W w.heap.size (.int .i64 t.k) (.int .i64 0) (.string t.s) (.string t.p) (.bool t.h)
 obtain ⟨z0,z1,z2,z3,z4⟩:=cells5 hk0
 obtain ⟨f0,f1,f2,f3,f4⟩:=frees5 hk0
 refine region_store (w1:=((((W.setCell ⟨w.heap.size,0,none⟩ (.int .i64 t.k)).setCell ⟨w.heap.size,1,none⟩ (.int .i64 0)).setCell ⟨w.heap.size,2,none⟩ (.string t.s)).setCell ⟨w.heap.size,3,none⟩ (.string t.p)).setCell ⟨w.heap.size,4,none⟩ (.bool t.h)) 17 (by kernel_rfl) rfl (by rfl) (by go_simp) ho1 ?_
 have HBT:=hid hk1
 have HBV:=hid (bel_on1 HBW.out ho1 (Nat.le_refl _))
 clear hk0 hk1 ho1 z0 z1 z2 z3 z4 f0 f1 f2 f3 f4
 generalize ((((W.setCell ⟨w.heap.size,0,none⟩ (.int .i64 t.k)).setCell ⟨w.heap.size,1,none⟩ (.int .i64 0)).setCell ⟨w.heap.size,2,none⟩ (.string t.s)).setCell ⟨w.heap.size,3,none⟩ (.string t.p)).setCell ⟨w.heap.size,4,none⟩ (.bool t.h) = V at HBT HBV ⊢
 refine region_end (by kernel_rfl) ?_
 go_wp2_with fail
 refine bodyPost_ret (results_cell_row rfl _ _ w.heap.size _ _ (0,0) _ rfl HBT.out Tryz.underlying64 rfl (by kernel_rfl)) rfl ?_
 exact ⟨rfl,HBV.out⟩
end
section
open Go.RowKit Go.BigFrame Go.Shelf NT
attribute [local go_sem] Oper.semAt_some
def Bu (n0 b:Nat) (l:List UInt8) (W:World):Prop:=Lib.IsBuilderF 87 5 n0 b (Lib.byteCells l) W
theorem builderAt_grown {T e:TypeId} {B b:Nat} {p:Value} {bs:List Value} {W W':World} {row:Option Nat} (h:Lib.BuilderAtF T e B b p bs W) (hg:W.grownBy W' row) (hr:∀ r,row = some r→∃ o:Obj,W.heap[r]? = some o∧o.isCells = false):Lib.BuilderAtF T e B b p bs W':=by
 obtain ⟨hB,v,hb,hown,hne⟩:=h
 refine ⟨hB,v,(grownBy_keeps_cells hg hr hb rfl).trans hb,hown.kept hg ?_,hne⟩
 cases hv:v.ownBlock with
 | none => exact .inl rfl
 | some g =>
  refine .inr fun e => ?_
  obtain ⟨o,ho,hc⟩:=hr g e.symm
  rcases hown.2 with ⟨hv',_⟩ | ⟨g',cap,cur,fz,hv',_,hgg,_⟩
  ·rw [hv'] at hv;cases hv
  ·rw [hv'] at hv
   injection hv with hv
   simp only at hv
   subst hv
   rw [hgg] at ho
   cases ho
   cases hc
theorem Bu.grown {n0 b:Nat} {l:List UInt8} {W W':World} {row:Option Nat} (h:Bu n0 b l W) (hg:W.grownBy W' row) (hr:∀ r,row = some r→∃ o:Obj,W.heap[r]? = some o∧o.isCells = false):Bu n0 b l W' :=
 h.elim (fun h => .inl (builderAt_grown h hg hr)) (fun h => .inr (builderAt_grown h hg hr))
theorem Bu.alloc {n0 b:Nat} {l:List UInt8} {W:World} (h:Bu n0 b l W) (o:Obj):Bu n0 b l (W.alloc o):=h.grown (World.grownBy_alloc W o none) (fun r e => by cases e)
theorem Bu.lt {n0 b:Nat} {l:List UInt8} {W:World} (h:Bu n0 b l W):b < W.heap.size:=h.elim (fun h => h.lt) (fun h => h.lt)
theorem Bu.cells {n0 b:Nat} {l:List UInt8} {W:World} (h:Bu n0 b l W):∃ o:Obj,W.heap[b]? = some o∧o.isCells = true:=by
 rcases h with ⟨_,v,hb,_⟩ | ⟨_,v,hb,_⟩
 ·exact ⟨_,hb,rfl⟩
 ·exact ⟨_,hb,rfl⟩
theorem Bu.bel {n0 b:Nat} {l:List UInt8} {W W':World} (h:Bu n0 b l W) (hb:Bel W W'):Bu n0 b l W':=by
 have key:∀ p,Lib.BuilderAtF 87 5 n0 b p (Lib.byteCells l) W→Lib.BuilderAtF 87 5 n0 b p (Lib.byteCells l) W':=by
  rintro p ⟨hB,v,h1,⟨h2,h3⟩,hne⟩
  refine ⟨hB,v,(hb.block b (Array.getElem?_eq_some_iff.1 h1).1).trans h1,⟨h2,?_⟩,hne⟩
  rcases h3 with h3 | ⟨g,cap,cur,fz,hv,hbg,hgg,rest⟩
  ·exact .inl h3
  ·exact .inr ⟨g,cap,cur,fz,hv,hbg,(hb.block g (Array.getElem?_eq_some_iff.1 hgg).1).trans hgg,rest⟩
 exact h.elim (fun h => .inl (key _ h)) (fun h => .inr (key _ h))
theorem bu_new (w:World):Bu w.heap.size w.heap.size [] (w.alloc (.cells #[.pointer none,.slice none 0 0] 87)) :=
 .inl ⟨Nat.le_refl _,.slice none 0 0,World.alloc_heap_new w _,⟨rfl,.inl ⟨rfl,rfl⟩⟩,by simp [Value.ownBlock]⟩
theorem bel_keeps {W W':World} (h:Bel W W') (B:Nat):KeepsFrom B W W':=⟨h.size,fun k o _ hk _ => (h.block k (Array.getElem?_eq_some_iff.1 hk).1).trans hk⟩
theorem bel_put {w W:World} {D:Nat} {o o':Obj} (h:Bel w W) (hK:W.heap[D]? = some o) (hD:w.heap.size≤D):Bel w (W.putObj D o') :=
 ⟨h.os,h.tape,h.output,by rw [World.putObj_size];exact h.size,fun k hk => (World.putObj_heap_other (by omega)).trans (h.block k hk)⟩
theorem others_keep {W W':World} {b B:Nat} (h:Lib.OthersKept 5 (some b) W W') (hs:W.heap.size≤W'.heap.size) (hb:∃ o:Obj,W.heap[b]? = some o∧o.isCells = true):KeepsFrom B W W' :=
 ⟨hs,fun k o _ hk ho => h k o hk (fun e => by
  obtain ⟨o',h1,h2⟩:=hb
  injection e with e
  subst e
  rw [hk] at h1
  cases h1
  rw [ho] at h2
  cases h2) (fun cs fz e => by subst e;cases ho)⟩
theorem write_c {n0 b:Nat} {l m:List UInt8} {s:ByteArray} {W:World} (h:Bu n0 b l W) (hs:s = ofL m) (hl:l.length + m.length≤1000000) (hn:n0≤W.heap.size) :
  Calls Tryz.prog 35 #[.pointer (some ⟨b,0,none⟩),.string s] W fun e W' => e = .returned (.tuple #[.int .i64 s.size,.nilIface])∧Bu n0 b (l ++ m) W'∧Below n0 W W'∧∀ B,KeepsFrom B W W':=by
 subst hs
 refine (Any.Builder_WriteString_k { Tryz.laysJN with } jnExtra n0 b (Lib.byteCells l) (ofL m) W h (by rw [Lib.byteCells_length];show l.length + m.length≤_;omega) hn).mono ?_
 rintro e W' ⟨rfl,h1,h2,h3⟩
 refine ⟨rfl,.inr ?_,h2,fun B => others_keep h3 h2.size h.cells⟩
 rw [Lib.byteCells_append]
 exact h1
theorem bstring_c {n0 b:Nat} {l:List UInt8} {W:World} (h:Bu n0 b l W) (hn:n0≤W.heap.size) :
  Calls Tryz.prog 39 #[.pointer (some ⟨b,0,none⟩)] W fun e W' => e = .returned (.string (ofL l))∧Below n0 W W'∧Lib.OthersKept 5 (some b) W W':=by
 refine (Any.Builder_String_any_k { Tryz.laysJN with } jnExtra n0 b l W h hn).mono ?_
 rintro e W' ⟨rfl,_,h2,h3⟩
 exact ⟨rfl,h2,h3⟩
theorem cell_alloc13 {W:World} {a:Addr} {v:Value} (h:W.cell? a = some v) (o:Obj):(W.alloc o).cell? a = some v:=cell_kept h (World.grownBy_alloc W o none) (fun r e => by cases e)
def FmI (w:World) (bx:Nat) (A:Option Addr) (n c:Nat) (pre:List Vis) (W:World):Prop:=Bel w W∧Bu w.heap.size w.heap.size (outs pre) W∧(pre = []→W.cell? ⟨bx,0,none⟩ = some (.slice A n c))
theorem fmI_own {w:World} {bx:Nat} {A:Option Addr} {n c B:Nat} (hB:w.heap.size≤B):OwnFrom B (FmI w bx A n c):=by
 rintro s X Y row ⟨h1,h2,h3⟩ hg hr
 exact ⟨ownFrom_below (β:=Unit) (Nat.le_refl _) hB () X Y row h1 hg hr,h2.grown hg (fun r e => (hr r e).2),fun e => cell_kept (h3 e) hg (fun r e => (hr r e).2)⟩
theorem blk_own {β:Type} {B bv:Nat} {t:TypeId} {cs:List Value}:OwnFrom B (fun (_:β) W => Blk W bv t cs):=fun s X Y row h hg hr => (grownBy_keeps_cells hg (fun r e => (hr r e).2) h rfl).trans h
theorem good_k8 {u:Tok} (h:Good u):u.k≤8:=by
 by_cases h0:u.k = 0
 ·omega
 ·exact (h.2.1 h0).1
def fmAct (w:World) (A:Option Addr) (n c bv:Nat) (u7:Value):Act:={ tmps:=#[.slice A n c,undef,.string ⟨#[]⟩,.pointer (some ⟨w.heap.size,0,none⟩),.pointer (some ⟨bv,0,none⟩),.slice A n c,.func (.func 61) #[] #[.pointer (some ⟨w.heap.size + 1,0,none⟩)],u7,undef,undef,undef,undef,undef,undef,undef,undef,undef,undef,undef,undef,undef,undef,undef,undef,undef,undef,undef,undef,undef,undef,undef,undef,undef,undef,undef,undef,undef,undef,undef,undef,undef,undef,undef,undef,undef,undef,undef],defers:=[] }
theorem outs_pre {all pre:List Vis} {x:Vis} (h:roPre all pre x):(outs pre).length + x.out.length≤(outs all).length:=by
 obtain ⟨r,rfl⟩:=h
 rw [outs_append,outs_cons,List.length_append,List.length_append]
 omega
theorem pformat_c {l:List NT} {A:Option Addr} {c:Nat} {w:World} (hA:Row w (Lt w) A c l) (hg:∀ x,x ∈ l→Ng x) (hw:∀ x,x ∈ l→Wn x) (hle:(fmtNs l).length≤100000) :
  Calls Tryz.prog 20 #[.slice A l.length c] w fun e w' => e = .returned (.string (ofL (fmtNs l)))∧Bel w w':=by
 have HNG:=hid (vNs_ng hg A)
 have HOK:=hid (vNs_ok hA)
 have ho:=vNs_outs hw A 0
 rw [← ho] at hle ⊢
 have HIT:=hid (fun (bx m:Nat) (I:List Vis→World→Prop) => ro_iterates (m:=m) (I:=I) (bx:=bx) hA)
 generalize vNs l A 0 = all at HNG HOK hle HIT ⊢
 obtain ⟨n,hn⟩:∃ n,n = l.length:=⟨_,rfl⟩
 rw [← hn] at HIT ⊢
 have HLE:=hid hle
 clear hA hg hw hle ho hn
 refine (callsIn_wide (n:=6)).1 (callsIn_of_wp_marks Tryz.func20 rfl trivial ?_ rfl)
 simp only [Tryz.ntmps20,List.size_toArray,List.length_cons,List.length_nil,Nat.reduceAdd,Nat.reduceSub,Array.replicate_succ,Array.replicate_zero,List.push_toArray,List.append_toArray,List.nil_append,List.cons_append]
 refine wpIn_wide.2 ?_
 go_wp2_with (go_at_call 34;refine (visits_c A n c _).mono ?_;rintro e w2 ⟨rfl,rfl⟩)
 refine (wpIn_wide (n:=6)).1 ?_
 refine rangeFunc_st (n:=6) rfl (by omega) (gf:=61) (lb:=#[.pointer (some ⟨w.heap.size + 1,0,none⟩)]) rfl trivial (enters_of Tryz.func61 (by kernel_rfl) rfl)
  (HIT.out (w.heap.size + 1) 5 (FmI w (w.heap.size + 1) A n c) (fun s W h => h.1) (fun W h => h.2.2 rfl)) (fun _ => rfl) (fun _ _ => False) (fmI_own (by simp;omega)) (fun _ _ _ _ _ h _ _ => h.elim)
  ⟨(Bel.alloc _ _).trans (Bel.alloc _ _),(bu_new w).alloc _,fun _ => (blk_at1 w _ 38 [.slice A n c]).cell 0⟩
  (fun s x a' W => FmI w (w.heap.size + 1) A n c s W∧roPre all s x∧∃ bv u7,Blk W bv 93 x.cs∧a' = fmAct w A n c bv u7)
  (fun s x a' => by
   rintro u X Y row ⟨h1,h2,bv,u7,h3,h4⟩ hg hr
   exact ⟨fmI_own (by simp;omega) s X Y row h1 hg hr,h2,bv,u7,blk_own () X Y row h3 hg hr,h4⟩) ?assign ?body ?done ?stop
 case assign =>
  intro l s x W K hsz hI hpre hK
  have HK:=hid hK
  have HI:=hid hI
  have HP:=hid hpre
  clear hK hI hpre
  simp only [vEnc,Vis.val]
  gi_wp2_with fail
  refine HK.out _ _ ((KeepsOthers.alloc _ _).from _) ⟨⟨HI.out.1.trans (Bel.alloc _ _),HI.out.2.1.alloc _,fun e => cell_alloc13 (HI.out.2.2 e) _⟩,HP.out,W.heap.size,_,Blk.new W 93 x.cs,rfl⟩
 case body =>
  rintro l pre x a' W ⟨hI,hpre,bv,u7,hbv,rfl⟩
  have hok:=(HOK.out x (roPre_mem hpre)).bel hI.1
  obtain ⟨u,e1,e2,e3,e4,e5,e6,e7,e8⟩:=(HNG.out x (roPre_mem hpre)).tok
  have hlen:=outs_pre hpre
  have HLN:=hid (show (outs pre).length + x.out.length≤1000000 by have:=HLE.out;omega)
  have HSN:=hid (outs_snoc pre x)
  have hnil:pre ++ [x] = []→False:=by simp
  have HNIL:=hid hnil
  obtain ⟨g,o,t,q⟩:=x
  have hq:=hok.q
  have hc:=hok.cells
  have hgl:=hok.lt
  simp only at hq hc hgl e1 e2 e3 e4
  have HI:=hid hI
  have HC:=hid hc
  have hlt:=HI.out.2.1.lt
  clear hok hI hc hpre hlen hnil
  rcases (by omega:q = 0 ∨ q = 1 ∨ q = 2) with rfl | rfl | rfl
  ·-- before the Body
   have hbv0:Blk W bv 93 [.pointer (some ⟨g,o,none⟩),.int .i64 0]:=hbv
   have b0:=hbv0.cell 0
   have b1:=hbv0.cell 1
   have ho:(⟨g,o,t,0⟩:Vis).out = fmt u:=by
    show fmt ⟨t.k.toNat,0,toL t.s,toL t.p,t.h⟩ = fmt u
    rw [e1,e2,e3,e4,Int.toNat_natCast,toL_ofL,toL_ofL]
    rfl
   rw [ho] at HLN HSN
   have HT:=token_c HC.out hgl
   rw [e1,e2,e3,e4] at HT
   have HT:=hid HT
   have hk8:=good_k8 e5
   have HF:=fun W => format_c u hk8 e6 e7 W
   rw [e8] at HF
   have HF:=hid HF
   clear ho e1 e2 e3 e4 e5 e6 e7 e8 hbv hbv0 hq
   obtain ⟨F,hF⟩:∃ F,F = ofL (fmt u):=⟨_,rfl⟩
   rw [← hF] at HF
   have HFD:=hid hF
   have b0:W.cell? ⟨bv,0,none⟩ = some (.pointer (some ⟨g,o,none⟩)):=b0
   have b1:W.cell? ⟨bv,1,none⟩ = some (.int .i64 0):=b1
   clear hF hgl hk8
   unfold fmAct
   gi_wp2_with (first | (refine ⟨trivial,?_⟩;gi_at_call 37;refine (CallsIn.inRound l (callsIn_wide.2 HT.out)).mono ?_;rintro e W1 ⟨rfl,hb1⟩;have HB1:=hid hb1;clear hb1) | (refine ⟨trivial,?_⟩;gi_at_call 36;refine (CallsIn.inRound l (callsIn_wide.2 (HF.out _))).mono ?_;rintro e W2 ⟨rfl,hb2⟩;have HB2:=hid (HB1.out.trans hb2);clear hb2) | (refine ⟨trivial,?_⟩;gi_at_call 35;refine (CallsIn.inRound l (callsIn_wide.2 (write_c (HI.out.2.1.bel HB2.out) HFD.out HLN.out (Nat.le_trans HI.out.1.size HB2.out.size)))).mono ?_;rintro e W3 ⟨rfl,hu3,hb3,hk3⟩;have HU3:=hid hu3;have HB3:=hid hb3;have HK3:=hid hk3;clear hu3 hb3 hk3))
   exact ⟨(bel_keeps HB2.out _).trans (HK3.out _),_,rfl,Below.trans (HI.out.1.trans HB2.out) HB3.out,by rw [HSN.out];exact HU3.out,fun h => (HNIL.out h).elim⟩
  ·-- between the Body and the Else
   have b0:W.cell? ⟨bv,0,none⟩ = some (.pointer (some ⟨g,o,none⟩)):=Blk.cell (show Blk W bv 93 [.pointer (some ⟨g,o,none⟩),.int .i64 1] from hbv) 0
   have b1:W.cell? ⟨bv,1,none⟩ = some (.int .i64 1):=Blk.cell (show Blk W bv 93 [.pointer (some ⟨g,o,none⟩),.int .i64 1] from hbv) 1
   have ho:(⟨g,o,t,1⟩:Vis).out = if t.e then fmt elT else []:=rfl
   rw [ho] at HLN HSN
   obtain ⟨_,_,_,_,_,c5,_⟩:=HC.out.all
   cases he:t.e with
   | false =>
    rw [he] at c5 HLN HSN
    simp only [Bool.false_eq_true,if_false,List.append_nil] at HSN
    clear ho e1 e2 e3 e4 e5 e6 e7 e8 hbv hq he
    unfold fmAct
    gi_wp2_with fail
    refine ⟨trivial,?_⟩
    gi_wp2_with fail
    exact ⟨KeepsFrom.refl _ _,_,rfl,HI.out.1,by rw [HSN.out];exact HI.out.2.1,fun h => (HNIL.out h).elim⟩
   | true =>
    rw [he,if_pos rfl] at HSN HLN
    rw [he] at c5
    obtain ⟨F,hF⟩:∃ F,F = ofL (fmt elT):=⟨_,rfl⟩
    have HF:=fun W => format_c elT (by decide) (by decide) (by decide) W
    rw [← hF] at HF
    have HF:=hid HF
    have HFD:=hid hF
    clear ho e1 e2 e3 e4 e5 e6 e7 e8 hbv hq he hF
    unfold fmAct
    gi_wp2_with (first | (refine ⟨trivial,?_⟩;gi_at_call 36;refine (CallsIn.inRound l (callsIn_wide.2 (HF.out _))).mono ?_;rintro e W2 ⟨rfl,hb2⟩;have HB2:=hid hb2;clear hb2) | (refine ⟨trivial,?_⟩;gi_at_call 35;refine (CallsIn.inRound l (callsIn_wide.2 (write_c (HI.out.2.1.bel HB2.out) HFD.out HLN.out (Nat.le_trans HI.out.1.size HB2.out.size)))).mono ?_;rintro e W3 ⟨rfl,hu3,hb3,hk3⟩;have HU3:=hid hu3;have HB3:=hid hb3;have HK3:=hid hk3;clear hu3 hb3 hk3))
    exact ⟨(bel_keeps HB2.out _).trans (HK3.out _),_,rfl,Below.trans (HI.out.1.trans HB2.out) HB3.out,by rw [HSN.out];exact HU3.out,fun h => (HNIL.out h).elim⟩
  ·-- behind both
   have b0:W.cell? ⟨bv,0,none⟩ = some (.pointer (some ⟨g,o,none⟩)):=Blk.cell (show Blk W bv 93 [.pointer (some ⟨g,o,none⟩),.int .i64 2] from hbv) 0
   have b1:W.cell? ⟨bv,1,none⟩ = some (.int .i64 2):=Blk.cell (show Blk W bv 93 [.pointer (some ⟨g,o,none⟩),.int .i64 2] from hbv) 1
   have ho:(⟨g,o,t,2⟩:Vis).out = if blkI t.k then fmt edT else []:=rfl
   rw [ho] at HLN HSN
   obtain ⟨c0,_⟩:=HC.out.all
   have HPB:=hid (fun W => pblock_c t.k W)
   cases he:blkI t.k with
   | false =>
    rw [he] at HLN HSN HPB
    simp only [Bool.false_eq_true,if_false,List.append_nil] at HSN
    clear ho e1 e2 e3 e4 e5 e6 e7 e8 hbv hq he
    unfold fmAct
    gi_wp2_with (refine ⟨trivial,?_⟩;gi_at_call 38;refine (CallsIn.inRound l (callsIn_wide.2 (HPB.out _))).mono ?_;rintro e W2 ⟨rfl,rfl⟩)
    exact ⟨KeepsFrom.refl _ _,_,rfl,HI.out.1,by rw [HSN.out];exact HI.out.2.1,fun h => (HNIL.out h).elim⟩
   | true =>
    rw [he,if_pos rfl] at HSN HLN
    rw [he] at HPB
    obtain ⟨F,hF⟩:∃ F,F = ofL (fmt edT):=⟨_,rfl⟩
    have HF:=fun W => format_c edT (by decide) (by decide) (by decide) W
    rw [← hF] at HF
    have HF:=hid HF
    have HFD:=hid hF
    clear ho e1 e2 e3 e4 e5 e6 e7 e8 hbv hq he hF
    unfold fmAct
    gi_wp2_with (first | (refine ⟨trivial,?_⟩;gi_at_call 38;refine (CallsIn.inRound l (callsIn_wide.2 (HPB.out _))).mono ?_;rintro e W2 ⟨rfl,rfl⟩) | (refine ⟨trivial,?_⟩;gi_at_call 36;refine (CallsIn.inRound l (callsIn_wide.2 (HF.out _))).mono ?_;rintro e W2 ⟨rfl,hb2⟩;have HB2:=hid hb2;clear hb2) | (refine ⟨trivial,?_⟩;gi_at_call 35;refine (CallsIn.inRound l (callsIn_wide.2 (write_c (HI.out.2.1.bel HB2.out) HFD.out HLN.out (Nat.le_trans HI.out.1.size HB2.out.size)))).mono ?_;rintro e W3 ⟨rfl,hu3,hb3,hk3⟩;have HU3:=hid hu3;have HB3:=hid hb3;have HK3:=hid hk3;clear hu3 hb3 hk3))
    exact ⟨(bel_keeps HB2.out _).trans (HK3.out _),_,rfl,Below.trans (HI.out.1.trans HB2.out) HB3.out,by rw [HSN.out];exact HU3.out,fun h => (HNIL.out h).elim⟩
 case done =>
  rintro D s W hD rfl hI hK
  have HST:=hid (bstring_c hI.2.1 hI.1.size)
  have HI:=hid hI
  have HK:=hid hK
  clear hI hK
  have hDD:w.heap.size + 2≤D:=by simpa using hD
  clear hD
  go_wp2_with (go_at_call 39;refine HST.out.mono ?_;rintro e W1 ⟨rfl,hb1,hk1⟩;have HB1:=hid hb1;have HD1:=hid (hk1 D _ HK.out (fun e => by injection e with e;omega) (fun _ _ e => by cases e));clear hb1 hk1)
  refine ⟨by simp,.inl ⟨_,_,rfl,run_takeDeferred HD1.out,?_⟩⟩
  exact ⟨_,results_tmp rfl _ _ _,rfl,bel_put (Below.trans HI.out.1 HB1.out) HD1.out (by omega)⟩
 case stop =>
  rintro D c' W _ h _
  exact h.elim
end
section
open NT
theorem defsN_strips:∀ l:List NT,defsN (strips l) = (defsN l).map strip
 | [] => by rw [strips_nil];rfl
 | x :: l => by
  have ih:=defsN_strips l
  rw [strips_cons]
  unfold defsN isDef at ih ⊢
  by_cases h:x.k = 6
  ·rw [List.filter_cons_of_pos (by simp [strip_k,h]),List.filter_cons_of_pos (by simp [h]),ih,List.map_cons]
  ·rw [List.filter_cons_of_neg (by simp [strip_k,h]),List.filter_cons_of_neg (by simp [h]),ih]
theorem namesN_strips (l:List NT):namesN (strips l) = namesN l:=by
 unfold namesN
 rw [defsN_strips,List.map_map]
 exact List.map_congr_left fun x _ => strip_s x
theorem dupN_strip:∀ (r:List NT) (seen:List ByteArray),(dupN seen (r.map strip)).map (·.2) = (dupN seen r).map (·.2)
 | [],_ => rfl
 | t :: r,seen => by
  rw [List.map_cons,dupN,dupN,strip_s]
  split
  ·rfl
  split
  ·rfl
  ·exact dupN_strip r _
theorem callNs_strips_of:∀ (l:List NT),(∀ x,x ∈ l→callN x.strip = (callN x).map strip)→callNs (strips l) = (callNs l).map strip
 | [],_ => by rw [strips_nil,callNs_nil];rfl
 | x :: l,h => by rw [strips_cons,callNs_cons,callNs_cons,h x (by simp),callNs_strips_of l (fun y hy => h y (by simp [hy])),List.map_append]
theorem callN_strip (t:NT):callN t.strip = (callN t).map strip:=by
 refine ind (M:=fun t => callN t.strip = (callN t).map strip) (fun t hb hl => ?_) t
 rw [callN_eq,callN_eq,strip_k,strip_b,strip_l,callNs_strips_of t.b hb,callNs_strips_of t.l hl,List.map_append,List.map_append]
 split
 ·rfl
 ·rfl
theorem callNs_strips (l:List NT):callNs (strips l) = (callNs l).map strip:=callNs_strips_of l fun x _ => callN_strip x
theorem checkN_strips (l:List NT):(checkN (strips l)).2 = (checkN l).2:=by
 have h1:=dupN_strip (defsN l) []
 unfold checkN
 rw [defsN_strips,callNs_strips]
 cases hd:dupN [] (defsN l) with
 | some r =>
  rw [hd] at h1
  cases hd2:dupN [] ((defsN l).map strip) with
  | some q => rw [hd2] at h1;injection h1
  | none => rw [hd2] at h1;cases h1
 | none =>
  rw [hd] at h1
  cases hd2:dupN [] ((defsN l).map strip) with
  | some q => rw [hd2] at h1;cases h1
  | none =>
   dsimp only
   have hf:((callNs l).map strip).find? (badCall (strips l)) = ((callNs l).find? (badCall l)).map strip:=by
    rw [List.find?_map]
    congr 1
    congr 1
    funext x
    show badCall (strips l) x.strip = badCall l x
    unfold badCall
    rw [namesN_strips,strip_s]
   rw [hf]
   cases (callNs l).find? (badCall l) <;> rfl
def okR:IR→Option (HS × List Nat) | .ok s es => some (s,es) | .no _ _ => none
theorem okR_next (r:IR) (f:HS→List Nat→IR):okR (r.next f) = (okR r).bind fun q => okR (f q.1 q.2):=by cases r <;> rfl
theorem okR_ite {c:Prop} [Decidable c] (a b:IR):okR (if c then a else b) = if c then okR a else okR b:=by split <;> rfl
theorem listI_strips_of:∀ (l:List NT),(∀ x,x ∈ l→∀ s,okR (nodeI s x.strip) = okR (nodeI s x))→∀ s,okR (listI s (strips l)) = okR (listI s l)
 | [],_,s => by rw [strips_nil]
 | x :: l,h,s => by
  have ih:=listI_strips_of l (fun y hy => h y (by simp [hy]))
  rw [strips_cons,listI_cons,listI_cons,okR_next,okR_next,h x (by simp)]
  congr 1
  funext q
  rw [okR_next,okR_next,ih]
theorem nodeI_strip (t:NT):∀ s,okR (nodeI s t.strip) = okR (nodeI s t):=by
 refine ind (M:=fun t => ∀ s,okR (nodeI s t.strip) = okR (nodeI s t)) (fun t hb hl s => ?_) t
 have HB:=listI_strips_of t.b hb
 have HL:=listI_strips_of t.l hl
 rw [nodeI_eq,nodeI_eq,strip_k,strip_s,strip_b,strip_l]
 simp only [okR_ite,okR_next,HB,HL]
 rfl
theorem listI_strips (l:List NT) (s:HS):okR (listI s (strips l)) = okR (listI s l):=listI_strips_of l (fun x _ => nodeI_strip x) s
theorem inferI_strips {l m:List NT} (h:strips l = strips m) {es:List Nat} {a:Int} (hi:inferI l = (es,a,0)):inferI m = (es,0,0):=by
 have h1:=of_inferI hi
 have h2:=listI_strips l (s0 0)
 rw [h,listI_strips m,h1] at h2
 cases hm:listI (s0 0) m with
 | no b k => rw [hm] at h2;cases h2
 | ok s fs =>
  rw [hm] at h2
  injection h2 with h2
  injection h2 with h3 h4
  subst h3 h4
  exact inferI_of hm
theorem codeN_strips {l m:List NT} (h:strips l = strips m) {es:List Nat} {a b:Int} (hc:checkN l = (b,0)) (hi:inferI l = (es,a,0)):codeN m = (codeW l es,0,0):=by
 have h1:(checkN m).2 = 0:=by rw [← checkN_strips m,← h,checkN_strips l,hc]
 have h2:=inferI_strips h hi
 unfold codeN
 rw [if_neg (by simpa using h1),h2,if_neg (by simp),← codeW_strips m,← h,codeW_strips]
end
section
open Go.RowKit Go.BigFrame NT
theorem pf17_c {l m:List NT} (hl:Parsed l) (he:ers m = l) {A:Option Addr} {c:Nat} {w:World} (hA:Row w (Lt w) A c m) :
  Calls Tryz.prog 20 #[.slice A m.length c] w fun e w' => e = .returned (.string (ofL (fmtNs l)))∧Bel w w':=by
 have h:fmtNs m = fmtNs l:=by rw [← he,fmtNs_ers]
 have:=pformat_c hA (ng_ers hl.ng he) (wn_ers hl.wn he) (by rw [h];have:=hl.again.1;omega)
 rw [h] at this
 exact this
theorem jmLaw (s:ByteArray) (w:World) (hT:MX w) (hs:s.size≤maxLen) :
  Calls Tryz.prog 7 #[.string s] w fun e w' => e = .returned (.bool true)∧Below w.heap.size w w':=by
 have hs2:(s.size:Int)≤9223372036854775807:=by have:=hs;unfold maxLen at this;omega
 have HT:=hid hT
 have HAL:=hid (fun (W:World) (hb:Bel w W) => alive_c W (hT.bel hb))
 by_cases hbig:5000 < s.size
 ·have hi:(5000:Int) < (s.size:Int):=by omega
  clear hs hT
  go_enter Tryz.func7,Tryz.ntmps7
  go_wp2_with (go_at_call 9;((with_reducible refine (HAL.out _ (Bel.refl _)).mono ?_);rintro e w1 ⟨rfl,hb⟩;have HB1:=hid hb;clear hb))
  go_ret
  exact ⟨rfl,HB1.out⟩
 have hi:¬ (5000:Int) < (s.size:Int):=by omega
 have hs5:s.size≤5000:=by omega
 obtain ⟨r,hlo,_⟩:=lexOf_total s
 obtain ⟨hne,hpa⟩:=par17 hs5 hlo
 have HCO:=hid (pcompile_c s hs5 hlo w hT)
 have HPA:=hid (fun W (hM:MX W) => parse_c s r W hM hlo)
 obtain ⟨C,hC⟩:∃ C,C = cmpR (parR r):=⟨_,rfl⟩
 rw [← hC] at HCO
 obtain ⟨c,a,k⟩:=C
 by_cases hk:k = 0
 ·subst hk
  obtain ⟨l,hl,hcn⟩:=cmpR_ok hC.symm hne
  have hpl:=hpa l hl
  obtain ⟨es,rfl,rfl,⟨b,hck⟩,hes,b2,hin⟩:=codeN_ok hpl hcn
  rw [hl] at HPA
  obtain ⟨hlen,us,l2,c2,hlx,hpp,hst⟩:=hpl.again
  obtain ⟨f,hf⟩:∃ f,f = ofL (fmtNs l):=⟨_,rfl⟩
  have hft:toL f = fmtNs l:=by rw [hf,toL_ofL]
  have hfs:f.size≤5000:=by rw [← toL_len,hft];exact hlen
  have hlo2:LexOf f (.ok us):=by
   unfold LexOf
   rw [if_neg (by omega),hft]
   exact hlx
  have hpr:parR (.ok us) = .ok l2:=by unfold parR;dsimp only;rw [hpp]
  have hcn2:cmpR (parR (.ok us)) = (codeW l es,0,0):=by rw [hpr];exact codeN_strips hst.symm hck hin
  have HCO2:=hid (fun W (hM:MX W) => show Calls Tryz.prog 10 #[.string f] W (CdP (codeW l es,0,0) W) by have h:=pcompile_c f hfs hlo2 W hM;rwa [hcn2] at h)
  have HFM:=hid (fun (m:List NT) (A:Option Addr) (c:Nat) (W:World) (he:ers m = l) (hA:Row W (Lt W) A c m) => show Calls Tryz.prog 20 #[.slice A m.length c] W (fun e w' => e = .returned (.string f)∧Bel W w') by rw [hf];exact pf17_c hpl he hA)
  have HPL:=hid hpl
  have HFEW:=hid (codeW_few hpl es)
  obtain ⟨n,hn⟩:∃ n,n = (codeW l es).length:=⟨_,rfl⟩
  have HN:=hid hn
  unfold CdP at HCO HCO2
  dsimp only at HCO HCO2
  rw [← hn] at HCO HCO2
  clear hlo hne hpa hC hl hcn hpl hes hck hn hT hs hin hlen hlx hpp hst hf hft hlo2 hpr hcn2 hfs
  go_enter Tryz.func7,Tryz.ntmps7
  go_wp2_with (first
   | (go_at_call 10;((with_reducible refine (HCO.out).mono ?_);rintro e w1 ⟨hb,A1,c1,rfl,hI⟩;have HB1:=hid hb;have HX1:=hid (Xr.of_krow hI.out.1);clear hb hI))
   | (go_at_call 15;((with_reducible refine (HPA.out _ (HT.out.bel HB1.out)).mono ?_);rintro e w2 hp;obtain ⟨hb,A2,c2,m,he,hrow,rfl,htm,_⟩:=hp.row17 HPL.out;have HB2:=hid (HB1.out.trans hb);have HX2:=hid (HX1.out.bel hb);have HROW:=hid hrow;have HE:=hid he;clear hp hb hrow htm he))
   | (go_at_call 20;((with_reducible refine (HFM.out _ _ _ _ HE.out HROW.out).mono ?_);rintro e w3 ⟨rfl,hb⟩;have HB3:=hid (HB2.out.trans hb);have HX3:=hid (HX2.out.bel hb);clear hb))
   | (go_at_call 10;((with_reducible refine (HCO2.out _ (HT.out.bel HB3.out)).mono ?_);rintro e w4 ⟨hb,A4,c4,rfl,hI⟩;have HB4:=hid (HB3.out.trans hb);have HX4:=hid (HX3.out.bel hb);have HY4:=hid (Xr.of_krow hI.out.1);clear hb hI))
   | (go_at_call 9;((with_reducible refine (HAL.out _ HB4.out).mono ?_);rintro e w5 ⟨rfl,hb⟩;have HB5:=hid (HB4.out.trans hb);have HEQ:=hid (insEqual_n (n:=n) (k:=n) (HX4.out.bel hb) (HY4.out.bel hb) (by rw [List.length_map,HN.out]) (by rw [List.length_map,HN.out]) (by have:=HFEW.out;have:=HN.out;omega) (by have:=HFEW.out;have:=HN.out;omega));rw [decide_eq_true rfl] at HEQ;clear hb))
   | (go_at_call 12;((with_reducible refine (HEQ.out).mono ?_);rintro e w6 ⟨rfl,hb⟩;have HB6:=hid (HB5.out.trans hb);clear hb)))
  go_ret
  exact ⟨rfl,HB6.out⟩
 ·have hk1:((k:Int) != 0) = true:=bne_iff_ne.2 (by omega)
  clear hlo hne hpa hC hT hs hk HPA
  go_enter Tryz.func7,Tryz.ntmps7
  go_wp2_with (first
   | (go_at_call 10;((with_reducible refine (HCO.out).mono ?_);rintro e w1 ⟨hb,A1,c1,rfl,hI⟩;have HB1:=hid hb;clear hb hI))
   | (go_at_call 9;((with_reducible refine (HAL.out _ HB1.out).mono ?_);rintro e w2 ⟨rfl,hb⟩;have HB2:=hid (HB1.out.trans hb);clear hb)))
  go_ret
  exact ⟨rfl,HB2.out⟩
end
end Go.Proofs.YtpcapmdfjmpdiaaGreatDoor
