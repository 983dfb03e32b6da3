/- Contracts: Format, the program's and the reference's. -/
import Derived.Test.YtpcapmdfjmpdiaaGreatDoorZSs14
set_option linter.unusedVariables false
set_option linter.unusedSimpArgs false
set_option maxRecDepth 100000
set_option maxHeartbeats 3200000
open Go.Lib (hid)
namespace Go.Proofs.YtpcapmdfjmpdiaaGreatDoor
open Go.RowKit Go.BigFrame
def kwB (k:Nat):ByteArray:=ofL ((kwOf k).headD [])
theorem firstWord_c (k:Nat) (hk:k≤8) (w:World):Calls Tryz.prog 64 #[.int .i64 k] w fun e w' => e = .returned (.string (kwB k))∧w' = w:=by
 rcases (by omega:k = 0 ∨ k = 1 ∨ k = 2 ∨ k = 3 ∨ k = 4 ∨ k = 5 ∨ k = 6 ∨ k = 7 ∨ k = 8) with rfl | rfl | rfl | rfl | rfl | rfl | rfl | rfl | rfl
 all_goals
  go_enter Tryz.func64,Tryz.ntmps64
  go_wp2_with fail
  go_ret
  exact ⟨rfl,rfl⟩
theorem toL_app (a b:ByteArray):toL (a ++ b) = toL a ++ toL b:=by unfold toL;simp
theorem join_c {w:World} {A:Option Addr} {n c:Nat} {L:List ByteArray} (hR:RowAt w 9 A n c (vss L)) (hn:n≤100) (hle:(jn (L.map toL)).length≤500000) :
  Calls Tryz.prog 65 #[.slice A n c,.string ⟨#[32]⟩] w fun e w' => e = .returned (.string (ofL (jn (L.map toL))))∧Bel w w':=by
 have hl:L.length = n:=by have:=hR.len;rwa [vss_length] at this
 have hj:Lib.join (L.map (fun x => x.data.toList)) (⟨#[32]⟩:ByteArray).data.toList = jn (L.map toL):=join_jn _
 have hnc:=hR.le
 rcases strs_of_row hR with h0 | ⟨g,o,rfl,hg,hc⟩
 ·subst h0
  simp at hl;subst hl
  refine (Any.strings_Join_none Tryz.laysJN jnExtra A c ⟨#[32]⟩ w).mono ?_
  rintro e w' ⟨rfl,rfl⟩
  exact ⟨rfl,Bel.refl _⟩
 ·have:=Any.strings_Join Tryz.laysJN jnExtra g o c L ⟨#[32]⟩ w (fun j x hx => by
    have hj:=(List.getElem?_eq_some_iff.1 hx).1
    have:=hc j hj
    rwa [List.getD_eq_getElem?_getD,hx] at this) hg (by omega) (by omega) (by rw [hj];omega)
  rw [hl,hj] at this
  exact this
structure FSt (w wr:World) (tk:List Value) (A:Option Addr) (n c:Nat) (L:List ByteArray):Prop where
 row:RowAt wr 9 A n c (vss L)
 fresh:∀ k,k ∈ rowT A→w.heap.size < k
 bel:Bel w wr
 tok:Blk wr w.heap.size 64 tk
theorem FSt.start (w:World) (tk:List Value):FSt w (w.alloc (.cells tk.toArray 64)) tk none 0 0 []:=⟨RowAt.nil _ _,by simp [rowT],Bel.alloc _ _,Blk.new w _ tk⟩
section
variable {w wr:World} {ops:Array Oper} {rest:List Oper} {o:Oper} {a:Act} {Q:Exit→Act→World→Prop}
theorem wp_fst (hgd:o.guard = none) (s x:Operand) (ho:o.op = .call { callee:=.builtin .append,args:=#[s,x],argTypes:=#[112,112] }) {tk:List Value} {A:Option Addr} {n c:Nat} {L:List ByteArray} {b:ByteArray}
  (hs:a.eval s = .slice A n c) (hS:FSt w wr tk A n c L) (g:Nat) (hx:a.eval x = .slice (some ⟨g,0,none⟩) 1 1) (hg:wr.heap.size = g) (hn:n≤100)
  (h:∀ A' c' w',Hid (FSt w w' tk A' (n + 1) c' (L ++ [b]))→wpList Tryz.prog ops Q rest (a.put o.dst (.slice A' (n + 1) c')) w') :
  wpList Tryz.prog ops Q (o :: rest) a (wr.alloc (.cells #[.string b] 9)):=by
 subst hg
 have hl:L.length = n:=by have:=hS.row.len;rwa [vss_length] at this
 refine wp_appendS hgd s x ho A n c L hs (hS.row.alloc _) wr.heap.size b hx (Blk.new wr 9 [.string b]) (by omega) ?_
 intro A' c' w' hR hO hK
 have hT:=hS.tok.lt
 refine h A' c' w' (hid ⟨hR.out,fun k hk => ?_,?_,(hS.tok.alloc (.cells #[.string b] 9)).only hO.out fun hm => Nat.lt_irrefl _ (hS.fresh _ hm)⟩)
 ·rcases hK.out k hk with h1 | h1
  ·exact hS.fresh k h1
  ·simp at h1;omega
 ·exact Below.trans (hS.bel.trans (Bel.alloc wr _)) (hO.out.to_below ((hS.bel.trans (Bel.alloc wr _)).size) fun k hk => Nat.le_of_lt (hS.fresh k hk))
end
theorem wrap_braces (x:ByteArray):Ending.returned (.string (⟨#[123,123]⟩ ++ x ++ ⟨#[125,125]⟩)) = .returned (.string (ofL (123 :: 123 :: (toL x ++ [125,125])))):=by
 have:(⟨#[123,123]⟩ ++ x ++ ⟨#[125,125]⟩:ByteArray) = ofL (123 :: 123 :: (toL x ++ [125,125])):=by
  apply toL_inj
  simp [toL_app,toL_ofL,show toL ⟨#[123,123]⟩ = [123,123] from rfl,show toL ⟨#[125,125]⟩ = [125,125] from rfl]
 rw [this]
theorem join_c2 {w:World} {A:Option Addr} {n c:Nat} {L:List ByteArray} (hR:RowAt w 9 A n c (vss L)) (hn:n≤100) (jb:ByteArray) (hj:jb = ofL (jn (L.map toL))) (hle:jb.size≤500000) :
  Calls Tryz.prog 65 #[.slice A n c,.string ⟨#[32]⟩] w fun e w' => e = .returned (.string jb)∧Bel w w':=by
 subst hj
 exact join_c hR hn hle
theorem format_c (t:Tok) (hk:t.k≤8) (hs:t.s.length≤70000) (hp:t.p.length≤70000) (w:World) :
  Calls Tryz.prog 36 #[.agg #[.int .i64 t.k,.int .i64 t.a,.string (ofL t.s),.string (ofL t.p),.bool t.h]] w fun e w' => e = .returned (.string (ofL (fmt t)))∧Bel w w':=by
 obtain ⟨k,a,s,p,h⟩:=t
 dsimp only at hk hs hp ⊢
 by_cases h0:k = 0
 ·subst h0
  have HF:Hid (fmt ⟨0,a,s,p,h⟩ = s):=hid (by unfold fmt;rw [if_pos rfl])
  go_enter Tryz.func36,Tryz.ntmps36
  go_wp2_with fail
  go_ret
  rw [HF.out]
  exact ⟨rfl,Bel.alloc _ _⟩
 have HFW:=hid (fun W => firstWord_c k hk W)
 have hk0:((k:Int) == 0) = false:=by rw [beq_eq_false_iff_ne];omega
 have HKW:Hid (((kwB k).size = 0∧kwOf k = []) ∨ ((kwB k).size ≠ 0∧kwOf k = [toL (kwB k)]∧(kwB k).size≤10)):=hid (by
  rcases (by omega:k = 1 ∨ k = 2 ∨ k = 3 ∨ k = 4 ∨ k = 5 ∨ k = 6 ∨ k = 7 ∨ k = 8) with rfl | rfl | rfl | rfl | rfl | rfl | rfl | rfl
  ·exact .inl ⟨rfl,rfl⟩
  all_goals exact .inr ⟨by decide,rfl,by decide⟩)
 have HF:Hid (∀ x,x = jn (kwOf k ++ (if s = [] then [] else [s]) ++ (if h then [46 :: p] else []))→fmt ⟨k,a,s,p,h⟩ = 123 :: 123 :: (x ++ [125,125])):=hid (by intro x hx;subst hx;unfold fmt;rw [if_neg h0];rfl)
 have hss:(ofL s).size = s.length:=rfl
 have hps:(ofL p).size = p.length:=rfl
 clear h0
 generalize hb:kwB k = b at *
 clear hb
 rcases HKW.out with hkw | hkw
 ·by_cases hs0:s = []
  ·cases h with
   | false =>
    have HX:Hid (fmt ⟨k,a,s,p,false⟩ = 123 :: 123 :: (jn (([]:List ByteArray).map toL) ++ [125,125])):=hid (by
     refine HF.out _ ?_
     rw [hkw.2]
     simp [hs0,toL_app,toL_ofL,show toL ⟨#[46]⟩ = [46] from rfl])
    have hjl:(jn (([]:List ByteArray).map toL)).length≤500000:=by simp [jn,toL_app,toL_ofL,show toL ⟨#[46]⟩ = [46] from rfl,toL_len];try omega
    obtain ⟨jb,hjb⟩:∃ jb,jb = ofL (jn (([]:List ByteArray).map toL)):=⟨_,rfl⟩
    have hsz:jb.size≤500000:=by rw [hjb];exact hjl
    have HXJ:Hid (fmt ⟨k,a,s,p,false⟩ = 123 :: 123 :: (toL jb ++ [125,125])):=hid (by rw [hjb,toL_ofL];exact HX.out)
    have HJB:=hid hjb
    clear hjb
    have HS:=hid (FSt.start w [.int .i64 k,.int .i64 a,.string (ofL s),.string (ofL p),.bool false])
    have hbe:=empty_of hkw.1
    have hse:(ofL s).toList.isEmpty = true:=empty_of (by rw [hss,hs0];rfl)
    have hp1:(ofL p).size≤70000:=hp
    clear hjl hss hps HF hkw hs hp hs0
    go_enter Tryz.func36,Tryz.ntmps36
    go_wp2_with (first | (go_at_call 64;refine (HFW.out _).mono ?_;rintro e w3 ⟨rfl,rfl⟩) | (at_builtin;((with_reducible refine wp_fst (w:=w) rfl _ _ rfl rfl HS.out _ rfl (by simp) (by decide) ?_);intro A1 c1 w1 HS;obtain ⟨t0,t1,t2,t3,t4⟩:=cells5 HS.out.tok)) | (go_at_call 65;refine (join_c2 HS.out.row (by decide) jb HJB.out hsz).mono ?_;rintro e w4 ⟨rfl,hb⟩;have HB4:=hid (HS.out.bel.trans hb);clear hb))
    go_ret
    rw [HXJ.out]
    exact ⟨wrap_braces _,HB4.out⟩
   | true =>
    have HX:Hid (fmt ⟨k,a,s,p,true⟩ = 123 :: 123 :: (jn ((([] ++ [⟨#[46]⟩ ++ ofL p]):List ByteArray).map toL) ++ [125,125])):=hid (by
     refine HF.out _ ?_
     rw [hkw.2]
     simp [hs0,toL_app,toL_ofL,show toL ⟨#[46]⟩ = [46] from rfl])
    have hjl:(jn ((([] ++ [⟨#[46]⟩ ++ ofL p]):List ByteArray).map toL)).length≤500000:=by simp [jn,toL_app,toL_ofL,show toL ⟨#[46]⟩ = [46] from rfl,toL_len];try omega
    obtain ⟨jb,hjb⟩:∃ jb,jb = ofL (jn ((([] ++ [⟨#[46]⟩ ++ ofL p]):List ByteArray).map toL)):=⟨_,rfl⟩
    have hsz:jb.size≤500000:=by rw [hjb];exact hjl
    have HXJ:Hid (fmt ⟨k,a,s,p,true⟩ = 123 :: 123 :: (toL jb ++ [125,125])):=hid (by rw [hjb,toL_ofL];exact HX.out)
    have HJB:=hid hjb
    clear hjb
    have HS:=hid (FSt.start w [.int .i64 k,.int .i64 a,.string (ofL s),.string (ofL p),.bool true])
    have hbe:=empty_of hkw.1
    have hse:(ofL s).toList.isEmpty = true:=empty_of (by rw [hss,hs0];rfl)
    have hp1:(ofL p).size≤70000:=hp
    clear hjl hss hps HF hkw hs hp hs0
    go_enter Tryz.func36,Tryz.ntmps36
    go_wp2_with (first | (go_at_call 64;refine (HFW.out _).mono ?_;rintro e w3 ⟨rfl,rfl⟩) | (at_builtin;((with_reducible refine wp_fst (w:=w) rfl _ _ rfl rfl HS.out _ rfl (by simp) (by decide) ?_);intro A1 c1 w1 HS;obtain ⟨t0,t1,t2,t3,t4⟩:=cells5 HS.out.tok)) | (go_at_call 65;refine (join_c2 HS.out.row (by decide) jb HJB.out hsz).mono ?_;rintro e w4 ⟨rfl,hb⟩;have HB4:=hid (HS.out.bel.trans hb);clear hb))
    go_ret
    rw [HXJ.out]
    exact ⟨wrap_braces _,HB4.out⟩
  ·cases h with
   | false =>
    have HX:Hid (fmt ⟨k,a,s,p,false⟩ = 123 :: 123 :: (jn ((([] ++ [ofL s]):List ByteArray).map toL) ++ [125,125])):=hid (by
     refine HF.out _ ?_
     rw [hkw.2]
     simp [hs0,toL_app,toL_ofL,show toL ⟨#[46]⟩ = [46] from rfl])
    have hjl:(jn ((([] ++ [ofL s]):List ByteArray).map toL)).length≤500000:=by simp [jn,toL_app,toL_ofL,show toL ⟨#[46]⟩ = [46] from rfl,toL_len];try omega
    obtain ⟨jb,hjb⟩:∃ jb,jb = ofL (jn ((([] ++ [ofL s]):List ByteArray).map toL)):=⟨_,rfl⟩
    have hsz:jb.size≤500000:=by rw [hjb];exact hjl
    have HXJ:Hid (fmt ⟨k,a,s,p,false⟩ = 123 :: 123 :: (toL jb ++ [125,125])):=hid (by rw [hjb,toL_ofL];exact HX.out)
    have HJB:=hid hjb
    clear hjb
    have HS:=hid (FSt.start w [.int .i64 k,.int .i64 a,.string (ofL s),.string (ofL p),.bool false])
    have hbe:=empty_of hkw.1
    have hse:(ofL s).toList.isEmpty = false:=empty_not (by rw [hss];exact fun h => hs0 (List.length_eq_zero_iff.1 h))
    have hp1:(ofL p).size≤70000:=hp
    clear hjl hss hps HF hkw hs hp hs0
    go_enter Tryz.func36,Tryz.ntmps36
    go_wp2_with (first | (go_at_call 64;refine (HFW.out _).mono ?_;rintro e w3 ⟨rfl,rfl⟩) | (at_builtin;((with_reducible refine wp_fst (w:=w) rfl _ _ rfl rfl HS.out _ rfl (by simp) (by decide) ?_);intro A1 c1 w1 HS;obtain ⟨t0,t1,t2,t3,t4⟩:=cells5 HS.out.tok)) | (go_at_call 65;refine (join_c2 HS.out.row (by decide) jb HJB.out hsz).mono ?_;rintro e w4 ⟨rfl,hb⟩;have HB4:=hid (HS.out.bel.trans hb);clear hb))
    go_ret
    rw [HXJ.out]
    exact ⟨wrap_braces _,HB4.out⟩
   | true =>
    have HX:Hid (fmt ⟨k,a,s,p,true⟩ = 123 :: 123 :: (jn (((([] ++ [ofL s]) ++ [⟨#[46]⟩ ++ ofL p]):List ByteArray).map toL) ++ [125,125])):=hid (by
     refine HF.out _ ?_
     rw [hkw.2]
     simp [hs0,toL_app,toL_ofL,show toL ⟨#[46]⟩ = [46] from rfl])
    have hjl:(jn (((([] ++ [ofL s]) ++ [⟨#[46]⟩ ++ ofL p]):List ByteArray).map toL)).length≤500000:=by simp [jn,toL_app,toL_ofL,show toL ⟨#[46]⟩ = [46] from rfl,toL_len];try omega
    obtain ⟨jb,hjb⟩:∃ jb,jb = ofL (jn (((([] ++ [ofL s]) ++ [⟨#[46]⟩ ++ ofL p]):List ByteArray).map toL)):=⟨_,rfl⟩
    have hsz:jb.size≤500000:=by rw [hjb];exact hjl
    have HXJ:Hid (fmt ⟨k,a,s,p,true⟩ = 123 :: 123 :: (toL jb ++ [125,125])):=hid (by rw [hjb,toL_ofL];exact HX.out)
    have HJB:=hid hjb
    clear hjb
    have HS:=hid (FSt.start w [.int .i64 k,.int .i64 a,.string (ofL s),.string (ofL p),.bool true])
    have hbe:=empty_of hkw.1
    have hse:(ofL s).toList.isEmpty = false:=empty_not (by rw [hss];exact fun h => hs0 (List.length_eq_zero_iff.1 h))
    have hp1:(ofL p).size≤70000:=hp
    clear hjl hss hps HF hkw hs hp hs0
    go_enter Tryz.func36,Tryz.ntmps36
    go_wp2_with (first | (go_at_call 64;refine (HFW.out _).mono ?_;rintro e w3 ⟨rfl,rfl⟩) | (at_builtin;((with_reducible refine wp_fst (w:=w) rfl _ _ rfl rfl HS.out _ rfl (by simp) (by decide) ?_);intro A1 c1 w1 HS;obtain ⟨t0,t1,t2,t3,t4⟩:=cells5 HS.out.tok)) | (go_at_call 65;refine (join_c2 HS.out.row (by decide) jb HJB.out hsz).mono ?_;rintro e w4 ⟨rfl,hb⟩;have HB4:=hid (HS.out.bel.trans hb);clear hb))
    go_ret
    rw [HXJ.out]
    exact ⟨wrap_braces _,HB4.out⟩
 ·by_cases hs0:s = []
  ·cases h with
   | false =>
    have HX:Hid (fmt ⟨k,a,s,p,false⟩ = 123 :: 123 :: (jn ((([] ++ [b]):List ByteArray).map toL) ++ [125,125])):=hid (by
     refine HF.out _ ?_
     rw [hkw.2.1]
     simp [hs0,toL_app,toL_ofL,show toL ⟨#[46]⟩ = [46] from rfl])
    have hjl:(jn ((([] ++ [b]):List ByteArray).map toL)).length≤500000:=by simp [jn,toL_app,toL_ofL,show toL ⟨#[46]⟩ = [46] from rfl,toL_len];try omega
    obtain ⟨jb,hjb⟩:∃ jb,jb = ofL (jn ((([] ++ [b]):List ByteArray).map toL)):=⟨_,rfl⟩
    have hsz:jb.size≤500000:=by rw [hjb];exact hjl
    have HXJ:Hid (fmt ⟨k,a,s,p,false⟩ = 123 :: 123 :: (toL jb ++ [125,125])):=hid (by rw [hjb,toL_ofL];exact HX.out)
    have HJB:=hid hjb
    clear hjb
    have HS:=hid (FSt.start w [.int .i64 k,.int .i64 a,.string (ofL s),.string (ofL p),.bool false])
    have hbe:=empty_not hkw.1
    have hse:(ofL s).toList.isEmpty = true:=empty_of (by rw [hss,hs0];rfl)
    have hp1:(ofL p).size≤70000:=hp
    clear hjl hss hps HF hkw hs hp hs0
    go_enter Tryz.func36,Tryz.ntmps36
    go_wp2_with (first | (go_at_call 64;refine (HFW.out _).mono ?_;rintro e w3 ⟨rfl,rfl⟩) | (at_builtin;((with_reducible refine wp_fst (w:=w) rfl _ _ rfl rfl HS.out _ rfl (by simp) (by decide) ?_);intro A1 c1 w1 HS;obtain ⟨t0,t1,t2,t3,t4⟩:=cells5 HS.out.tok)) | (go_at_call 65;refine (join_c2 HS.out.row (by decide) jb HJB.out hsz).mono ?_;rintro e w4 ⟨rfl,hb⟩;have HB4:=hid (HS.out.bel.trans hb);clear hb))
    go_ret
    rw [HXJ.out]
    exact ⟨wrap_braces _,HB4.out⟩
   | true =>
    have HX:Hid (fmt ⟨k,a,s,p,true⟩ = 123 :: 123 :: (jn (((([] ++ [b]) ++ [⟨#[46]⟩ ++ ofL p]):List ByteArray).map toL) ++ [125,125])):=hid (by
     refine HF.out _ ?_
     rw [hkw.2.1]
     simp [hs0,toL_app,toL_ofL,show toL ⟨#[46]⟩ = [46] from rfl])
    have hjl:(jn (((([] ++ [b]) ++ [⟨#[46]⟩ ++ ofL p]):List ByteArray).map toL)).length≤500000:=by simp [jn,toL_app,toL_ofL,show toL ⟨#[46]⟩ = [46] from rfl,toL_len];try omega
    obtain ⟨jb,hjb⟩:∃ jb,jb = ofL (jn (((([] ++ [b]) ++ [⟨#[46]⟩ ++ ofL p]):List ByteArray).map toL)):=⟨_,rfl⟩
    have hsz:jb.size≤500000:=by rw [hjb];exact hjl
    have HXJ:Hid (fmt ⟨k,a,s,p,true⟩ = 123 :: 123 :: (toL jb ++ [125,125])):=hid (by rw [hjb,toL_ofL];exact HX.out)
    have HJB:=hid hjb
    clear hjb
    have HS:=hid (FSt.start w [.int .i64 k,.int .i64 a,.string (ofL s),.string (ofL p),.bool true])
    have hbe:=empty_not hkw.1
    have hse:(ofL s).toList.isEmpty = true:=empty_of (by rw [hss,hs0];rfl)
    have hp1:(ofL p).size≤70000:=hp
    clear hjl hss hps HF hkw hs hp hs0
    go_enter Tryz.func36,Tryz.ntmps36
    go_wp2_with (first | (go_at_call 64;refine (HFW.out _).mono ?_;rintro e w3 ⟨rfl,rfl⟩) | (at_builtin;((with_reducible refine wp_fst (w:=w) rfl _ _ rfl rfl HS.out _ rfl (by simp) (by decide) ?_);intro A1 c1 w1 HS;obtain ⟨t0,t1,t2,t3,t4⟩:=cells5 HS.out.tok)) | (go_at_call 65;refine (join_c2 HS.out.row (by decide) jb HJB.out hsz).mono ?_;rintro e w4 ⟨rfl,hb⟩;have HB4:=hid (HS.out.bel.trans hb);clear hb))
    go_ret
    rw [HXJ.out]
    exact ⟨wrap_braces _,HB4.out⟩
  ·cases h with
   | false =>
    have HX:Hid (fmt ⟨k,a,s,p,false⟩ = 123 :: 123 :: (jn (((([] ++ [b]) ++ [ofL s]):List ByteArray).map toL) ++ [125,125])):=hid (by
     refine HF.out _ ?_
     rw [hkw.2.1]
     simp [hs0,toL_app,toL_ofL,show toL ⟨#[46]⟩ = [46] from rfl])
    have hjl:(jn (((([] ++ [b]) ++ [ofL s]):List ByteArray).map toL)).length≤500000:=by simp [jn,toL_app,toL_ofL,show toL ⟨#[46]⟩ = [46] from rfl,toL_len];try omega
    obtain ⟨jb,hjb⟩:∃ jb,jb = ofL (jn (((([] ++ [b]) ++ [ofL s]):List ByteArray).map toL)):=⟨_,rfl⟩
    have hsz:jb.size≤500000:=by rw [hjb];exact hjl
    have HXJ:Hid (fmt ⟨k,a,s,p,false⟩ = 123 :: 123 :: (toL jb ++ [125,125])):=hid (by rw [hjb,toL_ofL];exact HX.out)
    have HJB:=hid hjb
    clear hjb
    have HS:=hid (FSt.start w [.int .i64 k,.int .i64 a,.string (ofL s),.string (ofL p),.bool false])
    have hbe:=empty_not hkw.1
    have hse:(ofL s).toList.isEmpty = false:=empty_not (by rw [hss];exact fun h => hs0 (List.length_eq_zero_iff.1 h))
    have hp1:(ofL p).size≤70000:=hp
    clear hjl hss hps HF hkw hs hp hs0
    go_enter Tryz.func36,Tryz.ntmps36
    go_wp2_with (first | (go_at_call 64;refine (HFW.out _).mono ?_;rintro e w3 ⟨rfl,rfl⟩) | (at_builtin;((with_reducible refine wp_fst (w:=w) rfl _ _ rfl rfl HS.out _ rfl (by simp) (by decide) ?_);intro A1 c1 w1 HS;obtain ⟨t0,t1,t2,t3,t4⟩:=cells5 HS.out.tok)) | (go_at_call 65;refine (join_c2 HS.out.row (by decide) jb HJB.out hsz).mono ?_;rintro e w4 ⟨rfl,hb⟩;have HB4:=hid (HS.out.bel.trans hb);clear hb))
    go_ret
    rw [HXJ.out]
    exact ⟨wrap_braces _,HB4.out⟩
   | true =>
    have HX:Hid (fmt ⟨k,a,s,p,true⟩ = 123 :: 123 :: (jn ((((([] ++ [b]) ++ [ofL s]) ++ [⟨#[46]⟩ ++ ofL p]):List ByteArray).map toL) ++ [125,125])):=hid (by
     refine HF.out _ ?_
     rw [hkw.2.1]
     simp [hs0,toL_app,toL_ofL,show toL ⟨#[46]⟩ = [46] from rfl])
    have hjl:(jn ((((([] ++ [b]) ++ [ofL s]) ++ [⟨#[46]⟩ ++ ofL p]):List ByteArray).map toL)).length≤500000:=by simp [jn,toL_app,toL_ofL,show toL ⟨#[46]⟩ = [46] from rfl,toL_len];try omega
    obtain ⟨jb,hjb⟩:∃ jb,jb = ofL (jn ((((([] ++ [b]) ++ [ofL s]) ++ [⟨#[46]⟩ ++ ofL p]):List ByteArray).map toL)):=⟨_,rfl⟩
    have hsz:jb.size≤500000:=by rw [hjb];exact hjl
    have HXJ:Hid (fmt ⟨k,a,s,p,true⟩ = 123 :: 123 :: (toL jb ++ [125,125])):=hid (by rw [hjb,toL_ofL];exact HX.out)
    have HJB:=hid hjb
    clear hjb
    have HS:=hid (FSt.start w [.int .i64 k,.int .i64 a,.string (ofL s),.string (ofL p),.bool true])
    have hbe:=empty_not hkw.1
    have hse:(ofL s).toList.isEmpty = false:=empty_not (by rw [hss];exact fun h => hs0 (List.length_eq_zero_iff.1 h))
    have hp1:(ofL p).size≤70000:=hp
    clear hjl hss hps HF hkw hs hp hs0
    go_enter Tryz.func36,Tryz.ntmps36
    go_wp2_with (first | (go_at_call 64;refine (HFW.out _).mono ?_;rintro e w3 ⟨rfl,rfl⟩) | (at_builtin;((with_reducible refine wp_fst (w:=w) rfl _ _ rfl rfl HS.out _ rfl (by simp) (by decide) ?_);intro A1 c1 w1 HS;obtain ⟨t0,t1,t2,t3,t4⟩:=cells5 HS.out.tok)) | (go_at_call 65;refine (join_c2 HS.out.row (by decide) jb HJB.out hsz).mono ?_;rintro e w4 ⟨rfl,hb⟩;have HB4:=hid (HS.out.bel.trans hb);clear hb))
    go_ret
    rw [HXJ.out]
    exact ⟨wrap_braces _,HB4.out⟩
end Go.Proofs.YtpcapmdfjmpdiaaGreatDoor
