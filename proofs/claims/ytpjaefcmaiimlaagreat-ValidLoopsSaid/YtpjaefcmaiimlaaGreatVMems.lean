/-
  Layer 10: inputs and flaws in memory; input.Check.
-/
import Derived.Test.YtpjaefcmaiimlaaGreatVMaths
import Derived.Lib.AppendZeros
import Derived.Test.YtpjaefcmaiimlaaGreatFirsts0
import Derived.Maps.AppendAt
import Derived.Laws.AppendOwnNone
set_option linter.unusedVariables false
set_option linter.unusedSimpArgs false
set_option linter.deprecated false
namespace Go.Proofs.YtpjaefcmaiimlaaGreat
open Go.RowKit

theorem var3 {W:World} {g:Nat} {a b c:Value} (hl:g < W.heap.size) (h0:W.cell? ⟨g,0,none⟩=some a) (h1:W.cell? ⟨g,1,none⟩=some b) (h2:W.cell? ⟨g,2,none⟩=some c) (f0:W.frozen? ⟨g,0,none⟩=false) (f1:W.frozen? ⟨g,1,none⟩=false) (f2:W.frozen? ⟨g,2,none⟩=false):Var W g [a,b,c]:=
 ⟨hl,fun i hi=>by
  match i,hi with
  | 0,_=>exact h0
  | 1,_=>exact h1
  | 2,_=>exact h2,fun i hi=>by
  match i,hi with
  | 0,_=>exact f0
  | 1,_=>exact f1
  | 2,_=>exact f2⟩
theorem var3_new (W:World) (a b c:Value) (t:TypeId) (g:Nat) (hg:g=W.heap.size):Var (W.alloc (.cells #[a,b,c] t)) g [a,b,c]:=by
 subst hg
 exact var3 (by simp) (by simp [go_sem]) (by simp [go_sem]) (by simp [go_sem]) (by simp [go_sem]) (by simp [go_sem]) (by simp [go_sem])
theorem Var.three {W:World} {g:Nat} {a b c:Value} (h:Var W g [a,b,c]):W.cell? ⟨g,0,none⟩=some a∧W.cell? ⟨g,1,none⟩=some b∧W.cell? ⟨g,2,none⟩=some c:=⟨h.cells 0 (by simp),h.cells 1 (by simp),h.cells 2 (by simp)⟩
theorem Var.free3 {W:World} {g:Nat} {a b c:Value} (h:Var W g [a,b,c]):W.frozen? ⟨g,0,none⟩=false∧W.frozen? ⟨g,1,none⟩=false∧W.frozen? ⟨g,2,none⟩=false:=⟨h.free 0 (by simp),h.free 1 (by simp),h.free 2 (by simp)⟩
theorem Var.set3 {W:World} {g:Nat} {a b c:Value} (h:Var W g [a,b,c]) (a' b' c':Value):Var (((W.setCell ⟨g,0,none⟩ a').setCell ⟨g,1,none⟩ b').setCell ⟨g,2,none⟩ c') g [a',b',c']:=by
 obtain ⟨h0,h1,h2⟩:=h.three
 obtain ⟨f0,f1,f2⟩:=h.free3
 have n01:∀ (W:World) (u:Value),(W.setCell ⟨g,1,none⟩ u).cell? ⟨g,0,none⟩=W.cell? ⟨g,0,none⟩:=fun W u=>World.cell?_setCell_other _ _ _ _ (by intro e;injection e with e1 e2;omega)
 have n02:∀ (W:World) (u:Value),(W.setCell ⟨g,2,none⟩ u).cell? ⟨g,0,none⟩=W.cell? ⟨g,0,none⟩:=fun W u=>World.cell?_setCell_other _ _ _ _ (by intro e;injection e with e1 e2;omega)
 have n12:∀ (W:World) (u:Value),(W.setCell ⟨g,2,none⟩ u).cell? ⟨g,1,none⟩=W.cell? ⟨g,1,none⟩:=fun W u=>World.cell?_setCell_other _ _ _ _ (by intro e;injection e with e1 e2;omega)
 have n10:∀ (W:World) (u:Value),(W.setCell ⟨g,0,none⟩ u).cell? ⟨g,1,none⟩=W.cell? ⟨g,1,none⟩:=fun W u=>World.cell?_setCell_other _ _ _ _ (by intro e;injection e with e1 e2;omega)
 have n20:∀ (W:World) (u:Value),(W.setCell ⟨g,0,none⟩ u).cell? ⟨g,2,none⟩=W.cell? ⟨g,2,none⟩:=fun W u=>World.cell?_setCell_other _ _ _ _ (by intro e;injection e with e1 e2;omega)
 have n21:∀ (W:World) (u:Value),(W.setCell ⟨g,1,none⟩ u).cell? ⟨g,2,none⟩=W.cell? ⟨g,2,none⟩:=fun W u=>World.cell?_setCell_other _ _ _ _ (by intro e;injection e with e1 e2;omega)
 refine var3 (by simpa using h.lt) ?_ ?_ ?_ (by simpa using f0) (by simpa using f1) (by simpa using f2)
 ·rw [n02,n01];exact World.cell?_setCell_same _ _ _ h0
 ·rw [n12];exact World.cell?_setCell_same _ _ _ ((n10 _ _).trans h1)
 ·exact World.cell?_setCell_same _ _ _ ((n21 _ _).trans ((n20 _ _).trans h2))
def plB (z:Int):Bool:=decide (-1048576 ≤ z) && decide (z ≤ 1048576)
theorem place_pl (q:Pt):placeB q=(plB q.x && plB q.y):=by
 unfold placeB plB
 rw [Bool.eq_iff_iff]
 simp only [Bool.and_eq_true,decide_eq_true_eq]
 omega
/-- an input in memory -/
structure Pol (w:World) (ap al ai:Option Addr) (cp cl ci:Nat) (p l i:List Pt):Prop where
 pp:PtRow w ap p
 ll:PtRow w al l
 ii:PtRow w ai i
 capP:p.length ≤ cp
 capL:l.length ≤ cl
 capI:i.length ≤ ci
 nilP:ap=none → cp=0
 nilL:al=none → cl=0
 nilI:ai=none → ci=0
 lenP:p.length ≤ 10000
 lenL:l.length ≤ 10000
 lenI:i.length ≤ 10000
theorem Pol.below {w w':World} {ap al ai:Option Addr} {cp cl ci:Nat} {p l i:List Pt} (h:Pol w ap al ai cp cl ci p l i) (hb:Below w.heap.size w w'):Pol w' ap al ai cp cl ci p l i:=
 ⟨h.pp.below hb,h.ll.below hb,h.ii.below hb,h.capP,h.capL,h.capI,h.nilP,h.nilL,h.nilI,h.lenP,h.lenL,h.lenI⟩

set_option maxRecDepth 100000 in
theorem isPlace_l (z:Int) (w:World):Calls Tryz.prog 75 #[.int .i64 z] w (Gives (.bool (plB z)) w):=by
 have HR:Hid (plB z=(decide (-1048576 ≤ z) && decide (z ≤ 1048576))):=rfl
 generalize plB z=r at *
 go_enter Tryz.func75,Tryz.ntmps75
 by_cases h : -1048576 ≤ z
 ·have b0:(-1048576 ≤ z)=True:=eq_true h
  have b1:decide (-1048576 ≤ z)=true:=decide_eq_true h
  obtain rfl:r=decide (z ≤ 1048576):=by rw [HR.out,b1];rfl
  clear HR h
  go_wp2_with fail
  go_ret
  exact ⟨rfl,Below.refl _ _⟩
 ·have b0:(-1048576 ≤ z)=False:=eq_false h
  have b1:decide (-1048576 ≤ z)=false:=decide_eq_false h
  obtain rfl:r=false:=by rw [HR.out,b1];rfl
  clear HR h
  go_wp2_with fail
  go_ret
  exact ⟨rfl,Below.refl _ _⟩

set_option maxHeartbeats 8000000 in
set_option maxRecDepth 100000 in
theorem ptsV_l (p:List Pt) (ap:Option Addr) (cp:Nat) (w:World) (hP:PtRow w ap p) (hlen:p.length ≤ 10000):Calls Tryz.prog 43 #[.slice ap p.length cp] w (Gives (.bool (ptsV p)) w):=by
 have HP:=Lib.hid hP
 clear hP
 go_enter Tryz.func43,Tryz.ntmps43
 go_wp2_with fail
 go_loopw [7] (fun iv W=>∃ k:Nat,k ≤ p.length∧iv=.int .i64 k∧(∀ i,i < k → placeB (pget p i)=true)∧Below w.heap.size w W) (fun iv _=>p.length - (intOf iv).toNat)
 case atStart=>exact ⟨0,Nat.zero_le _,rfl,fun i hi=>absurd hi (Nat.not_lt_zero _),Below.refl _ _⟩
 case round=>
  obtain ⟨k,hk,rfl,hS,hB⟩:=hrel
  have HB:=Lib.hid hB
  have HS:=Lib.hid hS
  clear hB hS
  by_cases hlt:k < p.length
  ·have b2:((k:Int) < (p.length:Int))=True:=eq_true (by omega)
   have d2:(k < p.length)=True:=eq_true hlt
   have c2:((0:Int) ≤ (k:Int))=True:=eq_true (by omega)
   obtain ⟨g,o,rfl⟩:=HP.out.some (by omega)
   obtain ⟨s,hs⟩:∃ s,pget p k=s:=⟨_,rfl⟩
   obtain ⟨k0,k1⟩:=ptRow_at (HP.out.below HB.out) hlt hs
   have HX:=Lib.hid (fun W=>isPlace_l s.x W)
   have HY:=Lib.hid (fun W=>isPlace_l s.y W)
   have HPL:Hid (placeB (pget p k)=(plB s.x && plB s.y)):=by unfold Hid;rw [hs,place_pl]
   have HNo:Hid (placeB (pget p k)=false → ptsV p=false):=fun h=>by
    rw [Bool.eq_false_iff];intro h2
    rw [(ptsV_iff.1 h2).1 k hlt] at h;cases h
   clear hs
   generalize plB s.x=rx at *
   generalize plB s.y=ry at *
   go_wp2_with fail
   (with_reducible refine (HX.out _).mono ?_);rintro e w2 ⟨rfl,hb2⟩
   have HB2:=Lib.hid (bl_trans HB.out (bl_trans (bl_one wr (.cells #[.int .i64 s.x,.int .i64 s.y] 64)) hb2))
   have HV:=Lib.hid ((var2_new wr (.int .i64 s.x) (.int .i64 s.y) 64 wr.heap.size rfl).below hb2)
   obtain ⟨v0,v1⟩:=HV.out.two
   clear hb2 HX k0 k1
   cases rx
   ·have HZ:=Lib.hid (HNo.out (by rw [HPL.out];rfl))
    clear HNo
    go_wp2_with fail
    go_ret
    exact ⟨by rw [HZ.out];rfl,HB2.out⟩
   ·go_wp2_with fail
    (with_reducible refine (HY.out _).mono ?_);rintro e w3 ⟨rfl,hb3⟩
    have HB3:=Lib.hid (bl_trans HB2.out hb3)
    clear hb3 HB2 HY v0 v1 HV
    cases ry
    ·have HZ:=Lib.hid (HNo.out (by rw [HPL.out];rfl))
     clear HNo
     go_wp2_with fail
     go_ret
     exact ⟨by rw [HZ.out];rfl,HB3.out⟩
    ·obtain ⟨m1,m2,m3,m4⟩:=wnum (i:=k) (by omega)
     go_wp2_with fail
     clear m1 m2 m3 m4
     refine ⟨⟨k + 1,hlt,by rw [Int.natCast_add];rfl,fun i hi=>?_,HB3.out⟩,by simp [intOf];omega⟩
     rcases Nat.lt_or_eq_of_le (Nat.le_of_lt_succ hi) with h | rfl
     ·exact HS.out i h
     ·exact HPL.out
  ·obtain rfl:k=p.length:=by omega
   have b2:((p.length:Int) < (p.length:Int))=False:=eq_false (by omega)
   have HY:Hid (ptsV p=decide (p.length ≤ 200)):=by
    unfold Hid
    rw [Bool.eq_iff_iff,ptsV_iff,decide_eq_true_eq]
    exact ⟨fun h=>by have:=h.2;omega,fun h=>⟨HS.out,by omega⟩⟩
   go_wp2_with fail
   go_ret
   exact ⟨by rw [HY.out,show decide (p.length ≤ 200)=decide ((p.length:Int) ≤ 200) from decide_eq_decide.2 (by omega)];rfl,HB.out⟩
theorem sgInB_mm (n:Nat) (x y:Int):sgInB n ⟨x,y⟩=(!(decide (min x y < 0)) && !(decide ((n:Int) ≤ max x y))):=by
 unfold sgInB
 rw [Bool.eq_iff_iff]
 simp only [Bool.and_eq_true,Bool.not_eq_true',decide_eq_true_eq,decide_eq_false_iff_not]
 omega

set_option maxHeartbeats 8000000 in
set_option maxRecDepth 100000 in
theorem segsV_l (n:Nat) (l:List Pt) (al:Option Addr) (cl:Nat) (w:World) (hL:PtRow w al l) (hlen:l.length ≤ 10000):Calls Tryz.prog 44 #[.slice al l.length cl,.int .i64 (n:Int)] w (Gives (.bool (segsV n l)) w):=by
 have HL:=Lib.hid hL
 clear hL
 go_enter Tryz.func44,Tryz.ntmps44
 go_wp2_with fail
 go_loopw [9] (fun iv W=>∃ k:Nat,k ≤ l.length∧iv=.int .i64 k∧(∀ i,i < k → sgInB n (pget l i)=true)∧Below w.heap.size w W) (fun iv _=>l.length - (intOf iv).toNat)
 case atStart=>exact ⟨0,Nat.zero_le _,rfl,fun i hi=>absurd hi (Nat.not_lt_zero _),Below.refl _ _⟩
 case round=>
  obtain ⟨k,hk,rfl,hS,hB⟩:=hrel
  have HB:=Lib.hid hB
  have HS:=Lib.hid hS
  clear hB hS
  by_cases hlt:k < l.length
  ·have b2:((k:Int) < (l.length:Int))=True:=eq_true (by omega)
   have d2:(k < l.length)=True:=eq_true hlt
   have c2:((0:Int) ≤ (k:Int))=True:=eq_true (by omega)
   obtain ⟨g,o,rfl⟩:=HL.out.some (by omega)
   obtain ⟨⟨x,y⟩,hs⟩:∃ s,pget l k=s:=⟨_,rfl⟩
   obtain ⟨k0,k1⟩:=ptRow_at (HL.out.below HB.out) hlt hs
   dsimp only at k0 k1
   have HNo:Hid (sgInB n (pget l k)=false → segsV n l=false):=fun h=>by
    rw [Bool.eq_false_iff];intro h2
    rw [(segsV_iff.1 h2).1 k hlt] at h;cases h
   have HIN:Hid (sgInB n (pget l k)=(!(decide (min x y < 0)) && !(decide ((n:Int) ≤ max x y)))):=by unfold Hid;rw [hs,sgInB_mm]
   have HB2:=Lib.hid (bl_trans HB.out (bl_one wr (.cells #[.int .i64 x,.int .i64 y] 59)))
   clear hs
   obtain ⟨mn,hmn⟩:∃ m,min x y=m:=⟨_,rfl⟩
   obtain ⟨mx,hmx⟩:∃ m,max x y=m:=⟨_,rfl⟩
   rw [hmn,hmx] at HIN
   by_cases h1:mn < 0
   ·have e1:(mn < 0)=True:=eq_true h1
    have HZ:=Lib.hid (HNo.out (by rw [HIN.out,decide_eq_true h1];rfl))
    clear HNo h1
    go_wp2_with fail
    go_ret
    exact ⟨by rw [HZ.out];rfl,HB2.out⟩
   ·have e1:(mn < 0)=False:=eq_false h1
    by_cases h2:(n:Int) ≤ mx
    ·have e2:((n:Int) ≤ mx)=True:=eq_true h2
     have HZ:=Lib.hid (HNo.out (by rw [HIN.out,decide_eq_true h2];simp))
     clear HNo h1 h2
     go_wp2_with fail
     go_ret
     exact ⟨by rw [HZ.out];rfl,HB2.out⟩
    ·have e2:((n:Int) ≤ mx)=False:=eq_false h2
     have HZ:Hid (sgInB n (pget l k)=true):=by unfold Hid;rw [HIN.out,decide_eq_false h1,decide_eq_false h2];rfl
     clear HNo h1 h2
     obtain ⟨m1,m2,m3,m4⟩:=wnum (i:=k) (by omega)
     go_wp2_with fail
     clear m1 m2 m3 m4
     refine ⟨⟨k + 1,hlt,by rw [Int.natCast_add];rfl,fun i hi=>?_,HB2.out⟩,by simp [intOf];omega⟩
     rcases Nat.lt_or_eq_of_le (Nat.le_of_lt_succ hi) with h | rfl
     ·exact HS.out i h
     ·exact HZ.out
  ·obtain rfl:k=l.length:=by omega
   have b2:((l.length:Int) < (l.length:Int))=False:=eq_false (by omega)
   have HY:Hid (segsV n l=decide (l.length ≤ 400)):=by
    unfold Hid
    rw [Bool.eq_iff_iff,segsV_iff,decide_eq_true_eq]
    exact ⟨fun h=>by have:=h.2;omega,fun h=>⟨HS.out,by omega⟩⟩
   go_wp2_with fail
   go_ret
   exact ⟨by rw [HY.out,show decide (l.length ≤ 400)=decide ((l.length:Int) ≤ 400) from decide_eq_decide.2 (by omega)];rfl,HB.out⟩

set_option maxHeartbeats 8000000 in
set_option maxRecDepth 100000 in
theorem check10_l (p l i:List Pt) (ap al ai:Option Addr) (cp cl ci:Nat) (w:World) (hA:Pol w ap al ai cp cl ci p l i) :
 Calls Tryz.prog 17 #[.agg #[.slice ap p.length cp,.slice al l.length cl,.slice ai i.length ci]] w (Gives (.int .i64 (firstE p l i)) w):=by
 have HP:=Lib.hid (fun W h=>ptsV_l p ap cp W (hA.pp.below h) hA.lenP)
 have HL:=Lib.hid (fun W h=>segsV_l p.length l al cl W (hA.ll.below h) hA.lenL)
 have HI:=Lib.hid (fun W h=>segsV_l p.length i ai ci W (hA.ii.below h) hA.lenI)
 have HE:Hid (firstE p l i=if (ptsV p && segsV p.length l && segsV p.length i)=true then 0 else 2):=rfl
 clear hA
 generalize ptsV p=r1 at *
 generalize segsV p.length l=r2 at *
 generalize segsV p.length i=r3 at *
 go_enter Tryz.func17,Tryz.ntmps17
 go_upto_region 1 with (fail)
 have HV:=Lib.hid (var3_new w (.slice ap p.length cp) (.slice al l.length cl) (.slice ai i.length ci) 25 w.heap.size rfl)
 have HB:=Lib.hid (bl_one w (.cells #[.slice ap p.length cp,.slice al l.length cl,.slice ai i.length ci] 25))
 generalize w.alloc (.cells #[.slice ap p.length cp,.slice al l.length cl,.slice ai i.length ci] 25)=W1 at *
 obtain ⟨k0,k1,k2⟩:=HV.out.three
 go_wp2_with fail
 (with_reducible refine (HP.out _ HB.out).mono ?_);rintro e w2 ⟨rfl,hb2⟩
 replace HB:=Lib.hid (bl_trans HB.out hb2)
 replace HV:=Lib.hid (HV.out.below hb2)
 clear hb2 HP k0 k1 k2
 obtain ⟨k0,k1,k2⟩:=HV.out.three
 cases r1
 ·go_wp2_with fail
  go_ret
  exact ⟨by rw [HE.out];rfl,HB.out⟩
 ·go_wp2_with fail
  (with_reducible refine (HL.out _ HB.out).mono ?_);rintro e w3 ⟨rfl,hb2⟩
  replace HB:=Lib.hid (bl_trans HB.out hb2)
  replace HV:=Lib.hid (HV.out.below hb2)
  clear hb2 HL k0 k1 k2
  obtain ⟨k0,k1,k2⟩:=HV.out.three
  cases r2
  ·go_wp2_with fail
   go_ret
   exact ⟨by rw [HE.out];rfl,HB.out⟩
  ·go_wp2_with fail
   (with_reducible refine (HI.out _ HB.out).mono ?_);rintro e w4 ⟨rfl,hb2⟩
   replace HB:=Lib.hid (bl_trans HB.out hb2)
   clear hb2 HI k0 k1 k2 HV
   cases r3
   ·go_wp2_with fail
    go_ret
    exact ⟨by rw [HE.out];rfl,HB.out⟩
   ·go_wp2_with fail
    go_ret
    exact ⟨by rw [HE.out];rfl,HB.out⟩
end Go.Proofs.YtpjaefcmaiimlaaGreat

/-
  Layer 10: the segments of an input, in new memory: slices.Grow, slices.Concat, valid.segs.
-/
namespace Go.Proofs.YtpjaefcmaiimlaaGreat
open Go.RowKit

theorem info_eseg10:(Tryz.prog.info? 59).map (fun i=>(i.zero,i.size,i.bytes))=some (some (.agg #[.int .i64 0,.int .i64 0]),2,16):=by kernel_rfl
theorem heap_new10 (w:World) (o:Obj):(w.alloc o).drew.heap[w.heap.size]?=some o:=by
 show (w.heap.push o)[w.heap.size]?=some o
 simp
theorem ownsRow_empty {w:World} {base g cap:Nat} {e:TypeId} {size:Nat} {cur:Array Value} (hb:base ≤ g) (hg:w.heap[g]?=some (.cells cur e (0,0))) (hc:cap ≤ maxLen) (hs:cur.size=cap * size):w.ownsRow base e size (.slice (some ⟨g,0,none⟩) 0 cap) 0 []:=
 ⟨by simp,.inr ⟨g,cap,cur,rfl,hb,hg,Nat.zero_le _,hc,hs,by simp⟩⟩

set_option maxHeartbeats 4000000 in
set_option maxRecDepth 100000 in
theorem grow10_l (n:Nat) (hn:n ≤ 20000) (w:World):Calls Tryz.prog 91 #[.slice none 0 0,.int .i64 (n:Int)] w fun e W=>∃ v,e=.returned v∧Op 59 w v [] W:=by
 go_enter Tryz.func91,Tryz.ntmps91
 have b0:((n:Int) < 0)=False:=eq_false (by omega)
 by_cases h0:n=0
 ·subst h0
  go_wp2_with fail
  go_ret
  exact ⟨.slice none 0 0,rfl,op_nil _ _⟩
 ·have b1:((n:Int) > 0)=True:=eq_true (by omega)
  have b2:((0:Int) < (n:Int))=True:=eq_true (by omega)
  obtain ⟨m1,m2,-,-⟩:=wnum (i:=n) (by omega)
  obtain ⟨i0,hi0,hz0,hz1,hz2⟩:=info_parts info_eseg10
  have hr:=Lib.hid (fun (W:World) ty=>Lib.run_append_nil_zeros (P:=Tryz.prog) W 23 3 ty 59 i0 (.agg #[.int .i64 0,.int .i64 0]) .i64 .i64 Tryz.underlying23 Tryz.underlying3 hi0 hz0 n (by omega) (by rw [hz1];omega) (by omega) (by rw [hz2];omega))
  go_wp2_with (at_builtin;refine Lib.wpList_append_run _ rfl _ _ _ _ rfl _ _ rfl rfl _ _ (hr.out _ _) ?_)
  go_ret
  refine ⟨_,rfl,?_⟩
  have hge:=grownCap_ge w n 0 59
  have hle:=grownCap_le_maxLen w n 0 59 (by unfold maxLen;omega)
  exact ⟨ownsRow_empty (Nat.le_refl _) (heap_new10 _ _) hle (by rw [Array.size_append,size_zeroCells,size_zeroCells,← Nat.add_mul,Nat.add_sub_cancel' hge];rfl),(bl_one _ _).drew,by simp⟩

/-! ### slices.Concat of two rows -/
def TwoRows (W:World) (g:Nat) (al ai:Option Addr) (n m cl ci:Nat):Prop:=W.cell? ⟨g,0,none⟩=some (.slice al n cl)∧W.cell? ⟨g,1,none⟩=some (.slice ai m ci)

set_option maxHeartbeats 8000000 in
set_option maxRecDepth 100000 in
theorem concat10_l (l i:List Pt) (al ai:Option Addr) (cl ci g c:Nat) (w:World) (hL:PtRow w al l) (hI:PtRow w ai i) (nl:al=none → cl=0) (ni:ai=none → ci=0) (h1:l.length ≤ 10000) (h2:i.length ≤ 10000)
 (hT:TwoRows w g al ai l.length i.length cl ci) :
 Calls Tryz.prog 63 #[.slice (some ⟨g,0,none⟩) 2 c] w fun e W=>∃ v,e=.returned v∧Op 59 w v (l ++ i) W:=by
 have HL:=Lib.hid hL
 have HI:=Lib.hid hI
 have HNL:=Lib.hid nl
 have HNI:=Lib.hid ni
 obtain ⟨k0,k1⟩:=hT
 clear hL hI nl ni
 obtain ⟨n,hn⟩:∃ n,l.length=n:=⟨_,rfl⟩
 obtain ⟨m,hm⟩:∃ m,i.length=m:=⟨_,rfl⟩
 have HN:=Lib.hid hn
 have HM:=Lib.hid hm
 rw [hn] at k0 h1
 rw [hm] at k1 h2
 clear hn hm
 have KW0:=Lib.hid k0
 have KW1:=Lib.hid k1
 obtain ⟨s,hs⟩:∃ s:Nat,s=n + m:=⟨_,rfl⟩
 have w1:IntKind.i64.wrap (n:Int)=(n:Int):=IntWalk.i64_in _ (by omega)
 have w1':wrap64 (n:Int)=(n:Int):=by unfold wrap64;omega
 have w2:IntKind.i64.wrap ((n:Int) + (m:Int))=(s:Int):=by rw [hs,Int.natCast_add];exact IntWalk.i64_in _ (by omega)
 have w2':wrap64 ((n:Int) + (m:Int))=(s:Int):=by rw [hs,Int.natCast_add];unfold wrap64;omega
 have hsl:s ≤ 20000:=by omega
 have HS:=Lib.hid hs
 have c1:((n:Int) < 0)=False:=eq_false (by omega)
 have c2:((s:Int) < 0)=False:=eq_false (by omega)
 clear hs
 have HG:=Lib.hid (fun W=>grow10_l s hsl W)
 go_enter Tryz.func63,Tryz.ntmps63
 go_wp2_with fail
 refine wp_loop_rounds 3 ?_
 rw [rounds_succ]
 go_wp2_with fail
 rw [rounds_succ]
 go_wp2_with fail
 rw [rounds_succ]
 go_wp2_with fail
 (with_reducible refine (HG.out _).mono ?_);rintro e w2 ⟨v,rfl,hO⟩
 have HO:=Lib.hid hO
 clear k0 k1
 have k0:=(hO.hb.cell (cell_lt KW0.out)).trans KW0.out
 have k1:=(hO.hb.cell (cell_lt KW1.out)).trans KW1.out
 clear hO HG
 go_wp2_with fail
 refine wp_loop_rounds 3 ?_
 rw [rounds_succ]
 have HLn:Hid (n=l.length):=HN.out.symm
 have HIn:Hid (m=i.length):=HM.out.symm
 go_wp2_with (at_builtin;refine app_pts rfl Tryz.underlying23 info_eseg10 _ _ rfl rfl HO.out rfl (L:=l) HLn.out (HL.out.below HO.out.hb) HNL.out ?x1 ?_)
 case x1=>have:=HN.out;show 0 + l.length ≤ 1000000;omega
 intro v1 w3 hO1
 have HO1:=Lib.hid hO1
 clear k0 k1
 have k1:=(hO1.hb.cell (cell_lt KW1.out)).trans KW1.out
 clear hO1 HO
 go_wp2_with fail
 rw [rounds_succ]
 go_wp2_with (at_builtin;refine app_pts rfl Tryz.underlying23 info_eseg10 _ _ rfl rfl HO1.out rfl (L:=i) HIn.out (HI.out.below HO1.out.hb) HNI.out ?x2 ?_)
 case x2=>have:=HN.out;have:=HM.out;show (l.length) + i.length ≤ 1000000;omega
 intro v2 w4 hO2
 have HO2:=Lib.hid hO2
 clear hO2 HO1 k1
 go_wp2_with fail
 rw [rounds_succ]
 go_wp2_with fail
 go_ret
 exact ⟨v2,rfl,HO2.out⟩

set_option maxHeartbeats 4000000 in
set_option maxRecDepth 100000 in
theorem vsegs_l (p l i S:List Pt) (hS:l ++ i=S) (ap al ai:Option Addr) (cp cl ci:Nat) (w:World) (hA:Pol w ap al ai cp cl ci p l i) :
 Calls Tryz.prog 35 #[.agg #[.slice ap p.length cp,.slice al l.length cl,.slice ai i.length ci]] w fun e W=>∃ ad cap,e=.returned (.slice ad S.length cap)∧S.length ≤ cap∧PtRow W ad S∧(ad=none → cap=0)∧Below w.heap.size w W:=by
 have HA:=Lib.hid hA
 have HC:=Lib.hid (fun g c W (h:Below w.heap.size w W) (hT:TwoRows W g al ai l.length i.length cl ci)=>concat10_l l i al ai cl ci g c W (hA.ll.below h) (hA.ii.below h) hA.nilL hA.nilI hA.lenL hA.lenI hT)
 have HS:=Lib.hid hS
 clear hA hS
 go_enter Tryz.func35,Tryz.ntmps35
 go_upto_region 1 with (fail)
 have HV:=Lib.hid (var3_new w (.slice ap p.length cp) (.slice al l.length cl) (.slice ai i.length ci) 25 w.heap.size rfl)
 have HB:=Lib.hid (bl_one w (.cells #[.slice ap p.length cp,.slice al l.length cl,.slice ai i.length ci] 25))
 generalize w.alloc (.cells #[.slice ap p.length cp,.slice al l.length cl,.slice ai i.length ci] 25)=W1 at *
 obtain ⟨k0,k1,k2⟩:=HV.out.three
 go_wp2_with fail
 (with_reducible refine (HC.out _ _ _ (bl_trans HB.out (bl_one _ _)) ?hT).mono ?_)
 case hT=>exact ⟨by simp [go_sem],by simp [go_sem]⟩
 rintro e w2 ⟨v,rfl,hO⟩
 rw [HS.out] at hO
 obtain ⟨ad,cap,ev,hcap,hrow,hnil⟩:=hO.slice
 subst ev
 have HBz:=Lib.hid (bl_trans HB.out (bl_trans (bl_one W1 (.cells #[.slice al l.length cl,.slice ai i.length ci] 23)) hO.hb))
 have HR:=Lib.hid hrow
 have HCa:=Lib.hid hcap
 have HNi:=Lib.hid hnil
 clear hO hrow hcap hnil k0 k1 k2
 go_wp2_with fail
 go_ret
 exact ⟨ad,cap,rfl,HCa.out,HR.out,HNi.out,HBz.out⟩
end Go.Proofs.YtpjaefcmaiimlaaGreat

/-
  Layer 10: a row of segments of two places, the call's own.
-/
namespace Go.Proofs.YtpjaefcmaiimlaaGreat
open Go.RowKit

def segVals (l:List Sg):List Value:=l.flatMap sgVals
theorem segVals_len (l:List Sg):(segVals l).length=l.length * 4:=by
 induction l with
 | nil=>rfl
 | cons s l ih=>unfold segVals at *;rw [List.flatMap_cons,List.length_append,ih];simp [sgVals];omega
theorem segVals_get:∀ (l:List Sg) (i:Nat),i < l.length → (segVals l)[i * 4]?=some (.int .i64 (sget l i).a.x)∧(segVals l)[i * 4 + 1]?=some (.int .i64 (sget l i).a.y)∧(segVals l)[i * 4 + 2]?=some (.int .i64 (sget l i).b.x)∧(segVals l)[i * 4 + 3]?=some (.int .i64 (sget l i).b.y)
 | p :: l,0,_=>⟨rfl,rfl,rfl,rfl⟩
 | p :: l,i + 1,h=>by
  have:=segVals_get l i (by simpa using h)
  rw [show (i + 1) * 4=i * 4 + 1 + 1 + 1 + 1 by omega]
  exact this
theorem segVals_one (l:List Sg):∀ u ∈ segVals l,u.oneCell'=true:=by
 intro u hu
 obtain ⟨s,-,hs⟩:=List.mem_flatMap.1 hu
 simp [sgVals] at hs
 rcases hs with rfl | rfl | rfl | rfl <;> rfl
theorem segVals_at {W:World} {g o:Nat} {l:List Sg} (h:SgsAt W g o l):∀ j u,(segVals l)[j]?=some u → W.cell? ((⟨g,o,none⟩:Addr).add j)=some u:=by
 intro j u hj
 have hlt:j < (segVals l).length:=(List.getElem?_eq_some_iff.1 hj).1
 rw [segVals_len] at hlt
 have e:(⟨g,o,none⟩:Addr).add j=⟨g,o + j,none⟩:=by unfold Addr.add;split <;> simp_all
 rw [e]
 obtain ⟨i,r,hr,rfl⟩:∃ i r,r < 4∧j=i * 4 + r:=⟨j / 4,j % 4,by omega,by omega⟩
 obtain ⟨h0,h1,h2,h3⟩:=h i (by omega)
 obtain ⟨g0,g1,g2,g3⟩:=segVals_get l i (by omega)
 match r,hr with
 | 0,_=>rw [Nat.add_zero] at *;rw [g0] at hj;rw [h0];exact hj
 | 1,_=>rw [g1] at hj;rw [← Nat.add_assoc,h1];exact hj
 | 2,_=>rw [g2] at hj;rw [← Nat.add_assoc,h2];exact hj
 | 3,_=>rw [g3] at hj;rw [← Nat.add_assoc,h3];exact hj
theorem sgs_owns {W:World} {base g cap:Nat} {e:TypeId} {l:List Sg} (h:W.ownsRow base e 4 (.slice (some ⟨g,0,none⟩) l.length cap) l.length (segVals l)):SgsAt W g 0 l:=by
 intro i hi
 have add:∀ j,(⟨g,0,none⟩:Addr).add j=⟨g,j,none⟩:=fun j=>by unfold Addr.add;split <;> simp_all
 have c:=h.cells (g:=g) rfl
 obtain ⟨p0,p1,p2,p3⟩:=segVals_get l i hi
 have c0:=c _ _ p0
 have c1:=c _ _ p1
 have c2:=c _ _ p2
 have c3:=c _ _ p3
 rw [add] at c0 c1 c2 c3
 rw [Nat.zero_add]
 exact ⟨c0,c1,c2,c3⟩
theorem info_seg:(Tryz.prog.info? 75).map (fun i=>(i.zero,i.size,i.bytes))=some (some (.agg #[.int .i64 0,.int .i64 0,.int .i64 0,.int .i64 0]),4,32):=by kernel_rfl
structure Og (W0:World) (v:Value) (l:List Sg) (W:World):Prop where
 own:W.ownsRow W0.heap.size 75 4 v l.length (segVals l)
 hb:Below W0.heap.size W0 W
 sz:W0.heap.size ≤ W.heap.size
theorem og_nil (w:World):Og w (.slice none 0 0) [] w:=⟨World.ownsRow_nil _ _ _ _,Below.refl _ _,Nat.le_refl _⟩
theorem Og.alloc {W0 W:World} {v:Value} {l:List Sg} (h:Og W0 v l W) (o:Obj):Og W0 v l (W.alloc o):=
 ⟨h.own.alloc o,h.hb.alloc h.sz o,by simp;have:=h.sz;omega⟩
theorem Og.drew {W0 W:World} {v:Value} {l:List Sg} (h:Og W0 v l W):Og W0 v l W.drew:=⟨h.own,h.hb.drew,h.sz⟩
theorem Og.more {W0 W W':World} {v v':Value} {l m:List Sg} {n:Nat} (h:Og W0 v l W) (hn:n=(l ++ m).length) (ho:W'.ownsRow W0.heap.size 75 4 v' n (segVals l ++ segVals m)) (hg:W.grownBy W' v.ownBlock):Og W0 v' (l ++ m) W':=
 ⟨by subst hn;unfold segVals at *;rw [List.flatMap_append];exact ho,h.hb.grown hg h.sz (fun k e=>(h.own.lt k e).1),Nat.le_trans h.sz hg.size⟩
theorem Og.below {W0 W W':World} {v:Value} {l:List Sg} (h:Og W0 v l W) (hb:Below W.heap.size W W'):Og W0 v l W':=by
 refine ⟨⟨h.own.1,?_⟩,h.hb.trans (hb.mono h.sz),Nat.le_trans h.sz hb.size⟩
 rcases h.own.2 with h | ⟨g,cap,cur,rfl,hb0,hc,rest⟩
 ·exact .inl h
 ·exact .inr ⟨g,cap,cur,rfl,hb0,(hb.block g (Array.getElem?_eq_some_iff.1 hc).1).trans hc,rest⟩
theorem Og.slice {W0 W:World} {v:Value} {l:List Sg} (h:Og W0 v l W) (h0:0 < l.length):∃ g cap,v=.slice (some ⟨g,0,none⟩) l.length cap∧SgsAt W g 0 l:=by
 have ho:=h.own
 rcases ho.2 with ⟨rfl,hn⟩ | ⟨g,cap,cur,rfl,-,-,hcap,-⟩
 ·omega
 ·exact ⟨g,cap,rfl,sgs_owns ho⟩
theorem Og.nil {W0 W:World} {v:Value} {l:List Sg} (h:Og W0 v l W) (h0:l.length=0):∃ ad cap,v=.slice ad 0 cap:=by
 rcases h.own.2 with ⟨rfl,hn⟩ | ⟨g,cap,cur,rfl,-,-,hcap,-⟩
 ·exact ⟨_,_,rfl⟩
 ·exact ⟨_,cap,by rw [h0]⟩
theorem Var.grown10 {W W':World} {g:Nat} {vs:List Value} {X:Option Nat} (h:Var W g vs) (hg:W.grownBy W' X) (hX:∀ k,X=some k → k ≠ g):Var W' g vs:=by
 have hb:=hg.block g h.lt (fun e=>hX g e.symm rfl)
 exact ⟨Nat.lt_of_lt_of_le h.lt hg.size,fun i hi=>(World.cell?_of_block (a:=⟨g,i,none⟩) hb).trans (h.cells i hi),fun i hi=>(World.frozen?_of_block (a:=⟨g,i,none⟩) hb).trans (h.free i hi)⟩
/-- append of one segment that has just been made -/
theorem app_sg_wp {o:Oper} {a:Act} {K:Act → World → Prop} {Q:Exit → Act → World → Prop} {w W:World} {D:List Sg} {q:Sg} {v:Value} {g:Nat} (s x:Operand)
 (ho:o.op=.call { callee:=.builtin .append,args:=#[s,x],argTypes:=#[74,74] }) (hs:a.eval s=v) (hO:Og w v D W) (hx:a.eval x=.slice (some ⟨g,0,none⟩) 1 1) (hL:SgsAt W g 0 [q])
 (hlen:D.length ≤ 1000000) (h:∀ v' W',Og w v' (D ++ [q]) W' → W.grownBy W' v.ownBlock → K (a.put o.dst v') W'):o.wp Tryz.prog a W K Q:=by
 obtain ⟨e0,hi0,hz0,hz1,hz2⟩:=info_parts info_seg
 refine wp_append_own W s x 74 ho w.heap.size 75 e0 (.agg #[.int .i64 0,.int .i64 0,.int .i64 0,.int .i64 0]) 4 32 Tryz.underlying74 hi0 hz0 hz1 hz2 rfl (by decide) v _ _ hs hO.own _ 1 1 (segVals [q]) hx (segVals_len _) (segVals_at hL) (segVals_one _) (by unfold maxLen;omega) (by omega) hO.sz fun v' W' ho hg _=>h v' W' ?_ hg
 exact hO.more (by simp) ho hg
theorem sg_new (W:World) (q:Sg) (t:TypeId):SgsAt (W.alloc (.cells #[.int .i64 q.a.x,.int .i64 q.a.y,.int .i64 q.b.x,.int .i64 q.b.y] t)) W.heap.size 0 [q]:=by
 intro i hi
 obtain rfl:i=0:=by simp at hi;omega
 show _∧_∧_∧_
 exact ⟨by simp [sget,go_sem],by simp [sget,go_sem],by simp [sget,go_sem],by simp [sget,go_sem]⟩
end Go.Proofs.YtpjaefcmaiimlaaGreat

/-
  Layer 10: inputs whose three rows are the call's own.
-/
namespace Go.Proofs.YtpjaefcmaiimlaaGreat
open Go.RowKit

theorem owns_grown10 {B:Nat} {e:TypeId} {n k:Nat} {v:Value} {vs:List Value} {W W':World} {X:Option Nat} (h:W.ownsRow B e n v k vs) (hg:W.grownBy W' X) (hs:∀ g,X=some g → v.ownBlock ≠ some g):W'.ownsRow B e n v k vs:=by
 refine h.kept hg ?_
 rcases hv:v.ownBlock with _ | g
 ·exact .inl rfl
 ·exact .inr fun e=>hs g e.symm hv
theorem Op.other10 {T:TypeId} {w W W':World} {v:Value} {L:List Pt} {X:Option Nat} (h:Op T w v L W) (hg:W.grownBy W' X) (hs:∀ g,X=some g → v.ownBlock ≠ some g) (hX:∀ k,X=some k → w.heap.size ≤ k):Op T w v L W':=
 ⟨owns_grown10 h.own hg hs,h.hb.grown hg h.sz hX,Nat.le_trans h.sz hg.size⟩
theorem grownBy_set10 (W:World) (g j:Nat) (u:Value):W.grownBy (W.setCell ⟨g,j,none⟩ u) (some g):=
 ⟨rfl,rfl,rfl,by simp,fun k hk hne=>by
  have h:g ≠ k:=fun e=>hne (by rw [e])
  unfold World.setCell
  simp only
  split
  ·simp_all
  ·rw [Array.getElem?_modify,if_neg h]⟩
theorem Op.set10 {T:TypeId} {w W:World} {v:Value} {L:List Pt} {g:Nat} (h:Op T w v L W) (hs:v.ownBlock ≠ some g) (hX:w.heap.size ≤ g) (j:Nat) (u:Value):Op T w v L (W.setCell ⟨g,j,none⟩ u):=
 h.other10 (grownBy_set10 W g j u) (fun g' e=>by cases e;exact hs) (fun k e=>by cases e;exact hX)
theorem op_new10 (T:TypeId) (W:World) (L:List Pt) (cs:Array Value) (hc:cs.toList=pv L) (hl:L.length ≤ 1000):Op T W (.slice (some ⟨W.heap.size,0,none⟩) L.length L.length) L (W.alloc (.cells cs T)):=by
 have hs:cs.size=L.length * 2:=by rw [← Array.length_toList,hc,pv_len]
 refine ⟨⟨pv_len L,.inr ⟨W.heap.size,L.length,cs,rfl,Nat.le_refl _,heap_alloc_new W _,Nat.le_refl _,by unfold maxLen;omega,hs,?_⟩⟩,bl_one _ _,by simp⟩
 rw [← hc,List.take_of_length_le (by rw [Array.length_toList,hs];omega)]

/-- append to a row of the call's own, whatever is appended: where it lies then -/
theorem app_pts10 {ops:Array Oper} {rest:List Oper} {o:Oper} {a:Act} {Q:Exit → Act → World → Prop} {T TS:TypeId} {w W:World} {D L:List Pt} {v:Value} {m c:Nat} {ao:Option Addr} (hgd:o.guard=none) (hu:Tryz.prog.underlying TS=some (.slice T)) (hi:(Tryz.prog.info? T).map (fun i=>(i.zero,i.size,i.bytes))=some (some (.agg #[.int .i64 0,.int .i64 0]),2,16)) (s x:Operand)
 (ho:o.op=.call { callee:=.builtin .append,args:=#[s,x],argTypes:=#[TS,TS] }) (hs:a.eval s=v) (hO:Op T w v D W) (hx:a.eval x=.slice ao m c) (hm:m=L.length) (hL:PtRow W ao L) (hn:ao=none → c=0)
 (hlen:D.length + L.length ≤ 1000000) (h:∀ v' W',Op T w v' (D ++ L) W' → W.grownBy W' v.ownBlock → (v'.ownBlock=v.ownBlock ∨ v'.ownBlock=some W.heap.size) → wpList Tryz.prog ops Q rest (a.put o.dst v') W'):wpList Tryz.prog ops Q (o :: rest) a W:=by
 obtain ⟨e0,hi0,hz0,hz1,hz2⟩:=info_parts hi
 subst hm
 cases ao with
 | some ad=>
  rcases L with _ | ⟨y,ys⟩
  ·refine wpList_append_own_at W hgd s x TS ho w.heap.size T e0 (.agg #[.int .i64 0,.int .i64 0]) 2 16 hu hi0 hz0 hz1 hz2 rfl (by decide) v _ _ hs hO.own ad 0 c [] hx rfl (fun j u h=>by simp at h) (fun u h=>by simp at h) (by unfold maxLen;omega) (by omega) hO.sz fun v' W' ho hg _ hloc=>h v' W' ?_ hg hloc
   exact hO.more (by simp) ho hg
  ·obtain ⟨g,o',e⟩:=hL.some (Nat.succ_pos _)
   cases e
   refine wpList_append_own_at W hgd s x TS ho w.heap.size T e0 (.agg #[.int .i64 0,.int .i64 0]) 2 16 hu hi0 hz0 hz1 hz2 rfl (by decide) v _ _ hs hO.own _ _ c (pv (y :: ys)) hx (pv_len _) (pv_cells hL) (pv_one _) (by unfold maxLen;omega) (by omega) hO.sz fun v' W' ho hg _ hloc=>h v' W' ?_ hg hloc
   exact hO.more (by simp) ho hg
 | none=>
  obtain rfl:=hn rfl
  rcases L with _ | ⟨y,ys⟩
  ·refine wpList_plain hgd fun _ hK=>?_
   have hrun:=run_append_owned_none (P:=Tryz.prog) (w:=W) w.heap.size TS o.type T e0 2 hu hi0 v _ _ hO.own
   have h':=hK _ _ (h v W (by rw [List.append_nil];exact hO) (World.grownBy.refl _ _) (.inl rfl))
   unfold Oper.wp
   simp only [List.length_nil] at hx
   simp [execOp,ho,resolve,invoke,builtin,hs,hx,hrun,Result.andThen]
   exact h'
  ·obtain ⟨g,o',e⟩:=hL.some (Nat.succ_pos _)
   cases e

def Apart10 (u v:Value):Prop:=∀ g,u.ownBlock=some g → v.ownBlock ≠ some g
theorem Apart10.symm {u v:Value} (h:Apart10 u v):Apart10 v u:=fun g e k=>h g k e
/-- an input whose rows are the call's own, each in a block of its own -/
structure Own3 (W0:World) (u v x:Value) (p l i:List Pt) (W:World):Prop where
 o0:Op 64 W0 u p W
 o1:Op 59 W0 v l W
 o2:Op 59 W0 x i W
 d01:Apart10 u v
 d02:Apart10 u x
 d12:Apart10 v x
theorem Own3.below {W0 W W':World} {u v x:Value} {p l i:List Pt} (h:Own3 W0 u v x p l i W) (hb:Below W.heap.size W W'):Own3 W0 u v x p l i W':=⟨h.o0.below hb,h.o1.below hb,h.o2.below hb,h.d01,h.d02,h.d12⟩
theorem Own3.base {W0 W1 W:World} {u v x:Value} {p l i:List Pt} (h:Own3 W1 u v x p l i W) (hb:Below W0.heap.size W0 W1):Own3 W0 u v x p l i W:=⟨h.o0.base hb,h.o1.base hb,h.o2.base hb,h.d01,h.d02,h.d12⟩
theorem Own3.hb {W0 W:World} {u v x:Value} {p l i:List Pt} (h:Own3 W0 u v x p l i W):Below W0.heap.size W0 W:=h.o0.hb
/-- read as an input -/
theorem Own3.pol {W0 W:World} {u v x:Value} {p l i:List Pt} (h:Own3 W0 u v x p l i W) (hp:p.length ≤ 10000) (hl:l.length ≤ 10000) (hi:i.length ≤ 10000) :
 ∃ ap al ai cp cl ci,u=.slice ap p.length cp∧v=.slice al l.length cl∧x=.slice ai i.length ci∧Pol W ap al ai cp cl ci p l i:=by
 obtain ⟨ap,cp,e0,c0,r0,n0⟩:=h.o0.slice
 obtain ⟨al,cl,e1,c1,r1,n1⟩:=h.o1.slice
 obtain ⟨ai,ci,e2,c2,r2,n2⟩:=h.o2.slice
 exact ⟨ap,al,ai,cp,cl,ci,e0,e1,e2,r0,r1,r2,c0,c1,c2,n0,n1,n2,hp,hl,hi⟩
/-- a variable that is no block of the rows is written -/
theorem Own3.set {W0 W:World} {u v x:Value} {p l i:List Pt} (h:Own3 W0 u v x p l i W) {g:Nat} (hg:W0.heap.size ≤ g) (h0:u.ownBlock ≠ some g) (h1:v.ownBlock ≠ some g) (h2:x.ownBlock ≠ some g) (j:Nat) (y:Value):Own3 W0 u v x p l i (W.setCell ⟨g,j,none⟩ y):=
 ⟨h.o0.set10 h0 hg j y,h.o1.set10 h1 hg j y,h.o2.set10 h2 hg j y,h.d01,h.d02,h.d12⟩
theorem Op.ne10 {T:TypeId} {W0 W:World} {v:Value} {L:List Pt} (h:Op T W0 v L W) {g:Nat} (hg:W.heap.size ≤ g):v.ownBlock ≠ some g:=fun e=>by have:=(h.own.lt g e).2;omega
end Go.Proofs.YtpjaefcmaiimlaaGreat

/-
  Layer 10: the law's own functions: square; the document's Copy, Check.
-/
namespace Go.Proofs.YtpjaefcmaiimlaaGreat
open Go.RowKit

theorem Var.setAt10 {W:World} {g:Nat} {vs:List Value} (h:Var W g vs) {k:Nat} (hk:k < vs.length) (u:Value):Var (W.setCell ⟨g,k,none⟩ u) g (vs.set k u):=by
 refine ⟨by simpa using h.lt,fun j hj=>?_,fun j hj=>?_⟩
 ·rw [List.length_set] at hj
  by_cases e:j=k
  ·subst e
   rw [World.cell?_setCell_same _ _ _ (h.cells j hk)]
   simp
  ·rw [World.cell?_setCell_other _ _ _ _ (by intro e';injection e' with e1 e2;omega),h.cells j hj,List.getElem_set_ne (by omega)]
 ·rw [List.length_set] at hj
  simpa using h.free j hj

end Go.Proofs.YtpjaefcmaiimlaaGreat
