/-
  Layer 10: the document's SameInts of equal rows.
-/
import Derived.Test.YtpjaefcmaiimlaaGreatVRefCA
set_option linter.unusedVariables false
set_option linter.unusedSimpArgs false
set_option linter.deprecated false
namespace Go.Proofs.YtpjaefcmaiimlaaGreat
open Go.RowKit

set_option maxHeartbeats 8000000 in
set_option maxRecDepth 100000 in
theorem sameInts10_l (l:List Int) (hl:l.length ≤ 10000) (a1 a2:Option Addr) (c1 c2:Nat) (w:World) (h1:IntRow w a1 l) (h2:IntRow w a2 l) :
 Calls Tryz.prog 13 #[.slice a1 l.length c1,.slice a2 l.length c2] w (Gives (.bool true) w):=by
 have H1:=Lib.hid h1
 have H2:=Lib.hid h2
 have HLn:=Lib.hid hl
 clear h1 h2 hl
 go_enter Tryz.func13,Tryz.ntmps13
 go_wp2_with fail
 go_loopw [5] (fun iv W=>∃ k:Nat,k ≤ l.length∧iv=.int .i64 k∧Below w.heap.size w W) (fun iv _=>l.length - (intOf iv).toNat)
 case atStart=>exact ⟨0,Nat.zero_le _,rfl,Below.refl _ _⟩
 case round=>
  obtain ⟨k,hk,rfl,hB⟩:=hrel
  have HB:=Lib.hid hB
  clear hB
  obtain ⟨W2,eW⟩:∃ W2,W2=wr:=⟨_,rfl⟩
  subst eW
  by_cases hlt:k < l.length
  ·have b2:((k:Int) < (l.length:Int))=True:=eq_true (by omega)
   have d1:(k < l.length)=True:=eq_true hlt
   have e2:((0:Int) ≤ (k:Int))=True:=eq_true (by omega)
   obtain ⟨g1,o1,rfl⟩:=H1.out.some (by omega)
   obtain ⟨g2,o2,rfl⟩:=H2.out.some (by omega)
   obtain ⟨x,hq⟩:∃ q,l[k]=q:=⟨_,rfl⟩
   have HQ:=Lib.hid hq
   have hln:=HLn.out
   clear hq
   go_upto_region 6 with (fail)
   refine wp_region_held_drew (S:=fun V=>Below W2.heap.size W2 V) (by kernel_rfl) ?_ (fun hHeld=>?_)
   ·exact bel_drew W2
   revert hHeld
   generalize World.drew _=W1
   intro hHeld 
   refine tk (i:=0) (v:=?_) rfl (Or.inl ⟨by rfl,?_⟩) ?_
   rotate_left;· rintro _ -;go_simp;all_goals (with_reducible rfl)
   try simp only [Act.put,x2,x4,x5,x6,x7]
   refine tk (i:=1) (v:=?_) rfl (Or.inl ⟨by rfl,?_⟩) ?_
   rotate_left;· rintro _ -;go_simp;all_goals (with_reducible rfl)
   try simp only [Act.put,x2,x3,x4,x5,x6,x7]
   refine tk (i:=2) (v:=?_) rfl (Or.inl ⟨by rfl,?_⟩) ?_
   rotate_left;· rintro _ -;go_simp;all_goals (with_reducible rfl)
   try simp only [Act.put,x2,x3,x4,x5,x6,x7]
   refine tk (i:=3) (v:=?_) rfl (Or.inl ⟨by rfl,?_⟩) ?_
   rotate_left
   ·intro Wq hSw
    have c0:=intRow_at (H1.out.below (bl_trans HB.out hSw)) hlt HQ.out
    clear hSw
    go_simp;all_goals (with_reducible rfl)
   try simp only [Act.put,x2,x3,x4,x5,x6,x7]
   refine tk (i:=4) (v:=?_) rfl (Or.inl ⟨by rfl,?_⟩) ?_
   rotate_left;· rintro _ -;go_simp;all_goals (with_reducible rfl)
   try simp only [Act.put,x2,x3,x4,x5,x6,x7]
   refine tk (i:=5) (v:=?_) rfl (Or.inl ⟨by rfl,?_⟩) ?_
   rotate_left;· rintro _ -;go_simp;all_goals (with_reducible rfl)
   try simp only [Act.put,x2,x3,x4,x5,x6,x7]
   refine tk (i:=6) (v:=?_) rfl (Or.inl ⟨by rfl,?_⟩) ?_
   rotate_left;· rintro _ -;go_simp;all_goals (with_reducible rfl)
   try simp only [Act.put,x2,x3,x4,x5,x6,x7]
   refine tk (i:=7) (v:=?_) rfl (Or.inl ⟨by rfl,?_⟩) ?_
   rotate_left
   ·intro Wq hSw
    have c0:=intRow_at (H2.out.below (bl_trans HB.out hSw)) hlt HQ.out
    clear hSw
    go_simp;all_goals (with_reducible rfl)
   try simp only [Act.put,x2,x3,x4,x5,x6,x7]
   refine tk (i:=8) (v:=?_) rfl (Or.inl ⟨by rfl,?_⟩) ?_
   rotate_left;· rintro _ -;go_simp;all_goals (with_reducible rfl)
   try simp only [Act.put,x2,x3,x4,x5,x6,x7]
   refine wpAnyH_done (by kernel_rfl) ?_ _
   replace HB:=Lib.hid (bl_trans HB.out hHeld)
   clear hHeld
   obtain ⟨m1,m2,m3,m4⟩:=wnum (i:=k) (by omega)
   go_wp2_with fail
   clear m1 m2 m3 m4
   exact ⟨⟨k + 1,hlt,by rw [Int.natCast_add];rfl,HB.out⟩,by simp [intOf];omega⟩
  ·obtain rfl:k=l.length:=by omega
   have b2:((l.length:Int) < (l.length:Int))=False:=eq_false (by omega)
   go_wp2_with fail
   go_ret
   exact ⟨rfl,HB.out⟩
end Go.Proofs.YtpjaefcmaiimlaaGreat
