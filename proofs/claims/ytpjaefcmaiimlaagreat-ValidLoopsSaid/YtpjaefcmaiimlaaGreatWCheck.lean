/-
  Contract of the document's Check.
-/
import Derived.Test.YtpjaefcmaiimlaaGreatWFar
import Derived.Test.YtpjaefcmaiimlaaGreatWMids0
set_option linter.unusedVariables false
set_option linter.unusedSimpArgs false
set_option linter.deprecated false
namespace Go.Proofs.YtpjaefcmaiimlaaGreat
open Go.RowKit

/-- may this segment be, made so much greater? -/
def chkB (k:Int) (p:List Pt) (s:Pt):Bool:=okSeg9 p s && (fitB (scaleP k (ptI p s.x)) && fitB (scaleP k (ptI p s.y)))
def checkL (k:Int) (p l:List Pt):Bool:=!(anyN (fun i=>!(chkB k p (pget l i))) l.length)
theorem check_iff {k:Int} {p l:List Pt}:checkL k p l=true ↔ ∀ i,i < l.length → chkB k p (pget l i)=true:=by
 unfold checkL
 rw [Bool.not_eq_true',anyN_no]
 simp
theorem check_is (k:Int) (p l:List Pt):checkL k p l=(properL p l && fitK k p l):=by
 have:checkL k p l=true ↔ (properL p l && fitK k p l)=true:=by
  rw [check_iff,Bool.and_eq_true,proper_iff,fitK_iff]
  constructor
  ·intro h
   refine ⟨fun i hi=>?_,fun i hi=>?_⟩
   ·have:=h i hi
    unfold chkB at this
    exact (Bool.and_eq_true_iff.1 this).1
   ·have:=h i hi
    unfold chkB at this
    exact Bool.and_eq_true_iff.1 (Bool.and_eq_true_iff.1 this).2
  ·rintro ⟨h1,h2⟩ i hi
   unfold chkB
   rw [h1 i hi]
   have:=h2 i hi
   unfold endsOf at this
   dsimp only at this
   rw [this.1,this.2];rfl
 cases h1:checkL k p l <;> cases h2:(properL p l && fitK k p l) <;> simp_all

set_option maxHeartbeats 8000000 in
set_option maxRecDepth 100000 in
theorem check_l (p l:List Pt) (ap al:Option Addr) (cp cl:Nat) (kk:Int) (hk0:0 ≤ kk) (hk3:kk ≤ 3) (w:World) (hP:PtRow w ap p) (hL:PtRow w al l) (hll:l.length ≤ 10000) :
 Calls Tryz.prog 74 #[.slice ap p.length cp,.slice al l.length cl,.int .i64 kk] w (Gives (.bool (checkL kk p l)) w):=by
 have HP:=Lib.hid hP
 have HL:=Lib.hid hL
 clear hP hL
 go_enter Tryz.func74,Tryz.ntmps74
 go_wp2_with fail
 go_loopw [7] (fun iv W=>∃ k:Nat,k ≤ l.length∧iv=.int .i64 k∧(∀ i,i < k → chkB kk p (pget l i)=true)∧Below w.heap.size w W) (fun iv _=>l.length - (intOf iv).toNat)
 case atStart=>exact ⟨0,Nat.zero_le _,rfl,fun i hi=>absurd hi (Nat.not_lt_zero _),Below.refl _ _⟩
 case round=>
  obtain ⟨k,hk,rfl,hS,hB⟩:=hrel
  have HB:=Lib.hid hB
  have HS:=Lib.hid hS
  clear hB hS
  by_cases hlt:k < l.length
  ·have b2:((k:Int) < (l.length:Int))=True:=eq_true (by omega)
   have d2:(k < l.length)=True:=eq_true hlt
   have c2:((0:Int) ≤ (k:Int))=True:=eq_true (by omega)
   obtain ⟨g,o,rfl⟩:=HL.out.some (by omega)
   obtain ⟨s,hs⟩:∃ s,pget l k=s:=⟨_,rfl⟩
   have HSK:=Lib.hid hs
   obtain ⟨k0,k1⟩:=ptRow_at (HL.out.below HB.out) hlt hs
   have HNo:Hid (chkB kk p s=false → checkL kk p l=false):=fun h=>by
    rw [Bool.eq_false_iff];intro h2
    have:=check_iff.1 h2 k hlt
    rw [hs,h] at this;cases this
   obtain ⟨x,hx⟩:∃ x,s.x=x:=⟨_,rfl⟩
   obtain ⟨y,hy⟩:∃ y,s.y=y:=⟨_,rfl⟩
   obtain rfl:s=⟨x,y⟩:=Pt.ext' hx hy
   clear hs hx hy
   dsimp only at k0 k1
   go_upto_region 5 with (fail)
   have HV:=Lib.hid (var2_new wr (.int .i64 x) (.int .i64 y) 59 wr.heap.size rfl)
   have HB2:=Lib.hid (bl_trans HB.out (bl_one wr (.cells #[.int .i64 x,.int .i64 y] 59)))
   generalize wr.alloc (.cells #[.int .i64 x,.int .i64 y] 59)=W2 at *
   generalize wr.heap.size=g8 at *
   clear k0 k1
   by_cases h1:x < 0
   ·have HN:Hid (checkL kk p l=false):=HNo.out (by unfold chkB okSeg9 knownB;simp;omega)
    have q1:(x < 0)=True:=eq_true h1
    clear h1 HNo HS HSK
    refine wp_region_held_drew (S:=fun V=>Below W2.heap.size W2 V) (by kernel_rfl) ?_ (fun hHeld=>?_)
    ·exact bel_drew W2
    revert hHeld
    generalize World.drew _=W1
    intro hHeld 
    refine tk (i:=0) (v:=?_) rfl (Or.inl ⟨by rfl,?_⟩) ?_
    rotate_left;· rintro _ -;go_simp;all_goals (with_reducible rfl)
    try simp only [Act.put,x2,x4,x5,x6,x7]
    refine tk (i:=1) (v:=?_) rfl (Or.inl ⟨by rfl,?_⟩) ?_
    rotate_left
    ·intro Wq hSw
     obtain ⟨v0,v1⟩:=(HV.out.below hSw).two
     clear hSw
     go_simp;all_goals (with_reducible rfl)
    try simp only [Act.put,x2,x3,x4,x5,x6,x7]
    refine tk (i:=2) (v:=?_) rfl (Or.inl ⟨by rfl,?_⟩) ?_
    rotate_left;· rintro _ -;go_simp;all_goals (with_reducible rfl)
    try simp only [Act.put,x2,x3,x4,x5,x6,x7]
    refine tk (i:=3) (v:=?_) rfl (Or.inl ⟨by rfl,?_⟩) ?_
    rotate_left;· rintro _ -;go_simp;all_goals (with_reducible rfl)
    try simp only [Act.put,x2,x3,x4,x5,x6,x7]
    refine tk (i:=4) (v:=_) rfl (Or.inr ⟨by rfl,rfl⟩) ?_
    try simp only [Act.put,x2,x3,x4,x5,x6,x7]
    refine tk (i:=5) (v:=_) rfl (Or.inr ⟨by rfl,rfl⟩) ?_
    try simp only [Act.put,x2,x3,x4,x5,x6,x7]
    refine tk (i:=6) (v:=_) rfl (Or.inr ⟨by rfl,rfl⟩) ?_
    try simp only [Act.put,x2,x3,x4,x5,x6,x7]
    refine tk (i:=7) (v:=?_) rfl (Or.inl ⟨by rfl,?_⟩) ?_
    rotate_left;· rintro _ -;go_simp;all_goals (with_reducible rfl)
    try simp only [Act.put,x2,x3,x4,x5,x6,x7]
    refine tk (i:=8) (v:=?_) rfl (Or.inl ⟨by rfl,?_⟩) ?_
    rotate_left;· rintro _ -;go_simp;all_goals (with_reducible rfl)
    try simp only [Act.put,x2,x3,x4,x5,x6,x7]
    refine tk (i:=9) (v:=_) rfl (Or.inr ⟨by rfl,rfl⟩) ?_
    try simp only [Act.put,x2,x3,x4,x5,x6,x7]
    refine tk (i:=10) (v:=_) rfl (Or.inr ⟨by rfl,rfl⟩) ?_
    try simp only [Act.put,x2,x3,x4,x5,x6,x7]
    refine tk (i:=11) (v:=_) rfl (Or.inr ⟨by rfl,rfl⟩) ?_
    try simp only [Act.put,x2,x3,x4,x5,x6,x7]
    refine tk (i:=12) (v:=_) rfl (Or.inr ⟨by rfl,rfl⟩) ?_
    try simp only [Act.put,x2,x3,x4,x5,x6,x7]
    refine tk (i:=13) (v:=_) rfl (Or.inr ⟨by rfl,rfl⟩) ?_
    try simp only [Act.put,x2,x3,x4,x5,x6,x7]
    refine tk (i:=14) (v:=?_) rfl (Or.inl ⟨by rfl,?_⟩) ?_
    rotate_left;· rintro _ -;go_simp;all_goals (with_reducible rfl)
    try simp only [Act.put,x2,x3,x4,x5,x6,x7]
    refine tk (i:=15) (v:=?_) rfl (Or.inl ⟨by rfl,?_⟩) ?_
    rotate_left;· rintro _ -;go_simp;all_goals (with_reducible rfl)
    try simp only [Act.put,x2,x3,x4,x5,x6,x7]
    refine tk (i:=16) (v:=_) rfl (Or.inr ⟨by rfl,rfl⟩) ?_
    try simp only [Act.put,x2,x3,x4,x5,x6,x7]
    refine tk (i:=17) (v:=_) rfl (Or.inr ⟨by rfl,rfl⟩) ?_
    try simp only [Act.put,x2,x3,x4,x5,x6,x7]
    refine tk (i:=18) (v:=_) rfl (Or.inr ⟨by rfl,rfl⟩) ?_
    try simp only [Act.put,x2,x3,x4,x5,x6,x7]
    refine tk (i:=19) (v:=_) rfl (Or.inr ⟨by rfl,rfl⟩) ?_
    try simp only [Act.put,x2,x3,x4,x5,x6,x7]
    refine tk (i:=20) (v:=_) rfl (Or.inr ⟨by rfl,rfl⟩) ?_
    try simp only [Act.put,x2,x3,x4,x5,x6,x7]
    refine tk (i:=21) (v:=?_) rfl (Or.inl ⟨by rfl,?_⟩) ?_
    rotate_left;· rintro _ -;go_simp;all_goals (with_reducible rfl)
    try simp only [Act.put,x2,x3,x4,x5,x6,x7]
    refine tk (i:=22) (v:=?_) rfl (Or.inl ⟨by rfl,?_⟩) ?_
    rotate_left;· rintro _ -;go_simp;all_goals (with_reducible rfl)
    try simp only [Act.put,x2,x3,x4,x5,x6,x7]
    refine tk (i:=23) (v:=_) rfl (Or.inr ⟨by rfl,rfl⟩) ?_
    try simp only [Act.put,x2,x3,x4,x5,x6,x7]
    refine tk (i:=24) (v:=_) rfl (Or.inr ⟨by rfl,rfl⟩) ?_
    try simp only [Act.put,x2,x3,x4,x5,x6,x7]
    refine tk (i:=25) (v:=_) rfl (Or.inr ⟨by rfl,rfl⟩) ?_
    try simp only [Act.put,x2,x3,x4,x5,x6,x7]
    refine tk (i:=26) (v:=_) rfl (Or.inr ⟨by rfl,rfl⟩) ?_
    try simp only [Act.put,x2,x3,x4,x5,x6,x7]
    refine tk (i:=27) (v:=_) rfl (Or.inr ⟨by rfl,rfl⟩) ?_
    try simp only [Act.put,x2,x3,x4,x5,x6,x7]
    refine tk (i:=28) (v:=_) rfl (Or.inr ⟨by rfl,rfl⟩) ?_
    try simp only [Act.put,x2,x3,x4,x5,x6,x7]
    refine tk (i:=29) (v:=_) rfl (Or.inr ⟨by rfl,rfl⟩) ?_
    try simp only [Act.put,x2,x3,x4,x5,x6,x7]
    refine tk (i:=30) (v:=_) rfl (Or.inr ⟨by rfl,rfl⟩) ?_
    try simp only [Act.put,x2,x3,x4,x5,x6,x7]
    refine tk (i:=31) (v:=_) rfl (Or.inr ⟨by rfl,rfl⟩) ?_
    try simp only [Act.put,x2,x3,x4,x5,x6,x7]
    refine tk (i:=32) (v:=_) rfl (Or.inr ⟨by rfl,rfl⟩) ?_
    try simp only [Act.put,x2,x3,x4,x5,x6,x7]
    refine tk (i:=33) (v:=_) rfl (Or.inr ⟨by rfl,rfl⟩) ?_
    try simp only [Act.put,x2,x3,x4,x5,x6,x7]
    refine tk (i:=34) (v:=?_) rfl (Or.inl ⟨by rfl,?_⟩) ?_
    rotate_left;· rintro _ -;go_simp;all_goals (with_reducible rfl)
    try simp only [Act.put,x2,x3,x4,x5,x6,x7]
    refine wpAnyH_done (by kernel_rfl) ?_ _
    have HBz:=Lib.hid (bl_trans HB2.out hHeld)
    clear hHeld HV HB HB2
    go_wp2_with fail
    go_ret
    exact ⟨by rw [HN.out];rfl,HBz.out⟩
   have q1:(x < 0)=False:=eq_false h1
   by_cases h2:y < 0
   ·have HN:Hid (checkL kk p l=false):=HNo.out (by unfold chkB okSeg9 knownB;simp;omega)
    have q2:(y < 0)=True:=eq_true h2
    clear h2 HNo HS HSK
    refine wp_region_held_drew (S:=fun V=>Below W2.heap.size W2 V) (by kernel_rfl) ?_ (fun hHeld=>?_)
    ·exact bel_drew W2
    revert hHeld
    generalize World.drew _=W1
    intro hHeld 
    refine tk (i:=0) (v:=?_) rfl (Or.inl ⟨by rfl,?_⟩) ?_
    rotate_left;· rintro _ -;go_simp;all_goals (with_reducible rfl)
    try simp only [Act.put,x2,x4,x5,x6,x7]
    refine tk (i:=1) (v:=?_) rfl (Or.inl ⟨by rfl,?_⟩) ?_
    rotate_left
    ·intro Wq hSw
     obtain ⟨v0,v1⟩:=(HV.out.below hSw).two
     clear hSw
     go_simp;all_goals (with_reducible rfl)
    try simp only [Act.put,x2,x3,x4,x5,x6,x7]
    refine tk (i:=2) (v:=?_) rfl (Or.inl ⟨by rfl,?_⟩) ?_
    rotate_left;· rintro _ -;go_simp;all_goals (with_reducible rfl)
    try simp only [Act.put,x2,x3,x4,x5,x6,x7]
    refine tk (i:=3) (v:=?_) rfl (Or.inl ⟨by rfl,?_⟩) ?_
    rotate_left;· rintro _ -;go_simp;all_goals (with_reducible rfl)
    try simp only [Act.put,x2,x3,x4,x5,x6,x7]
    refine tk (i:=4) (v:=?_) rfl (Or.inl ⟨by rfl,?_⟩) ?_
    rotate_left;· rintro _ -;go_simp;all_goals (with_reducible rfl)
    try simp only [Act.put,x2,x3,x4,x5,x6,x7]
    refine tk (i:=5) (v:=?_) rfl (Or.inl ⟨by rfl,?_⟩) ?_
    rotate_left
    ·intro Wq hSw
     obtain ⟨v0,v1⟩:=(HV.out.below hSw).two
     clear hSw
     go_simp;all_goals (with_reducible rfl)
    try simp only [Act.put,x2,x3,x4,x5,x6,x7]
    refine tk (i:=6) (v:=?_) rfl (Or.inl ⟨by rfl,?_⟩) ?_
    rotate_left;· rintro _ -;go_simp;all_goals (with_reducible rfl)
    try simp only [Act.put,x2,x3,x4,x5,x6,x7]
    refine tk (i:=7) (v:=?_) rfl (Or.inl ⟨by rfl,?_⟩) ?_
    rotate_left;· rintro _ -;go_simp;all_goals (with_reducible rfl)
    try simp only [Act.put,x2,x3,x4,x5,x6,x7]
    refine tk (i:=8) (v:=?_) rfl (Or.inl ⟨by rfl,?_⟩) ?_
    rotate_left;· rintro _ -;go_simp;all_goals (with_reducible rfl)
    try simp only [Act.put,x2,x3,x4,x5,x6,x7]
    refine tk (i:=9) (v:=_) rfl (Or.inr ⟨by rfl,rfl⟩) ?_
    try simp only [Act.put,x2,x3,x4,x5,x6,x7]
    refine tk (i:=10) (v:=_) rfl (Or.inr ⟨by rfl,rfl⟩) ?_
    try simp only [Act.put,x2,x3,x4,x5,x6,x7]
    refine tk (i:=11) (v:=_) rfl (Or.inr ⟨by rfl,rfl⟩) ?_
    try simp only [Act.put,x2,x3,x4,x5,x6,x7]
    refine tk (i:=12) (v:=_) rfl (Or.inr ⟨by rfl,rfl⟩) ?_
    try simp only [Act.put,x2,x3,x4,x5,x6,x7]
    refine tk (i:=13) (v:=_) rfl (Or.inr ⟨by rfl,rfl⟩) ?_
    try simp only [Act.put,x2,x3,x4,x5,x6,x7]
    refine tk (i:=14) (v:=?_) rfl (Or.inl ⟨by rfl,?_⟩) ?_
    rotate_left;· rintro _ -;go_simp;all_goals (with_reducible rfl)
    try simp only [Act.put,x2,x3,x4,x5,x6,x7]
    refine tk (i:=15) (v:=?_) rfl (Or.inl ⟨by rfl,?_⟩) ?_
    rotate_left;· rintro _ -;go_simp;all_goals (with_reducible rfl)
    try simp only [Act.put,x2,x3,x4,x5,x6,x7]
    refine tk (i:=16) (v:=_) rfl (Or.inr ⟨by rfl,rfl⟩) ?_
    try simp only [Act.put,x2,x3,x4,x5,x6,x7]
    refine tk (i:=17) (v:=_) rfl (Or.inr ⟨by rfl,rfl⟩) ?_
    try simp only [Act.put,x2,x3,x4,x5,x6,x7]
    refine tk (i:=18) (v:=_) rfl (Or.inr ⟨by rfl,rfl⟩) ?_
    try simp only [Act.put,x2,x3,x4,x5,x6,x7]
    refine tk (i:=19) (v:=_) rfl (Or.inr ⟨by rfl,rfl⟩) ?_
    try simp only [Act.put,x2,x3,x4,x5,x6,x7]
    refine tk (i:=20) (v:=_) rfl (Or.inr ⟨by rfl,rfl⟩) ?_
    try simp only [Act.put,x2,x3,x4,x5,x6,x7]
    refine tk (i:=21) (v:=?_) rfl (Or.inl ⟨by rfl,?_⟩) ?_
    rotate_left;· rintro _ -;go_simp;all_goals (with_reducible rfl)
    try simp only [Act.put,x2,x3,x4,x5,x6,x7]
    refine tk (i:=22) (v:=?_) rfl (Or.inl ⟨by rfl,?_⟩) ?_
    rotate_left;· rintro _ -;go_simp;all_goals (with_reducible rfl)
    try simp only [Act.put,x2,x3,x4,x5,x6,x7]
    refine tk (i:=23) (v:=_) rfl (Or.inr ⟨by rfl,rfl⟩) ?_
    try simp only [Act.put,x2,x3,x4,x5,x6,x7]
    refine tk (i:=24) (v:=_) rfl (Or.inr ⟨by rfl,rfl⟩) ?_
    try simp only [Act.put,x2,x3,x4,x5,x6,x7]
    refine tk (i:=25) (v:=_) rfl (Or.inr ⟨by rfl,rfl⟩) ?_
    try simp only [Act.put,x2,x3,x4,x5,x6,x7]
    refine tk (i:=26) (v:=_) rfl (Or.inr ⟨by rfl,rfl⟩) ?_
    try simp only [Act.put,x2,x3,x4,x5,x6,x7]
    refine tk (i:=27) (v:=_) rfl (Or.inr ⟨by rfl,rfl⟩) ?_
    try simp only [Act.put,x2,x3,x4,x5,x6,x7]
    refine tk (i:=28) (v:=_) rfl (Or.inr ⟨by rfl,rfl⟩) ?_
    try simp only [Act.put,x2,x3,x4,x5,x6,x7]
    refine tk (i:=29) (v:=_) rfl (Or.inr ⟨by rfl,rfl⟩) ?_
    try simp only [Act.put,x2,x3,x4,x5,x6,x7]
    refine tk (i:=30) (v:=_) rfl (Or.inr ⟨by rfl,rfl⟩) ?_
    try simp only [Act.put,x2,x3,x4,x5,x6,x7]
    refine tk (i:=31) (v:=_) rfl (Or.inr ⟨by rfl,rfl⟩) ?_
    try simp only [Act.put,x2,x3,x4,x5,x6,x7]
    refine tk (i:=32) (v:=_) rfl (Or.inr ⟨by rfl,rfl⟩) ?_
    try simp only [Act.put,x2,x3,x4,x5,x6,x7]
    refine tk (i:=33) (v:=_) rfl (Or.inr ⟨by rfl,rfl⟩) ?_
    try simp only [Act.put,x2,x3,x4,x5,x6,x7]
    refine tk (i:=34) (v:=?_) rfl (Or.inl ⟨by rfl,?_⟩) ?_
    rotate_left;· rintro _ -;go_simp;all_goals (with_reducible rfl)
    try simp only [Act.put,x2,x3,x4,x5,x6,x7]
    refine wpAnyH_done (by kernel_rfl) ?_ _
    have HBz:=Lib.hid (bl_trans HB2.out hHeld)
    clear hHeld HV HB HB2
    go_wp2_with fail
    go_ret
    exact ⟨by rw [HN.out];rfl,HBz.out⟩
   have q2:(y < 0)=False:=eq_false h2
   obtain ⟨a,rfl⟩:=Int.eq_ofNat_of_zero_le (show 0 ≤ x by omega)
   obtain ⟨b,rfl⟩:=Int.eq_ofNat_of_zero_le (show 0 ≤ y by omega)
   by_cases h3:p.length ≤ a
   ·have HN:Hid (checkL kk p l=false):=HNo.out (by unfold chkB okSeg9 knownB;simp;omega)
    have q3:((p.length:Int) ≤ (a:Int))=True:=eq_true (by omega)
    have q3':(p.length ≤ a)=True:=eq_true h3
    clear h3 HNo HS HSK
    refine wp_region_held_drew (S:=fun V=>Below W2.heap.size W2 V) (by kernel_rfl) ?_ (fun hHeld=>?_)
    ·exact bel_drew W2
    revert hHeld
    generalize World.drew _=W1
    intro hHeld 
    refine tk (i:=0) (v:=?_) rfl (Or.inl ⟨by rfl,?_⟩) ?_
    rotate_left;· rintro _ -;go_simp;all_goals (with_reducible rfl)
    try simp only [Act.put,x2,x4,x5,x6,x7]
    refine tk (i:=1) (v:=?_) rfl (Or.inl ⟨by rfl,?_⟩) ?_
    rotate_left
    ·intro Wq hSw
     obtain ⟨v0,v1⟩:=(HV.out.below hSw).two
     clear hSw
     go_simp;all_goals (with_reducible rfl)
    try simp only [Act.put,x2,x3,x4,x5,x6,x7]
    refine tk (i:=2) (v:=?_) rfl (Or.inl ⟨by rfl,?_⟩) ?_
    rotate_left;· rintro _ -;go_simp;all_goals (with_reducible rfl)
    try simp only [Act.put,x2,x3,x4,x5,x6,x7]
    refine tk (i:=3) (v:=?_) rfl (Or.inl ⟨by rfl,?_⟩) ?_
    rotate_left;· rintro _ -;go_simp;all_goals (with_reducible rfl)
    try simp only [Act.put,x2,x3,x4,x5,x6,x7]
    refine tk (i:=4) (v:=?_) rfl (Or.inl ⟨by rfl,?_⟩) ?_
    rotate_left;· rintro _ -;go_simp;all_goals (with_reducible rfl)
    try simp only [Act.put,x2,x3,x4,x5,x6,x7]
    refine tk (i:=5) (v:=?_) rfl (Or.inl ⟨by rfl,?_⟩) ?_
    rotate_left
    ·intro Wq hSw
     obtain ⟨v0,v1⟩:=(HV.out.below hSw).two
     clear hSw
     go_simp;all_goals (with_reducible rfl)
    try simp only [Act.put,x2,x3,x4,x5,x6,x7]
    refine tk (i:=6) (v:=?_) rfl (Or.inl ⟨by rfl,?_⟩) ?_
    rotate_left;· rintro _ -;go_simp;all_goals (with_reducible rfl)
    try simp only [Act.put,x2,x3,x4,x5,x6,x7]
    refine tk (i:=7) (v:=?_) rfl (Or.inl ⟨by rfl,?_⟩) ?_
    rotate_left;· rintro _ -;go_simp;all_goals (with_reducible rfl)
    try simp only [Act.put,x2,x3,x4,x5,x6,x7]
    refine tk (i:=8) (v:=?_) rfl (Or.inl ⟨by rfl,?_⟩) ?_
    rotate_left;· rintro _ -;go_simp;all_goals (with_reducible rfl)
    try simp only [Act.put,x2,x3,x4,x5,x6,x7]
    refine tk (i:=9) (v:=?_) rfl (Or.inl ⟨by rfl,?_⟩) ?_
    rotate_left;· rintro _ -;go_simp;all_goals (with_reducible rfl)
    try simp only [Act.put,x2,x3,x4,x5,x6,x7]
    refine tk (i:=10) (v:=?_) rfl (Or.inl ⟨by rfl,?_⟩) ?_
    rotate_left
    ·intro Wq hSw
     obtain ⟨v0,v1⟩:=(HV.out.below hSw).two
     clear hSw
     go_simp;all_goals (with_reducible rfl)
    try simp only [Act.put,x2,x3,x4,x5,x6,x7]
    refine tk (i:=11) (v:=?_) rfl (Or.inl ⟨by rfl,?_⟩) ?_
    rotate_left;· rintro _ -;go_simp;all_goals (with_reducible rfl)
    try simp only [Act.put,x2,x3,x4,x5,x6,x7]
    refine tk (i:=12) (v:=?_) rfl (Or.inl ⟨by rfl,?_⟩) ?_
    rotate_left;· rintro _ -;go_simp;all_goals (with_reducible rfl)
    try simp only [Act.put,x2,x3,x4,x5,x6,x7]
    refine tk (i:=13) (v:=?_) rfl (Or.inl ⟨by rfl,?_⟩) ?_
    rotate_left;· rintro _ -;go_simp;all_goals (with_reducible rfl)
    try simp only [Act.put,x2,x3,x4,x5,x6,x7]
    refine tk (i:=14) (v:=?_) rfl (Or.inl ⟨by rfl,?_⟩) ?_
    rotate_left;· rintro _ -;go_simp;all_goals (with_reducible rfl)
    try simp only [Act.put,x2,x3,x4,x5,x6,x7]
    refine tk (i:=15) (v:=?_) rfl (Or.inl ⟨by rfl,?_⟩) ?_
    rotate_left;· rintro _ -;go_simp;all_goals (with_reducible rfl)
    try simp only [Act.put,x2,x3,x4,x5,x6,x7]
    refine tk (i:=16) (v:=_) rfl (Or.inr ⟨by rfl,rfl⟩) ?_
    try simp only [Act.put,x2,x3,x4,x5,x6,x7]
    refine tk (i:=17) (v:=_) rfl (Or.inr ⟨by rfl,rfl⟩) ?_
    try simp only [Act.put,x2,x3,x4,x5,x6,x7]
    refine tk (i:=18) (v:=_) rfl (Or.inr ⟨by rfl,rfl⟩) ?_
    try simp only [Act.put,x2,x3,x4,x5,x6,x7]
    refine tk (i:=19) (v:=_) rfl (Or.inr ⟨by rfl,rfl⟩) ?_
    try simp only [Act.put,x2,x3,x4,x5,x6,x7]
    refine tk (i:=20) (v:=_) rfl (Or.inr ⟨by rfl,rfl⟩) ?_
    try simp only [Act.put,x2,x3,x4,x5,x6,x7]
    refine tk (i:=21) (v:=?_) rfl (Or.inl ⟨by rfl,?_⟩) ?_
    rotate_left;· rintro _ -;go_simp;all_goals (with_reducible rfl)
    try simp only [Act.put,x2,x3,x4,x5,x6,x7]
    refine tk (i:=22) (v:=?_) rfl (Or.inl ⟨by rfl,?_⟩) ?_
    rotate_left;· rintro _ -;go_simp;all_goals (with_reducible rfl)
    try simp only [Act.put,x2,x3,x4,x5,x6,x7]
    refine tk (i:=23) (v:=_) rfl (Or.inr ⟨by rfl,rfl⟩) ?_
    try simp only [Act.put,x2,x3,x4,x5,x6,x7]
    refine tk (i:=24) (v:=_) rfl (Or.inr ⟨by rfl,rfl⟩) ?_
    try simp only [Act.put,x2,x3,x4,x5,x6,x7]
    refine tk (i:=25) (v:=_) rfl (Or.inr ⟨by rfl,rfl⟩) ?_
    try simp only [Act.put,x2,x3,x4,x5,x6,x7]
    refine tk (i:=26) (v:=_) rfl (Or.inr ⟨by rfl,rfl⟩) ?_
    try simp only [Act.put,x2,x3,x4,x5,x6,x7]
    refine tk (i:=27) (v:=_) rfl (Or.inr ⟨by rfl,rfl⟩) ?_
    try simp only [Act.put,x2,x3,x4,x5,x6,x7]
    refine tk (i:=28) (v:=_) rfl (Or.inr ⟨by rfl,rfl⟩) ?_
    try simp only [Act.put,x2,x3,x4,x5,x6,x7]
    refine tk (i:=29) (v:=_) rfl (Or.inr ⟨by rfl,rfl⟩) ?_
    try simp only [Act.put,x2,x3,x4,x5,x6,x7]
    refine tk (i:=30) (v:=_) rfl (Or.inr ⟨by rfl,rfl⟩) ?_
    try simp only [Act.put,x2,x3,x4,x5,x6,x7]
    refine tk (i:=31) (v:=_) rfl (Or.inr ⟨by rfl,rfl⟩) ?_
    try simp only [Act.put,x2,x3,x4,x5,x6,x7]
    refine tk (i:=32) (v:=_) rfl (Or.inr ⟨by rfl,rfl⟩) ?_
    try simp only [Act.put,x2,x3,x4,x5,x6,x7]
    refine tk (i:=33) (v:=_) rfl (Or.inr ⟨by rfl,rfl⟩) ?_
    try simp only [Act.put,x2,x3,x4,x5,x6,x7]
    refine tk (i:=34) (v:=?_) rfl (Or.inl ⟨by rfl,?_⟩) ?_
    rotate_left;· rintro _ -;go_simp;all_goals (with_reducible rfl)
    try simp only [Act.put,x2,x3,x4,x5,x6,x7]
    refine wpAnyH_done (by kernel_rfl) ?_ _
    have HBz:=Lib.hid (bl_trans HB2.out hHeld)
    clear hHeld HV HB HB2
    go_wp2_with fail
    go_ret
    exact ⟨by rw [HN.out];rfl,HBz.out⟩
   have q3:((p.length:Int) ≤ (a:Int))=False:=eq_false (by omega)
   have q3':(p.length ≤ a)=False:=eq_false h3
   by_cases h4:p.length ≤ b
   ·have HN:Hid (checkL kk p l=false):=HNo.out (by unfold chkB okSeg9 knownB;simp;omega)
    have q4:((p.length:Int) ≤ (b:Int))=True:=eq_true (by omega)
    have q4':(p.length ≤ b)=True:=eq_true h4
    clear h4 HNo HS HSK
    refine wp_region_held_drew (S:=fun V=>Below W2.heap.size W2 V) (by kernel_rfl) ?_ (fun hHeld=>?_)
    ·exact bel_drew W2
    revert hHeld
    generalize World.drew _=W1
    intro hHeld 
    refine tk (i:=0) (v:=?_) rfl (Or.inl ⟨by rfl,?_⟩) ?_
    rotate_left;· rintro _ -;go_simp;all_goals (with_reducible rfl)
    try simp only [Act.put,x2,x4,x5,x6,x7]
    refine tk (i:=1) (v:=?_) rfl (Or.inl ⟨by rfl,?_⟩) ?_
    rotate_left
    ·intro Wq hSw
     obtain ⟨v0,v1⟩:=(HV.out.below hSw).two
     clear hSw
     go_simp;all_goals (with_reducible rfl)
    try simp only [Act.put,x2,x3,x4,x5,x6,x7]
    refine tk (i:=2) (v:=?_) rfl (Or.inl ⟨by rfl,?_⟩) ?_
    rotate_left;· rintro _ -;go_simp;all_goals (with_reducible rfl)
    try simp only [Act.put,x2,x3,x4,x5,x6,x7]
    refine tk (i:=3) (v:=?_) rfl (Or.inl ⟨by rfl,?_⟩) ?_
    rotate_left;· rintro _ -;go_simp;all_goals (with_reducible rfl)
    try simp only [Act.put,x2,x3,x4,x5,x6,x7]
    refine tk (i:=4) (v:=?_) rfl (Or.inl ⟨by rfl,?_⟩) ?_
    rotate_left;· rintro _ -;go_simp;all_goals (with_reducible rfl)
    try simp only [Act.put,x2,x3,x4,x5,x6,x7]
    refine tk (i:=5) (v:=?_) rfl (Or.inl ⟨by rfl,?_⟩) ?_
    rotate_left
    ·intro Wq hSw
     obtain ⟨v0,v1⟩:=(HV.out.below hSw).two
     clear hSw
     go_simp;all_goals (with_reducible rfl)
    try simp only [Act.put,x2,x3,x4,x5,x6,x7]
    refine tk (i:=6) (v:=?_) rfl (Or.inl ⟨by rfl,?_⟩) ?_
    rotate_left;· rintro _ -;go_simp;all_goals (with_reducible rfl)
    try simp only [Act.put,x2,x3,x4,x5,x6,x7]
    refine tk (i:=7) (v:=?_) rfl (Or.inl ⟨by rfl,?_⟩) ?_
    rotate_left;· rintro _ -;go_simp;all_goals (with_reducible rfl)
    try simp only [Act.put,x2,x3,x4,x5,x6,x7]
    refine tk (i:=8) (v:=?_) rfl (Or.inl ⟨by rfl,?_⟩) ?_
    rotate_left;· rintro _ -;go_simp;all_goals (with_reducible rfl)
    try simp only [Act.put,x2,x3,x4,x5,x6,x7]
    refine tk (i:=9) (v:=?_) rfl (Or.inl ⟨by rfl,?_⟩) ?_
    rotate_left;· rintro _ -;go_simp;all_goals (with_reducible rfl)
    try simp only [Act.put,x2,x3,x4,x5,x6,x7]
    refine tk (i:=10) (v:=?_) rfl (Or.inl ⟨by rfl,?_⟩) ?_
    rotate_left
    ·intro Wq hSw
     obtain ⟨v0,v1⟩:=(HV.out.below hSw).two
     clear hSw
     go_simp;all_goals (with_reducible rfl)
    try simp only [Act.put,x2,x3,x4,x5,x6,x7]
    refine tk (i:=11) (v:=?_) rfl (Or.inl ⟨by rfl,?_⟩) ?_
    rotate_left;· rintro _ -;go_simp;all_goals (with_reducible rfl)
    try simp only [Act.put,x2,x3,x4,x5,x6,x7]
    refine tk (i:=12) (v:=?_) rfl (Or.inl ⟨by rfl,?_⟩) ?_
    rotate_left;· rintro _ -;go_simp;all_goals (with_reducible rfl)
    try simp only [Act.put,x2,x3,x4,x5,x6,x7]
    refine tk (i:=13) (v:=?_) rfl (Or.inl ⟨by rfl,?_⟩) ?_
    rotate_left;· rintro _ -;go_simp;all_goals (with_reducible rfl)
    try simp only [Act.put,x2,x3,x4,x5,x6,x7]
    refine tk (i:=14) (v:=?_) rfl (Or.inl ⟨by rfl,?_⟩) ?_
    rotate_left;· rintro _ -;go_simp;all_goals (with_reducible rfl)
    try simp only [Act.put,x2,x3,x4,x5,x6,x7]
    refine tk (i:=15) (v:=?_) rfl (Or.inl ⟨by rfl,?_⟩) ?_
    rotate_left;· rintro _ -;go_simp;all_goals (with_reducible rfl)
    try simp only [Act.put,x2,x3,x4,x5,x6,x7]
    refine tk (i:=16) (v:=?_) rfl (Or.inl ⟨by rfl,?_⟩) ?_
    rotate_left;· rintro _ -;go_simp;all_goals (with_reducible rfl)
    try simp only [Act.put,x2,x3,x4,x5,x6,x7]
    refine tk (i:=17) (v:=?_) rfl (Or.inl ⟨by rfl,?_⟩) ?_
    rotate_left
    ·intro Wq hSw
     obtain ⟨v0,v1⟩:=(HV.out.below hSw).two
     clear hSw
     go_simp;all_goals (with_reducible rfl)
    try simp only [Act.put,x2,x3,x4,x5,x6,x7]
    refine tk (i:=18) (v:=?_) rfl (Or.inl ⟨by rfl,?_⟩) ?_
    rotate_left;· rintro _ -;go_simp;all_goals (with_reducible rfl)
    try simp only [Act.put,x2,x3,x4,x5,x6,x7]
    refine tk (i:=19) (v:=?_) rfl (Or.inl ⟨by rfl,?_⟩) ?_
    rotate_left;· rintro _ -;go_simp;all_goals (with_reducible rfl)
    try simp only [Act.put,x2,x3,x4,x5,x6,x7]
    refine tk (i:=20) (v:=?_) rfl (Or.inl ⟨by rfl,?_⟩) ?_
    rotate_left;· rintro _ -;go_simp;all_goals (with_reducible rfl)
    try simp only [Act.put,x2,x3,x4,x5,x6,x7]
    refine tk (i:=21) (v:=?_) rfl (Or.inl ⟨by rfl,?_⟩) ?_
    rotate_left;· rintro _ -;go_simp;all_goals (with_reducible rfl)
    try simp only [Act.put,x2,x3,x4,x5,x6,x7]
    refine tk (i:=22) (v:=?_) rfl (Or.inl ⟨by rfl,?_⟩) ?_
    rotate_left;· rintro _ -;go_simp;all_goals (with_reducible rfl)
    try simp only [Act.put,x2,x3,x4,x5,x6,x7]
    refine tk (i:=23) (v:=_) rfl (Or.inr ⟨by rfl,rfl⟩) ?_
    try simp only [Act.put,x2,x3,x4,x5,x6,x7]
    refine tk (i:=24) (v:=_) rfl (Or.inr ⟨by rfl,rfl⟩) ?_
    try simp only [Act.put,x2,x3,x4,x5,x6,x7]
    refine tk (i:=25) (v:=_) rfl (Or.inr ⟨by rfl,rfl⟩) ?_
    try simp only [Act.put,x2,x3,x4,x5,x6,x7]
    refine tk (i:=26) (v:=_) rfl (Or.inr ⟨by rfl,rfl⟩) ?_
    try simp only [Act.put,x2,x3,x4,x5,x6,x7]
    refine tk (i:=27) (v:=_) rfl (Or.inr ⟨by rfl,rfl⟩) ?_
    try simp only [Act.put,x2,x3,x4,x5,x6,x7]
    refine tk (i:=28) (v:=_) rfl (Or.inr ⟨by rfl,rfl⟩) ?_
    try simp only [Act.put,x2,x3,x4,x5,x6,x7]
    refine tk (i:=29) (v:=_) rfl (Or.inr ⟨by rfl,rfl⟩) ?_
    try simp only [Act.put,x2,x3,x4,x5,x6,x7]
    refine tk (i:=30) (v:=_) rfl (Or.inr ⟨by rfl,rfl⟩) ?_
    try simp only [Act.put,x2,x3,x4,x5,x6,x7]
    refine tk (i:=31) (v:=_) rfl (Or.inr ⟨by rfl,rfl⟩) ?_
    try simp only [Act.put,x2,x3,x4,x5,x6,x7]
    refine tk (i:=32) (v:=_) rfl (Or.inr ⟨by rfl,rfl⟩) ?_
    try simp only [Act.put,x2,x3,x4,x5,x6,x7]
    refine tk (i:=33) (v:=_) rfl (Or.inr ⟨by rfl,rfl⟩) ?_
    try simp only [Act.put,x2,x3,x4,x5,x6,x7]
    refine tk (i:=34) (v:=?_) rfl (Or.inl ⟨by rfl,?_⟩) ?_
    rotate_left;· rintro _ -;go_simp;all_goals (with_reducible rfl)
    try simp only [Act.put,x2,x3,x4,x5,x6,x7]
    refine wpAnyH_done (by kernel_rfl) ?_ _
    have HBz:=Lib.hid (bl_trans HB2.out hHeld)
    clear hHeld HV HB HB2
    go_wp2_with fail
    go_ret
    exact ⟨by rw [HN.out];rfl,HBz.out⟩
   have q4:((p.length:Int) ≤ (b:Int))=False:=eq_false (by omega)
   have q4':(p.length ≤ b)=False:=eq_false h4
   have hap:a < p.length:=by omega
   have hbp:b < p.length:=by omega
   obtain ⟨gp,op,rfl⟩:=HP.out.some (by omega)
   obtain ⟨qa,hqa⟩:∃ q,pget p a=q:=⟨_,rfl⟩
   obtain ⟨qb,hqb⟩:∃ q,pget p b=q:=⟨_,rfl⟩
   have HQA:=Lib.hid hqa
   have HQB:=Lib.hid hqb
   have HCk:Hid (chkB kk p ⟨(a:Int),(b:Int)⟩=((fitB qa && fitB qb && !(decide (qa=qb))) && (fitB (scaleP kk qa) && fitB (scaleP kk qb)))):=by
    unfold Hid chkB okSeg9 knownB ptI
    simp only [Int.toNat_natCast,hqa,hqb]
    rw [decide_eq_true (show (0:Int) ≤ (a:Int) by omega),decide_eq_true (show (0:Int) ≤ (b:Int) by omega),decide_eq_true (show (a:Int) < (p.length:Int) by omega),decide_eq_true (show (b:Int) < (p.length:Int) by omega)]
    rfl
   have h3:(qa=qb) ∨ (qa.x ≠ qb.x) ∨ (qa.x=qb.x∧qa.y ≠ qb.y):=by
    by_cases e1:qa.x=qb.x
    ·by_cases e2:qa.y=qb.y
     ·exact .inl (Pt.ext' e1 e2)
     ·exact .inr (.inr ⟨e1,e2⟩)
    ·exact .inr (.inl e1)
   clear hqa hqb h1 h2 h4
   have hne:qa ≠ qb → decide (qa=qb)=false:=fun h=>decide_eq_false h
   go_cut [53] (fun x W=>x=.bool (decide (qa=qb))∧Below W2.heap.size W2 W)
   case first=>
    rcases h3 with rfl | e1 | ⟨e1,e2⟩
    ·have HE:=Lib.hid (decide_eq_true (rfl:qa=qa))
     refine wp_region_held_drew (S:=fun V=>Below W2.heap.size W2 V) (by kernel_rfl) ?_ (fun hHeld=>?_)
     ·exact bel_drew W2
     revert hHeld
     generalize World.drew _=W1
     intro hHeld 
     refine tk (i:=0) (v:=?_) rfl (Or.inl ⟨by rfl,?_⟩) ?_
     rotate_left;· rintro _ -;go_simp;all_goals (with_reducible rfl)
     try simp only [Act.put,x2,x4,x5,x6,x7]
     refine tk (i:=1) (v:=?_) rfl (Or.inl ⟨by rfl,?_⟩) ?_
     rotate_left
     ·intro Wq hSw
      obtain ⟨v0,v1⟩:=(HV.out.below hSw).two
      clear hSw
      go_simp;all_goals (with_reducible rfl)
     try simp only [Act.put,x2,x3,x4,x5,x6,x7]
     refine tk (i:=2) (v:=?_) rfl (Or.inl ⟨by rfl,?_⟩) ?_
     rotate_left;· rintro _ -;go_simp;all_goals (with_reducible rfl)
     try simp only [Act.put,x2,x3,x4,x5,x6,x7]
     refine tk (i:=3) (v:=?_) rfl (Or.inl ⟨by rfl,?_⟩) ?_
     rotate_left;· rintro _ -;go_simp;all_goals (with_reducible rfl)
     try simp only [Act.put,x2,x3,x4,x5,x6,x7]
     refine tk (i:=4) (v:=?_) rfl (Or.inl ⟨by rfl,?_⟩) ?_
     rotate_left;· rintro _ -;go_simp;all_goals (with_reducible rfl)
     try simp only [Act.put,x2,x3,x4,x5,x6,x7]
     refine tk (i:=5) (v:=?_) rfl (Or.inl ⟨by rfl,?_⟩) ?_
     rotate_left
     ·intro Wq hSw
      obtain ⟨v0,v1⟩:=(HV.out.below hSw).two
      clear hSw
      go_simp;all_goals (with_reducible rfl)
     try simp only [Act.put,x2,x3,x4,x5,x6,x7]
     refine tk (i:=6) (v:=?_) rfl (Or.inl ⟨by rfl,?_⟩) ?_
     rotate_left;· rintro _ -;go_simp;all_goals (with_reducible rfl)
     try simp only [Act.put,x2,x3,x4,x5,x6,x7]
     refine tk (i:=7) (v:=?_) rfl (Or.inl ⟨by rfl,?_⟩) ?_
     rotate_left;· rintro _ -;go_simp;all_goals (with_reducible rfl)
     try simp only [Act.put,x2,x3,x4,x5,x6,x7]
     refine tk (i:=8) (v:=?_) rfl (Or.inl ⟨by rfl,?_⟩) ?_
     rotate_left;· rintro _ -;go_simp;all_goals (with_reducible rfl)
     try simp only [Act.put,x2,x3,x4,x5,x6,x7]
     refine tk (i:=9) (v:=?_) rfl (Or.inl ⟨by rfl,?_⟩) ?_
     rotate_left;· rintro _ -;go_simp;all_goals (with_reducible rfl)
     try simp only [Act.put,x2,x3,x4,x5,x6,x7]
     refine tk (i:=10) (v:=?_) rfl (Or.inl ⟨by rfl,?_⟩) ?_
     rotate_left
     ·intro Wq hSw
      obtain ⟨v0,v1⟩:=(HV.out.below hSw).two
      clear hSw
      go_simp;all_goals (with_reducible rfl)
     try simp only [Act.put,x2,x3,x4,x5,x6,x7]
     refine tk (i:=11) (v:=?_) rfl (Or.inl ⟨by rfl,?_⟩) ?_
     rotate_left;· rintro _ -;go_simp;all_goals (with_reducible rfl)
     try simp only [Act.put,x2,x3,x4,x5,x6,x7]
     refine tk (i:=12) (v:=?_) rfl (Or.inl ⟨by rfl,?_⟩) ?_
     rotate_left;· rintro _ -;go_simp;all_goals (with_reducible rfl)
     try simp only [Act.put,x2,x3,x4,x5,x6,x7]
     refine tk (i:=13) (v:=?_) rfl (Or.inl ⟨by rfl,?_⟩) ?_
     rotate_left;· rintro _ -;go_simp;all_goals (with_reducible rfl)
     try simp only [Act.put,x2,x3,x4,x5,x6,x7]
     refine tk (i:=14) (v:=?_) rfl (Or.inl ⟨by rfl,?_⟩) ?_
     rotate_left;· rintro _ -;go_simp;all_goals (with_reducible rfl)
     try simp only [Act.put,x2,x3,x4,x5,x6,x7]
     refine tk (i:=15) (v:=?_) rfl (Or.inl ⟨by rfl,?_⟩) ?_
     rotate_left;· rintro _ -;go_simp;all_goals (with_reducible rfl)
     try simp only [Act.put,x2,x3,x4,x5,x6,x7]
     refine tk (i:=16) (v:=?_) rfl (Or.inl ⟨by rfl,?_⟩) ?_
     rotate_left;· rintro _ -;go_simp;all_goals (with_reducible rfl)
     try simp only [Act.put,x2,x3,x4,x5,x6,x7]
     refine tk (i:=17) (v:=?_) rfl (Or.inl ⟨by rfl,?_⟩) ?_
     rotate_left
     ·intro Wq hSw
      obtain ⟨v0,v1⟩:=(HV.out.below hSw).two
      clear hSw
      go_simp;all_goals (with_reducible rfl)
     try simp only [Act.put,x2,x3,x4,x5,x6,x7]
     refine tk (i:=18) (v:=?_) rfl (Or.inl ⟨by rfl,?_⟩) ?_
     rotate_left;· rintro _ -;go_simp;all_goals (with_reducible rfl)
     try simp only [Act.put,x2,x3,x4,x5,x6,x7]
     refine tk (i:=19) (v:=?_) rfl (Or.inl ⟨by rfl,?_⟩) ?_
     rotate_left;· rintro _ -;go_simp;all_goals (with_reducible rfl)
     try simp only [Act.put,x2,x3,x4,x5,x6,x7]
     refine tk (i:=20) (v:=?_) rfl (Or.inl ⟨by rfl,?_⟩) ?_
     rotate_left;· rintro _ -;go_simp;all_goals (with_reducible rfl)
     try simp only [Act.put,x2,x3,x4,x5,x6,x7]
     refine tk (i:=21) (v:=?_) rfl (Or.inl ⟨by rfl,?_⟩) ?_
     rotate_left;· rintro _ -;go_simp;all_goals (with_reducible rfl)
     try simp only [Act.put,x2,x3,x4,x5,x6,x7]
     refine tk (i:=22) (v:=?_) rfl (Or.inl ⟨by rfl,?_⟩) ?_
     rotate_left;· rintro _ -;go_simp;all_goals (with_reducible rfl)
     try simp only [Act.put,x2,x3,x4,x5,x6,x7]
     refine tk (i:=23) (v:=?_) rfl (Or.inl ⟨by rfl,?_⟩) ?_
     rotate_left;· rintro _ -;go_simp;all_goals (with_reducible rfl)
     try simp only [Act.put,x2,x3,x4,x5,x6,x7]
     refine tk (i:=24) (v:=?_) rfl (Or.inl ⟨by rfl,?_⟩) ?_
     rotate_left;· rintro _ -;go_simp;all_goals (with_reducible rfl)
     try simp only [Act.put,x2,x3,x4,x5,x6,x7]
     refine tk (i:=25) (v:=?_) rfl (Or.inl ⟨by rfl,?_⟩) ?_
     rotate_left
     ·intro Wq hSw
      obtain ⟨v0,v1⟩:=(HV.out.below hSw).two
      clear hSw
      go_simp;all_goals (with_reducible rfl)
     try simp only [Act.put,x2,x3,x4,x5,x6,x7]
     refine tk (i:=26) (v:=?_) rfl (Or.inl ⟨by rfl,?_⟩) ?_
     rotate_left
     ·intro Wq hSw
      have b1:((a:Int) < (p.length:Int))=True:=eq_true (by omega)
      have d1:(a < p.length)=True:=eq_true hap
      have c1:((0:Int) ≤ (a:Int))=True:=eq_true (by omega)
      clear hSw
      go_simp;all_goals (with_reducible rfl)
     try simp only [Act.put,x2,x3,x4,x5,x6,x7]
     refine tk (i:=27) (v:=?_) rfl (Or.inl ⟨by rfl,?_⟩) ?_
     rotate_left
     ·intro Wq hSw
      obtain ⟨k0,k1⟩:=ptRow_at (HP.out.below (bl_trans HB2.out hSw)) hap HQA.out
      clear hSw
      go_simp;all_goals (with_reducible rfl)
     try simp only [Act.put,x2,x3,x4,x5,x6,x7]
     refine tk (i:=28) (v:=?_) rfl (Or.inl ⟨by rfl,?_⟩) ?_
     rotate_left;· rintro _ -;go_simp;all_goals (with_reducible rfl)
     try simp only [Act.put,x2,x3,x4,x5,x6,x7]
     refine tk (i:=29) (v:=?_) rfl (Or.inl ⟨by rfl,?_⟩) ?_
     rotate_left;· rintro _ -;go_simp;all_goals (with_reducible rfl)
     try simp only [Act.put,x2,x3,x4,x5,x6,x7]
     refine tk (i:=30) (v:=?_) rfl (Or.inl ⟨by rfl,?_⟩) ?_
     rotate_left
     ·intro Wq hSw
      obtain ⟨v0,v1⟩:=(HV.out.below hSw).two
      clear hSw
      go_simp;all_goals (with_reducible rfl)
     try simp only [Act.put,x2,x3,x4,x5,x6,x7]
     refine tk (i:=31) (v:=?_) rfl (Or.inl ⟨by rfl,?_⟩) ?_
     rotate_left
     ·intro Wq hSw
      have b1:((b:Int) < (p.length:Int))=True:=eq_true (by omega)
      have d1:(b < p.length)=True:=eq_true hbp
      have c1:((0:Int) ≤ (b:Int))=True:=eq_true (by omega)
      clear hSw
      go_simp;all_goals (with_reducible rfl)
     try simp only [Act.put,x2,x3,x4,x5,x6,x7]
     refine tk (i:=32) (v:=?_) rfl (Or.inl ⟨by rfl,?_⟩) ?_
     rotate_left
     ·intro Wq hSw
      obtain ⟨k0,k1⟩:=ptRow_at (HP.out.below (bl_trans HB2.out hSw)) hbp HQB.out
      clear hSw
      go_simp;all_goals (with_reducible rfl)
     try simp only [Act.put,x2,x3,x4,x5,x6,x7]
     refine tk (i:=33) (v:=?_) rfl (Or.inl ⟨by rfl,?_⟩) ?_
     rotate_left;· rintro _ -;go_simp;all_goals (with_reducible rfl)
     try simp only [Act.put,x2,x3,x4,x5,x6,x7]
     refine tk (i:=34) (v:=?_) rfl (Or.inl ⟨by rfl,?_⟩) ?_
     rotate_left;· rintro _ -;go_simp;all_goals (with_reducible rfl)
     try simp only [Act.put,x2,x3,x4,x5,x6,x7]
     refine wpAnyH_done (by kernel_rfl) ?_ _
     go_wp2_with fail
     go_meet
     case rel=>exact ⟨by rw [HE.out],hHeld⟩
    ·have HE:=Lib.hid (decide_eq_false (show ¬ qa=qb from fun h=>e1 (by rw [h])))
     have b6:(qa.x=qb.x)=False:=eq_false e1
     clear e1
     refine wp_region_held_drew (S:=fun V=>Below W2.heap.size W2 V) (by kernel_rfl) ?_ (fun hHeld=>?_)
     ·exact bel_drew W2
     revert hHeld
     generalize World.drew _=W1
     intro hHeld 
     refine tk (i:=0) (v:=?_) rfl (Or.inl ⟨by rfl,?_⟩) ?_
     rotate_left;· rintro _ -;go_simp;all_goals (with_reducible rfl)
     try simp only [Act.put,x2,x4,x5,x6,x7]
     refine tk (i:=1) (v:=?_) rfl (Or.inl ⟨by rfl,?_⟩) ?_
     rotate_left
     ·intro Wq hSw
      obtain ⟨v0,v1⟩:=(HV.out.below hSw).two
      clear hSw
      go_simp;all_goals (with_reducible rfl)
     try simp only [Act.put,x2,x3,x4,x5,x6,x7]
     refine tk (i:=2) (v:=?_) rfl (Or.inl ⟨by rfl,?_⟩) ?_
     rotate_left;· rintro _ -;go_simp;all_goals (with_reducible rfl)
     try simp only [Act.put,x2,x3,x4,x5,x6,x7]
     refine tk (i:=3) (v:=?_) rfl (Or.inl ⟨by rfl,?_⟩) ?_
     rotate_left;· rintro _ -;go_simp;all_goals (with_reducible rfl)
     try simp only [Act.put,x2,x3,x4,x5,x6,x7]
     refine tk (i:=4) (v:=?_) rfl (Or.inl ⟨by rfl,?_⟩) ?_
     rotate_left;· rintro _ -;go_simp;all_goals (with_reducible rfl)
     try simp only [Act.put,x2,x3,x4,x5,x6,x7]
     refine tk (i:=5) (v:=?_) rfl (Or.inl ⟨by rfl,?_⟩) ?_
     rotate_left
     ·intro Wq hSw
      obtain ⟨v0,v1⟩:=(HV.out.below hSw).two
      clear hSw
      go_simp;all_goals (with_reducible rfl)
     try simp only [Act.put,x2,x3,x4,x5,x6,x7]
     refine tk (i:=6) (v:=?_) rfl (Or.inl ⟨by rfl,?_⟩) ?_
     rotate_left;· rintro _ -;go_simp;all_goals (with_reducible rfl)
     try simp only [Act.put,x2,x3,x4,x5,x6,x7]
     refine tk (i:=7) (v:=?_) rfl (Or.inl ⟨by rfl,?_⟩) ?_
     rotate_left;· rintro _ -;go_simp;all_goals (with_reducible rfl)
     try simp only [Act.put,x2,x3,x4,x5,x6,x7]
     refine tk (i:=8) (v:=?_) rfl (Or.inl ⟨by rfl,?_⟩) ?_
     rotate_left;· rintro _ -;go_simp;all_goals (with_reducible rfl)
     try simp only [Act.put,x2,x3,x4,x5,x6,x7]
     refine tk (i:=9) (v:=?_) rfl (Or.inl ⟨by rfl,?_⟩) ?_
     rotate_left;· rintro _ -;go_simp;all_goals (with_reducible rfl)
     try simp only [Act.put,x2,x3,x4,x5,x6,x7]
     refine tk (i:=10) (v:=?_) rfl (Or.inl ⟨by rfl,?_⟩) ?_
     rotate_left
     ·intro Wq hSw
      obtain ⟨v0,v1⟩:=(HV.out.below hSw).two
      clear hSw
      go_simp;all_goals (with_reducible rfl)
     try simp only [Act.put,x2,x3,x4,x5,x6,x7]
     refine tk (i:=11) (v:=?_) rfl (Or.inl ⟨by rfl,?_⟩) ?_
     rotate_left;· rintro _ -;go_simp;all_goals (with_reducible rfl)
     try simp only [Act.put,x2,x3,x4,x5,x6,x7]
     refine tk (i:=12) (v:=?_) rfl (Or.inl ⟨by rfl,?_⟩) ?_
     rotate_left;· rintro _ -;go_simp;all_goals (with_reducible rfl)
     try simp only [Act.put,x2,x3,x4,x5,x6,x7]
     refine tk (i:=13) (v:=?_) rfl (Or.inl ⟨by rfl,?_⟩) ?_
     rotate_left;· rintro _ -;go_simp;all_goals (with_reducible rfl)
     try simp only [Act.put,x2,x3,x4,x5,x6,x7]
     refine tk (i:=14) (v:=?_) rfl (Or.inl ⟨by rfl,?_⟩) ?_
     rotate_left;· rintro _ -;go_simp;all_goals (with_reducible rfl)
     try simp only [Act.put,x2,x3,x4,x5,x6,x7]
     refine tk (i:=15) (v:=?_) rfl (Or.inl ⟨by rfl,?_⟩) ?_
     rotate_left;· rintro _ -;go_simp;all_goals (with_reducible rfl)
     try simp only [Act.put,x2,x3,x4,x5,x6,x7]
     refine tk (i:=16) (v:=?_) rfl (Or.inl ⟨by rfl,?_⟩) ?_
     rotate_left;· rintro _ -;go_simp;all_goals (with_reducible rfl)
     try simp only [Act.put,x2,x3,x4,x5,x6,x7]
     refine tk (i:=17) (v:=?_) rfl (Or.inl ⟨by rfl,?_⟩) ?_
     rotate_left
     ·intro Wq hSw
      obtain ⟨v0,v1⟩:=(HV.out.below hSw).two
      clear hSw
      go_simp;all_goals (with_reducible rfl)
     try simp only [Act.put,x2,x3,x4,x5,x6,x7]
     refine tk (i:=18) (v:=?_) rfl (Or.inl ⟨by rfl,?_⟩) ?_
     rotate_left;· rintro _ -;go_simp;all_goals (with_reducible rfl)
     try simp only [Act.put,x2,x3,x4,x5,x6,x7]
     refine tk (i:=19) (v:=?_) rfl (Or.inl ⟨by rfl,?_⟩) ?_
     rotate_left;· rintro _ -;go_simp;all_goals (with_reducible rfl)
     try simp only [Act.put,x2,x3,x4,x5,x6,x7]
     refine tk (i:=20) (v:=?_) rfl (Or.inl ⟨by rfl,?_⟩) ?_
     rotate_left;· rintro _ -;go_simp;all_goals (with_reducible rfl)
     try simp only [Act.put,x2,x3,x4,x5,x6,x7]
     refine tk (i:=21) (v:=?_) rfl (Or.inl ⟨by rfl,?_⟩) ?_
     rotate_left;· rintro _ -;go_simp;all_goals (with_reducible rfl)
     try simp only [Act.put,x2,x3,x4,x5,x6,x7]
     refine tk (i:=22) (v:=?_) rfl (Or.inl ⟨by rfl,?_⟩) ?_
     rotate_left;· rintro _ -;go_simp;all_goals (with_reducible rfl)
     try simp only [Act.put,x2,x3,x4,x5,x6,x7]
     refine tk (i:=23) (v:=?_) rfl (Or.inl ⟨by rfl,?_⟩) ?_
     rotate_left;· rintro _ -;go_simp;all_goals (with_reducible rfl)
     try simp only [Act.put,x2,x3,x4,x5,x6,x7]
     refine tk (i:=24) (v:=?_) rfl (Or.inl ⟨by rfl,?_⟩) ?_
     rotate_left;· rintro _ -;go_simp;all_goals (with_reducible rfl)
     try simp only [Act.put,x2,x3,x4,x5,x6,x7]
     refine tk (i:=25) (v:=?_) rfl (Or.inl ⟨by rfl,?_⟩) ?_
     rotate_left
     ·intro Wq hSw
      obtain ⟨v0,v1⟩:=(HV.out.below hSw).two
      clear hSw
      go_simp;all_goals (with_reducible rfl)
     try simp only [Act.put,x2,x3,x4,x5,x6,x7]
     refine tk (i:=26) (v:=?_) rfl (Or.inl ⟨by rfl,?_⟩) ?_
     rotate_left
     ·intro Wq hSw
      have b1:((a:Int) < (p.length:Int))=True:=eq_true (by omega)
      have d1:(a < p.length)=True:=eq_true hap
      have c1:((0:Int) ≤ (a:Int))=True:=eq_true (by omega)
      clear hSw
      go_simp;all_goals (with_reducible rfl)
     try simp only [Act.put,x2,x3,x4,x5,x6,x7]
     refine tk (i:=27) (v:=?_) rfl (Or.inl ⟨by rfl,?_⟩) ?_
     rotate_left
     ·intro Wq hSw
      obtain ⟨k0,k1⟩:=ptRow_at (HP.out.below (bl_trans HB2.out hSw)) hap HQA.out
      clear hSw
      go_simp;all_goals (with_reducible rfl)
     try simp only [Act.put,x2,x3,x4,x5,x6,x7]
     refine tk (i:=28) (v:=?_) rfl (Or.inl ⟨by rfl,?_⟩) ?_
     rotate_left;· rintro _ -;go_simp;all_goals (with_reducible rfl)
     try simp only [Act.put,x2,x3,x4,x5,x6,x7]
     refine tk (i:=29) (v:=?_) rfl (Or.inl ⟨by rfl,?_⟩) ?_
     rotate_left;· rintro _ -;go_simp;all_goals (with_reducible rfl)
     try simp only [Act.put,x2,x3,x4,x5,x6,x7]
     refine tk (i:=30) (v:=?_) rfl (Or.inl ⟨by rfl,?_⟩) ?_
     rotate_left
     ·intro Wq hSw
      obtain ⟨v0,v1⟩:=(HV.out.below hSw).two
      clear hSw
      go_simp;all_goals (with_reducible rfl)
     try simp only [Act.put,x2,x3,x4,x5,x6,x7]
     refine tk (i:=31) (v:=?_) rfl (Or.inl ⟨by rfl,?_⟩) ?_
     rotate_left
     ·intro Wq hSw
      have b1:((b:Int) < (p.length:Int))=True:=eq_true (by omega)
      have d1:(b < p.length)=True:=eq_true hbp
      have c1:((0:Int) ≤ (b:Int))=True:=eq_true (by omega)
      clear hSw
      go_simp;all_goals (with_reducible rfl)
     try simp only [Act.put,x2,x3,x4,x5,x6,x7]
     refine tk (i:=32) (v:=?_) rfl (Or.inl ⟨by rfl,?_⟩) ?_
     rotate_left
     ·intro Wq hSw
      obtain ⟨k0,k1⟩:=ptRow_at (HP.out.below (bl_trans HB2.out hSw)) hbp HQB.out
      clear hSw
      go_simp;all_goals (with_reducible rfl)
     try simp only [Act.put,x2,x3,x4,x5,x6,x7]
     refine tk (i:=33) (v:=?_) rfl (Or.inl ⟨by rfl,?_⟩) ?_
     rotate_left;· rintro _ -;go_simp;all_goals (with_reducible rfl)
     try simp only [Act.put,x2,x3,x4,x5,x6,x7]
     refine tk (i:=34) (v:=?_) rfl (Or.inl ⟨by rfl,?_⟩) ?_
     rotate_left;· rintro _ -;go_simp;all_goals (with_reducible rfl)
     try simp only [Act.put,x2,x3,x4,x5,x6,x7]
     refine wpAnyH_done (by kernel_rfl) ?_ _
     go_wp2_with fail
     go_meet
     case rel=>exact ⟨by rw [HE.out],hHeld⟩
    ·have HE:=Lib.hid (decide_eq_false (show ¬ qa=qb from fun h=>e2 (by rw [h])))
     have b6:(qa.x=qb.x)=True:=eq_true e1
     have b7:(qa.y=qb.y)=False:=eq_false e2
     clear e1 e2
     refine wp_region_held_drew (S:=fun V=>Below W2.heap.size W2 V) (by kernel_rfl) ?_ (fun hHeld=>?_)
     ·exact bel_drew W2
     revert hHeld
     generalize World.drew _=W1
     intro hHeld 
     refine tk (i:=0) (v:=?_) rfl (Or.inl ⟨by rfl,?_⟩) ?_
     rotate_left;· rintro _ -;go_simp;all_goals (with_reducible rfl)
     try simp only [Act.put,x2,x4,x5,x6,x7]
     refine tk (i:=1) (v:=?_) rfl (Or.inl ⟨by rfl,?_⟩) ?_
     rotate_left
     ·intro Wq hSw
      obtain ⟨v0,v1⟩:=(HV.out.below hSw).two
      clear hSw
      go_simp;all_goals (with_reducible rfl)
     try simp only [Act.put,x2,x3,x4,x5,x6,x7]
     refine tk (i:=2) (v:=?_) rfl (Or.inl ⟨by rfl,?_⟩) ?_
     rotate_left;· rintro _ -;go_simp;all_goals (with_reducible rfl)
     try simp only [Act.put,x2,x3,x4,x5,x6,x7]
     refine tk (i:=3) (v:=?_) rfl (Or.inl ⟨by rfl,?_⟩) ?_
     rotate_left;· rintro _ -;go_simp;all_goals (with_reducible rfl)
     try simp only [Act.put,x2,x3,x4,x5,x6,x7]
     refine tk (i:=4) (v:=?_) rfl (Or.inl ⟨by rfl,?_⟩) ?_
     rotate_left;· rintro _ -;go_simp;all_goals (with_reducible rfl)
     try simp only [Act.put,x2,x3,x4,x5,x6,x7]
     refine tk (i:=5) (v:=?_) rfl (Or.inl ⟨by rfl,?_⟩) ?_
     rotate_left
     ·intro Wq hSw
      obtain ⟨v0,v1⟩:=(HV.out.below hSw).two
      clear hSw
      go_simp;all_goals (with_reducible rfl)
     try simp only [Act.put,x2,x3,x4,x5,x6,x7]
     refine tk (i:=6) (v:=?_) rfl (Or.inl ⟨by rfl,?_⟩) ?_
     rotate_left;· rintro _ -;go_simp;all_goals (with_reducible rfl)
     try simp only [Act.put,x2,x3,x4,x5,x6,x7]
     refine tk (i:=7) (v:=?_) rfl (Or.inl ⟨by rfl,?_⟩) ?_
     rotate_left;· rintro _ -;go_simp;all_goals (with_reducible rfl)
     try simp only [Act.put,x2,x3,x4,x5,x6,x7]
     refine tk (i:=8) (v:=?_) rfl (Or.inl ⟨by rfl,?_⟩) ?_
     rotate_left;· rintro _ -;go_simp;all_goals (with_reducible rfl)
     try simp only [Act.put,x2,x3,x4,x5,x6,x7]
     refine tk (i:=9) (v:=?_) rfl (Or.inl ⟨by rfl,?_⟩) ?_
     rotate_left;· rintro _ -;go_simp;all_goals (with_reducible rfl)
     try simp only [Act.put,x2,x3,x4,x5,x6,x7]
     refine tk (i:=10) (v:=?_) rfl (Or.inl ⟨by rfl,?_⟩) ?_
     rotate_left
     ·intro Wq hSw
      obtain ⟨v0,v1⟩:=(HV.out.below hSw).two
      clear hSw
      go_simp;all_goals (with_reducible rfl)
     try simp only [Act.put,x2,x3,x4,x5,x6,x7]
     refine tk (i:=11) (v:=?_) rfl (Or.inl ⟨by rfl,?_⟩) ?_
     rotate_left;· rintro _ -;go_simp;all_goals (with_reducible rfl)
     try simp only [Act.put,x2,x3,x4,x5,x6,x7]
     refine tk (i:=12) (v:=?_) rfl (Or.inl ⟨by rfl,?_⟩) ?_
     rotate_left;· rintro _ -;go_simp;all_goals (with_reducible rfl)
     try simp only [Act.put,x2,x3,x4,x5,x6,x7]
     refine tk (i:=13) (v:=?_) rfl (Or.inl ⟨by rfl,?_⟩) ?_
     rotate_left;· rintro _ -;go_simp;all_goals (with_reducible rfl)
     try simp only [Act.put,x2,x3,x4,x5,x6,x7]
     refine tk (i:=14) (v:=?_) rfl (Or.inl ⟨by rfl,?_⟩) ?_
     rotate_left;· rintro _ -;go_simp;all_goals (with_reducible rfl)
     try simp only [Act.put,x2,x3,x4,x5,x6,x7]
     refine tk (i:=15) (v:=?_) rfl (Or.inl ⟨by rfl,?_⟩) ?_
     rotate_left;· rintro _ -;go_simp;all_goals (with_reducible rfl)
     try simp only [Act.put,x2,x3,x4,x5,x6,x7]
     refine tk (i:=16) (v:=?_) rfl (Or.inl ⟨by rfl,?_⟩) ?_
     rotate_left;· rintro _ -;go_simp;all_goals (with_reducible rfl)
     try simp only [Act.put,x2,x3,x4,x5,x6,x7]
     refine tk (i:=17) (v:=?_) rfl (Or.inl ⟨by rfl,?_⟩) ?_
     rotate_left
     ·intro Wq hSw
      obtain ⟨v0,v1⟩:=(HV.out.below hSw).two
      clear hSw
      go_simp;all_goals (with_reducible rfl)
     try simp only [Act.put,x2,x3,x4,x5,x6,x7]
     refine tk (i:=18) (v:=?_) rfl (Or.inl ⟨by rfl,?_⟩) ?_
     rotate_left;· rintro _ -;go_simp;all_goals (with_reducible rfl)
     try simp only [Act.put,x2,x3,x4,x5,x6,x7]
     refine tk (i:=19) (v:=?_) rfl (Or.inl ⟨by rfl,?_⟩) ?_
     rotate_left;· rintro _ -;go_simp;all_goals (with_reducible rfl)
     try simp only [Act.put,x2,x3,x4,x5,x6,x7]
     refine tk (i:=20) (v:=?_) rfl (Or.inl ⟨by rfl,?_⟩) ?_
     rotate_left;· rintro _ -;go_simp;all_goals (with_reducible rfl)
     try simp only [Act.put,x2,x3,x4,x5,x6,x7]
     refine tk (i:=21) (v:=?_) rfl (Or.inl ⟨by rfl,?_⟩) ?_
     rotate_left;· rintro _ -;go_simp;all_goals (with_reducible rfl)
     try simp only [Act.put,x2,x3,x4,x5,x6,x7]
     refine tk (i:=22) (v:=?_) rfl (Or.inl ⟨by rfl,?_⟩) ?_
     rotate_left;· rintro _ -;go_simp;all_goals (with_reducible rfl)
     try simp only [Act.put,x2,x3,x4,x5,x6,x7]
     refine tk (i:=23) (v:=?_) rfl (Or.inl ⟨by rfl,?_⟩) ?_
     rotate_left;· rintro _ -;go_simp;all_goals (with_reducible rfl)
     try simp only [Act.put,x2,x3,x4,x5,x6,x7]
     refine tk (i:=24) (v:=?_) rfl (Or.inl ⟨by rfl,?_⟩) ?_
     rotate_left;· rintro _ -;go_simp;all_goals (with_reducible rfl)
     try simp only [Act.put,x2,x3,x4,x5,x6,x7]
     refine tk (i:=25) (v:=?_) rfl (Or.inl ⟨by rfl,?_⟩) ?_
     rotate_left
     ·intro Wq hSw
      obtain ⟨v0,v1⟩:=(HV.out.below hSw).two
      clear hSw
      go_simp;all_goals (with_reducible rfl)
     try simp only [Act.put,x2,x3,x4,x5,x6,x7]
     refine tk (i:=26) (v:=?_) rfl (Or.inl ⟨by rfl,?_⟩) ?_
     rotate_left
     ·intro Wq hSw
      have b1:((a:Int) < (p.length:Int))=True:=eq_true (by omega)
      have d1:(a < p.length)=True:=eq_true hap
      have c1:((0:Int) ≤ (a:Int))=True:=eq_true (by omega)
      clear hSw
      go_simp;all_goals (with_reducible rfl)
     try simp only [Act.put,x2,x3,x4,x5,x6,x7]
     refine tk (i:=27) (v:=?_) rfl (Or.inl ⟨by rfl,?_⟩) ?_
     rotate_left
     ·intro Wq hSw
      obtain ⟨k0,k1⟩:=ptRow_at (HP.out.below (bl_trans HB2.out hSw)) hap HQA.out
      clear hSw
      go_simp;all_goals (with_reducible rfl)
     try simp only [Act.put,x2,x3,x4,x5,x6,x7]
     refine tk (i:=28) (v:=?_) rfl (Or.inl ⟨by rfl,?_⟩) ?_
     rotate_left;· rintro _ -;go_simp;all_goals (with_reducible rfl)
     try simp only [Act.put,x2,x3,x4,x5,x6,x7]
     refine tk (i:=29) (v:=?_) rfl (Or.inl ⟨by rfl,?_⟩) ?_
     rotate_left;· rintro _ -;go_simp;all_goals (with_reducible rfl)
     try simp only [Act.put,x2,x3,x4,x5,x6,x7]
     refine tk (i:=30) (v:=?_) rfl (Or.inl ⟨by rfl,?_⟩) ?_
     rotate_left
     ·intro Wq hSw
      obtain ⟨v0,v1⟩:=(HV.out.below hSw).two
      clear hSw
      go_simp;all_goals (with_reducible rfl)
     try simp only [Act.put,x2,x3,x4,x5,x6,x7]
     refine tk (i:=31) (v:=?_) rfl (Or.inl ⟨by rfl,?_⟩) ?_
     rotate_left
     ·intro Wq hSw
      have b1:((b:Int) < (p.length:Int))=True:=eq_true (by omega)
      have d1:(b < p.length)=True:=eq_true hbp
      have c1:((0:Int) ≤ (b:Int))=True:=eq_true (by omega)
      clear hSw
      go_simp;all_goals (with_reducible rfl)
     try simp only [Act.put,x2,x3,x4,x5,x6,x7]
     refine tk (i:=32) (v:=?_) rfl (Or.inl ⟨by rfl,?_⟩) ?_
     rotate_left
     ·intro Wq hSw
      obtain ⟨k0,k1⟩:=ptRow_at (HP.out.below (bl_trans HB2.out hSw)) hbp HQB.out
      clear hSw
      go_simp;all_goals (with_reducible rfl)
     try simp only [Act.put,x2,x3,x4,x5,x6,x7]
     refine tk (i:=33) (v:=?_) rfl (Or.inl ⟨by rfl,?_⟩) ?_
     rotate_left;· rintro _ -;go_simp;all_goals (with_reducible rfl)
     try simp only [Act.put,x2,x3,x4,x5,x6,x7]
     refine tk (i:=34) (v:=?_) rfl (Or.inl ⟨by rfl,?_⟩) ?_
     rotate_left;· rintro _ -;go_simp;all_goals (with_reducible rfl)
     try simp only [Act.put,x2,x3,x4,x5,x6,x7]
     refine wpAnyH_done (by kernel_rfl) ?_ _
     go_wp2_with fail
     go_meet
     case rel=>exact ⟨by rw [HE.out],hHeld⟩
   case rest=>
   obtain ⟨rfl,hb5⟩:=hcut
   replace HV:=Lib.hid (HV.out.below hb5)
   replace HB2:=Lib.hid (bl_trans HB2.out hb5)
   clear hb5 h3 hne HB
   by_cases hqq:qa=qb
   ·rw [decide_eq_true hqq] at HCk ⊢
    have HN:Hid (checkL kk p l=false):=HNo.out (by rw [HCk.out];cases fitB qa <;> cases fitB qb <;> rfl)
    clear hqq
    go_wp2_with fail
    go_ret
    exact ⟨by rw [HN.out];rfl,HB2.out⟩
   rw [decide_eq_false hqq] at HCk ⊢
   clear hqq
   have b1:((a:Int) < (p.length:Int))=True:=eq_true (by omega)
   have d1:(a < p.length)=True:=eq_true hap
   have c1:((0:Int) ≤ (a:Int))=True:=eq_true (by omega)
   have b3:((b:Int) < (p.length:Int))=True:=eq_true (by omega)
   have d3:(b < p.length)=True:=eq_true hbp
   have c3:((0:Int) ≤ (b:Int))=True:=eq_true (by omega)
   obtain ⟨fa,hfa⟩:∃ r,fitB qa=r:=⟨_,rfl⟩
   obtain ⟨fb,hfb⟩:∃ r,fitB qb=r:=⟨_,rfl⟩
   obtain ⟨ga,hga⟩:∃ r,fitB (scaleP kk qa)=r:=⟨_,rfl⟩
   obtain ⟨gb,hgb⟩:∃ r,fitB (scaleP kk qb)=r:=⟨_,rfl⟩
   have HF1:=Lib.hid (fun W=>refFits3_l qa W)
   have HF2:=Lib.hid (fun W=>refFits3_l qb W)
   have HF3:=Lib.hid (fun W=>refFits3_l (scaleP kk qa) W)
   have HF4:=Lib.hid (fun W=>refFits3_l (scaleP kk qb) W)
   rw [hfa] at HF1 HCk
   rw [hfb] at HF2 HCk
   rw [hga] at HF3 HCk
   rw [hgb] at HF4 HCk
   have HFA:=Lib.hid hfa
   have HFB:=Lib.hid hfb
   clear hfa hfb hga hgb
   obtain ⟨v0,v1⟩:=HV.out.two
   obtain ⟨k0,k1⟩:=ptRow_at (HP.out.below HB2.out) hap HQA.out
   obtain ⟨k2,k3⟩:=ptRow_at (HP.out.below HB2.out) hbp HQB.out
   go_wp2_with fail
   (with_reducible refine (HF1.out _).mono ?_);rintro e w3 ⟨rfl,hb5⟩
   replace HV:=Lib.hid (HV.out.below hb5)
   replace HB2:=Lib.hid (bl_trans HB2.out hb5)
   clear hb5 v0 v1 k0 k1 k2 k3
   obtain ⟨v0,v1⟩:=HV.out.two
   obtain ⟨k0,k1⟩:=ptRow_at (HP.out.below HB2.out) hap HQA.out
   obtain ⟨k2,k3⟩:=ptRow_at (HP.out.below HB2.out) hbp HQB.out
   cases fa
   ·have HN:Hid (checkL kk p l=false):=HNo.out (by rw [HCk.out];rfl)
    go_wp2_with fail
    go_ret
    exact ⟨by rw [HN.out];rfl,HB2.out⟩
   go_wp2_with fail
   (with_reducible refine (HF2.out _).mono ?_);rintro e w4 ⟨rfl,hb5⟩
   replace HV:=Lib.hid (HV.out.below hb5)
   replace HB2:=Lib.hid (bl_trans HB2.out hb5)
   clear hb5 v0 v1 k0 k1 k2 k3
   obtain ⟨v0,v1⟩:=HV.out.two
   obtain ⟨k0,k1⟩:=ptRow_at (HP.out.below HB2.out) hap HQA.out
   obtain ⟨k2,k3⟩:=ptRow_at (HP.out.below HB2.out) hbp HQB.out
   cases fb
   ·have HN:Hid (checkL kk p l=false):=HNo.out (by rw [HCk.out];rfl)
    go_wp2_with fail
    go_ret
    exact ⟨by rw [HN.out];rfl,HB2.out⟩
   have HT1:=Lib.hid (fun W=>times9_l qa kk HFA.out hk0 hk3 W)
   have HT2:=Lib.hid (fun W=>times9_l qb kk HFB.out hk0 hk3 W)
   generalize scaleP kk qa=sa at *
   generalize scaleP kk qb=sb at *
   go_wp2_with fail
   (with_reducible refine (HT1.out _).mono ?_);rintro e w5 ⟨rfl,hb5⟩
   replace HV:=Lib.hid (HV.out.below hb5)
   replace HB2:=Lib.hid (bl_trans HB2.out hb5)
   clear hb5 v0 v1 k0 k1 k2 k3
   obtain ⟨v0,v1⟩:=HV.out.two
   obtain ⟨k0,k1⟩:=ptRow_at (HP.out.below HB2.out) hap HQA.out
   obtain ⟨k2,k3⟩:=ptRow_at (HP.out.below HB2.out) hbp HQB.out
   go_wp2_with fail
   (with_reducible refine (HF3.out _).mono ?_);rintro e w6 ⟨rfl,hb5⟩
   replace HV:=Lib.hid (HV.out.below hb5)
   replace HB2:=Lib.hid (bl_trans HB2.out hb5)
   clear hb5 v0 v1 k0 k1 k2 k3
   obtain ⟨v0,v1⟩:=HV.out.two
   obtain ⟨k0,k1⟩:=ptRow_at (HP.out.below HB2.out) hap HQA.out
   obtain ⟨k2,k3⟩:=ptRow_at (HP.out.below HB2.out) hbp HQB.out
   cases ga
   ·have HN:Hid (checkL kk p l=false):=HNo.out (by rw [HCk.out];rfl)
    go_wp2_with fail
    go_ret
    exact ⟨by rw [HN.out];rfl,HB2.out⟩
   go_wp2_with fail
   (with_reducible refine (HT2.out _).mono ?_);rintro e w7 ⟨rfl,hb5⟩
   replace HV:=Lib.hid (HV.out.below hb5)
   replace HB2:=Lib.hid (bl_trans HB2.out hb5)
   clear hb5 v0 v1 k0 k1 k2 k3
   obtain ⟨v0,v1⟩:=HV.out.two
   obtain ⟨k0,k1⟩:=ptRow_at (HP.out.below HB2.out) hap HQA.out
   obtain ⟨k2,k3⟩:=ptRow_at (HP.out.below HB2.out) hbp HQB.out
   go_wp2_with fail
   (with_reducible refine (HF4.out _).mono ?_);rintro e w8 ⟨rfl,hb5⟩
   replace HV:=Lib.hid (HV.out.below hb5)
   replace HB2:=Lib.hid (bl_trans HB2.out hb5)
   clear hb5 v0 v1 k0 k1 k2 k3
   obtain ⟨v0,v1⟩:=HV.out.two
   obtain ⟨k0,k1⟩:=ptRow_at (HP.out.below HB2.out) hap HQA.out
   obtain ⟨k2,k3⟩:=ptRow_at (HP.out.below HB2.out) hbp HQB.out
   cases gb
   ·have HN:Hid (checkL kk p l=false):=HNo.out (by rw [HCk.out];rfl)
    go_wp2_with fail
    go_ret
    exact ⟨by rw [HN.out];rfl,HB2.out⟩
   have HY:Hid (chkB kk p (pget l k)=true):=by unfold Hid;rw [HSK.out,HCk.out];rfl
   obtain ⟨m1,m2,m3,m4⟩:=wnum (i:=k) (by omega)
   go_wp2_with fail
   clear m1 m2 m3 m4
   refine ⟨⟨k + 1,hlt,by rw [Int.natCast_add];rfl,fun i hi=>?_,HB2.out⟩,by simp [intOf];omega⟩
   rcases Nat.lt_or_eq_of_le (Nat.le_of_lt_succ hi) with h | rfl
   ·exact HS.out i h
   ·exact HY.out
  ·obtain rfl:k=l.length:=by omega
   have b2:((l.length:Int) < (l.length:Int))=False:=eq_false (by omega)
   have HY:Hid (checkL kk p l=true):=check_iff.2 HS.out
   go_wp2_with fail
   go_ret
   exact ⟨by rw [HY.out];rfl,HB.out⟩
end Go.Proofs.YtpjaefcmaiimlaaGreat
