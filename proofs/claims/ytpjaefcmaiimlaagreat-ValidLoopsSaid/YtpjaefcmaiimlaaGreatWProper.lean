/-
  Contracts of within's point, proper, fit.
-/
import Derived.Test.YtpjaefcmaiimlaaGreatWMem
set_option linter.unusedVariables false
set_option linter.unusedSimpArgs false
set_option linter.deprecated false
namespace Go.Proofs.YtpjaefcmaiimlaaGreat
open Go.RowKit

set_option maxHeartbeats 8000000 in
set_option maxRecDepth 100000 in
theorem point_l (p:List Pt) (ap:Option Addr) (cp:Nat) (k:Int) (i:Int) (w:World) (hP:PtRow w ap p) (hk:knownB p i=true) (k0:0 ≤ k) (k3:k ≤ 3) :
  Calls Tryz.prog 84 #[.agg #[.slice ap p.length cp,.int .i64 k],.int .i64 i] w (Gives (.agg #[.int .i64 (scaleP k (ptI p i)).x,.int .i64 (scaleP k (ptI p i)).y]) w):=by
 obtain ⟨h0,h1,hf⟩:=known_iff.1 hk
 obtain ⟨a,rfl⟩:=Int.eq_ofNat_of_zero_le h0
 have hap:a < p.length:=by omega
 obtain ⟨q,hq⟩:∃ q,pget p a=q:=⟨_,rfl⟩
 have hpt:ptI p (a:Int)=q:=by unfold ptI;rw [Int.toNat_natCast,hq]
 rw [hpt] at hf ⊢
 have HSW:=hi (scale_w hf k0 k3)
 have HP:=hi hP
 obtain ⟨gp,op,rfl⟩:=HP.out.some (by omega)
 have HQ:=hi hq
 clear hP hk hf hpt hq h0 h1 k0 k3
 go_enter Tryz.func84,Tryz.ntmps84
 go_upto_region 1 with (fail)
 refine wp_abs (fun V=>Below w.heap.size w V∧Var V w.heap.size [.slice (some ⟨gp,op,none⟩) p.length cp,.int .i64 k]∧Slot2 V (w.heap.size + 1)) ?_ ?_
 ·exact ⟨by repeat (first | (with_reducible exact Below.refl _ _) | (with_reducible refine bl_alloc ?_ _) | (with_reducible refine Below.drew ?_) | (with_reducible refine below_drewN' ?_ _) | ((with_reducible refine bl_set ?_ ?_ _);(rotate_left;(dsimp only;omega)))),(var2_new _ _ _ _ _ rfl).below (bl_one _ _),⟨_,_,var2_new _ _ _ _ _ (by simp)⟩⟩
 rintro W0 hS0
 have HS0:=hi hS0
 clear hS0

 refine wp_region_held_drew (S:=fun V=>Below w.heap.size w V∧Var V w.heap.size [.slice (some ⟨gp,op,none⟩) p.length cp,.int .i64 k]∧Slot2 V (w.heap.size + 1)) (by kernel_rfl) ?_ (fun q1=>?_)
 ·exact ⟨bl_trans HS0.out.1 (bel_drew _),HS0.out.2.1.below (bel_drew _),HS0.out.2.2.below (bel_drew _)⟩
 revert q1
 generalize World.drew _=W1
 intro q1 
 refine tk (i:=0) (v:=?_) rfl (Or.inl ⟨by rfl,?_⟩) ?_
 rotate_left
 ·rintro _ -
  go_simp
  all_goals (with_reducible rfl)
 try simp only [Act.put,x2,x4,x5,x6,x7]
 refine tk (i:=1) (v:=?_) rfl (Or.inl ⟨by rfl,?_⟩) ?_
 rotate_left
 ·intro Wq hSw
  obtain ⟨k0,k1⟩:=hSw.2.1.two
  clear hSw
  go_simp
  all_goals (with_reducible rfl)
 try simp only [Act.put,x2,x3,x4,x5,x6,x7]
 refine tk (i:=2) (v:=?_) rfl (Or.inl ⟨by rfl,?_⟩) ?_
 rotate_left
 ·rintro _ -
  go_simp
  all_goals (with_reducible rfl)
 try simp only [Act.put,x2,x3,x4,x5,x6,x7]
 refine tk (i:=3) (v:=?_) rfl (Or.inl ⟨by rfl,?_⟩) ?_
 rotate_left
 ·intro Wq hSw
  obtain ⟨k0,k1⟩:=hSw.2.1.two
  clear hSw
  go_simp
  all_goals (with_reducible rfl)
 try simp only [Act.put,x2,x3,x4,x5,x6,x7]
 refine tk (i:=4) (v:=?_) rfl (Or.inl ⟨by rfl,?_⟩) ?_
 rotate_left
 ·rintro _ -
  go_simp
  all_goals (with_reducible rfl)
 try simp only [Act.put,x2,x3,x4,x5,x6,x7]
 refine tk (i:=5) (v:=?_) rfl (Or.inl ⟨by rfl,?_⟩) ?_
 rotate_left
 ·intro Wq hSw
  have b1:((a:Int) < (p.length:Int))=True:=eq_true (by omega)
  have d1:(a < p.length)=True:=eq_true hap
  have c1:((0:Int) ≤ (a:Int))=True:=eq_true (by omega)
  clear hSw
  go_simp
  all_goals (with_reducible rfl)
 try simp only [Act.put,x2,x3,x4,x5,x6,x7]
 refine tk (i:=6) (v:=?_) rfl (Or.inl ⟨by rfl,?_⟩) ?_
 rotate_left
 ·rintro _ -
  go_simp
  all_goals (with_reducible rfl)
 try simp only [Act.put,x2,x3,x4,x5,x6,x7]
 refine tk (i:=7) (v:=?_) rfl (Or.inl ⟨by rfl,?_⟩) ?_
 rotate_left
 ·intro Wq hSw
  obtain ⟨k0,k1⟩:=ptRow_at (HP.out.below hSw.1) hap HQ.out
  clear hSw
  go_simp
  all_goals (with_reducible rfl)
 try simp only [Act.put,x2,x3,x4,x5,x6,x7]
 refine tk (i:=8) (v:=?_) rfl (Or.inl ⟨by rfl,?_⟩) ?_
 rotate_left
 ·intro Wq hSw
  have m1:=HSW.out.1
  clear hSw
  go_simp
  all_goals (with_reducible rfl)
 try simp only [Act.put,x2,x3,x4,x5,x6,x7]
 refine tk (i:=9) (v:=?_) rfl (Or.inl ⟨by rfl,?_⟩) ?_
 rotate_left
 ·rintro _ -
  go_simp
  all_goals (with_reducible rfl)
 try simp only [Act.put,x2,x3,x4,x5,x6,x7]
 refine tk (i:=10) (v:=?_) rfl (Or.inl ⟨by rfl,?_⟩) ?_
 rotate_left
 ·intro Wq hSw
  obtain ⟨k0,k1⟩:=hSw.2.1.two
  clear hSw
  go_simp
  all_goals (with_reducible rfl)
 try simp only [Act.put,x2,x3,x4,x5,x6,x7]
 refine tk (i:=11) (v:=?_) rfl (Or.inl ⟨by rfl,?_⟩) ?_
 rotate_left
 ·rintro _ -
  go_simp
  all_goals (with_reducible rfl)
 try simp only [Act.put,x2,x3,x4,x5,x6,x7]
 refine tk (i:=12) (v:=?_) rfl (Or.inl ⟨by rfl,?_⟩) ?_
 rotate_left
 ·intro Wq hSw
  obtain ⟨k0,k1⟩:=hSw.2.1.two
  clear hSw
  go_simp
  all_goals (with_reducible rfl)
 try simp only [Act.put,x2,x3,x4,x5,x6,x7]
 refine tk (i:=13) (v:=?_) rfl (Or.inl ⟨by rfl,?_⟩) ?_
 rotate_left
 ·rintro _ -
  go_simp
  all_goals (with_reducible rfl)
 try simp only [Act.put,x2,x3,x4,x5,x6,x7]
 refine tk (i:=14) (v:=?_) rfl (Or.inl ⟨by rfl,?_⟩) ?_
 rotate_left
 ·intro Wq hSw
  have b1:((a:Int) < (p.length:Int))=True:=eq_true (by omega)
  have d1:(a < p.length)=True:=eq_true hap
  have c1:((0:Int) ≤ (a:Int))=True:=eq_true (by omega)
  clear hSw
  go_simp
  all_goals (with_reducible rfl)
 try simp only [Act.put,x2,x3,x4,x5,x6,x7]
 refine tk (i:=15) (v:=?_) rfl (Or.inl ⟨by rfl,?_⟩) ?_
 rotate_left
 ·rintro _ -
  go_simp
  all_goals (with_reducible rfl)
 try simp only [Act.put,x2,x3,x4,x5,x6,x7]
 refine tk (i:=16) (v:=?_) rfl (Or.inl ⟨by rfl,?_⟩) ?_
 rotate_left
 ·intro Wq hSw
  obtain ⟨k0,k1⟩:=ptRow_at (HP.out.below hSw.1) hap HQ.out
  clear hSw
  go_simp
  all_goals (with_reducible rfl)
 try simp only [Act.put,x2,x3,x4,x5,x6,x7]
 refine tk (i:=17) (v:=?_) rfl (Or.inl ⟨by rfl,?_⟩) ?_
 rotate_left
 ·intro Wq hSw
  have m1:=HSW.out.2
  clear hSw
  go_simp
  all_goals (with_reducible rfl)
 try simp only [Act.put,x2,x3,x4,x5,x6,x7]
 refine tk (i:=18) (v:=?_) rfl (Or.inl ⟨by rfl,?_⟩) ?_
 rotate_left
 ·rintro _ -
  go_simp
  all_goals (with_reducible rfl)
 try simp only [Act.put,x2,x3,x4,x5,x6,x7]
 refine r1 (i:=19) rfl (fun K hK=>?_)
 obtain ⟨za,zb,vr⟩:=(id q1).2.2
 obtain ⟨k0,k1⟩:=vr.two
 obtain ⟨f0,f1⟩:=vr.free2
 go_simp
 refine hK.out _ _ ⟨bl_set (bl_set (id q1).1 (by dsimp only;omega) _) (by dsimp only;omega) _,((id q1).2.1.far (by dsimp only;omega) _).far (by dsimp only;omega) _,⟨_,_,vr.set2 _ _⟩⟩ (fun q2=>?_)
 have VN:=hi (vr.set2 (.int .i64 (k * q.x)) (.int .i64 (k * q.y)))
 have HB:=hi q2.1
 clear hK K q1 q2 k0 k1 f0 f1 vr
 try simp only [Act.put,x2,x3,x4,x5,x6,x7]
 refine wpAnyH_done (by kernel_rfl) ?_ _
 obtain ⟨d0,d1⟩:=VN.out.two
 clear VN
 go_wp2_with fail
 refine bodyPost_ret (v:=.agg #[.int .i64 (k * q.x),.int .i64 (k * q.y)]) (by simp [results,Tryz.results84,go_sem,d0,d1];done) rfl ⟨rfl,HB.out⟩

set_option maxHeartbeats 8000000 in
set_option maxRecDepth 100000 in
theorem proper9_l (p l:List Pt) (ap al:Option Addr) (cp cl:Nat) (w:World) (hP:PtRow w ap p) (hL:PtRow w al l) (hll:l.length ≤ 10000) :
  Calls Tryz.prog 81 #[.slice ap p.length cp,.slice al l.length cl] w (Gives (.bool (properL p l)) w):=by
 have HP:=hi hP
 have HL:=hi hL
 clear hP hL
 go_enter Tryz.func81,Tryz.ntmps81
 go_wp2_with fail
 go_loopw [9] (fun iv W=>∃ k:Nat,k ≤ l.length∧iv=.int .i64 k∧(∀ i,i < k → okSeg9 p (pget l i)=true)∧Below w.heap.size w W) (fun iv _=>l.length - (intOf iv).toNat)
 case atStart=>exact ⟨0,Nat.zero_le _,rfl,fun i hi=>absurd hi (Nat.not_lt_zero _),Below.refl _ _⟩
 case round=>
  obtain ⟨k,hk,rfl,hS,hB⟩:=hrel
  have HB:=hi hB
  have HS:=hi hS
  clear hB hS
  by_cases hlt:k < l.length
  ·have b2:((k:Int) < (l.length:Int))=True:=eq_true (by omega)
   have d2:(k < l.length)=True:=eq_true hlt
   have c2:((0:Int) ≤ (k:Int))=True:=eq_true (by omega)
   obtain ⟨g,o,rfl⟩:=HL.out.some (by omega)
   obtain ⟨s,hs⟩:∃ s,pget l k=s:=⟨_,rfl⟩
   have HSK:=hi hs
   obtain ⟨k0,k1⟩:=ptRow_at (HL.out.below HB.out) hlt hs
   obtain ⟨x,hx⟩:∃ x,s.x=x:=⟨_,rfl⟩
   obtain ⟨y,hy⟩:∃ y,s.y=y:=⟨_,rfl⟩
   rw [hx] at k0
   rw [hy] at k1
   obtain ⟨r1,hr1⟩:∃ r,knownB p x=r:=⟨_,rfl⟩
   obtain ⟨r2,hr2⟩:∃ r,knownB p y=r:=⟨_,rfl⟩
   obtain ⟨ee,he⟩:∃ r,eqB (ptI p x) (ptI p y)=r:=⟨_,rfl⟩
   have HOK:Hid (okSeg9 p (pget l k)=(r1 && r2 && !ee)):=by
    unfold Hid okSeg9
    rw [hs,hx,hy,hr1,hr2,← he];rfl
   have HR1:=hi hr1
   have HR2:=hi hr2
   have HE:=hi he
   clear hs hx hy hr1 hr2 he
   go_upto_region 4 with (fail)
   have HV:=hi (var2_new wr (.int .i64 x) (.int .i64 y) 59 wr.heap.size rfl)
   have HB2:=hi (bl_trans HB.out (bl_one wr (.cells #[.int .i64 x,.int .i64 y] 59)))
   generalize wr.alloc (.cells #[.int .i64 x,.int .i64 y] 59)=W2 at *
   generalize wr.heap.size=g8 at *
   clear k0 k1
   have HK1:Hid (∀ W,Below W2.heap.size W2 W → Calls Tryz.prog 109 #[.slice ap p.length cp,.int .i64 x] W (Gives (.bool r1) W)):=fun W h=>by
    have:=known9_l p ap cp x W (HP.out.below (bl_trans HB2.out h))
    rwa [HR1.out] at this
   have HK2:Hid (∀ W,Below W2.heap.size W2 W → Calls Tryz.prog 109 #[.slice ap p.length cp,.int .i64 y] W (Gives (.bool r2) W)):=fun W h=>by
    have:=known9_l p ap cp y W (HP.out.below (bl_trans HB2.out h))
    rwa [HR2.out] at this
   cases r1
   case false=>
    have HN:Hid (properL p l=false):=by
     unfold Hid;rw [Bool.eq_false_iff];intro h
     have:=proper_iff.1 h k hlt
     rw [HOK.out] at this;cases this
    clear HR1 HR2 HE HK2 HOK HS HSK
    refine wp_region_held_drew (S:=fun V=>Below W2.heap.size W2 V) (by kernel_rfl) ?_ (fun q1=>?_)
    ·exact bel_drew W2
    revert q1
    generalize World.drew _=W1
    intro q1 
    refine tk (i:=0) (v:=?_) rfl (Or.inl ⟨by rfl,?_⟩) ?_
    rotate_left
    ·rintro _ -
     go_simp
     all_goals (with_reducible rfl)
    try simp only [Act.put,x2,x4,x5,x6,x7]
    refine tk (i:=1) (v:=?_) rfl (Or.inl ⟨by rfl,?_⟩) ?_
    rotate_left
    ·rintro _ -
     go_simp
     all_goals (with_reducible rfl)
    try simp only [Act.put,x2,x3,x4,x5,x6,x7]
    refine tk (i:=2) (v:=?_) rfl (Or.inl ⟨by rfl,?_⟩) ?_
    rotate_left
    ·intro Wq hSw
     obtain ⟨v0,v1⟩:=(HV.out.below hSw).two
     clear hSw
     go_simp
     all_goals (with_reducible rfl)
    try simp only [Act.put,x2,x3,x4,x5,x6,x7]
    refine r1 (i:=3) rfl (fun K hK=>?_)
    go_simp
    (with_reducible refine (HK1.out _ q1).mono ?_)
    rintro e w1 ⟨rfl,hb1⟩
    go_wp2_with fail
    refine hK.out _ _ (bl_trans q1 hb1) (fun q2=>?_)
    clear hK K q1
    have q1:=q2
    clear q2
    try simp only [Act.put,x2,x3,x4,x5,x6,x7]
    refine tk (i:=4) (v:=?_) rfl (Or.inl ⟨by rfl,?_⟩) ?_
    rotate_left
    ·rintro _ -
     go_simp
     all_goals (with_reducible rfl)
    try simp only [Act.put,x2,x3,x4,x5,x6,x7]
    refine tk (i:=5) (v:=?_) rfl (Or.inl ⟨by rfl,?_⟩) ?_
    rotate_left
    ·rintro _ -
     go_simp
     all_goals (with_reducible rfl)
    try simp only [Act.put,x2,x3,x4,x5,x6,x7]
    refine tk (i:=6) (v:=_) rfl (Or.inr ⟨by rfl,rfl⟩) ?_
    try simp only [Act.put,x2,x3,x4,x5,x6,x7]
    refine tk (i:=7) (v:=_) rfl (Or.inr ⟨by rfl,rfl⟩) ?_
    try simp only [Act.put,x2,x3,x4,x5,x6,x7]
    refine tk (i:=8) (v:=_) rfl (Or.inr ⟨by rfl,rfl⟩) ?_
    try simp only [Act.put,x2,x3,x4,x5,x6,x7]
    refine tk (i:=9) (v:=_) rfl (Or.inr ⟨by rfl,rfl⟩) ?_
    try simp only [Act.put,x2,x3,x4,x5,x6,x7]
    refine tk (i:=10) (v:=_) rfl (Or.inr ⟨by rfl,rfl⟩) ?_
    try simp only [Act.put,x2,x3,x4,x5,x6,x7]
    refine tk (i:=11) (v:=?_) rfl (Or.inl ⟨by rfl,?_⟩) ?_
    rotate_left
    ·rintro _ -
     go_simp
     all_goals (with_reducible rfl)
    try simp only [Act.put,x2,x3,x4,x5,x6,x7]
    refine tk (i:=12) (v:=?_) rfl (Or.inl ⟨by rfl,?_⟩) ?_
    rotate_left
    ·rintro _ -
     go_simp
     all_goals (with_reducible rfl)
    try simp only [Act.put,x2,x3,x4,x5,x6,x7]
    refine tk (i:=13) (v:=_) rfl (Or.inr ⟨by rfl,rfl⟩) ?_
    try simp only [Act.put,x2,x3,x4,x5,x6,x7]
    refine tk (i:=14) (v:=_) rfl (Or.inr ⟨by rfl,rfl⟩) ?_
    try simp only [Act.put,x2,x3,x4,x5,x6,x7]
    refine tk (i:=15) (v:=_) rfl (Or.inr ⟨by rfl,rfl⟩) ?_
    try simp only [Act.put,x2,x3,x4,x5,x6,x7]
    refine tk (i:=16) (v:=_) rfl (Or.inr ⟨by rfl,rfl⟩) ?_
    try simp only [Act.put,x2,x3,x4,x5,x6,x7]
    refine tk (i:=17) (v:=_) rfl (Or.inr ⟨by rfl,rfl⟩) ?_
    try simp only [Act.put,x2,x3,x4,x5,x6,x7]
    refine tk (i:=18) (v:=_) rfl (Or.inr ⟨by rfl,rfl⟩) ?_
    try simp only [Act.put,x2,x3,x4,x5,x6,x7]
    refine tk (i:=19) (v:=_) rfl (Or.inr ⟨by rfl,rfl⟩) ?_
    try simp only [Act.put,x2,x3,x4,x5,x6,x7]
    refine tk (i:=20) (v:=_) rfl (Or.inr ⟨by rfl,rfl⟩) ?_
    try simp only [Act.put,x2,x3,x4,x5,x6,x7]
    refine tk (i:=21) (v:=_) rfl (Or.inr ⟨by rfl,rfl⟩) ?_
    try simp only [Act.put,x2,x3,x4,x5,x6,x7]
    refine tk (i:=22) (v:=_) rfl (Or.inr ⟨by rfl,rfl⟩) ?_
    try simp only [Act.put,x2,x3,x4,x5,x6,x7]
    refine tk (i:=23) (v:=_) rfl (Or.inr ⟨by rfl,rfl⟩) ?_
    try simp only [Act.put,x2,x3,x4,x5,x6,x7]
    refine tk (i:=24) (v:=?_) rfl (Or.inl ⟨by rfl,?_⟩) ?_
    rotate_left
    ·rintro _ -
     go_simp
     all_goals (with_reducible rfl)
    try simp only [Act.put,x2,x3,x4,x5,x6,x7]
    refine wpAnyH_done (by kernel_rfl) ?_ _
    have HBz:=hi (bl_trans HB2.out q1)
    clear q1 HV HB HB2
    go_wp2_with fail
    go_ret
    exact ⟨by rw [HN.out];rfl,HBz.out⟩
   case true=>
   cases r2
   case false=>
    have HN:Hid (properL p l=false):=by
     unfold Hid;rw [Bool.eq_false_iff];intro h
     have:=proper_iff.1 h k hlt
     rw [HOK.out] at this;cases this
    clear HR1 HR2 HE HOK HS HSK
    refine wp_region_held_drew (S:=fun V=>Below W2.heap.size W2 V) (by kernel_rfl) ?_ (fun q1=>?_)
    ·exact bel_drew W2
    revert q1
    generalize World.drew _=W1
    intro q1 
    refine tk (i:=0) (v:=?_) rfl (Or.inl ⟨by rfl,?_⟩) ?_
    rotate_left
    ·rintro _ -
     go_simp
     all_goals (with_reducible rfl)
    try simp only [Act.put,x2,x4,x5,x6,x7]
    refine tk (i:=1) (v:=?_) rfl (Or.inl ⟨by rfl,?_⟩) ?_
    rotate_left
    ·rintro _ -
     go_simp
     all_goals (with_reducible rfl)
    try simp only [Act.put,x2,x3,x4,x5,x6,x7]
    refine tk (i:=2) (v:=?_) rfl (Or.inl ⟨by rfl,?_⟩) ?_
    rotate_left
    ·intro Wq hSw
     obtain ⟨v0,v1⟩:=(HV.out.below hSw).two
     clear hSw
     go_simp
     all_goals (with_reducible rfl)
    try simp only [Act.put,x2,x3,x4,x5,x6,x7]
    refine r1 (i:=3) rfl (fun K hK=>?_)
    go_simp
    (with_reducible refine (HK1.out _ q1).mono ?_)
    rintro e w1 ⟨rfl,hb1⟩
    go_wp2_with fail
    refine hK.out _ _ (bl_trans q1 hb1) (fun q2=>?_)
    clear hK K q1
    have q1:=q2
    clear q2
    try simp only [Act.put,x2,x3,x4,x5,x6,x7]
    refine tk (i:=4) (v:=?_) rfl (Or.inl ⟨by rfl,?_⟩) ?_
    rotate_left
    ·rintro _ -
     go_simp
     all_goals (with_reducible rfl)
    try simp only [Act.put,x2,x3,x4,x5,x6,x7]
    refine tk (i:=5) (v:=?_) rfl (Or.inl ⟨by rfl,?_⟩) ?_
    rotate_left
    ·rintro _ -
     go_simp
     all_goals (with_reducible rfl)
    try simp only [Act.put,x2,x3,x4,x5,x6,x7]
    refine tk (i:=6) (v:=?_) rfl (Or.inl ⟨by rfl,?_⟩) ?_
    rotate_left
    ·rintro _ -
     go_simp
     all_goals (with_reducible rfl)
    try simp only [Act.put,x2,x3,x4,x5,x6,x7]
    refine tk (i:=7) (v:=?_) rfl (Or.inl ⟨by rfl,?_⟩) ?_
    rotate_left
    ·rintro _ -
     go_simp
     all_goals (with_reducible rfl)
    try simp only [Act.put,x2,x3,x4,x5,x6,x7]
    refine tk (i:=8) (v:=?_) rfl (Or.inl ⟨by rfl,?_⟩) ?_
    rotate_left
    ·intro Wq hSw
     obtain ⟨v0,v1⟩:=(HV.out.below hSw).two
     clear hSw
     go_simp
     all_goals (with_reducible rfl)
    try simp only [Act.put,x2,x3,x4,x5,x6,x7]
    refine r1 (i:=9) rfl (fun K hK=>?_)
    go_simp
    (with_reducible refine (HK2.out _ q1).mono ?_)
    rintro e w1 ⟨rfl,hb1⟩
    go_wp2_with fail
    refine hK.out _ _ (bl_trans q1 hb1) (fun q2=>?_)
    clear hK K q1
    have q1:=q2
    clear q2
    try simp only [Act.put,x2,x3,x4,x5,x6,x7]
    refine tk (i:=10) (v:=?_) rfl (Or.inl ⟨by rfl,?_⟩) ?_
    rotate_left
    ·rintro _ -
     go_simp
     all_goals (with_reducible rfl)
    try simp only [Act.put,x2,x3,x4,x5,x6,x7]
    refine tk (i:=11) (v:=?_) rfl (Or.inl ⟨by rfl,?_⟩) ?_
    rotate_left
    ·rintro _ -
     go_simp
     all_goals (with_reducible rfl)
    try simp only [Act.put,x2,x3,x4,x5,x6,x7]
    refine tk (i:=12) (v:=?_) rfl (Or.inl ⟨by rfl,?_⟩) ?_
    rotate_left
    ·rintro _ -
     go_simp
     all_goals (with_reducible rfl)
    try simp only [Act.put,x2,x3,x4,x5,x6,x7]
    refine tk (i:=13) (v:=_) rfl (Or.inr ⟨by rfl,rfl⟩) ?_
    try simp only [Act.put,x2,x3,x4,x5,x6,x7]
    refine tk (i:=14) (v:=_) rfl (Or.inr ⟨by rfl,rfl⟩) ?_
    try simp only [Act.put,x2,x3,x4,x5,x6,x7]
    refine tk (i:=15) (v:=_) rfl (Or.inr ⟨by rfl,rfl⟩) ?_
    try simp only [Act.put,x2,x3,x4,x5,x6,x7]
    refine tk (i:=16) (v:=_) rfl (Or.inr ⟨by rfl,rfl⟩) ?_
    try simp only [Act.put,x2,x3,x4,x5,x6,x7]
    refine tk (i:=17) (v:=_) rfl (Or.inr ⟨by rfl,rfl⟩) ?_
    try simp only [Act.put,x2,x3,x4,x5,x6,x7]
    refine tk (i:=18) (v:=_) rfl (Or.inr ⟨by rfl,rfl⟩) ?_
    try simp only [Act.put,x2,x3,x4,x5,x6,x7]
    refine tk (i:=19) (v:=_) rfl (Or.inr ⟨by rfl,rfl⟩) ?_
    try simp only [Act.put,x2,x3,x4,x5,x6,x7]
    refine tk (i:=20) (v:=_) rfl (Or.inr ⟨by rfl,rfl⟩) ?_
    try simp only [Act.put,x2,x3,x4,x5,x6,x7]
    refine tk (i:=21) (v:=_) rfl (Or.inr ⟨by rfl,rfl⟩) ?_
    try simp only [Act.put,x2,x3,x4,x5,x6,x7]
    refine tk (i:=22) (v:=_) rfl (Or.inr ⟨by rfl,rfl⟩) ?_
    try simp only [Act.put,x2,x3,x4,x5,x6,x7]
    refine tk (i:=23) (v:=_) rfl (Or.inr ⟨by rfl,rfl⟩) ?_
    try simp only [Act.put,x2,x3,x4,x5,x6,x7]
    refine tk (i:=24) (v:=?_) rfl (Or.inl ⟨by rfl,?_⟩) ?_
    rotate_left
    ·rintro _ -
     go_simp
     all_goals (with_reducible rfl)
    try simp only [Act.put,x2,x3,x4,x5,x6,x7]
    refine wpAnyH_done (by kernel_rfl) ?_ _
    have HBz:=hi (bl_trans HB2.out q1)
    clear q1 HV HB HB2
    go_wp2_with fail
    go_ret
    exact ⟨by rw [HN.out];rfl,HBz.out⟩
   case true=>
   obtain ⟨h0,h1,-⟩:=known_iff.1 HR1.out
   obtain ⟨h2,h3,-⟩:=known_iff.1 HR2.out
   obtain ⟨a,rfl⟩:=Int.eq_ofNat_of_zero_le h0
   obtain ⟨b,rfl⟩:=Int.eq_ofNat_of_zero_le h2
   have hap:a < p.length:=by omega
   have hbp:b < p.length:=by omega
   obtain ⟨gp,op,rfl⟩:=HP.out.some (by omega)
   obtain ⟨qa,hqa⟩:∃ q,pget p a=q:=⟨_,rfl⟩
   obtain ⟨qb,hqb⟩:∃ q,pget p b=q:=⟨_,rfl⟩
   have hEE:eqB qa qb=ee:=by have:=HE.out;unfold ptI at this;rwa [Int.toNat_natCast,Int.toNat_natCast,hqa,hqb] at this
   have HQA:=hi hqa
   have HQB:=hi hqb
   clear HR1 HR2 HE hqa hqb h0 h1 h2 h3
   have h3:(qa=qb∧ee=true) ∨ (qa.x ≠ qb.x∧ee=false) ∨ (qa.x=qb.x∧qa.y ≠ qb.y∧ee=false):=by
    rw [← hEE]
    unfold eqB
    by_cases e1:qa.x=qb.x
    ·by_cases e2:qa.y=qb.y
     ·exact .inl ⟨Pt.ext' e1 e2,decide_eq_true (Pt.ext' e1 e2)⟩
     ·exact .inr (.inr ⟨e1,e2,decide_eq_false fun h=>e2 (by rw [h])⟩)
    ·exact .inr (.inl ⟨e1,decide_eq_false fun h=>e1 (by rw [h])⟩)
   clear hEE
   rcases h3 with ⟨rfl,rfl⟩ | ⟨e1,rfl⟩ | ⟨e1,e2,rfl⟩
   ·have HN:Hid (properL p l=false):=by
     unfold Hid;rw [Bool.eq_false_iff];intro h
     have:=proper_iff.1 h k hlt
     rw [HOK.out] at this;cases this
    clear HOK HS HSK
    refine wp_region_held_drew (S:=fun V=>Below W2.heap.size W2 V) (by kernel_rfl) ?_ (fun q1=>?_)
    ·exact bel_drew W2
    revert q1
    generalize World.drew _=W1
    intro q1 
    refine tk (i:=0) (v:=?_) rfl (Or.inl ⟨by rfl,?_⟩) ?_
    rotate_left
    ·rintro _ -
     go_simp
     all_goals (with_reducible rfl)
    try simp only [Act.put,x2,x4,x5,x6,x7]
    refine tk (i:=1) (v:=?_) rfl (Or.inl ⟨by rfl,?_⟩) ?_
    rotate_left
    ·rintro _ -
     go_simp
     all_goals (with_reducible rfl)
    try simp only [Act.put,x2,x3,x4,x5,x6,x7]
    refine tk (i:=2) (v:=?_) rfl (Or.inl ⟨by rfl,?_⟩) ?_
    rotate_left
    ·intro Wq hSw
     obtain ⟨v0,v1⟩:=(HV.out.below hSw).two
     clear hSw
     go_simp
     all_goals (with_reducible rfl)
    try simp only [Act.put,x2,x3,x4,x5,x6,x7]
    refine r1 (i:=3) rfl (fun K hK=>?_)
    go_simp
    (with_reducible refine (HK1.out _ q1).mono ?_)
    rintro e w1 ⟨rfl,hb1⟩
    go_wp2_with fail
    refine hK.out _ _ (bl_trans q1 hb1) (fun q2=>?_)
    clear hK K q1
    have q1:=q2
    clear q2
    try simp only [Act.put,x2,x3,x4,x5,x6,x7]
    refine tk (i:=4) (v:=?_) rfl (Or.inl ⟨by rfl,?_⟩) ?_
    rotate_left
    ·rintro _ -
     go_simp
     all_goals (with_reducible rfl)
    try simp only [Act.put,x2,x3,x4,x5,x6,x7]
    refine tk (i:=5) (v:=?_) rfl (Or.inl ⟨by rfl,?_⟩) ?_
    rotate_left
    ·rintro _ -
     go_simp
     all_goals (with_reducible rfl)
    try simp only [Act.put,x2,x3,x4,x5,x6,x7]
    refine tk (i:=6) (v:=?_) rfl (Or.inl ⟨by rfl,?_⟩) ?_
    rotate_left
    ·rintro _ -
     go_simp
     all_goals (with_reducible rfl)
    try simp only [Act.put,x2,x3,x4,x5,x6,x7]
    refine tk (i:=7) (v:=?_) rfl (Or.inl ⟨by rfl,?_⟩) ?_
    rotate_left
    ·rintro _ -
     go_simp
     all_goals (with_reducible rfl)
    try simp only [Act.put,x2,x3,x4,x5,x6,x7]
    refine tk (i:=8) (v:=?_) rfl (Or.inl ⟨by rfl,?_⟩) ?_
    rotate_left
    ·intro Wq hSw
     obtain ⟨v0,v1⟩:=(HV.out.below hSw).two
     clear hSw
     go_simp
     all_goals (with_reducible rfl)
    try simp only [Act.put,x2,x3,x4,x5,x6,x7]
    refine r1 (i:=9) rfl (fun K hK=>?_)
    go_simp
    (with_reducible refine (HK2.out _ q1).mono ?_)
    rintro e w1 ⟨rfl,hb1⟩
    go_wp2_with fail
    refine hK.out _ _ (bl_trans q1 hb1) (fun q2=>?_)
    clear hK K q1
    have q1:=q2
    clear q2
    try simp only [Act.put,x2,x3,x4,x5,x6,x7]
    refine tk (i:=10) (v:=?_) rfl (Or.inl ⟨by rfl,?_⟩) ?_
    rotate_left
    ·rintro _ -
     go_simp
     all_goals (with_reducible rfl)
    try simp only [Act.put,x2,x3,x4,x5,x6,x7]
    refine tk (i:=11) (v:=?_) rfl (Or.inl ⟨by rfl,?_⟩) ?_
    rotate_left
    ·rintro _ -
     go_simp
     all_goals (with_reducible rfl)
    try simp only [Act.put,x2,x3,x4,x5,x6,x7]
    refine tk (i:=12) (v:=?_) rfl (Or.inl ⟨by rfl,?_⟩) ?_
    rotate_left
    ·rintro _ -
     go_simp
     all_goals (with_reducible rfl)
    try simp only [Act.put,x2,x3,x4,x5,x6,x7]
    refine tk (i:=13) (v:=?_) rfl (Or.inl ⟨by rfl,?_⟩) ?_
    rotate_left
    ·rintro _ -
     go_simp
     all_goals (with_reducible rfl)
    try simp only [Act.put,x2,x3,x4,x5,x6,x7]
    refine tk (i:=14) (v:=?_) rfl (Or.inl ⟨by rfl,?_⟩) ?_
    rotate_left
    ·rintro _ -
     go_simp
     all_goals (with_reducible rfl)
    try simp only [Act.put,x2,x3,x4,x5,x6,x7]
    refine tk (i:=15) (v:=?_) rfl (Or.inl ⟨by rfl,?_⟩) ?_
    rotate_left
    ·intro Wq hSw
     obtain ⟨v0,v1⟩:=(HV.out.below hSw).two
     clear hSw
     go_simp
     all_goals (with_reducible rfl)
    try simp only [Act.put,x2,x3,x4,x5,x6,x7]
    refine tk (i:=16) (v:=?_) rfl (Or.inl ⟨by rfl,?_⟩) ?_
    rotate_left
    ·intro Wq hSw
     have b1:((a:Int) < (p.length:Int))=True:=eq_true (by omega)
     have d1:(a < p.length)=True:=eq_true hap
     have c1:((0:Int) ≤ (a:Int))=True:=eq_true (by omega)
     clear hSw
     go_simp
     all_goals (with_reducible rfl)
    try simp only [Act.put,x2,x3,x4,x5,x6,x7]
    refine tk (i:=17) (v:=?_) rfl (Or.inl ⟨by rfl,?_⟩) ?_
    rotate_left
    ·intro Wq hSw
     obtain ⟨k0,k1⟩:=ptRow_at (HP.out.below (bl_trans HB2.out hSw)) hap HQA.out
     clear hSw
     go_simp
     all_goals (with_reducible rfl)
    try simp only [Act.put,x2,x3,x4,x5,x6,x7]
    refine tk (i:=18) (v:=?_) rfl (Or.inl ⟨by rfl,?_⟩) ?_
    rotate_left
    ·rintro _ -
     go_simp
     all_goals (with_reducible rfl)
    try simp only [Act.put,x2,x3,x4,x5,x6,x7]
    refine tk (i:=19) (v:=?_) rfl (Or.inl ⟨by rfl,?_⟩) ?_
    rotate_left
    ·rintro _ -
     go_simp
     all_goals (with_reducible rfl)
    try simp only [Act.put,x2,x3,x4,x5,x6,x7]
    refine tk (i:=20) (v:=?_) rfl (Or.inl ⟨by rfl,?_⟩) ?_
    rotate_left
    ·intro Wq hSw
     obtain ⟨v0,v1⟩:=(HV.out.below hSw).two
     clear hSw
     go_simp
     all_goals (with_reducible rfl)
    try simp only [Act.put,x2,x3,x4,x5,x6,x7]
    refine tk (i:=21) (v:=?_) rfl (Or.inl ⟨by rfl,?_⟩) ?_
    rotate_left
    ·intro Wq hSw
     have b1:((b:Int) < (p.length:Int))=True:=eq_true (by omega)
     have d1:(b < p.length)=True:=eq_true hbp
     have c1:((0:Int) ≤ (b:Int))=True:=eq_true (by omega)
     clear hSw
     go_simp
     all_goals (with_reducible rfl)
    try simp only [Act.put,x2,x3,x4,x5,x6,x7]
    refine tk (i:=22) (v:=?_) rfl (Or.inl ⟨by rfl,?_⟩) ?_
    rotate_left
    ·intro Wq hSw
     obtain ⟨k0,k1⟩:=ptRow_at (HP.out.below (bl_trans HB2.out hSw)) hbp HQB.out
     clear hSw
     go_simp
     all_goals (with_reducible rfl)
    try simp only [Act.put,x2,x3,x4,x5,x6,x7]
    refine tk (i:=23) (v:=?_) rfl (Or.inl ⟨by rfl,?_⟩) ?_
    rotate_left
    ·rintro _ -
     go_simp
     all_goals (with_reducible rfl)
    try simp only [Act.put,x2,x3,x4,x5,x6,x7]
    refine tk (i:=24) (v:=?_) rfl (Or.inl ⟨by rfl,?_⟩) ?_
    rotate_left
    ·rintro _ -
     go_simp
     all_goals (with_reducible rfl)
    try simp only [Act.put,x2,x3,x4,x5,x6,x7]
    refine wpAnyH_done (by kernel_rfl) ?_ _
    have HBz:=hi (bl_trans HB2.out q1)
    clear q1 HV HB HB2 HQA HQB HK1 HK2
    go_wp2_with fail
    go_ret
    exact ⟨by rw [HN.out];rfl,HBz.out⟩
   ·have b6:(qa.x=qb.x)=False:=eq_false e1
    clear e1
    refine wp_region_held_drew (S:=fun V=>Below W2.heap.size W2 V) (by kernel_rfl) ?_ (fun q1=>?_)
    ·exact bel_drew W2
    revert q1
    generalize World.drew _=W1
    intro q1 
    refine tk (i:=0) (v:=?_) rfl (Or.inl ⟨by rfl,?_⟩) ?_
    rotate_left
    ·rintro _ -
     go_simp
     all_goals (with_reducible rfl)
    try simp only [Act.put,x2,x4,x5,x6,x7]
    refine tk (i:=1) (v:=?_) rfl (Or.inl ⟨by rfl,?_⟩) ?_
    rotate_left
    ·rintro _ -
     go_simp
     all_goals (with_reducible rfl)
    try simp only [Act.put,x2,x3,x4,x5,x6,x7]
    refine tk (i:=2) (v:=?_) rfl (Or.inl ⟨by rfl,?_⟩) ?_
    rotate_left
    ·intro Wq hSw
     obtain ⟨v0,v1⟩:=(HV.out.below hSw).two
     clear hSw
     go_simp
     all_goals (with_reducible rfl)
    try simp only [Act.put,x2,x3,x4,x5,x6,x7]
    refine r1 (i:=3) rfl (fun K hK=>?_)
    go_simp
    (with_reducible refine (HK1.out _ q1).mono ?_)
    rintro e w1 ⟨rfl,hb1⟩
    go_wp2_with fail
    refine hK.out _ _ (bl_trans q1 hb1) (fun q2=>?_)
    clear hK K q1
    have q1:=q2
    clear q2
    try simp only [Act.put,x2,x3,x4,x5,x6,x7]
    refine tk (i:=4) (v:=?_) rfl (Or.inl ⟨by rfl,?_⟩) ?_
    rotate_left
    ·rintro _ -
     go_simp
     all_goals (with_reducible rfl)
    try simp only [Act.put,x2,x3,x4,x5,x6,x7]
    refine tk (i:=5) (v:=?_) rfl (Or.inl ⟨by rfl,?_⟩) ?_
    rotate_left
    ·rintro _ -
     go_simp
     all_goals (with_reducible rfl)
    try simp only [Act.put,x2,x3,x4,x5,x6,x7]
    refine tk (i:=6) (v:=?_) rfl (Or.inl ⟨by rfl,?_⟩) ?_
    rotate_left
    ·rintro _ -
     go_simp
     all_goals (with_reducible rfl)
    try simp only [Act.put,x2,x3,x4,x5,x6,x7]
    refine tk (i:=7) (v:=?_) rfl (Or.inl ⟨by rfl,?_⟩) ?_
    rotate_left
    ·rintro _ -
     go_simp
     all_goals (with_reducible rfl)
    try simp only [Act.put,x2,x3,x4,x5,x6,x7]
    refine tk (i:=8) (v:=?_) rfl (Or.inl ⟨by rfl,?_⟩) ?_
    rotate_left
    ·intro Wq hSw
     obtain ⟨v0,v1⟩:=(HV.out.below hSw).two
     clear hSw
     go_simp
     all_goals (with_reducible rfl)
    try simp only [Act.put,x2,x3,x4,x5,x6,x7]
    refine r1 (i:=9) rfl (fun K hK=>?_)
    go_simp
    (with_reducible refine (HK2.out _ q1).mono ?_)
    rintro e w1 ⟨rfl,hb1⟩
    go_wp2_with fail
    refine hK.out _ _ (bl_trans q1 hb1) (fun q2=>?_)
    clear hK K q1
    have q1:=q2
    clear q2
    try simp only [Act.put,x2,x3,x4,x5,x6,x7]
    refine tk (i:=10) (v:=?_) rfl (Or.inl ⟨by rfl,?_⟩) ?_
    rotate_left
    ·rintro _ -
     go_simp
     all_goals (with_reducible rfl)
    try simp only [Act.put,x2,x3,x4,x5,x6,x7]
    refine tk (i:=11) (v:=?_) rfl (Or.inl ⟨by rfl,?_⟩) ?_
    rotate_left
    ·rintro _ -
     go_simp
     all_goals (with_reducible rfl)
    try simp only [Act.put,x2,x3,x4,x5,x6,x7]
    refine tk (i:=12) (v:=?_) rfl (Or.inl ⟨by rfl,?_⟩) ?_
    rotate_left
    ·rintro _ -
     go_simp
     all_goals (with_reducible rfl)
    try simp only [Act.put,x2,x3,x4,x5,x6,x7]
    refine tk (i:=13) (v:=?_) rfl (Or.inl ⟨by rfl,?_⟩) ?_
    rotate_left
    ·rintro _ -
     go_simp
     all_goals (with_reducible rfl)
    try simp only [Act.put,x2,x3,x4,x5,x6,x7]
    refine tk (i:=14) (v:=?_) rfl (Or.inl ⟨by rfl,?_⟩) ?_
    rotate_left
    ·rintro _ -
     go_simp
     all_goals (with_reducible rfl)
    try simp only [Act.put,x2,x3,x4,x5,x6,x7]
    refine tk (i:=15) (v:=?_) rfl (Or.inl ⟨by rfl,?_⟩) ?_
    rotate_left
    ·intro Wq hSw
     obtain ⟨v0,v1⟩:=(HV.out.below hSw).two
     clear hSw
     go_simp
     all_goals (with_reducible rfl)
    try simp only [Act.put,x2,x3,x4,x5,x6,x7]
    refine tk (i:=16) (v:=?_) rfl (Or.inl ⟨by rfl,?_⟩) ?_
    rotate_left
    ·intro Wq hSw
     have b1:((a:Int) < (p.length:Int))=True:=eq_true (by omega)
     have d1:(a < p.length)=True:=eq_true hap
     have c1:((0:Int) ≤ (a:Int))=True:=eq_true (by omega)
     clear hSw
     go_simp
     all_goals (with_reducible rfl)
    try simp only [Act.put,x2,x3,x4,x5,x6,x7]
    refine tk (i:=17) (v:=?_) rfl (Or.inl ⟨by rfl,?_⟩) ?_
    rotate_left
    ·intro Wq hSw
     obtain ⟨k0,k1⟩:=ptRow_at (HP.out.below (bl_trans HB2.out hSw)) hap HQA.out
     clear hSw
     go_simp
     all_goals (with_reducible rfl)
    try simp only [Act.put,x2,x3,x4,x5,x6,x7]
    refine tk (i:=18) (v:=?_) rfl (Or.inl ⟨by rfl,?_⟩) ?_
    rotate_left
    ·rintro _ -
     go_simp
     all_goals (with_reducible rfl)
    try simp only [Act.put,x2,x3,x4,x5,x6,x7]
    refine tk (i:=19) (v:=?_) rfl (Or.inl ⟨by rfl,?_⟩) ?_
    rotate_left
    ·rintro _ -
     go_simp
     all_goals (with_reducible rfl)
    try simp only [Act.put,x2,x3,x4,x5,x6,x7]
    refine tk (i:=20) (v:=?_) rfl (Or.inl ⟨by rfl,?_⟩) ?_
    rotate_left
    ·intro Wq hSw
     obtain ⟨v0,v1⟩:=(HV.out.below hSw).two
     clear hSw
     go_simp
     all_goals (with_reducible rfl)
    try simp only [Act.put,x2,x3,x4,x5,x6,x7]
    refine tk (i:=21) (v:=?_) rfl (Or.inl ⟨by rfl,?_⟩) ?_
    rotate_left
    ·intro Wq hSw
     have b1:((b:Int) < (p.length:Int))=True:=eq_true (by omega)
     have d1:(b < p.length)=True:=eq_true hbp
     have c1:((0:Int) ≤ (b:Int))=True:=eq_true (by omega)
     clear hSw
     go_simp
     all_goals (with_reducible rfl)
    try simp only [Act.put,x2,x3,x4,x5,x6,x7]
    refine tk (i:=22) (v:=?_) rfl (Or.inl ⟨by rfl,?_⟩) ?_
    rotate_left
    ·intro Wq hSw
     obtain ⟨k0,k1⟩:=ptRow_at (HP.out.below (bl_trans HB2.out hSw)) hbp HQB.out
     clear hSw
     go_simp
     all_goals (with_reducible rfl)
    try simp only [Act.put,x2,x3,x4,x5,x6,x7]
    refine tk (i:=23) (v:=?_) rfl (Or.inl ⟨by rfl,?_⟩) ?_
    rotate_left
    ·rintro _ -
     go_simp
     all_goals (with_reducible rfl)
    try simp only [Act.put,x2,x3,x4,x5,x6,x7]
    refine tk (i:=24) (v:=?_) rfl (Or.inl ⟨by rfl,?_⟩) ?_
    rotate_left
    ·rintro _ -
     go_simp
     all_goals (with_reducible rfl)
    try simp only [Act.put,x2,x3,x4,x5,x6,x7]
    refine wpAnyH_done (by kernel_rfl) ?_ _
    have HBz:=hi (bl_trans HB2.out q1)
    clear q1 HV HB HB2 HQA HQB HK1 HK2
    obtain ⟨m1,m2,m3,m4⟩:=wnum (i:=k) (by omega)
    go_wp2_with fail
    clear m1 m2 m3 m4
    refine ⟨⟨k + 1,hlt,by rw [Int.natCast_add];rfl,fun i hi=>?_,HBz.out⟩,by simp [intOf];omega⟩
    rcases Nat.lt_or_eq_of_le (Nat.le_of_lt_succ hi) with h | rfl
    ·exact HS.out i h
    ·exact HOK.out
   ·have b6:(qa.x=qb.x)=True:=eq_true e1
    have b7:(qa.y=qb.y)=False:=eq_false e2
    clear e1 e2
    refine wp_region_held_drew (S:=fun V=>Below W2.heap.size W2 V) (by kernel_rfl) ?_ (fun q1=>?_)
    ·exact bel_drew W2
    revert q1
    generalize World.drew _=W1
    intro q1 
    refine tk (i:=0) (v:=?_) rfl (Or.inl ⟨by rfl,?_⟩) ?_
    rotate_left
    ·rintro _ -
     go_simp
     all_goals (with_reducible rfl)
    try simp only [Act.put,x2,x4,x5,x6,x7]
    refine tk (i:=1) (v:=?_) rfl (Or.inl ⟨by rfl,?_⟩) ?_
    rotate_left
    ·rintro _ -
     go_simp
     all_goals (with_reducible rfl)
    try simp only [Act.put,x2,x3,x4,x5,x6,x7]
    refine tk (i:=2) (v:=?_) rfl (Or.inl ⟨by rfl,?_⟩) ?_
    rotate_left
    ·intro Wq hSw
     obtain ⟨v0,v1⟩:=(HV.out.below hSw).two
     clear hSw
     go_simp
     all_goals (with_reducible rfl)
    try simp only [Act.put,x2,x3,x4,x5,x6,x7]
    refine r1 (i:=3) rfl (fun K hK=>?_)
    go_simp
    (with_reducible refine (HK1.out _ q1).mono ?_)
    rintro e w1 ⟨rfl,hb1⟩
    go_wp2_with fail
    refine hK.out _ _ (bl_trans q1 hb1) (fun q2=>?_)
    clear hK K q1
    have q1:=q2
    clear q2
    try simp only [Act.put,x2,x3,x4,x5,x6,x7]
    refine tk (i:=4) (v:=?_) rfl (Or.inl ⟨by rfl,?_⟩) ?_
    rotate_left
    ·rintro _ -
     go_simp
     all_goals (with_reducible rfl)
    try simp only [Act.put,x2,x3,x4,x5,x6,x7]
    refine tk (i:=5) (v:=?_) rfl (Or.inl ⟨by rfl,?_⟩) ?_
    rotate_left
    ·rintro _ -
     go_simp
     all_goals (with_reducible rfl)
    try simp only [Act.put,x2,x3,x4,x5,x6,x7]
    refine tk (i:=6) (v:=?_) rfl (Or.inl ⟨by rfl,?_⟩) ?_
    rotate_left
    ·rintro _ -
     go_simp
     all_goals (with_reducible rfl)
    try simp only [Act.put,x2,x3,x4,x5,x6,x7]
    refine tk (i:=7) (v:=?_) rfl (Or.inl ⟨by rfl,?_⟩) ?_
    rotate_left
    ·rintro _ -
     go_simp
     all_goals (with_reducible rfl)
    try simp only [Act.put,x2,x3,x4,x5,x6,x7]
    refine tk (i:=8) (v:=?_) rfl (Or.inl ⟨by rfl,?_⟩) ?_
    rotate_left
    ·intro Wq hSw
     obtain ⟨v0,v1⟩:=(HV.out.below hSw).two
     clear hSw
     go_simp
     all_goals (with_reducible rfl)
    try simp only [Act.put,x2,x3,x4,x5,x6,x7]
    refine r1 (i:=9) rfl (fun K hK=>?_)
    go_simp
    (with_reducible refine (HK2.out _ q1).mono ?_)
    rintro e w1 ⟨rfl,hb1⟩
    go_wp2_with fail
    refine hK.out _ _ (bl_trans q1 hb1) (fun q2=>?_)
    clear hK K q1
    have q1:=q2
    clear q2
    try simp only [Act.put,x2,x3,x4,x5,x6,x7]
    refine tk (i:=10) (v:=?_) rfl (Or.inl ⟨by rfl,?_⟩) ?_
    rotate_left
    ·rintro _ -
     go_simp
     all_goals (with_reducible rfl)
    try simp only [Act.put,x2,x3,x4,x5,x6,x7]
    refine tk (i:=11) (v:=?_) rfl (Or.inl ⟨by rfl,?_⟩) ?_
    rotate_left
    ·rintro _ -
     go_simp
     all_goals (with_reducible rfl)
    try simp only [Act.put,x2,x3,x4,x5,x6,x7]
    refine tk (i:=12) (v:=?_) rfl (Or.inl ⟨by rfl,?_⟩) ?_
    rotate_left
    ·rintro _ -
     go_simp
     all_goals (with_reducible rfl)
    try simp only [Act.put,x2,x3,x4,x5,x6,x7]
    refine tk (i:=13) (v:=?_) rfl (Or.inl ⟨by rfl,?_⟩) ?_
    rotate_left
    ·rintro _ -
     go_simp
     all_goals (with_reducible rfl)
    try simp only [Act.put,x2,x3,x4,x5,x6,x7]
    refine tk (i:=14) (v:=?_) rfl (Or.inl ⟨by rfl,?_⟩) ?_
    rotate_left
    ·rintro _ -
     go_simp
     all_goals (with_reducible rfl)
    try simp only [Act.put,x2,x3,x4,x5,x6,x7]
    refine tk (i:=15) (v:=?_) rfl (Or.inl ⟨by rfl,?_⟩) ?_
    rotate_left
    ·intro Wq hSw
     obtain ⟨v0,v1⟩:=(HV.out.below hSw).two
     clear hSw
     go_simp
     all_goals (with_reducible rfl)
    try simp only [Act.put,x2,x3,x4,x5,x6,x7]
    refine tk (i:=16) (v:=?_) rfl (Or.inl ⟨by rfl,?_⟩) ?_
    rotate_left
    ·intro Wq hSw
     have b1:((a:Int) < (p.length:Int))=True:=eq_true (by omega)
     have d1:(a < p.length)=True:=eq_true hap
     have c1:((0:Int) ≤ (a:Int))=True:=eq_true (by omega)
     clear hSw
     go_simp
     all_goals (with_reducible rfl)
    try simp only [Act.put,x2,x3,x4,x5,x6,x7]
    refine tk (i:=17) (v:=?_) rfl (Or.inl ⟨by rfl,?_⟩) ?_
    rotate_left
    ·intro Wq hSw
     obtain ⟨k0,k1⟩:=ptRow_at (HP.out.below (bl_trans HB2.out hSw)) hap HQA.out
     clear hSw
     go_simp
     all_goals (with_reducible rfl)
    try simp only [Act.put,x2,x3,x4,x5,x6,x7]
    refine tk (i:=18) (v:=?_) rfl (Or.inl ⟨by rfl,?_⟩) ?_
    rotate_left
    ·rintro _ -
     go_simp
     all_goals (with_reducible rfl)
    try simp only [Act.put,x2,x3,x4,x5,x6,x7]
    refine tk (i:=19) (v:=?_) rfl (Or.inl ⟨by rfl,?_⟩) ?_
    rotate_left
    ·rintro _ -
     go_simp
     all_goals (with_reducible rfl)
    try simp only [Act.put,x2,x3,x4,x5,x6,x7]
    refine tk (i:=20) (v:=?_) rfl (Or.inl ⟨by rfl,?_⟩) ?_
    rotate_left
    ·intro Wq hSw
     obtain ⟨v0,v1⟩:=(HV.out.below hSw).two
     clear hSw
     go_simp
     all_goals (with_reducible rfl)
    try simp only [Act.put,x2,x3,x4,x5,x6,x7]
    refine tk (i:=21) (v:=?_) rfl (Or.inl ⟨by rfl,?_⟩) ?_
    rotate_left
    ·intro Wq hSw
     have b1:((b:Int) < (p.length:Int))=True:=eq_true (by omega)
     have d1:(b < p.length)=True:=eq_true hbp
     have c1:((0:Int) ≤ (b:Int))=True:=eq_true (by omega)
     clear hSw
     go_simp
     all_goals (with_reducible rfl)
    try simp only [Act.put,x2,x3,x4,x5,x6,x7]
    refine tk (i:=22) (v:=?_) rfl (Or.inl ⟨by rfl,?_⟩) ?_
    rotate_left
    ·intro Wq hSw
     obtain ⟨k0,k1⟩:=ptRow_at (HP.out.below (bl_trans HB2.out hSw)) hbp HQB.out
     clear hSw
     go_simp
     all_goals (with_reducible rfl)
    try simp only [Act.put,x2,x3,x4,x5,x6,x7]
    refine tk (i:=23) (v:=?_) rfl (Or.inl ⟨by rfl,?_⟩) ?_
    rotate_left
    ·rintro _ -
     go_simp
     all_goals (with_reducible rfl)
    try simp only [Act.put,x2,x3,x4,x5,x6,x7]
    refine tk (i:=24) (v:=?_) rfl (Or.inl ⟨by rfl,?_⟩) ?_
    rotate_left
    ·rintro _ -
     go_simp
     all_goals (with_reducible rfl)
    try simp only [Act.put,x2,x3,x4,x5,x6,x7]
    refine wpAnyH_done (by kernel_rfl) ?_ _
    have HBz:=hi (bl_trans HB2.out q1)
    clear q1 HV HB HB2 HQA HQB HK1 HK2
    obtain ⟨m1,m2,m3,m4⟩:=wnum (i:=k) (by omega)
    go_wp2_with fail
    clear m1 m2 m3 m4
    refine ⟨⟨k + 1,hlt,by rw [Int.natCast_add];rfl,fun i hi=>?_,HBz.out⟩,by simp [intOf];omega⟩
    rcases Nat.lt_or_eq_of_le (Nat.le_of_lt_succ hi) with h | rfl
    ·exact HS.out i h
    ·exact HOK.out
  ·obtain rfl:k=l.length:=by omega
   have b2:((l.length:Int) < (l.length:Int))=False:=eq_false (by omega)
   have HY:Hid (properL p l=true):=proper_iff.2 HS.out
   go_wp2_with fail
   go_ret
   exact ⟨by rw [HY.out];rfl,HB.out⟩

end Go.Proofs.YtpjaefcmaiimlaaGreat
