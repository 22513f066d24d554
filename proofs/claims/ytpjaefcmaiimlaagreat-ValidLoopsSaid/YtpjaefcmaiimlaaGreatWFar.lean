/-
  Contracts of the document's times, farther.
-/
import Derived.Test.YtpjaefcmaiimlaaGreatWMem
import Derived.Test.YtpjaefcmaiimlaaGreatRefOns
import Derived.Test.YtpjaefcmaiimlaaGreatBel9
set_option linter.unusedVariables false
set_option linter.unusedSimpArgs false
set_option linter.deprecated false
namespace Go.Proofs.YtpjaefcmaiimlaaGreat
open Go.RowKit

theorem wrap_eq9 (z:Int):wrap64 z=IntKind.i64.wrap z:=by rw [IntKind.wrap_i64];unfold wrap64;omega
set_option maxHeartbeats 4000000 in
set_option maxRecDepth 100000 in
theorem times9_l (q:Pt) (k:Int) (fq:fitB q=true) (k0:0 ≤ k) (k3:k ≤ 3) (w:World):Calls Tryz.prog 85 #[.agg #[.int .i64 q.x,.int .i64 q.y],.int .i64 k] w (Gives (.agg #[.int .i64 (scaleP k q).x,.int .i64 (scaleP k q).y]) w):=by
 have HS:=Lib.hid (scale_w fq k0 k3)
 have HW:=Lib.hid (show wrap64 (k * q.x)=k * q.x∧wrap64 (k * q.y)=k * q.y from ⟨by rw [wrap_eq9];exact HS.out.1,by rw [wrap_eq9];exact HS.out.2⟩)
 clear fq k0 k3
 go_enter Tryz.func85,Tryz.ntmps85
 obtain ⟨m1,m2⟩:=HS.out
 obtain ⟨m3,m4⟩:=HW.out
 go_wp2_with fail
 refine bodyPost_ret (v:=.agg #[.int .i64 (k * q.x),.int .i64 (k * q.y)]) (by simp [results,Tryz.results85,go_sem];done) rfl ⟨rfl,?_⟩
 repeat (first | (with_reducible exact Below.refl _ _) | (with_reducible refine bl_alloc ?_ _) | (with_reducible refine Below.drew ?_) | (with_reducible refine below_drewN' ?_ _) | ((with_reducible refine bl_set ?_ ?_ _);(rotate_left;(dsimp only;omega))))
theorem sg3_gt0 (x y:Int):0 < sg3 x * sg3 y ↔ 0 < y * x:=by
 have s:=sgn_mul y x
 generalize y * x=z at *
 obtain ⟨p1,p2,p3,p4,p5,p6⟩:=s
 rcases sg3_vals x with ⟨h1,e1⟩ | ⟨h1,e1⟩ | ⟨h1,e1⟩ <;> rcases sg3_vals y with ⟨h2,e2⟩ | ⟨h2,e2⟩ | ⟨h2,e2⟩ <;> rw [e1,e2]
 ·have:=p4 h2 h1;omega
 ·have:=p5 h2;omega
 ·have:=p1
  have:=p2 h2 h1;omega
 ·have:=p6 h1;omega
 ·have:=p6 h1;omega
 ·have:=p6 h1;omega
 ·have:=p3 h2 h1;omega
 ·have:=p5 h2;omega
 ·have:=p1 h2 h1;omega

set_option maxHeartbeats 8000000 in
set_option maxRecDepth 100000 in
theorem farther_l (a b q:Pt) (fa:fitB a=true) (fb:fitB b=true) (fq:fitB q=true) (w:World):Calls Tryz.prog 87 #[.agg #[.int .i64 a.x,.int .i64 a.y],.agg #[.int .i64 b.x,.int .i64 b.y],.agg #[.int .i64 q.x,.int .i64 q.y]] w (Gives (.bool (decide (0 < (b.y - a.y) * crossZ a b q))) w):=by
 have ba:=fit_b fa
 have bb:=fit_b fb
 have bq:=fit_b fq
 obtain ⟨hh,dh⟩:∃ z,b.y - a.y=z:=⟨_,rfl⟩
 obtain ⟨dx,ddx⟩:∃ z,b.x - a.x=z:=⟨_,rfl⟩
 obtain ⟨dy,ddy⟩:∃ z,q.y - a.y=z:=⟨_,rfl⟩
 have HP:Hid (decide (0 < (b.y - a.y) * crossZ a b q)=decide (0 < sg3 (a.x * hh + dx * dy + -(q.x * hh)) * sg3 hh)):=by
  unfold Hid
  apply decide_eq_decide.2
  rw [sg3_gt0,dh]
  have:crossZ a b q=a.x * hh + dx * dy + -(q.x * hh):=by rw [← dh,← ddx,← ddy];unfold crossZ;grind
  rw [this]
 have Rh:Hid (R64 hh):=by unfold Hid R64;omega
 have Rdx:Hid (R64 dx):=by unfold Hid R64;omega
 have Rdy:Hid (R64 dy):=by unfold Hid R64;omega
 have Rax:Hid (R64 a.x):=by unfold Hid R64;omega
 have Rqx:Hid (R64 q.x):=by unfold Hid R64;omega
 have Bh:=Lib.hid (Rh.out.ab.big (by decide))
 have Bdx:=Lib.hid (Rdx.out.ab.big (by decide))
 have Bdy:=Lib.hid (Rdy.out.ab.big (by decide))
 have Bax:=Lib.hid (Rax.out.ab.big (by decide))
 have Bqx:=Lib.hid (Rqx.out.ab.big (by decide))
 have BX:=Lib.hid ((Rax.out.ab.mul Rh.out.ab).big (by decide))
 have BY:=Lib.hid ((Rdx.out.ab.mul Rdy.out.ab).big (by decide))
 have BS:=Lib.hid (((Rax.out.ab.mul Rh.out.ab).add (Rdx.out.ab.mul Rdy.out.ab)).big (by decide))
 have BN:Hid (-BIG < -(q.x * hh) ∧ -(q.x * hh) < BIG):=by
  have:=(Rqx.out.ab.mul Rh.out.ab).big (by decide)
  unfold Hid;generalize q.x * hh=t at *;omega
 have W1:=Lib.hid (show wrap64 (b.y - a.y)=hh by rw [← dh];unfold wrap64;omega)
 have W2:=Lib.hid (show wrap64 (b.x - a.x)=dx by rw [← ddx];unfold wrap64;omega)
 have W3:=Lib.hid (show wrap64 (q.y - a.y)=dy by rw [← ddy];unfold wrap64;omega)
 have W4:=Lib.hid (show IntKind.i64.wrap (b.y - a.y)=hh by rw [← dh];exact IntWalk.i64_in _ (by omega))
 have W5:=Lib.hid (show IntKind.i64.wrap (b.x - a.x)=dx by rw [← ddx];exact IntWalk.i64_in _ (by omega))
 have W6:=Lib.hid (show IntKind.i64.wrap (q.y - a.y)=dy by rw [← ddy];exact IntWalk.i64_in _ (by omega))
 clear ba bb bq dh ddx ddy fa fb fq
 have m1:=W1.out
 have m2:=W2.out
 have m3:=W3.out
 have m4:=W4.out
 have m5:=W5.out
 have m6:=W6.out
 clear W1 W2 W3 W4 W5 W6
 go_enter Tryz.func87,Tryz.ntmps87
 go_upto_region 1 with (fail)
 refine wp_abs (fun W=>Var W (w.heap.size) [.int .i64 a.x,.int .i64 a.y]∧Var W (w.heap.size + 1) [.int .i64 b.x,.int .i64 b.y]∧Var W (w.heap.size + 1 + 1) [.int .i64 q.x,.int .i64 q.y]∧Grew w 3 W) ?_ ?_
 ·exact ⟨(var2_new _ _ _ _ _ rfl).below (bl_alloc (bl_one _ _) _),(var2_new _ _ _ _ _ (by simp)).below (bl_one _ _),var2_new _ _ _ _ _ (by simp),by repeat (first | (with_reducible exact Below.refl _ _) | (with_reducible refine bl_alloc ?_ _) | (with_reducible refine Below.drew ?_) | (with_reducible refine below_drewN' ?_ _) | ((with_reducible refine bl_set ?_ ?_ _);(rotate_left;(dsimp only;omega)))),by simp⟩
 rintro W0 hS0
 have HS0:=Lib.hid hS0
 clear hS0
 go_upto_region 1 with (fail)
 go_cut [7] (fun pv W=>∃ g7:Nat,∃ (m7:Bool) (ad7:Option Addr) (n7 c7:Nat),pv=.pointer (some ⟨g7,0,none⟩)∧(w.heap.size + 3 ≤ g7)∧Var W (g7) [.bool m7,.slice ad7 n7 c7]∧NumIs (.agg #[.bool m7,.slice ad7 n7 c7]) (hh) W∧(fun W=>Var W (w.heap.size) [.int .i64 a.x,.int .i64 a.y]∧Var W (w.heap.size + 1) [.int .i64 b.x,.int .i64 b.y]∧Var W (w.heap.size + 1 + 1) [.int .i64 q.x,.int .i64 q.y]∧Grew w 3 W) W)
 case first=>
  obtain ⟨c0_,d0_⟩:=HS0.out.1.two
  obtain ⟨c1_,d1_⟩:=HS0.out.2.1.two
  obtain ⟨c2_,d2_⟩:=HS0.out.2.2.1.two
  go_wp2_with fail
  (with_reducible refine (small_r hh Rh.out _).mono ?_);rintro e w1 ⟨v,rfl,hN,hb1⟩
  obtain ⟨m,ad,n,c,rfl⟩:=hN.shape
  have HN:=Lib.hid hN
  clear hN
  try dsimp only
  go_wp2_with fail
  go_meet
  case rel=>exact ⟨_,_,_,_,_,rfl,(HS0.out.2.2.2.below hb1).sz,var2_new _ _ _ _ _ rfl,HN.out.below (bl_one _ _),⟨HS0.out.1.below (bl_trans hb1 (bl_one _ _)),HS0.out.2.1.below (bl_trans hb1 (bl_one _ _)),HS0.out.2.2.1.below (bl_trans hb1 (bl_one _ _)),HS0.out.2.2.2.below (bl_trans hb1 (bl_one _ _))⟩⟩
 case rest=>
 obtain ⟨g7,m7,ad7,n7,c7,rfl,ge7,vn,hN,hS0⟩:=hcut
 clear HS0
 have HS0:Hid ((fun W=>Var W (w.heap.size) [.int .i64 a.x,.int .i64 a.y]∧Var W (w.heap.size + 1) [.int .i64 b.x,.int .i64 b.y]∧Var W (w.heap.size + 1 + 1) [.int .i64 q.x,.int .i64 q.y]∧Var W (g7) [.bool m7,.slice ad7 n7 c7]∧NumIs (.agg #[.bool m7,.slice ad7 n7 c7]) (hh) W∧Grew w 3 W) _):=⟨hS0.1,hS0.2.1,hS0.2.2.1,vn,hN,hS0.2.2.2⟩
 clear hS0 vn hN
 go_upto_region 2 with (fail)
 go_cut [8] (fun pv W=>∃ g8:Nat,∃ (m8:Bool) (ad8:Option Addr) (n8 c8:Nat),pv=.pointer (some ⟨g8,0,none⟩)∧(w.heap.size + 3 ≤ g8)∧Var W (g8) [.bool m8,.slice ad8 n8 c8]∧NumIs (.agg #[.bool m8,.slice ad8 n8 c8]) (a.x * hh + dx * dy) W∧(fun W=>Var W (w.heap.size) [.int .i64 a.x,.int .i64 a.y]∧Var W (w.heap.size + 1) [.int .i64 b.x,.int .i64 b.y]∧Var W (w.heap.size + 1 + 1) [.int .i64 q.x,.int .i64 q.y]∧Var W (g7) [.bool m7,.slice ad7 n7 c7]∧NumIs (.agg #[.bool m7,.slice ad7 n7 c7]) (hh) W∧Grew w 3 W) W)
 case first=>
  refine wp_region_bel (by kernel_rfl) (fun hHeld=>?_)
  revert hHeld
  generalize World.drew _=W1
  intro hHeld
  refine tk2 (i:=0) (v:=?_) rfl (Or.inl ⟨by rfl,?_⟩) ?_
  rotate_left;· rintro _ -;go_simp;all_goals (with_reducible rfl)
  try simp only [Act.put,x2,x4,x5,x6,x7]
  refine tk2 (i:=1) (v:=?_) rfl (Or.inl ⟨by rfl,?_⟩) ?_
  rotate_left
  ·intro Wq hSw
   obtain ⟨k0,k1⟩:=(HS0.out.1.below hSw).two
   clear hSw
   go_simp;all_goals (with_reducible rfl)
  try simp only [Act.put,x2,x3,x4,x5,x6,x7]
  refine tk2 (i:=3) (v:=?_) rfl (Or.inl ⟨by rfl,?_⟩) ?_
  rotate_left
  ·intro Wq hSw
   obtain ⟨k0,k1⟩:=(HS0.out.2.2.2.1.below hSw).two
   clear hSw
   go_simp;all_goals (with_reducible rfl)
  try simp only [Act.put,x2,x3,x4,x5,x6,x7]
  refine tk2 (i:=5) (v:=?_) rfl (Or.inl ⟨by rfl,?_⟩) ?_
  rotate_left;· rintro _ -;go_simp;all_goals (with_reducible rfl)
  try simp only [Act.put,x2,x3,x4,x5,x6,x7]
  refine tk2 (i:=6) (v:=?_) rfl (Or.inl ⟨by rfl,?_⟩) ?_
  rotate_left
  ·intro Wq hSw
   obtain ⟨k0,k1⟩:=(HS0.out.2.1.below hSw).two
   clear hSw
   go_simp;all_goals (with_reducible rfl)
  try simp only [Act.put,x2,x3,x4,x5,x6,x7]
  refine tk2 (i:=7) (v:=?_) rfl (Or.inl ⟨by rfl,?_⟩) ?_
  rotate_left;· rintro _ -;go_simp;all_goals (with_reducible rfl)
  try simp only [Act.put,x2,x3,x4,x5,x6,x7]
  refine tk2 (i:=8) (v:=?_) rfl (Or.inl ⟨by rfl,?_⟩) ?_
  rotate_left
  ·intro Wq hSw
   obtain ⟨k0,k1⟩:=(HS0.out.1.below hSw).two
   clear hSw
   go_simp;all_goals (with_reducible rfl)
  try simp only [Act.put,x2,x3,x4,x5,x6,x7]
  refine tk2 (i:=9) (v:=?_) rfl (Or.inl ⟨by rfl,?_⟩) ?_
  rotate_left;· rintro _ -;go_simp;all_goals (with_reducible rfl)
  try simp only [Act.put,x2,x3,x4,x5,x6,x7]
  refine tk2 (i:=11) (v:=?_) rfl (Or.inl ⟨by rfl,?_⟩) ?_
  rotate_left;· rintro _ -;go_simp;all_goals (with_reducible rfl)
  try simp only [Act.put,x2,x3,x4,x5,x6,x7]
  refine tk2 (i:=12) (v:=?_) rfl (Or.inl ⟨by rfl,?_⟩) ?_
  rotate_left
  ·intro Wq hSw
   obtain ⟨k0,k1⟩:=(HS0.out.2.2.1.below hSw).two
   clear hSw
   go_simp;all_goals (with_reducible rfl)
  try simp only [Act.put,x2,x3,x4,x5,x6,x7]
  refine tk2 (i:=13) (v:=?_) rfl (Or.inl ⟨by rfl,?_⟩) ?_
  rotate_left;· rintro _ -;go_simp;all_goals (with_reducible rfl)
  try simp only [Act.put,x2,x3,x4,x5,x6,x7]
  refine tk2 (i:=14) (v:=?_) rfl (Or.inl ⟨by rfl,?_⟩) ?_
  rotate_left
  ·intro Wq hSw
   obtain ⟨k0,k1⟩:=(HS0.out.1.below hSw).two
   clear hSw
   go_simp;all_goals (with_reducible rfl)
  try simp only [Act.put,x2,x3,x4,x5,x6,x7]
  refine tk2 (i:=15) (v:=?_) rfl (Or.inl ⟨by rfl,?_⟩) ?_
  rotate_left;· rintro _ -;go_simp;all_goals (with_reducible rfl)
  try simp only [Act.put,x2,x3,x4,x5,x6,x7]
  refine ry2 (i:=2) (j:=19) rfl (fun K hK=>?_) rfl (fun K hK=>?_)
  ·go_simp
   go_at_call 94
   (with_reducible refine (small_r a.x Rax.out _).mono ?_);rintro e w1 ⟨va,rfl,hNa,hb1⟩
   obtain ⟨ma,ada,na,ca,rfl⟩:=hNa.shape
   have HNa:=Lib.hid hNa
   clear hNa
   go_wp2_with fail
   refine hK.out _ _ (bl_trans hHeld hb1) (fun hHeld2=>?_)
   clear hK K hHeld hb1
   have hHeld:=hHeld2
   clear hHeld2
   try simp only [Act.put,x2,x3,x4,x5,x6,x7]
   refine ry2 (i:=4) (j:=19) rfl (fun K hK=>?_) rfl (fun K hK=>?_)
   ·go_simp
    go_at_call 95
    (with_reducible refine (times_num _ _ a.x hh _ HNa.out (HS0.out.2.2.2.2.1.below hHeld) Bax.out Bh.out).mono ?_);rintro e w1 ⟨vb,rfl,hNb,hb1⟩
    obtain ⟨mb,adb,nb,cb,rfl⟩:=hNb.shape
    have HNb:=Lib.hid hNb
    clear hNb
    go_wp2_with fail
    refine hK.out _ _ (bl_trans hHeld hb1) (fun hHeld2=>?_)
    clear hK K hHeld hb1
    have hHeld:=hHeld2
    clear hHeld2
    try simp only [Act.put,x2,x3,x4,x5,x6,x7]
    refine ry2 (i:=10) (j:=19) rfl (fun K hK=>?_) rfl (fun K hK=>?_)
    ·go_simp
     go_at_call 94
     (with_reducible refine (small_r dx Rdx.out _).mono ?_);rintro e w1 ⟨vc,rfl,hNc,hb1⟩
     obtain ⟨mc,adc,nc,cc,rfl⟩:=hNc.shape
     have HNc:=Lib.hid hNc
     clear hNc
     go_wp2_with fail
     refine hK.out _ _ (bl_trans hHeld hb1) (fun hHeld2=>?_)
     replace HNb:=Lib.hid (HNb.out.below hb1)
     clear hK K hHeld hb1
     have hHeld:=hHeld2
     clear hHeld2
     try simp only [Act.put,x2,x3,x4,x5,x6,x7]
     refine ry2 (i:=16) (j:=19) rfl (fun K hK=>?_) rfl (fun K hK=>?_)
     ·go_simp
      go_at_call 94
      (with_reducible refine (small_r dy Rdy.out _).mono ?_);rintro e w1 ⟨vd,rfl,hNd,hb1⟩
      obtain ⟨md,add,nd,cd,rfl⟩:=hNd.shape
      have HNd:=Lib.hid hNd
      clear hNd
      go_wp2_with fail
      refine hK.out _ _ (bl_trans hHeld hb1) (fun hHeld2=>?_)
      replace HNb:=Lib.hid (HNb.out.below hb1)
      replace HNc:=Lib.hid (HNc.out.below hb1)
      clear hK K hHeld hb1
      have hHeld:=hHeld2
      clear hHeld2
      try simp only [Act.put,x2,x3,x4,x5,x6,x7]
      refine ry2 (i:=17) (j:=19) rfl (fun K hK=>?_) rfl (fun K hK=>?_)
      ·go_simp
       go_at_call 95
       (with_reducible refine (times_num _ _ dx dy _ HNc.out HNd.out Bdx.out Bdy.out).mono ?_);rintro e w1 ⟨ve,rfl,hNe,hb1⟩
       obtain ⟨me,ade,ne,ce,rfl⟩:=hNe.shape
       have HNe:=Lib.hid hNe
       clear hNe
       go_wp2_with fail
       refine hK.out _ _ (bl_trans hHeld hb1) (fun hHeld2=>?_)
       replace HNb:=Lib.hid (HNb.out.below hb1)
       clear hK K hHeld hb1
       have hHeld:=hHeld2
       clear hHeld2
       try simp only [Act.put,x2,x3,x4,x5,x6,x7]
       refine ry2 (i:=18) (j:=19) rfl (fun K hK=>?_) rfl (fun K hK=>?_)
       ·go_simp
        go_at_call 96
        (with_reducible refine (plus_c _ _ (a.x * hh) (dx * dy) _ HNb.out HNe.out BX.out BY.out).mono ?_);rintro e w1 ⟨vs,rfl,hNs,hb1⟩
        obtain ⟨ms,ads,ns,cs,rfl⟩:=hNs.shape
        have HNs:=Lib.hid hNs
        clear hNs
        go_wp2_with fail
        refine hK.out _ _ (bl_trans hHeld hb1) (fun hHeld2=>?_)
        clear hK K hHeld hb1
        have hHeld:=hHeld2
        clear hHeld2
        try simp only [Act.put,x2,x3,x4,x5,x6,x7]
        refine ry1 (i:=19) rfl (fun K hK=>?_)
        go_simp
        refine hK.out _ _ (bel_one hHeld _) (fun hHeld2=>?_)
        replace HNs:=Lib.hid (HNs.out.below (bel_al hHeld2 (bl_one _ _)))
        have hgeHX:=hHeld.size
        have HX:=Lib.hid (bel_var2 hHeld (.bool false) (.slice none 0 0) 123)
        clear hK K hHeld
        have hHeld:=hHeld2
        clear hHeld2
        try simp only [Act.put,x2,x3,x4,x5,x6,x7]
        revert HNs
        revert HX
        revert hHeld
        generalize World.alloc _ _=W2
        intro hHeld HX HNs
        refine ry1 (i:=20) rfl (fun K hK=>?_)
        obtain ⟨k0,k1⟩:=HX.out.two
        obtain ⟨f0,f1⟩:=HX.out.free2
        go_simp
        refine hK.out _ _ (bel_set2 hHeld hgeHX hgeHX _ _) (fun hHeld2=>?_)
        replace HNs:=Lib.hid (HNs.out.res HX.out (ms) (.slice ads ns cs))
        replace HX:=Lib.hid (HX.out.set2 (.bool ms) (.slice ads ns cs))
        clear hK K hHeld k0 k1 f0 f1
        have hHeld:=hHeld2
        clear hHeld2
        try simp only [x5,x6,x7]
        refine wpAnyH_done (by kernel_rfl) ?_ _
        go_wp2_with fail
        go_meet
        case rel=>exact ⟨_,_,_,_,_,rfl,Nat.le_trans (by have:=HS0.out.2.2.2.2.2.sz;exact this) hgeHX,HX.out,HNs.out,⟨HS0.out.1.below hHeld,HS0.out.2.1.below hHeld,HS0.out.2.2.1.below hHeld,HS0.out.2.2.2.1.below hHeld,HS0.out.2.2.2.2.1.below hHeld,HS0.out.2.2.2.2.2.below hHeld⟩⟩
       ·go_simp
        refine hK.out _ _ (bel_one hHeld _) (fun hHeld2=>?_)
        replace HNb:=Lib.hid (HNb.out.below (bel_al hHeld2 (bl_one _ _)))
        replace HNe:=Lib.hid (HNe.out.below (bel_al hHeld2 (bl_one _ _)))
        have hgeHX:=hHeld.size
        have HX:=Lib.hid (bel_var2 hHeld (.bool false) (.slice none 0 0) 123)
        clear hK K hHeld
        have hHeld:=hHeld2
        clear hHeld2
        try simp only [Act.put,x2,x3,x4,x5,x6,x7]
        revert HNb
        revert HNe
        revert HX
        revert hHeld
        generalize World.alloc _ _=W2
        intro hHeld HX HNe HNb
        refine ry1 (i:=18) rfl (fun K hK=>?_)
        go_simp
        go_at_call 96
        (with_reducible refine (plus_c _ _ (a.x * hh) (dx * dy) _ HNb.out HNe.out BX.out BY.out).mono ?_);rintro e w1 ⟨vs,rfl,hNs,hb1⟩
        obtain ⟨ms,ads,ns,cs,rfl⟩:=hNs.shape
        have HNs:=Lib.hid hNs
        clear hNs
        go_wp2_with fail
        refine hK.out _ _ (bl_trans hHeld hb1) (fun hHeld2=>?_)
        replace HX:=Lib.hid (HX.out.below hb1)
        clear hK K hHeld hb1
        have hHeld:=hHeld2
        clear hHeld2
        try simp only [Act.put,x2,x3,x4,x5,x6,x7]
        refine ry1 (i:=20) rfl (fun K hK=>?_)
        obtain ⟨k0,k1⟩:=HX.out.two
        obtain ⟨f0,f1⟩:=HX.out.free2
        go_simp
        refine hK.out _ _ (bel_set2 hHeld hgeHX hgeHX _ _) (fun hHeld2=>?_)
        replace HNs:=Lib.hid (HNs.out.res HX.out (ms) (.slice ads ns cs))
        replace HX:=Lib.hid (HX.out.set2 (.bool ms) (.slice ads ns cs))
        clear hK K hHeld k0 k1 f0 f1
        have hHeld:=hHeld2
        clear hHeld2
        try simp only [x5,x6,x7]
        refine wpAnyH_done (by kernel_rfl) ?_ _
        go_wp2_with fail
        go_meet
        case rel=>exact ⟨_,_,_,_,_,rfl,Nat.le_trans (by have:=HS0.out.2.2.2.2.2.sz;exact this) hgeHX,HX.out,HNs.out,⟨HS0.out.1.below hHeld,HS0.out.2.1.below hHeld,HS0.out.2.2.1.below hHeld,HS0.out.2.2.2.1.below hHeld,HS0.out.2.2.2.2.1.below hHeld,HS0.out.2.2.2.2.2.below hHeld⟩⟩
      ·go_simp
       refine hK.out _ _ (bel_one hHeld _) (fun hHeld2=>?_)
       replace HNb:=Lib.hid (HNb.out.below (bel_al hHeld2 (bl_one _ _)))
       replace HNc:=Lib.hid (HNc.out.below (bel_al hHeld2 (bl_one _ _)))
       replace HNd:=Lib.hid (HNd.out.below (bel_al hHeld2 (bl_one _ _)))
       have hgeHX:=hHeld.size
       have HX:=Lib.hid (bel_var2 hHeld (.bool false) (.slice none 0 0) 123)
       clear hK K hHeld
       have hHeld:=hHeld2
       clear hHeld2
       try simp only [Act.put,x2,x3,x4,x5,x6,x7]
       revert HNb
       revert HNc
       revert HNd
       revert HX
       revert hHeld
       generalize World.alloc _ _=W2
       intro hHeld HX HNd HNc HNb
       refine ry1 (i:=17) rfl (fun K hK=>?_)
       go_simp
       go_at_call 95
       (with_reducible refine (times_num _ _ dx dy _ HNc.out HNd.out Bdx.out Bdy.out).mono ?_);rintro e w1 ⟨ve,rfl,hNe,hb1⟩
       obtain ⟨me,ade,ne,ce,rfl⟩:=hNe.shape
       have HNe:=Lib.hid hNe
       clear hNe
       go_wp2_with fail
       refine hK.out _ _ (bl_trans hHeld hb1) (fun hHeld2=>?_)
       replace HNb:=Lib.hid (HNb.out.below hb1)
       replace HX:=Lib.hid (HX.out.below hb1)
       clear hK K hHeld hb1
       have hHeld:=hHeld2
       clear hHeld2
       try simp only [Act.put,x2,x3,x4,x5,x6,x7]
       refine ry1 (i:=18) rfl (fun K hK=>?_)
       go_simp
       go_at_call 96
       (with_reducible refine (plus_c _ _ (a.x * hh) (dx * dy) _ HNb.out HNe.out BX.out BY.out).mono ?_);rintro e w1 ⟨vs,rfl,hNs,hb1⟩
       obtain ⟨ms,ads,ns,cs,rfl⟩:=hNs.shape
       have HNs:=Lib.hid hNs
       clear hNs
       go_wp2_with fail
       refine hK.out _ _ (bl_trans hHeld hb1) (fun hHeld2=>?_)
       replace HX:=Lib.hid (HX.out.below hb1)
       clear hK K hHeld hb1
       have hHeld:=hHeld2
       clear hHeld2
       try simp only [Act.put,x2,x3,x4,x5,x6,x7]
       refine ry1 (i:=20) rfl (fun K hK=>?_)
       obtain ⟨k0,k1⟩:=HX.out.two
       obtain ⟨f0,f1⟩:=HX.out.free2
       go_simp
       refine hK.out _ _ (bel_set2 hHeld hgeHX hgeHX _ _) (fun hHeld2=>?_)
       replace HNs:=Lib.hid (HNs.out.res HX.out (ms) (.slice ads ns cs))
       replace HX:=Lib.hid (HX.out.set2 (.bool ms) (.slice ads ns cs))
       clear hK K hHeld k0 k1 f0 f1
       have hHeld:=hHeld2
       clear hHeld2
       try simp only [x5,x6,x7]
       refine wpAnyH_done (by kernel_rfl) ?_ _
       go_wp2_with fail
       go_meet
       case rel=>exact ⟨_,_,_,_,_,rfl,Nat.le_trans (by have:=HS0.out.2.2.2.2.2.sz;exact this) hgeHX,HX.out,HNs.out,⟨HS0.out.1.below hHeld,HS0.out.2.1.below hHeld,HS0.out.2.2.1.below hHeld,HS0.out.2.2.2.1.below hHeld,HS0.out.2.2.2.2.1.below hHeld,HS0.out.2.2.2.2.2.below hHeld⟩⟩
     ·go_simp
      refine hK.out _ _ (bel_one hHeld _) (fun hHeld2=>?_)
      replace HNb:=Lib.hid (HNb.out.below (bel_al hHeld2 (bl_one _ _)))
      replace HNc:=Lib.hid (HNc.out.below (bel_al hHeld2 (bl_one _ _)))
      have hgeHX:=hHeld.size
      have HX:=Lib.hid (bel_var2 hHeld (.bool false) (.slice none 0 0) 123)
      clear hK K hHeld
      have hHeld:=hHeld2
      clear hHeld2
      try simp only [Act.put,x2,x3,x4,x5,x6,x7]
      revert HNb
      revert HNc
      revert HX
      revert hHeld
      generalize World.alloc _ _=W2
      intro hHeld HX HNc HNb
      refine ry1 (i:=16) rfl (fun K hK=>?_)
      go_simp
      go_at_call 94
      (with_reducible refine (small_r dy Rdy.out _).mono ?_);rintro e w1 ⟨vd,rfl,hNd,hb1⟩
      obtain ⟨md,add,nd,cd,rfl⟩:=hNd.shape
      have HNd:=Lib.hid hNd
      clear hNd
      go_wp2_with fail
      refine hK.out _ _ (bl_trans hHeld hb1) (fun hHeld2=>?_)
      replace HNb:=Lib.hid (HNb.out.below hb1)
      replace HNc:=Lib.hid (HNc.out.below hb1)
      replace HX:=Lib.hid (HX.out.below hb1)
      clear hK K hHeld hb1
      have hHeld:=hHeld2
      clear hHeld2
      try simp only [Act.put,x2,x3,x4,x5,x6,x7]
      refine ry1 (i:=17) rfl (fun K hK=>?_)
      go_simp
      go_at_call 95
      (with_reducible refine (times_num _ _ dx dy _ HNc.out HNd.out Bdx.out Bdy.out).mono ?_);rintro e w1 ⟨ve,rfl,hNe,hb1⟩
      obtain ⟨me,ade,ne,ce,rfl⟩:=hNe.shape
      have HNe:=Lib.hid hNe
      clear hNe
      go_wp2_with fail
      refine hK.out _ _ (bl_trans hHeld hb1) (fun hHeld2=>?_)
      replace HNb:=Lib.hid (HNb.out.below hb1)
      replace HX:=Lib.hid (HX.out.below hb1)
      clear hK K hHeld hb1
      have hHeld:=hHeld2
      clear hHeld2
      try simp only [Act.put,x2,x3,x4,x5,x6,x7]
      refine ry1 (i:=18) rfl (fun K hK=>?_)
      go_simp
      go_at_call 96
      (with_reducible refine (plus_c _ _ (a.x * hh) (dx * dy) _ HNb.out HNe.out BX.out BY.out).mono ?_);rintro e w1 ⟨vs,rfl,hNs,hb1⟩
      obtain ⟨ms,ads,ns,cs,rfl⟩:=hNs.shape
      have HNs:=Lib.hid hNs
      clear hNs
      go_wp2_with fail
      refine hK.out _ _ (bl_trans hHeld hb1) (fun hHeld2=>?_)
      replace HX:=Lib.hid (HX.out.below hb1)
      clear hK K hHeld hb1
      have hHeld:=hHeld2
      clear hHeld2
      try simp only [Act.put,x2,x3,x4,x5,x6,x7]
      refine ry1 (i:=20) rfl (fun K hK=>?_)
      obtain ⟨k0,k1⟩:=HX.out.two
      obtain ⟨f0,f1⟩:=HX.out.free2
      go_simp
      refine hK.out _ _ (bel_set2 hHeld hgeHX hgeHX _ _) (fun hHeld2=>?_)
      replace HNs:=Lib.hid (HNs.out.res HX.out (ms) (.slice ads ns cs))
      replace HX:=Lib.hid (HX.out.set2 (.bool ms) (.slice ads ns cs))
      clear hK K hHeld k0 k1 f0 f1
      have hHeld:=hHeld2
      clear hHeld2
      try simp only [x5,x6,x7]
      refine wpAnyH_done (by kernel_rfl) ?_ _
      go_wp2_with fail
      go_meet
      case rel=>exact ⟨_,_,_,_,_,rfl,Nat.le_trans (by have:=HS0.out.2.2.2.2.2.sz;exact this) hgeHX,HX.out,HNs.out,⟨HS0.out.1.below hHeld,HS0.out.2.1.below hHeld,HS0.out.2.2.1.below hHeld,HS0.out.2.2.2.1.below hHeld,HS0.out.2.2.2.2.1.below hHeld,HS0.out.2.2.2.2.2.below hHeld⟩⟩
    ·go_simp
     refine hK.out _ _ (bel_one hHeld _) (fun hHeld2=>?_)
     replace HNb:=Lib.hid (HNb.out.below (bel_al hHeld2 (bl_one _ _)))
     have hgeHX:=hHeld.size
     have HX:=Lib.hid (bel_var2 hHeld (.bool false) (.slice none 0 0) 123)
     clear hK K hHeld
     have hHeld:=hHeld2
     clear hHeld2
     try simp only [Act.put,x2,x3,x4,x5,x6,x7]
     revert HNb
     revert HX
     revert hHeld
     generalize World.alloc _ _=W2
     intro hHeld HX HNb
     refine ry1 (i:=10) rfl (fun K hK=>?_)
     go_simp
     go_at_call 94
     (with_reducible refine (small_r dx Rdx.out _).mono ?_);rintro e w1 ⟨vc,rfl,hNc,hb1⟩
     obtain ⟨mc,adc,nc,cc,rfl⟩:=hNc.shape
     have HNc:=Lib.hid hNc
     clear hNc
     go_wp2_with fail
     refine hK.out _ _ (bl_trans hHeld hb1) (fun hHeld2=>?_)
     replace HNb:=Lib.hid (HNb.out.below hb1)
     replace HX:=Lib.hid (HX.out.below hb1)
     clear hK K hHeld hb1
     have hHeld:=hHeld2
     clear hHeld2
     try simp only [Act.put,x2,x3,x4,x5,x6,x7]
     refine ry1 (i:=16) rfl (fun K hK=>?_)
     go_simp
     go_at_call 94
     (with_reducible refine (small_r dy Rdy.out _).mono ?_);rintro e w1 ⟨vd,rfl,hNd,hb1⟩
     obtain ⟨md,add,nd,cd,rfl⟩:=hNd.shape
     have HNd:=Lib.hid hNd
     clear hNd
     go_wp2_with fail
     refine hK.out _ _ (bl_trans hHeld hb1) (fun hHeld2=>?_)
     replace HNb:=Lib.hid (HNb.out.below hb1)
     replace HX:=Lib.hid (HX.out.below hb1)
     replace HNc:=Lib.hid (HNc.out.below hb1)
     clear hK K hHeld hb1
     have hHeld:=hHeld2
     clear hHeld2
     try simp only [Act.put,x2,x3,x4,x5,x6,x7]
     refine ry1 (i:=17) rfl (fun K hK=>?_)
     go_simp
     go_at_call 95
     (with_reducible refine (times_num _ _ dx dy _ HNc.out HNd.out Bdx.out Bdy.out).mono ?_);rintro e w1 ⟨ve,rfl,hNe,hb1⟩
     obtain ⟨me,ade,ne,ce,rfl⟩:=hNe.shape
     have HNe:=Lib.hid hNe
     clear hNe
     go_wp2_with fail
     refine hK.out _ _ (bl_trans hHeld hb1) (fun hHeld2=>?_)
     replace HNb:=Lib.hid (HNb.out.below hb1)
     replace HX:=Lib.hid (HX.out.below hb1)
     clear hK K hHeld hb1
     have hHeld:=hHeld2
     clear hHeld2
     try simp only [Act.put,x2,x3,x4,x5,x6,x7]
     refine ry1 (i:=18) rfl (fun K hK=>?_)
     go_simp
     go_at_call 96
     (with_reducible refine (plus_c _ _ (a.x * hh) (dx * dy) _ HNb.out HNe.out BX.out BY.out).mono ?_);rintro e w1 ⟨vs,rfl,hNs,hb1⟩
     obtain ⟨ms,ads,ns,cs,rfl⟩:=hNs.shape
     have HNs:=Lib.hid hNs
     clear hNs
     go_wp2_with fail
     refine hK.out _ _ (bl_trans hHeld hb1) (fun hHeld2=>?_)
     replace HX:=Lib.hid (HX.out.below hb1)
     clear hK K hHeld hb1
     have hHeld:=hHeld2
     clear hHeld2
     try simp only [Act.put,x2,x3,x4,x5,x6,x7]
     refine ry1 (i:=20) rfl (fun K hK=>?_)
     obtain ⟨k0,k1⟩:=HX.out.two
     obtain ⟨f0,f1⟩:=HX.out.free2
     go_simp
     refine hK.out _ _ (bel_set2 hHeld hgeHX hgeHX _ _) (fun hHeld2=>?_)
     replace HNs:=Lib.hid (HNs.out.res HX.out (ms) (.slice ads ns cs))
     replace HX:=Lib.hid (HX.out.set2 (.bool ms) (.slice ads ns cs))
     clear hK K hHeld k0 k1 f0 f1
     have hHeld:=hHeld2
     clear hHeld2
     try simp only [x5,x6,x7]
     refine wpAnyH_done (by kernel_rfl) ?_ _
     go_wp2_with fail
     go_meet
     case rel=>exact ⟨_,_,_,_,_,rfl,Nat.le_trans (by have:=HS0.out.2.2.2.2.2.sz;exact this) hgeHX,HX.out,HNs.out,⟨HS0.out.1.below hHeld,HS0.out.2.1.below hHeld,HS0.out.2.2.1.below hHeld,HS0.out.2.2.2.1.below hHeld,HS0.out.2.2.2.2.1.below hHeld,HS0.out.2.2.2.2.2.below hHeld⟩⟩
   ·go_simp
    refine hK.out _ _ (bel_one hHeld _) (fun hHeld2=>?_)
    replace HNa:=Lib.hid (HNa.out.below (bel_al hHeld2 (bl_one _ _)))
    have hgeHX:=hHeld.size
    have HX:=Lib.hid (bel_var2 hHeld (.bool false) (.slice none 0 0) 123)
    clear hK K hHeld
    have hHeld:=hHeld2
    clear hHeld2
    try simp only [Act.put,x2,x3,x4,x5,x6,x7]
    revert HNa
    revert HX
    revert hHeld
    generalize World.alloc _ _=W2
    intro hHeld HX HNa
    refine ry1 (i:=4) rfl (fun K hK=>?_)
    go_simp
    go_at_call 95
    (with_reducible refine (times_num _ _ a.x hh _ HNa.out (HS0.out.2.2.2.2.1.below hHeld) Bax.out Bh.out).mono ?_);rintro e w1 ⟨vb,rfl,hNb,hb1⟩
    obtain ⟨mb,adb,nb,cb,rfl⟩:=hNb.shape
    have HNb:=Lib.hid hNb
    clear hNb
    go_wp2_with fail
    refine hK.out _ _ (bl_trans hHeld hb1) (fun hHeld2=>?_)
    replace HX:=Lib.hid (HX.out.below hb1)
    clear hK K hHeld hb1
    have hHeld:=hHeld2
    clear hHeld2
    try simp only [Act.put,x2,x3,x4,x5,x6,x7]
    refine ry1 (i:=10) rfl (fun K hK=>?_)
    go_simp
    go_at_call 94
    (with_reducible refine (small_r dx Rdx.out _).mono ?_);rintro e w1 ⟨vc,rfl,hNc,hb1⟩
    obtain ⟨mc,adc,nc,cc,rfl⟩:=hNc.shape
    have HNc:=Lib.hid hNc
    clear hNc
    go_wp2_with fail
    refine hK.out _ _ (bl_trans hHeld hb1) (fun hHeld2=>?_)
    replace HX:=Lib.hid (HX.out.below hb1)
    replace HNb:=Lib.hid (HNb.out.below hb1)
    clear hK K hHeld hb1
    have hHeld:=hHeld2
    clear hHeld2
    try simp only [Act.put,x2,x3,x4,x5,x6,x7]
    refine ry1 (i:=16) rfl (fun K hK=>?_)
    go_simp
    go_at_call 94
    (with_reducible refine (small_r dy Rdy.out _).mono ?_);rintro e w1 ⟨vd,rfl,hNd,hb1⟩
    obtain ⟨md,add,nd,cd,rfl⟩:=hNd.shape
    have HNd:=Lib.hid hNd
    clear hNd
    go_wp2_with fail
    refine hK.out _ _ (bl_trans hHeld hb1) (fun hHeld2=>?_)
    replace HX:=Lib.hid (HX.out.below hb1)
    replace HNb:=Lib.hid (HNb.out.below hb1)
    replace HNc:=Lib.hid (HNc.out.below hb1)
    clear hK K hHeld hb1
    have hHeld:=hHeld2
    clear hHeld2
    try simp only [Act.put,x2,x3,x4,x5,x6,x7]
    refine ry1 (i:=17) rfl (fun K hK=>?_)
    go_simp
    go_at_call 95
    (with_reducible refine (times_num _ _ dx dy _ HNc.out HNd.out Bdx.out Bdy.out).mono ?_);rintro e w1 ⟨ve,rfl,hNe,hb1⟩
    obtain ⟨me,ade,ne,ce,rfl⟩:=hNe.shape
    have HNe:=Lib.hid hNe
    clear hNe
    go_wp2_with fail
    refine hK.out _ _ (bl_trans hHeld hb1) (fun hHeld2=>?_)
    replace HX:=Lib.hid (HX.out.below hb1)
    replace HNb:=Lib.hid (HNb.out.below hb1)
    clear hK K hHeld hb1
    have hHeld:=hHeld2
    clear hHeld2
    try simp only [Act.put,x2,x3,x4,x5,x6,x7]
    refine ry1 (i:=18) rfl (fun K hK=>?_)
    go_simp
    go_at_call 96
    (with_reducible refine (plus_c _ _ (a.x * hh) (dx * dy) _ HNb.out HNe.out BX.out BY.out).mono ?_);rintro e w1 ⟨vs,rfl,hNs,hb1⟩
    obtain ⟨ms,ads,ns,cs,rfl⟩:=hNs.shape
    have HNs:=Lib.hid hNs
    clear hNs
    go_wp2_with fail
    refine hK.out _ _ (bl_trans hHeld hb1) (fun hHeld2=>?_)
    replace HX:=Lib.hid (HX.out.below hb1)
    clear hK K hHeld hb1
    have hHeld:=hHeld2
    clear hHeld2
    try simp only [Act.put,x2,x3,x4,x5,x6,x7]
    refine ry1 (i:=20) rfl (fun K hK=>?_)
    obtain ⟨k0,k1⟩:=HX.out.two
    obtain ⟨f0,f1⟩:=HX.out.free2
    go_simp
    refine hK.out _ _ (bel_set2 hHeld hgeHX hgeHX _ _) (fun hHeld2=>?_)
    replace HNs:=Lib.hid (HNs.out.res HX.out (ms) (.slice ads ns cs))
    replace HX:=Lib.hid (HX.out.set2 (.bool ms) (.slice ads ns cs))
    clear hK K hHeld k0 k1 f0 f1
    have hHeld:=hHeld2
    clear hHeld2
    try simp only [x5,x6,x7]
    refine wpAnyH_done (by kernel_rfl) ?_ _
    go_wp2_with fail
    go_meet
    case rel=>exact ⟨_,_,_,_,_,rfl,Nat.le_trans (by have:=HS0.out.2.2.2.2.2.sz;exact this) hgeHX,HX.out,HNs.out,⟨HS0.out.1.below hHeld,HS0.out.2.1.below hHeld,HS0.out.2.2.1.below hHeld,HS0.out.2.2.2.1.below hHeld,HS0.out.2.2.2.2.1.below hHeld,HS0.out.2.2.2.2.2.below hHeld⟩⟩
  ·go_simp
   refine hK.out _ _ (bel_one hHeld _) (fun hHeld2=>?_)
   have hgeHX:=hHeld.size
   have HX:=Lib.hid (bel_var2 hHeld (.bool false) (.slice none 0 0) 123)
   clear hK K hHeld
   have hHeld:=hHeld2
   clear hHeld2
   try simp only [Act.put,x2,x3,x4,x5,x6,x7]
   revert HX
   revert hHeld
   generalize World.alloc _ _=W2
   intro hHeld HX
   refine ry1 (i:=2) rfl (fun K hK=>?_)
   go_simp
   go_at_call 94
   (with_reducible refine (small_r a.x Rax.out _).mono ?_);rintro e w1 ⟨va,rfl,hNa,hb1⟩
   obtain ⟨ma,ada,na,ca,rfl⟩:=hNa.shape
   have HNa:=Lib.hid hNa
   clear hNa
   go_wp2_with fail
   refine hK.out _ _ (bl_trans hHeld hb1) (fun hHeld2=>?_)
   replace HX:=Lib.hid (HX.out.below hb1)
   clear hK K hHeld hb1
   have hHeld:=hHeld2
   clear hHeld2
   try simp only [Act.put,x2,x3,x4,x5,x6,x7]
   refine ry1 (i:=4) rfl (fun K hK=>?_)
   go_simp
   go_at_call 95
   (with_reducible refine (times_num _ _ a.x hh _ HNa.out (HS0.out.2.2.2.2.1.below hHeld) Bax.out Bh.out).mono ?_);rintro e w1 ⟨vb,rfl,hNb,hb1⟩
   obtain ⟨mb,adb,nb,cb,rfl⟩:=hNb.shape
   have HNb:=Lib.hid hNb
   clear hNb
   go_wp2_with fail
   refine hK.out _ _ (bl_trans hHeld hb1) (fun hHeld2=>?_)
   replace HX:=Lib.hid (HX.out.below hb1)
   clear hK K hHeld hb1
   have hHeld:=hHeld2
   clear hHeld2
   try simp only [Act.put,x2,x3,x4,x5,x6,x7]
   refine ry1 (i:=10) rfl (fun K hK=>?_)
   go_simp
   go_at_call 94
   (with_reducible refine (small_r dx Rdx.out _).mono ?_);rintro e w1 ⟨vc,rfl,hNc,hb1⟩
   obtain ⟨mc,adc,nc,cc,rfl⟩:=hNc.shape
   have HNc:=Lib.hid hNc
   clear hNc
   go_wp2_with fail
   refine hK.out _ _ (bl_trans hHeld hb1) (fun hHeld2=>?_)
   replace HX:=Lib.hid (HX.out.below hb1)
   replace HNb:=Lib.hid (HNb.out.below hb1)
   clear hK K hHeld hb1
   have hHeld:=hHeld2
   clear hHeld2
   try simp only [Act.put,x2,x3,x4,x5,x6,x7]
   refine ry1 (i:=16) rfl (fun K hK=>?_)
   go_simp
   go_at_call 94
   (with_reducible refine (small_r dy Rdy.out _).mono ?_);rintro e w1 ⟨vd,rfl,hNd,hb1⟩
   obtain ⟨md,add,nd,cd,rfl⟩:=hNd.shape
   have HNd:=Lib.hid hNd
   clear hNd
   go_wp2_with fail
   refine hK.out _ _ (bl_trans hHeld hb1) (fun hHeld2=>?_)
   replace HX:=Lib.hid (HX.out.below hb1)
   replace HNb:=Lib.hid (HNb.out.below hb1)
   replace HNc:=Lib.hid (HNc.out.below hb1)
   clear hK K hHeld hb1
   have hHeld:=hHeld2
   clear hHeld2
   try simp only [Act.put,x2,x3,x4,x5,x6,x7]
   refine ry1 (i:=17) rfl (fun K hK=>?_)
   go_simp
   go_at_call 95
   (with_reducible refine (times_num _ _ dx dy _ HNc.out HNd.out Bdx.out Bdy.out).mono ?_);rintro e w1 ⟨ve,rfl,hNe,hb1⟩
   obtain ⟨me,ade,ne,ce,rfl⟩:=hNe.shape
   have HNe:=Lib.hid hNe
   clear hNe
   go_wp2_with fail
   refine hK.out _ _ (bl_trans hHeld hb1) (fun hHeld2=>?_)
   replace HX:=Lib.hid (HX.out.below hb1)
   replace HNb:=Lib.hid (HNb.out.below hb1)
   clear hK K hHeld hb1
   have hHeld:=hHeld2
   clear hHeld2
   try simp only [Act.put,x2,x3,x4,x5,x6,x7]
   refine ry1 (i:=18) rfl (fun K hK=>?_)
   go_simp
   go_at_call 96
   (with_reducible refine (plus_c _ _ (a.x * hh) (dx * dy) _ HNb.out HNe.out BX.out BY.out).mono ?_);rintro e w1 ⟨vs,rfl,hNs,hb1⟩
   obtain ⟨ms,ads,ns,cs,rfl⟩:=hNs.shape
   have HNs:=Lib.hid hNs
   clear hNs
   go_wp2_with fail
   refine hK.out _ _ (bl_trans hHeld hb1) (fun hHeld2=>?_)
   replace HX:=Lib.hid (HX.out.below hb1)
   clear hK K hHeld hb1
   have hHeld:=hHeld2
   clear hHeld2
   try simp only [Act.put,x2,x3,x4,x5,x6,x7]
   refine ry1 (i:=20) rfl (fun K hK=>?_)
   obtain ⟨k0,k1⟩:=HX.out.two
   obtain ⟨f0,f1⟩:=HX.out.free2
   go_simp
   refine hK.out _ _ (bel_set2 hHeld hgeHX hgeHX _ _) (fun hHeld2=>?_)
   replace HNs:=Lib.hid (HNs.out.res HX.out (ms) (.slice ads ns cs))
   replace HX:=Lib.hid (HX.out.set2 (.bool ms) (.slice ads ns cs))
   clear hK K hHeld k0 k1 f0 f1
   have hHeld:=hHeld2
   clear hHeld2
   try simp only [x5,x6,x7]
   refine wpAnyH_done (by kernel_rfl) ?_ _
   go_wp2_with fail
   go_meet
   case rel=>exact ⟨_,_,_,_,_,rfl,Nat.le_trans (by have:=HS0.out.2.2.2.2.2.sz;exact this) hgeHX,HX.out,HNs.out,⟨HS0.out.1.below hHeld,HS0.out.2.1.below hHeld,HS0.out.2.2.1.below hHeld,HS0.out.2.2.2.1.below hHeld,HS0.out.2.2.2.2.1.below hHeld,HS0.out.2.2.2.2.2.below hHeld⟩⟩
 case rest=>
 obtain ⟨g8,m8,ad8,n8,c8,rfl,ge8,vn,hN,hS0⟩:=hcut
 clear HS0
 have HS0:Hid ((fun W=>Var W (w.heap.size) [.int .i64 a.x,.int .i64 a.y]∧Var W (w.heap.size + 1) [.int .i64 b.x,.int .i64 b.y]∧Var W (w.heap.size + 1 + 1) [.int .i64 q.x,.int .i64 q.y]∧Var W (g7) [.bool m7,.slice ad7 n7 c7]∧Var W (g8) [.bool m8,.slice ad8 n8 c8]∧NumIs (.agg #[.bool m7,.slice ad7 n7 c7]) (hh) W∧NumIs (.agg #[.bool m8,.slice ad8 n8 c8]) (a.x * hh + dx * dy) W∧Grew w 3 W) _):=⟨hS0.1,hS0.2.1,hS0.2.2.1,hS0.2.2.2.1,vn,hS0.2.2.2.2.1,hN,hS0.2.2.2.2.2⟩
 clear hS0 vn hN
 go_upto_region 3 with (fail)
 go_cut [9] (fun x W=>x=.int .i64 (sg3 (a.x * hh + dx * dy + -(q.x * hh)))∧(fun W=>Var W (w.heap.size) [.int .i64 a.x,.int .i64 a.y]∧Var W (w.heap.size + 1) [.int .i64 b.x,.int .i64 b.y]∧Var W (w.heap.size + 1 + 1) [.int .i64 q.x,.int .i64 q.y]∧Var W (g7) [.bool m7,.slice ad7 n7 c7]∧Var W (g8) [.bool m8,.slice ad8 n8 c8]∧NumIs (.agg #[.bool m7,.slice ad7 n7 c7]) (hh) W∧NumIs (.agg #[.bool m8,.slice ad8 n8 c8]) (a.x * hh + dx * dy) W∧Grew w 3 W) W)
 case first=>
  clear HP
  refine wp_region_bel (by kernel_rfl) (fun hHeld=>?_)
  revert hHeld
  generalize World.drew _=W1
  intro hHeld
  refine tk2 (i:=0) (v:=?_) rfl (Or.inl ⟨by rfl,?_⟩) ?_
  rotate_left
  ·intro Wq hSw
   obtain ⟨k0,k1⟩:=(HS0.out.2.2.2.2.1.below hSw).two
   clear hSw
   go_simp;all_goals (with_reducible rfl)
  try simp only [Act.put,x2,x4,x5,x6,x7]
  refine tk2 (i:=1) (v:=?_) rfl (Or.inl ⟨by rfl,?_⟩) ?_
  rotate_left;· rintro _ -;go_simp;all_goals (with_reducible rfl)
  try simp only [Act.put,x2,x3,x4,x5,x6,x7]
  refine tk2 (i:=2) (v:=?_) rfl (Or.inl ⟨by rfl,?_⟩) ?_
  rotate_left
  ·intro Wq hSw
   obtain ⟨k0,k1⟩:=(HS0.out.2.2.1.below hSw).two
   clear hSw
   go_simp;all_goals (with_reducible rfl)
  try simp only [Act.put,x2,x3,x4,x5,x6,x7]
  refine tk2 (i:=4) (v:=?_) rfl (Or.inl ⟨by rfl,?_⟩) ?_
  rotate_left
  ·intro Wq hSw
   obtain ⟨k0,k1⟩:=(HS0.out.2.2.2.1.below hSw).two
   clear hSw
   go_simp;all_goals (with_reducible rfl)
  try simp only [Act.put,x2,x3,x4,x5,x6,x7]
  refine ry1 (i:=3) rfl (fun K hK=>?_)
  go_simp
  go_at_call 94
  (with_reducible refine (small_r q.x Rqx.out _).mono ?_);rintro e w1 ⟨va,rfl,hNa,hb1⟩
  obtain ⟨ma,ada,na,ca,rfl⟩:=hNa.shape
  have HNa:=Lib.hid hNa
  clear hNa
  go_wp2_with fail
  refine hK.out _ _ (bl_trans hHeld hb1) (fun hHeld2=>?_)
  clear hK K hHeld hb1
  have hHeld:=hHeld2
  clear hHeld2
  try simp only [Act.put,x2,x3,x4,x5,x6,x7]
  refine ry1 (i:=5) rfl (fun K hK=>?_)
  go_simp
  go_at_call 95
  (with_reducible refine (times_num _ _ q.x hh _ HNa.out (HS0.out.2.2.2.2.2.1.below hHeld) Bqx.out Bh.out).mono ?_);rintro e w1 ⟨vb,rfl,hNb,hb1⟩
  obtain ⟨mb,adb,nb,cb,rfl⟩:=hNb.shape
  have HNb:=Lib.hid hNb
  clear hNb
  go_wp2_with fail
  refine hK.out _ _ (bl_trans hHeld hb1) (fun hHeld2=>?_)
  clear hK K hHeld hb1
  have hHeld:=hHeld2
  clear hHeld2
  try simp only [Act.put,x2,x3,x4,x5,x6,x7]
  refine ry1 (i:=6) rfl (fun K hK=>?_)
  go_simp
  go_at_call 111
  (with_reducible refine (neg_num _ (q.x * hh) _ HNb.out).mono ?_);rintro e w1 ⟨vc,rfl,hNc,hb1⟩
  obtain ⟨mc,adc,nc,cc,rfl⟩:=hNc.shape
  have HNc:=Lib.hid hNc
  clear hNc
  go_wp2_with fail
  refine hK.out _ _ (bl_trans hHeld hb1) (fun hHeld2=>?_)
  clear hK K hHeld hb1
  have hHeld:=hHeld2
  clear hHeld2
  try simp only [Act.put,x2,x3,x4,x5,x6,x7]
  refine ry1 (i:=7) rfl (fun K hK=>?_)
  go_simp
  go_at_call 96
  (with_reducible refine (plus_c _ _ (a.x * hh + dx * dy) (-(q.x * hh)) _ (HS0.out.2.2.2.2.2.2.1.below hHeld) HNc.out BS.out BN.out).mono ?_);rintro e w1 ⟨vu,rfl,hNu,hb1⟩
  obtain ⟨mu,adu,nu,cu,rfl⟩:=hNu.shape
  have HNu:=Lib.hid hNu
  clear hNu
  go_wp2_with fail
  refine hK.out _ _ (bl_trans hHeld hb1) (fun hHeld2=>?_)
  clear hK K hHeld hb1
  have hHeld:=hHeld2
  clear hHeld2
  try simp only [Act.put,x2,x3,x4,x5,x6,x7]
  refine ry1 (i:=8) rfl (fun K hK=>?_)
  go_simp
  go_at_call 97
  (with_reducible refine (sign_num _ (a.x * hh + dx * dy + -(q.x * hh)) _ HNu.out).mono ?_)
  rintro e w1 ⟨rfl,hb1⟩
  rw [show sgZ (a.x * hh + dx * dy + -(q.x * hh))=sg3 (a.x * hh + dx * dy + -(q.x * hh)) from rfl]
  go_wp2_with fail
  refine hK.out _ _ (bl_trans hHeld hb1) (fun hHeld2=>?_)
  clear hK K hHeld hb1
  have hHeld:=hHeld2
  clear hHeld2
  try simp only [Act.put,x2,x3,x4,x5,x6,x7]
  refine tk2 (i:=9) (v:=?_) rfl (Or.inl ⟨by rfl,?_⟩) ?_
  rotate_left;· rintro _ -;go_simp;all_goals (with_reducible rfl)
  try simp only [Act.put,x2,x3,x4,x5,x6,x7]
  refine wpAnyH_done (by kernel_rfl) ?_ _
  go_wp2_with fail
  go_meet
  case rel=>exact ⟨rfl,⟨HS0.out.1.below hHeld,HS0.out.2.1.below hHeld,HS0.out.2.2.1.below hHeld,HS0.out.2.2.2.1.below hHeld,HS0.out.2.2.2.2.1.below hHeld,HS0.out.2.2.2.2.2.1.below hHeld,HS0.out.2.2.2.2.2.2.1.below hHeld,HS0.out.2.2.2.2.2.2.2.below hHeld⟩⟩
 case rest=>
 obtain ⟨rfl,hS0⟩:=hcut
 clear HS0
 have HS0:=Lib.hid hS0
 clear hS0
 obtain ⟨c0_,d0_⟩:=HS0.out.1.two
 obtain ⟨c1_,d1_⟩:=HS0.out.2.1.two
 obtain ⟨c2_,d2_⟩:=HS0.out.2.2.1.two
 obtain ⟨c3_,d3_⟩:=HS0.out.2.2.2.1.two
 obtain ⟨c4_,d4_⟩:=HS0.out.2.2.2.2.1.two
 go_wp2_with fail
 (with_reducible refine (sign_num _ hh _ HS0.out.2.2.2.2.2.1).mono ?_);rintro e w1 ⟨rfl,hb1⟩
 have HB:=Lib.hid (HS0.out.2.2.2.2.2.2.2.below hb1).hb
 rw [show sgZ hh=sg3 hh from rfl]
 clear c0_ d0_ c1_ d1_ c2_ d2_ c3_ d3_ c4_ d4_ hb1 HS0
 have hw:wrap64 (sg3 (a.x * hh + dx * dy + -(q.x * hh)) * sg3 hh)=sg3 (a.x * hh + dx * dy + -(q.x * hh)) * sg3 hh:=by
  rcases sg3_vals (a.x * hh + dx * dy + -(q.x * hh)) with ⟨-,e1⟩ | ⟨-,e1⟩ | ⟨-,e1⟩ <;> rcases sg3_vals hh with ⟨-,e2⟩ | ⟨-,e2⟩ | ⟨-,e2⟩ <;> rw [e1,e2] <;> (unfold wrap64;omega)
 have HW:=Lib.hid (show decide (0 < wrap64 (sg3 (a.x * hh + dx * dy + -(q.x * hh)) * sg3 hh))=decide (0 < sg3 (a.x * hh + dx * dy + -(q.x * hh)) * sg3 hh) by rw [hw])
 clear hw
 go_wp2_with fail
 go_ret
 exact ⟨by rw [HP.out,← HW.out];rfl,HB.out⟩
end Go.Proofs.YtpjaefcmaiimlaaGreat
