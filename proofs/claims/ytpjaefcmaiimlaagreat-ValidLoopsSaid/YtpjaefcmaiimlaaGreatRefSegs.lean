/-
  Contract of the document's Segs.
-/
import Derived.Test.YtpjaefcmaiimlaaGreatRefOns
import Derived.Test.YtpjaefcmaiimlaaGreatTellsMath
set_option linter.unusedVariables false
set_option linter.unusedSimpArgs false
set_option linter.deprecated false
namespace Go.Proofs.YtpjaefcmaiimlaaGreat
open Go.RowKit

/-- the document's two answers -/
theorem refSegs_is (a b c d:Pt) :
  segsN a b c d=(if (eqB a b || eqB c d || !(fitB a) || !(fitB b) || !(fitB c) || !(fitB d))=true then 0 else refN (orientZ a b c) (orientZ a b d) (orientZ c d a) (orientZ c d b) (joinedB a b c d) (onB a b c) (onB a b d) (onB c d a) (onB c d b) (insideB c d a) (insideB c d b)) ∧
  segsE a b c d=if (eqB a b || eqB c d || !(fitB a) || !(fitB b) || !(fitB c) || !(fitB d))=true then 2 else 0:=by
 have hb:(properB a b && properB c d) = !(eqB a b || eqB c d || !(fitB a) || !(fitB b) || !(fitB c) || !(fitB d)):=by
  unfold properB
  cases eqB a b <;> cases eqB c d <;> cases fitB a <;> cases fitB b <;> cases fitB c <;> cases fitB d <;> rfl
 cases h:(eqB a b || eqB c d || !(fitB a) || !(fitB b) || !(fitB c) || !(fitB d))
 ·rw [h] at hb
  have e:segsE a b c d=0:=by unfold segsE;rw [hb];rfl
  exact ⟨tells_is e,e⟩
 ·rw [h] at hb
  refine ⟨?_,?_⟩
  ·unfold segsN;rw [hb];rfl
  ·unfold segsE;rw [hb];rfl
theorem good6 {x y a b c d:Bool} (h:(x || y || !a || !b || !c || !d)=false):x=false∧y=false∧a=true∧b=true∧c=true∧d=true:=by
 cases x <;> cases y <;> cases a <;> cases b <;> cases c <;> cases d <;> simp_all
theorem bI_s1 (a:Bool):0 ≤ bI a∧bI a ≤ 10:=by cases a <;> simp [bI]
theorem bI_s2 (a b:Bool):0 ≤ bI a + bI b∧bI a + bI b ≤ 10:=by cases a <;> cases b <;> simp [bI]
theorem bI_s3 (a b c:Bool):0 ≤ bI a + bI b + bI c∧bI a + bI b + bI c ≤ 10:=by cases a <;> cases b <;> cases c <;> simp [bI]
set_option maxHeartbeats 16000000 in
set_option maxRecDepth 100000 in
theorem refSegs_bad (a b c d:Pt) (hk:(eqB a b || eqB c d || !(fitB a) || !(fitB b) || !(fitB c) || !(fitB d))=true) (w:World):Calls Tryz.prog 41 #[.agg #[.int .i64 a.x,.int .i64 a.y],.agg #[.int .i64 b.x,.int .i64 b.y],.agg #[.int .i64 c.x,.int .i64 c.y],.agg #[.int .i64 d.x,.int .i64 d.y]] w (Gives (.tuple #[.int .i64 (segsN a b c d),.int .i64 (segsE a b c d)]) w):=by
 have HK:=Lib.hid hk
 clear hk
 have HP:=Lib.hid (refSegs_is a b c d)
 have q1:=eqPt' a b
 have q2:=eqPt' c d
 have q3:=eqPt' a c
 have q4:=eqPt' a d
 have q5:=eqPt' b c
 have q6:=eqPt' b d
 have F1:=Lib.hid (fun W=>refFits_l a W)
 have F2:=Lib.hid (fun W=>refFits_l b W)
 have F3:=Lib.hid (fun W=>refFits_l c W)
 have F4:=Lib.hid (fun W=>refFits_l d W)
 have T0:=Lib.hid (fun W=>refOrient_l a b c W)
 have T1:=Lib.hid (fun W=>refOrient_l a b d W)
 have S0:=Lib.hid (fun W=>refOrient_l c d a W)
 have S1:=Lib.hid (fun W=>refOrient_l c d b W)
 have O1:=Lib.hid (fun W=>refOn_l a b c W)
 have O2:=Lib.hid (fun W=>refOn_l a b d W)
 have O3:=Lib.hid (fun W=>refOn_l c d a W)
 have O4:=Lib.hid (fun W=>refOn_l c d b W)
 rw [← inside_is c d a,← inside_is c d b] at HP
 unfold joinedB at HP
 generalize orientZ a b c=t0 at *
 generalize orientZ a b d=t1 at *
 generalize orientZ c d a=s0 at *
 generalize orientZ c d b=s1 at *
 generalize onB a b c=o1 at *
 generalize onB a b d=o2 at *
 generalize onB c d a=o3 at *
 generalize onB c d b=o4 at *
 generalize eqB a b=eab at *
 generalize eqB c d=ecd at *
 generalize eqB a c=eac at *
 generalize eqB a d=ead at *
 generalize eqB b c=ebc at *
 generalize eqB b d=ebd at *
 generalize fitB a=fa at *
 generalize fitB b=fb at *
 generalize fitB c=fc at *
 generalize fitB d=fd at *
 generalize segsN a b c d=rn at *
 generalize segsE a b c d=re at *
 go_enter Tryz.func41,Tryz.ntmps41
 go_upto_region 1 with (fail)
 refine wp_abs (fun W=>Var W (w.heap.size) [.int .i64 a.x,.int .i64 a.y]∧Var W (w.heap.size + 1) [.int .i64 b.x,.int .i64 b.y]∧Var W (w.heap.size + 1 + 1) [.int .i64 c.x,.int .i64 c.y]∧Var W (w.heap.size + 1 + 1 + 1) [.int .i64 d.x,.int .i64 d.y]∧Grew w 4 W) ?_ ?_
 ·exact ⟨(var2_new _ _ _ _ _ rfl).below (bl_alloc (bl_alloc (bl_one _ _) _) _),(var2_new _ _ _ _ _ (by simp)).below (bl_alloc (bl_one _ _) _),(var2_new _ _ _ _ _ (by simp)).below (bl_one _ _),var2_new _ _ _ _ _ (by simp),by repeat (first | (with_reducible exact Below.refl _ _) | (with_reducible refine bl_alloc ?_ _) | (with_reducible refine Below.drew ?_) | (with_reducible refine below_drewN' ?_ _) | ((with_reducible refine bl_set ?_ ?_ _);(rotate_left;(dsimp only;omega)))),by simp⟩
 rintro W0 hS0
 have HS0:=Lib.hid hS0
 clear hS0
 obtain ⟨c0,c1⟩:=HS0.out.1.two
 obtain ⟨c2,c3⟩:=HS0.out.2.1.two
 obtain ⟨c4,c5⟩:=HS0.out.2.2.1.two
 obtain ⟨c6,c7⟩:=HS0.out.2.2.2.1.two
 go_cut [40] (fun x W=>x=.bool (eab || ecd || !fa || !fb || !fc || !fd)∧(fun W=>Var W (w.heap.size) [.int .i64 a.x,.int .i64 a.y]∧Var W (w.heap.size + 1) [.int .i64 b.x,.int .i64 b.y]∧Var W (w.heap.size + 1 + 1) [.int .i64 c.x,.int .i64 c.y]∧Var W (w.heap.size + 1 + 1 + 1) [.int .i64 d.x,.int .i64 d.y]∧Grew w 4 W) W)
 case first=>
  cases eab
  case true=>
   go_wp2_with fail
   go_meet
   case rel=>exact ⟨by simp,HS0.out⟩
  case false=>
  cases ecd
  case true=>
   go_wp2_with fail
   go_meet
   case rel=>exact ⟨by simp,HS0.out⟩
  case false=>
  go_wp2_with fail
  (with_reducible refine (F1.out _).mono ?_);rintro e w1 ⟨rfl,hb1⟩
  replace HS0:Hid ((fun W=>Var W (w.heap.size) [.int .i64 a.x,.int .i64 a.y]∧Var W (w.heap.size + 1) [.int .i64 b.x,.int .i64 b.y]∧Var W (w.heap.size + 1 + 1) [.int .i64 c.x,.int .i64 c.y]∧Var W (w.heap.size + 1 + 1 + 1) [.int .i64 d.x,.int .i64 d.y]∧Grew w 4 W) w1):=⟨HS0.out.1.below hb1,HS0.out.2.1.below hb1,HS0.out.2.2.1.below hb1,HS0.out.2.2.2.1.below hb1,HS0.out.2.2.2.2.below hb1⟩
  clear c0 c1 c2 c3 c4 c5 c6 c7 hb1
  obtain ⟨c0,c1⟩:=HS0.out.1.two
  obtain ⟨c2,c3⟩:=HS0.out.2.1.two
  obtain ⟨c4,c5⟩:=HS0.out.2.2.1.two
  obtain ⟨c6,c7⟩:=HS0.out.2.2.2.1.two
  cases fa
  case false=>
   go_wp2_with fail
   go_meet
   case rel=>exact ⟨by simp,HS0.out⟩
  case true=>
  go_wp2_with fail
  (with_reducible refine (F2.out _).mono ?_);rintro e w1 ⟨rfl,hb1⟩
  replace HS0:Hid ((fun W=>Var W (w.heap.size) [.int .i64 a.x,.int .i64 a.y]∧Var W (w.heap.size + 1) [.int .i64 b.x,.int .i64 b.y]∧Var W (w.heap.size + 1 + 1) [.int .i64 c.x,.int .i64 c.y]∧Var W (w.heap.size + 1 + 1 + 1) [.int .i64 d.x,.int .i64 d.y]∧Grew w 4 W) w1):=⟨HS0.out.1.below hb1,HS0.out.2.1.below hb1,HS0.out.2.2.1.below hb1,HS0.out.2.2.2.1.below hb1,HS0.out.2.2.2.2.below hb1⟩
  clear c0 c1 c2 c3 c4 c5 c6 c7 hb1
  obtain ⟨c0,c1⟩:=HS0.out.1.two
  obtain ⟨c2,c3⟩:=HS0.out.2.1.two
  obtain ⟨c4,c5⟩:=HS0.out.2.2.1.two
  obtain ⟨c6,c7⟩:=HS0.out.2.2.2.1.two
  cases fb
  case false=>
   go_wp2_with fail
   go_meet
   case rel=>exact ⟨by simp,HS0.out⟩
  case true=>
  go_wp2_with fail
  (with_reducible refine (F3.out _).mono ?_);rintro e w1 ⟨rfl,hb1⟩
  replace HS0:Hid ((fun W=>Var W (w.heap.size) [.int .i64 a.x,.int .i64 a.y]∧Var W (w.heap.size + 1) [.int .i64 b.x,.int .i64 b.y]∧Var W (w.heap.size + 1 + 1) [.int .i64 c.x,.int .i64 c.y]∧Var W (w.heap.size + 1 + 1 + 1) [.int .i64 d.x,.int .i64 d.y]∧Grew w 4 W) w1):=⟨HS0.out.1.below hb1,HS0.out.2.1.below hb1,HS0.out.2.2.1.below hb1,HS0.out.2.2.2.1.below hb1,HS0.out.2.2.2.2.below hb1⟩
  clear c0 c1 c2 c3 c4 c5 c6 c7 hb1
  obtain ⟨c0,c1⟩:=HS0.out.1.two
  obtain ⟨c2,c3⟩:=HS0.out.2.1.two
  obtain ⟨c4,c5⟩:=HS0.out.2.2.1.two
  obtain ⟨c6,c7⟩:=HS0.out.2.2.2.1.two
  cases fc
  case false=>
   go_wp2_with fail
   go_meet
   case rel=>exact ⟨by simp,HS0.out⟩
  case true=>
  go_wp2_with fail
  (with_reducible refine (F4.out _).mono ?_);rintro e w1 ⟨rfl,hb1⟩
  replace HS0:Hid ((fun W=>Var W (w.heap.size) [.int .i64 a.x,.int .i64 a.y]∧Var W (w.heap.size + 1) [.int .i64 b.x,.int .i64 b.y]∧Var W (w.heap.size + 1 + 1) [.int .i64 c.x,.int .i64 c.y]∧Var W (w.heap.size + 1 + 1 + 1) [.int .i64 d.x,.int .i64 d.y]∧Grew w 4 W) w1):=⟨HS0.out.1.below hb1,HS0.out.2.1.below hb1,HS0.out.2.2.1.below hb1,HS0.out.2.2.2.1.below hb1,HS0.out.2.2.2.2.below hb1⟩
  clear c0 c1 c2 c3 c4 c5 c6 c7 hb1
  obtain ⟨c0,c1⟩:=HS0.out.1.two
  obtain ⟨c2,c3⟩:=HS0.out.2.1.two
  obtain ⟨c4,c5⟩:=HS0.out.2.2.1.two
  obtain ⟨c6,c7⟩:=HS0.out.2.2.2.1.two
  cases fd
  all_goals
   go_wp2_with fail
   go_meet
   case rel=>exact ⟨rfl,HS0.out⟩
 case rest=>
 obtain ⟨rfl,hS0⟩:=hcut
 replace HS0:=Lib.hid hS0
 clear hS0 c0 c1 c2 c3 c4 c5 c6 c7
 obtain ⟨c0,c1⟩:=HS0.out.1.two
 obtain ⟨c2,c3⟩:=HS0.out.2.1.two
 obtain ⟨c4,c5⟩:=HS0.out.2.2.1.two
 obtain ⟨c6,c7⟩:=HS0.out.2.2.2.1.two
 clear q1 q2 F1 F2 F3 F4
 generalize (eab || ecd || !fa || !fb || !fc || !fd)=bad at *
 cases bad
 case true=>
  go_wp2
  go_ret2
  exact ⟨by rw [HP.out.1,HP.out.2];rfl,HS0.out.2.2.2.2.hb⟩
 case false=>
  exact absurd HK.out (by simp)
set_option maxHeartbeats 16000000 in
set_option maxRecDepth 100000 in
theorem refSegs_col (a b c d:Pt) (hk:(eqB a b || eqB c d || !(fitB a) || !(fitB b) || !(fitB c) || !(fitB d))=false∧(orientZ a b c=0∧orientZ a b d=0)) (w:World):Calls Tryz.prog 41 #[.agg #[.int .i64 a.x,.int .i64 a.y],.agg #[.int .i64 b.x,.int .i64 b.y],.agg #[.int .i64 c.x,.int .i64 c.y],.agg #[.int .i64 d.x,.int .i64 d.y]] w (Gives (.tuple #[.int .i64 (segsN a b c d),.int .i64 (segsE a b c d)]) w):=by
 have HK:=Lib.hid hk
 clear hk
 have HP:=Lib.hid (refSegs_is a b c d)
 have q1:=eqPt' a b
 have q2:=eqPt' c d
 have q3:=eqPt' a c
 have q4:=eqPt' a d
 have q5:=eqPt' b c
 have q6:=eqPt' b d
 have F1:=Lib.hid (fun W=>refFits_l a W)
 have F2:=Lib.hid (fun W=>refFits_l b W)
 have F3:=Lib.hid (fun W=>refFits_l c W)
 have F4:=Lib.hid (fun W=>refFits_l d W)
 have T0:=Lib.hid (fun W=>refOrient_l a b c W)
 have T1:=Lib.hid (fun W=>refOrient_l a b d W)
 have S0:=Lib.hid (fun W=>refOrient_l c d a W)
 have S1:=Lib.hid (fun W=>refOrient_l c d b W)
 have O1:=Lib.hid (fun W=>refOn_l a b c W)
 have O2:=Lib.hid (fun W=>refOn_l a b d W)
 have O3:=Lib.hid (fun W=>refOn_l c d a W)
 have O4:=Lib.hid (fun W=>refOn_l c d b W)
 rw [← inside_is c d a,← inside_is c d b] at HP
 unfold joinedB at HP
 generalize orientZ a b c=t0 at *
 generalize orientZ a b d=t1 at *
 generalize orientZ c d a=s0 at *
 generalize orientZ c d b=s1 at *
 generalize onB a b c=o1 at *
 generalize onB a b d=o2 at *
 generalize onB c d a=o3 at *
 generalize onB c d b=o4 at *
 generalize eqB a b=eab at *
 generalize eqB c d=ecd at *
 generalize eqB a c=eac at *
 generalize eqB a d=ead at *
 generalize eqB b c=ebc at *
 generalize eqB b d=ebd at *
 generalize fitB a=fa at *
 generalize fitB b=fb at *
 generalize fitB c=fc at *
 generalize fitB d=fd at *
 generalize segsN a b c d=rn at *
 generalize segsE a b c d=re at *
 go_enter Tryz.func41,Tryz.ntmps41
 go_upto_region 1 with (fail)
 refine wp_abs (fun W=>Var W (w.heap.size) [.int .i64 a.x,.int .i64 a.y]∧Var W (w.heap.size + 1) [.int .i64 b.x,.int .i64 b.y]∧Var W (w.heap.size + 1 + 1) [.int .i64 c.x,.int .i64 c.y]∧Var W (w.heap.size + 1 + 1 + 1) [.int .i64 d.x,.int .i64 d.y]∧Grew w 4 W) ?_ ?_
 ·exact ⟨(var2_new _ _ _ _ _ rfl).below (bl_alloc (bl_alloc (bl_one _ _) _) _),(var2_new _ _ _ _ _ (by simp)).below (bl_alloc (bl_one _ _) _),(var2_new _ _ _ _ _ (by simp)).below (bl_one _ _),var2_new _ _ _ _ _ (by simp),by repeat (first | (with_reducible exact Below.refl _ _) | (with_reducible refine bl_alloc ?_ _) | (with_reducible refine Below.drew ?_) | (with_reducible refine below_drewN' ?_ _) | ((with_reducible refine bl_set ?_ ?_ _);(rotate_left;(dsimp only;omega)))),by simp⟩
 rintro W0 hS0
 have HS0:=Lib.hid hS0
 clear hS0
 obtain ⟨c0,c1⟩:=HS0.out.1.two
 obtain ⟨c2,c3⟩:=HS0.out.2.1.two
 obtain ⟨c4,c5⟩:=HS0.out.2.2.1.two
 obtain ⟨c6,c7⟩:=HS0.out.2.2.2.1.two
 obtain ⟨rfl,rfl,rfl,rfl,rfl,rfl⟩:=good6 HK.out.1
 have HN:Hid (rn=refN t0 t1 s0 s1 (eac || ead || ebc || ebd) o1 o2 o3 o4 (o3 && !eac && !ead) (o4 && !ebc && !ebd)∧re=0):=⟨HP.out.1,HP.out.2⟩
 clear HP
 go_cut [40] (fun x W=>x=.bool false∧(fun W=>Var W (w.heap.size) [.int .i64 a.x,.int .i64 a.y]∧Var W (w.heap.size + 1) [.int .i64 b.x,.int .i64 b.y]∧Var W (w.heap.size + 1 + 1) [.int .i64 c.x,.int .i64 c.y]∧Var W (w.heap.size + 1 + 1 + 1) [.int .i64 d.x,.int .i64 d.y]∧Grew w 4 W) W)
 case first=>
  go_wp2_with fail
  (with_reducible refine (F1.out _).mono ?_);rintro e w1 ⟨rfl,hb1⟩
  replace HS0:Hid ((fun W=>Var W (w.heap.size) [.int .i64 a.x,.int .i64 a.y]∧Var W (w.heap.size + 1) [.int .i64 b.x,.int .i64 b.y]∧Var W (w.heap.size + 1 + 1) [.int .i64 c.x,.int .i64 c.y]∧Var W (w.heap.size + 1 + 1 + 1) [.int .i64 d.x,.int .i64 d.y]∧Grew w 4 W) w1):=⟨HS0.out.1.below hb1,HS0.out.2.1.below hb1,HS0.out.2.2.1.below hb1,HS0.out.2.2.2.1.below hb1,HS0.out.2.2.2.2.below hb1⟩
  clear c0 c1 c2 c3 c4 c5 c6 c7 hb1
  obtain ⟨c0,c1⟩:=HS0.out.1.two
  obtain ⟨c2,c3⟩:=HS0.out.2.1.two
  obtain ⟨c4,c5⟩:=HS0.out.2.2.1.two
  obtain ⟨c6,c7⟩:=HS0.out.2.2.2.1.two
  go_wp2_with fail
  (with_reducible refine (F2.out _).mono ?_);rintro e w1 ⟨rfl,hb1⟩
  replace HS0:Hid ((fun W=>Var W (w.heap.size) [.int .i64 a.x,.int .i64 a.y]∧Var W (w.heap.size + 1) [.int .i64 b.x,.int .i64 b.y]∧Var W (w.heap.size + 1 + 1) [.int .i64 c.x,.int .i64 c.y]∧Var W (w.heap.size + 1 + 1 + 1) [.int .i64 d.x,.int .i64 d.y]∧Grew w 4 W) w1):=⟨HS0.out.1.below hb1,HS0.out.2.1.below hb1,HS0.out.2.2.1.below hb1,HS0.out.2.2.2.1.below hb1,HS0.out.2.2.2.2.below hb1⟩
  clear c0 c1 c2 c3 c4 c5 c6 c7 hb1
  obtain ⟨c0,c1⟩:=HS0.out.1.two
  obtain ⟨c2,c3⟩:=HS0.out.2.1.two
  obtain ⟨c4,c5⟩:=HS0.out.2.2.1.two
  obtain ⟨c6,c7⟩:=HS0.out.2.2.2.1.two
  go_wp2_with fail
  (with_reducible refine (F3.out _).mono ?_);rintro e w1 ⟨rfl,hb1⟩
  replace HS0:Hid ((fun W=>Var W (w.heap.size) [.int .i64 a.x,.int .i64 a.y]∧Var W (w.heap.size + 1) [.int .i64 b.x,.int .i64 b.y]∧Var W (w.heap.size + 1 + 1) [.int .i64 c.x,.int .i64 c.y]∧Var W (w.heap.size + 1 + 1 + 1) [.int .i64 d.x,.int .i64 d.y]∧Grew w 4 W) w1):=⟨HS0.out.1.below hb1,HS0.out.2.1.below hb1,HS0.out.2.2.1.below hb1,HS0.out.2.2.2.1.below hb1,HS0.out.2.2.2.2.below hb1⟩
  clear c0 c1 c2 c3 c4 c5 c6 c7 hb1
  obtain ⟨c0,c1⟩:=HS0.out.1.two
  obtain ⟨c2,c3⟩:=HS0.out.2.1.two
  obtain ⟨c4,c5⟩:=HS0.out.2.2.1.two
  obtain ⟨c6,c7⟩:=HS0.out.2.2.2.1.two
  go_wp2_with fail
  (with_reducible refine (F4.out _).mono ?_);rintro e w1 ⟨rfl,hb1⟩
  replace HS0:Hid ((fun W=>Var W (w.heap.size) [.int .i64 a.x,.int .i64 a.y]∧Var W (w.heap.size + 1) [.int .i64 b.x,.int .i64 b.y]∧Var W (w.heap.size + 1 + 1) [.int .i64 c.x,.int .i64 c.y]∧Var W (w.heap.size + 1 + 1 + 1) [.int .i64 d.x,.int .i64 d.y]∧Grew w 4 W) w1):=⟨HS0.out.1.below hb1,HS0.out.2.1.below hb1,HS0.out.2.2.1.below hb1,HS0.out.2.2.2.1.below hb1,HS0.out.2.2.2.2.below hb1⟩
  clear c0 c1 c2 c3 c4 c5 c6 c7 hb1
  obtain ⟨c0,c1⟩:=HS0.out.1.two
  obtain ⟨c2,c3⟩:=HS0.out.2.1.two
  obtain ⟨c4,c5⟩:=HS0.out.2.2.1.two
  obtain ⟨c6,c7⟩:=HS0.out.2.2.2.1.two
  go_wp2_with fail
  go_meet
  case rel=>exact ⟨rfl,HS0.out⟩
 case rest=>
 obtain ⟨rfl,hS0⟩:=hcut
 replace HS0:=Lib.hid hS0
 clear hS0 c0 c1 c2 c3 c4 c5 c6 c7
 obtain ⟨c0,c1⟩:=HS0.out.1.two
 obtain ⟨c2,c3⟩:=HS0.out.2.1.two
 obtain ⟨c4,c5⟩:=HS0.out.2.2.1.two
 obtain ⟨c6,c7⟩:=HS0.out.2.2.2.1.two
 clear q1 q2 F1 F2 F3 F4
 go_wp2_with fail
 (with_reducible refine (T0.out _).mono ?_);rintro e w1 ⟨rfl,hb1⟩
 replace HS0:Hid ((fun W=>Var W (w.heap.size) [.int .i64 a.x,.int .i64 a.y]∧Var W (w.heap.size + 1) [.int .i64 b.x,.int .i64 b.y]∧Var W (w.heap.size + 1 + 1) [.int .i64 c.x,.int .i64 c.y]∧Var W (w.heap.size + 1 + 1 + 1) [.int .i64 d.x,.int .i64 d.y]∧Grew w 4 W) w1):=⟨HS0.out.1.below hb1,HS0.out.2.1.below hb1,HS0.out.2.2.1.below hb1,HS0.out.2.2.2.1.below hb1,HS0.out.2.2.2.2.below hb1⟩
 clear c0 c1 c2 c3 c4 c5 c6 c7 hb1
 obtain ⟨c0,c1⟩:=HS0.out.1.two
 obtain ⟨c2,c3⟩:=HS0.out.2.1.two
 obtain ⟨c4,c5⟩:=HS0.out.2.2.1.two
 obtain ⟨c6,c7⟩:=HS0.out.2.2.2.1.two
 go_wp2_with fail
 (with_reducible refine (T1.out _).mono ?_);rintro e w1 ⟨rfl,hb1⟩
 replace HS0:Hid ((fun W=>Var W (w.heap.size) [.int .i64 a.x,.int .i64 a.y]∧Var W (w.heap.size + 1) [.int .i64 b.x,.int .i64 b.y]∧Var W (w.heap.size + 1 + 1) [.int .i64 c.x,.int .i64 c.y]∧Var W (w.heap.size + 1 + 1 + 1) [.int .i64 d.x,.int .i64 d.y]∧Grew w 4 W) w1):=⟨HS0.out.1.below hb1,HS0.out.2.1.below hb1,HS0.out.2.2.1.below hb1,HS0.out.2.2.2.1.below hb1,HS0.out.2.2.2.2.below hb1⟩
 clear c0 c1 c2 c3 c4 c5 c6 c7 hb1
 obtain ⟨c0,c1⟩:=HS0.out.1.two
 obtain ⟨c2,c3⟩:=HS0.out.2.1.two
 obtain ⟨c4,c5⟩:=HS0.out.2.2.1.two
 obtain ⟨c6,c7⟩:=HS0.out.2.2.2.1.two
 obtain ⟨rfl,rfl⟩:=HK.out.2
 have HP:Hid (rn=(if bI o1 + bI o2 + bI (o3 && !eac && !ead) + bI (o4 && !ebc && !ebd) ≥ 2 then 4 else if bI o1 + bI o2 + bI (o3 && !eac && !ead) + bI (o4 && !ebc && !ebd)=1 then 1 else 0)∧re=0):=⟨HN.out.1.trans (if_pos ⟨rfl,rfl⟩),HN.out.2⟩
 clear HN HK
 go_upto_region 7 with (fail)
 go_cut [58] (fun x W=>x=.bool o1∧(fun W=>Var W (w.heap.size) [.int .i64 a.x,.int .i64 a.y]∧Var W (w.heap.size + 1) [.int .i64 b.x,.int .i64 b.y]∧Var W (w.heap.size + 1 + 1) [.int .i64 c.x,.int .i64 c.y]∧Var W (w.heap.size + 1 + 1 + 1) [.int .i64 d.x,.int .i64 d.y]∧Grew w 4 W) W)
 case first=>
  go_wp2_with fail
  (with_reducible refine (O1.out _).mono ?_);rintro e w1 ⟨rfl,hb1⟩
  replace HS0:Hid ((fun W=>Var W (w.heap.size) [.int .i64 a.x,.int .i64 a.y]∧Var W (w.heap.size + 1) [.int .i64 b.x,.int .i64 b.y]∧Var W (w.heap.size + 1 + 1) [.int .i64 c.x,.int .i64 c.y]∧Var W (w.heap.size + 1 + 1 + 1) [.int .i64 d.x,.int .i64 d.y]∧Grew w 4 W) w1):=⟨HS0.out.1.below hb1,HS0.out.2.1.below hb1,HS0.out.2.2.1.below hb1,HS0.out.2.2.2.1.below hb1,HS0.out.2.2.2.2.below hb1⟩
  clear c0 c1 c2 c3 c4 c5 c6 c7 hb1
  obtain ⟨c0,c1⟩:=HS0.out.1.two
  obtain ⟨c2,c3⟩:=HS0.out.2.1.two
  obtain ⟨c4,c5⟩:=HS0.out.2.2.1.two
  obtain ⟨c6,c7⟩:=HS0.out.2.2.2.1.two
  go_wp2_with fail
  go_meet
  case rel=>exact ⟨rfl,HS0.out⟩
 case rest=>
 obtain ⟨rfl,hS0⟩:=hcut
 replace HS0:=Lib.hid hS0
 clear hS0 c0 c1 c2 c3 c4 c5 c6 c7
 obtain ⟨c0,c1⟩:=HS0.out.1.two
 obtain ⟨c2,c3⟩:=HS0.out.2.1.two
 obtain ⟨c4,c5⟩:=HS0.out.2.2.1.two
 obtain ⟨c6,c7⟩:=HS0.out.2.2.2.1.two
 go_upto_if 58 with (fail)
 go_cut [12] (fun x W=>x=.int .i64 (bI o1)∧(fun W=>Var W (w.heap.size) [.int .i64 a.x,.int .i64 a.y]∧Var W (w.heap.size + 1) [.int .i64 b.x,.int .i64 b.y]∧Var W (w.heap.size + 1 + 1) [.int .i64 c.x,.int .i64 c.y]∧Var W (w.heap.size + 1 + 1 + 1) [.int .i64 d.x,.int .i64 d.y]∧Grew w 4 W) W)
 case first=>
  cases o1
  all_goals
   go_wp2_with fail
   go_meet
   case rel=>exact ⟨by simp [bI],HS0.out⟩
 case rest=>
 obtain ⟨rfl,hS0⟩:=hcut
 replace HS0:=Lib.hid hS0
 clear hS0 c0 c1 c2 c3 c4 c5 c6 c7
 obtain ⟨c0,c1⟩:=HS0.out.1.two
 obtain ⟨c2,c3⟩:=HS0.out.2.1.two
 obtain ⟨c4,c5⟩:=HS0.out.2.2.1.two
 obtain ⟨c6,c7⟩:=HS0.out.2.2.2.1.two
 go_upto_region 9 with (fail)
 go_cut [64] (fun x W=>x=.bool o2∧(fun W=>Var W (w.heap.size) [.int .i64 a.x,.int .i64 a.y]∧Var W (w.heap.size + 1) [.int .i64 b.x,.int .i64 b.y]∧Var W (w.heap.size + 1 + 1) [.int .i64 c.x,.int .i64 c.y]∧Var W (w.heap.size + 1 + 1 + 1) [.int .i64 d.x,.int .i64 d.y]∧Grew w 4 W) W)
 case first=>
  go_wp2_with fail
  (with_reducible refine (O2.out _).mono ?_);rintro e w1 ⟨rfl,hb1⟩
  replace HS0:Hid ((fun W=>Var W (w.heap.size) [.int .i64 a.x,.int .i64 a.y]∧Var W (w.heap.size + 1) [.int .i64 b.x,.int .i64 b.y]∧Var W (w.heap.size + 1 + 1) [.int .i64 c.x,.int .i64 c.y]∧Var W (w.heap.size + 1 + 1 + 1) [.int .i64 d.x,.int .i64 d.y]∧Grew w 4 W) w1):=⟨HS0.out.1.below hb1,HS0.out.2.1.below hb1,HS0.out.2.2.1.below hb1,HS0.out.2.2.2.1.below hb1,HS0.out.2.2.2.2.below hb1⟩
  clear c0 c1 c2 c3 c4 c5 c6 c7 hb1
  obtain ⟨c0,c1⟩:=HS0.out.1.two
  obtain ⟨c2,c3⟩:=HS0.out.2.1.two
  obtain ⟨c4,c5⟩:=HS0.out.2.2.1.two
  obtain ⟨c6,c7⟩:=HS0.out.2.2.2.1.two
  go_wp2_with fail
  go_meet
  case rel=>exact ⟨rfl,HS0.out⟩
 case rest=>
 obtain ⟨rfl,hS0⟩:=hcut
 replace HS0:=Lib.hid hS0
 clear hS0 c0 c1 c2 c3 c4 c5 c6 c7
 obtain ⟨c0,c1⟩:=HS0.out.1.two
 obtain ⟨c2,c3⟩:=HS0.out.2.1.two
 obtain ⟨c4,c5⟩:=HS0.out.2.2.1.two
 obtain ⟨c6,c7⟩:=HS0.out.2.2.2.1.two
 go_upto_if 64 with (fail)
 go_cut [12] (fun x W=>x=.int .i64 (bI o1 + bI o2)∧(fun W=>Var W (w.heap.size) [.int .i64 a.x,.int .i64 a.y]∧Var W (w.heap.size + 1) [.int .i64 b.x,.int .i64 b.y]∧Var W (w.heap.size + 1 + 1) [.int .i64 c.x,.int .i64 c.y]∧Var W (w.heap.size + 1 + 1 + 1) [.int .i64 d.x,.int .i64 d.y]∧Grew w 4 W) W)
 case first=>
  obtain ⟨b0,b9⟩:=bI_s1 o1
  clear HP
  generalize bI o1=u at *
  cases o2
  all_goals
   go_wp2_with fail
   go_meet
   case rel=>exact ⟨by simp [bI],HS0.out⟩
 case rest=>
 obtain ⟨rfl,hS0⟩:=hcut
 replace HS0:=Lib.hid hS0
 clear hS0 c0 c1 c2 c3 c4 c5 c6 c7
 obtain ⟨c0,c1⟩:=HS0.out.1.two
 obtain ⟨c2,c3⟩:=HS0.out.2.1.two
 obtain ⟨c4,c5⟩:=HS0.out.2.2.1.two
 obtain ⟨c6,c7⟩:=HS0.out.2.2.2.1.two
 go_upto_region 11 with (fail)
 go_cut [80] (fun x W=>x=.bool (o3 && !eac && !ead)∧(fun W=>Var W (w.heap.size) [.int .i64 a.x,.int .i64 a.y]∧Var W (w.heap.size + 1) [.int .i64 b.x,.int .i64 b.y]∧Var W (w.heap.size + 1 + 1) [.int .i64 c.x,.int .i64 c.y]∧Var W (w.heap.size + 1 + 1 + 1) [.int .i64 d.x,.int .i64 d.y]∧Grew w 4 W) W)
 case first=>
  go_wp2_with fail
  (with_reducible refine (O3.out _).mono ?_);rintro e w1 ⟨rfl,hb1⟩
  replace HS0:Hid ((fun W=>Var W (w.heap.size) [.int .i64 a.x,.int .i64 a.y]∧Var W (w.heap.size + 1) [.int .i64 b.x,.int .i64 b.y]∧Var W (w.heap.size + 1 + 1) [.int .i64 c.x,.int .i64 c.y]∧Var W (w.heap.size + 1 + 1 + 1) [.int .i64 d.x,.int .i64 d.y]∧Grew w 4 W) w1):=⟨HS0.out.1.below hb1,HS0.out.2.1.below hb1,HS0.out.2.2.1.below hb1,HS0.out.2.2.2.1.below hb1,HS0.out.2.2.2.2.below hb1⟩
  clear c0 c1 c2 c3 c4 c5 c6 c7 hb1
  obtain ⟨c0,c1⟩:=HS0.out.1.two
  obtain ⟨c2,c3⟩:=HS0.out.2.1.two
  obtain ⟨c4,c5⟩:=HS0.out.2.2.1.two
  obtain ⟨c6,c7⟩:=HS0.out.2.2.2.1.two
  have hc:o3=false ∨ (o3=true∧eac=true) ∨ (o3=true∧eac=false∧ead=true) ∨ (o3=true∧eac=false∧ead=false):=by cases o3 <;> cases eac <;> cases ead <;> simp
  rcases hc with rfl | ⟨rfl,rfl⟩ | ⟨rfl,rfl,rfl⟩ | ⟨rfl,rfl,rfl⟩
  all_goals
   go_wp2_with fail
   go_meet
   case rel=>exact ⟨by simp,HS0.out⟩
 case rest=>
 obtain ⟨rfl,hS0⟩:=hcut
 replace HS0:=Lib.hid hS0
 clear hS0 c0 c1 c2 c3 c4 c5 c6 c7
 obtain ⟨c0,c1⟩:=HS0.out.1.two
 obtain ⟨c2,c3⟩:=HS0.out.2.1.two
 obtain ⟨c4,c5⟩:=HS0.out.2.2.1.two
 obtain ⟨c6,c7⟩:=HS0.out.2.2.2.1.two
 go_upto_if 80 with (fail)
 go_cut [12] (fun x W=>x=.int .i64 (bI o1 + bI o2 + bI (o3 && !eac && !ead))∧(fun W=>Var W (w.heap.size) [.int .i64 a.x,.int .i64 a.y]∧Var W (w.heap.size + 1) [.int .i64 b.x,.int .i64 b.y]∧Var W (w.heap.size + 1 + 1) [.int .i64 c.x,.int .i64 c.y]∧Var W (w.heap.size + 1 + 1 + 1) [.int .i64 d.x,.int .i64 d.y]∧Grew w 4 W) W)
 case first=>
  obtain ⟨b0,b9⟩:=bI_s2 o1 o2
  clear HP
  generalize bI o1 + bI o2=u at *
  generalize (o3 && !eac && !ead)=v at *
  cases v
  all_goals
   go_wp2_with fail
   go_meet
   case rel=>exact ⟨by simp [bI],HS0.out⟩
 case rest=>
 obtain ⟨rfl,hS0⟩:=hcut
 replace HS0:=Lib.hid hS0
 clear hS0 c0 c1 c2 c3 c4 c5 c6 c7
 obtain ⟨c0,c1⟩:=HS0.out.1.two
 obtain ⟨c2,c3⟩:=HS0.out.2.1.two
 obtain ⟨c4,c5⟩:=HS0.out.2.2.1.two
 obtain ⟨c6,c7⟩:=HS0.out.2.2.2.1.two
 go_upto_region 13 with (fail)
 go_cut [96] (fun x W=>x=.bool (o4 && !ebc && !ebd)∧(fun W=>Var W (w.heap.size) [.int .i64 a.x,.int .i64 a.y]∧Var W (w.heap.size + 1) [.int .i64 b.x,.int .i64 b.y]∧Var W (w.heap.size + 1 + 1) [.int .i64 c.x,.int .i64 c.y]∧Var W (w.heap.size + 1 + 1 + 1) [.int .i64 d.x,.int .i64 d.y]∧Grew w 4 W) W)
 case first=>
  go_wp2_with fail
  (with_reducible refine (O4.out _).mono ?_);rintro e w1 ⟨rfl,hb1⟩
  replace HS0:Hid ((fun W=>Var W (w.heap.size) [.int .i64 a.x,.int .i64 a.y]∧Var W (w.heap.size + 1) [.int .i64 b.x,.int .i64 b.y]∧Var W (w.heap.size + 1 + 1) [.int .i64 c.x,.int .i64 c.y]∧Var W (w.heap.size + 1 + 1 + 1) [.int .i64 d.x,.int .i64 d.y]∧Grew w 4 W) w1):=⟨HS0.out.1.below hb1,HS0.out.2.1.below hb1,HS0.out.2.2.1.below hb1,HS0.out.2.2.2.1.below hb1,HS0.out.2.2.2.2.below hb1⟩
  clear c0 c1 c2 c3 c4 c5 c6 c7 hb1
  obtain ⟨c0,c1⟩:=HS0.out.1.two
  obtain ⟨c2,c3⟩:=HS0.out.2.1.two
  obtain ⟨c4,c5⟩:=HS0.out.2.2.1.two
  obtain ⟨c6,c7⟩:=HS0.out.2.2.2.1.two
  have hc:o4=false ∨ (o4=true∧ebc=true) ∨ (o4=true∧ebc=false∧ebd=true) ∨ (o4=true∧ebc=false∧ebd=false):=by cases o4 <;> cases ebc <;> cases ebd <;> simp
  rcases hc with rfl | ⟨rfl,rfl⟩ | ⟨rfl,rfl,rfl⟩ | ⟨rfl,rfl,rfl⟩
  all_goals
   go_wp2_with fail
   go_meet
   case rel=>exact ⟨by simp,HS0.out⟩
 case rest=>
 obtain ⟨rfl,hS0⟩:=hcut
 replace HS0:=Lib.hid hS0
 clear hS0 c0 c1 c2 c3 c4 c5 c6 c7
 obtain ⟨c0,c1⟩:=HS0.out.1.two
 obtain ⟨c2,c3⟩:=HS0.out.2.1.two
 obtain ⟨c4,c5⟩:=HS0.out.2.2.1.two
 obtain ⟨c6,c7⟩:=HS0.out.2.2.2.1.two
 go_upto_if 96 with (fail)
 go_cut [12] (fun x W=>x=.int .i64 (bI o1 + bI o2 + bI (o3 && !eac && !ead) + bI (o4 && !ebc && !ebd))∧(fun W=>Var W (w.heap.size) [.int .i64 a.x,.int .i64 a.y]∧Var W (w.heap.size + 1) [.int .i64 b.x,.int .i64 b.y]∧Var W (w.heap.size + 1 + 1) [.int .i64 c.x,.int .i64 c.y]∧Var W (w.heap.size + 1 + 1 + 1) [.int .i64 d.x,.int .i64 d.y]∧Grew w 4 W) W)
 case first=>
  obtain ⟨b0,b9⟩:=bI_s3 o1 o2 (o3 && !eac && !ead)
  clear HP
  generalize bI o1 + bI o2 + bI (o3 && !eac && !ead)=u at *
  generalize (o4 && !ebc && !ebd)=v at *
  cases v
  all_goals
   go_wp2_with fail
   go_meet
   case rel=>exact ⟨by simp [bI],HS0.out⟩
 case rest=>
 obtain ⟨rfl,hS0⟩:=hcut
 replace HS0:=Lib.hid hS0
 clear hS0 c0 c1 c2 c3 c4 c5 c6 c7
 obtain ⟨c0,c1⟩:=HS0.out.1.two
 obtain ⟨c2,c3⟩:=HS0.out.2.1.two
 obtain ⟨c4,c5⟩:=HS0.out.2.2.1.two
 obtain ⟨c6,c7⟩:=HS0.out.2.2.2.1.two
 generalize bI o1 + bI o2 + bI (o3 && !eac && !ead) + bI (o4 && !ebc && !ebd)=u at *
 replace HP:Hid (rn=(if u ≥ 2 then 4 else if u=1 then 1 else 0)∧re=0):=HP.out
 rcases Int.lt_or_le u 2 with hu | hu
 ·have b1:decide (2 ≤ u)=false:=by simp;omega
  rcases dec2 u 1 with ⟨x1,x2⟩ | ⟨x1,x2⟩
  ·obtain rfl:u=1:=of_decide_eq_true x2
   go_wp2
   go_ret2
   exact ⟨by rw [HP.out.1,HP.out.2];rfl,HS0.out.2.2.2.2.hb⟩
  ·have hne:u ≠ 1:=of_decide_eq_false x2
   replace HP:Hid (rn=0∧re=0):=⟨by rw [HP.out.1,if_neg (by omega),if_neg hne],HP.out.2⟩
   clear x2 hne hu
   go_wp2
   go_ret2
   exact ⟨by rw [HP.out.1,HP.out.2];rfl,HS0.out.2.2.2.2.hb⟩
 ·have b1:decide (2 ≤ u)=true:=by simp;omega
  replace HP:Hid (rn=4∧re=0):=⟨by rw [HP.out.1,if_pos (by omega)],HP.out.2⟩
  clear hu
  go_wp2
  go_ret2
  exact ⟨by rw [HP.out.1,HP.out.2];rfl,HS0.out.2.2.2.2.hb⟩
set_option maxHeartbeats 16000000 in
set_option maxRecDepth 100000 in
theorem refSegs_nc (a b c d:Pt) (hk:(eqB a b || eqB c d || !(fitB a) || !(fitB b) || !(fitB c) || !(fitB d))=false∧¬ (orientZ a b c=0∧orientZ a b d=0)) (w:World):Calls Tryz.prog 41 #[.agg #[.int .i64 a.x,.int .i64 a.y],.agg #[.int .i64 b.x,.int .i64 b.y],.agg #[.int .i64 c.x,.int .i64 c.y],.agg #[.int .i64 d.x,.int .i64 d.y]] w (Gives (.tuple #[.int .i64 (segsN a b c d),.int .i64 (segsE a b c d)]) w):=by
 have HK:=Lib.hid hk
 clear hk
 have HP:=Lib.hid (refSegs_is a b c d)
 have q1:=eqPt' a b
 have q2:=eqPt' c d
 have q3:=eqPt' a c
 have q4:=eqPt' a d
 have q5:=eqPt' b c
 have q6:=eqPt' b d
 have F1:=Lib.hid (fun W=>refFits_l a W)
 have F2:=Lib.hid (fun W=>refFits_l b W)
 have F3:=Lib.hid (fun W=>refFits_l c W)
 have F4:=Lib.hid (fun W=>refFits_l d W)
 have T0:=Lib.hid (fun W=>refOrient_l a b c W)
 have T1:=Lib.hid (fun W=>refOrient_l a b d W)
 have S0:=Lib.hid (fun W=>refOrient_l c d a W)
 have S1:=Lib.hid (fun W=>refOrient_l c d b W)
 have O1:=Lib.hid (fun W=>refOn_l a b c W)
 have O2:=Lib.hid (fun W=>refOn_l a b d W)
 have O3:=Lib.hid (fun W=>refOn_l c d a W)
 have O4:=Lib.hid (fun W=>refOn_l c d b W)
 rw [← inside_is c d a,← inside_is c d b] at HP
 unfold joinedB at HP
 generalize orientZ a b c=t0 at *
 generalize orientZ a b d=t1 at *
 generalize orientZ c d a=s0 at *
 generalize orientZ c d b=s1 at *
 generalize onB a b c=o1 at *
 generalize onB a b d=o2 at *
 generalize onB c d a=o3 at *
 generalize onB c d b=o4 at *
 generalize eqB a b=eab at *
 generalize eqB c d=ecd at *
 generalize eqB a c=eac at *
 generalize eqB a d=ead at *
 generalize eqB b c=ebc at *
 generalize eqB b d=ebd at *
 generalize fitB a=fa at *
 generalize fitB b=fb at *
 generalize fitB c=fc at *
 generalize fitB d=fd at *
 generalize segsN a b c d=rn at *
 generalize segsE a b c d=re at *
 go_enter Tryz.func41,Tryz.ntmps41
 go_upto_region 1 with (fail)
 refine wp_abs (fun W=>Var W (w.heap.size) [.int .i64 a.x,.int .i64 a.y]∧Var W (w.heap.size + 1) [.int .i64 b.x,.int .i64 b.y]∧Var W (w.heap.size + 1 + 1) [.int .i64 c.x,.int .i64 c.y]∧Var W (w.heap.size + 1 + 1 + 1) [.int .i64 d.x,.int .i64 d.y]∧Grew w 4 W) ?_ ?_
 ·exact ⟨(var2_new _ _ _ _ _ rfl).below (bl_alloc (bl_alloc (bl_one _ _) _) _),(var2_new _ _ _ _ _ (by simp)).below (bl_alloc (bl_one _ _) _),(var2_new _ _ _ _ _ (by simp)).below (bl_one _ _),var2_new _ _ _ _ _ (by simp),by repeat (first | (with_reducible exact Below.refl _ _) | (with_reducible refine bl_alloc ?_ _) | (with_reducible refine Below.drew ?_) | (with_reducible refine below_drewN' ?_ _) | ((with_reducible refine bl_set ?_ ?_ _);(rotate_left;(dsimp only;omega)))),by simp⟩
 rintro W0 hS0
 have HS0:=Lib.hid hS0
 clear hS0
 obtain ⟨c0,c1⟩:=HS0.out.1.two
 obtain ⟨c2,c3⟩:=HS0.out.2.1.two
 obtain ⟨c4,c5⟩:=HS0.out.2.2.1.two
 obtain ⟨c6,c7⟩:=HS0.out.2.2.2.1.two
 obtain ⟨rfl,rfl,rfl,rfl,rfl,rfl⟩:=good6 HK.out.1
 have HN:Hid (rn=refN t0 t1 s0 s1 (eac || ead || ebc || ebd) o1 o2 o3 o4 (o3 && !eac && !ead) (o4 && !ebc && !ebd)∧re=0):=⟨HP.out.1,HP.out.2⟩
 clear HP
 go_cut [40] (fun x W=>x=.bool false∧(fun W=>Var W (w.heap.size) [.int .i64 a.x,.int .i64 a.y]∧Var W (w.heap.size + 1) [.int .i64 b.x,.int .i64 b.y]∧Var W (w.heap.size + 1 + 1) [.int .i64 c.x,.int .i64 c.y]∧Var W (w.heap.size + 1 + 1 + 1) [.int .i64 d.x,.int .i64 d.y]∧Grew w 4 W) W)
 case first=>
  go_wp2_with fail
  (with_reducible refine (F1.out _).mono ?_);rintro e w1 ⟨rfl,hb1⟩
  replace HS0:Hid ((fun W=>Var W (w.heap.size) [.int .i64 a.x,.int .i64 a.y]∧Var W (w.heap.size + 1) [.int .i64 b.x,.int .i64 b.y]∧Var W (w.heap.size + 1 + 1) [.int .i64 c.x,.int .i64 c.y]∧Var W (w.heap.size + 1 + 1 + 1) [.int .i64 d.x,.int .i64 d.y]∧Grew w 4 W) w1):=⟨HS0.out.1.below hb1,HS0.out.2.1.below hb1,HS0.out.2.2.1.below hb1,HS0.out.2.2.2.1.below hb1,HS0.out.2.2.2.2.below hb1⟩
  clear c0 c1 c2 c3 c4 c5 c6 c7 hb1
  obtain ⟨c0,c1⟩:=HS0.out.1.two
  obtain ⟨c2,c3⟩:=HS0.out.2.1.two
  obtain ⟨c4,c5⟩:=HS0.out.2.2.1.two
  obtain ⟨c6,c7⟩:=HS0.out.2.2.2.1.two
  go_wp2_with fail
  (with_reducible refine (F2.out _).mono ?_);rintro e w1 ⟨rfl,hb1⟩
  replace HS0:Hid ((fun W=>Var W (w.heap.size) [.int .i64 a.x,.int .i64 a.y]∧Var W (w.heap.size + 1) [.int .i64 b.x,.int .i64 b.y]∧Var W (w.heap.size + 1 + 1) [.int .i64 c.x,.int .i64 c.y]∧Var W (w.heap.size + 1 + 1 + 1) [.int .i64 d.x,.int .i64 d.y]∧Grew w 4 W) w1):=⟨HS0.out.1.below hb1,HS0.out.2.1.below hb1,HS0.out.2.2.1.below hb1,HS0.out.2.2.2.1.below hb1,HS0.out.2.2.2.2.below hb1⟩
  clear c0 c1 c2 c3 c4 c5 c6 c7 hb1
  obtain ⟨c0,c1⟩:=HS0.out.1.two
  obtain ⟨c2,c3⟩:=HS0.out.2.1.two
  obtain ⟨c4,c5⟩:=HS0.out.2.2.1.two
  obtain ⟨c6,c7⟩:=HS0.out.2.2.2.1.two
  go_wp2_with fail
  (with_reducible refine (F3.out _).mono ?_);rintro e w1 ⟨rfl,hb1⟩
  replace HS0:Hid ((fun W=>Var W (w.heap.size) [.int .i64 a.x,.int .i64 a.y]∧Var W (w.heap.size + 1) [.int .i64 b.x,.int .i64 b.y]∧Var W (w.heap.size + 1 + 1) [.int .i64 c.x,.int .i64 c.y]∧Var W (w.heap.size + 1 + 1 + 1) [.int .i64 d.x,.int .i64 d.y]∧Grew w 4 W) w1):=⟨HS0.out.1.below hb1,HS0.out.2.1.below hb1,HS0.out.2.2.1.below hb1,HS0.out.2.2.2.1.below hb1,HS0.out.2.2.2.2.below hb1⟩
  clear c0 c1 c2 c3 c4 c5 c6 c7 hb1
  obtain ⟨c0,c1⟩:=HS0.out.1.two
  obtain ⟨c2,c3⟩:=HS0.out.2.1.two
  obtain ⟨c4,c5⟩:=HS0.out.2.2.1.two
  obtain ⟨c6,c7⟩:=HS0.out.2.2.2.1.two
  go_wp2_with fail
  (with_reducible refine (F4.out _).mono ?_);rintro e w1 ⟨rfl,hb1⟩
  replace HS0:Hid ((fun W=>Var W (w.heap.size) [.int .i64 a.x,.int .i64 a.y]∧Var W (w.heap.size + 1) [.int .i64 b.x,.int .i64 b.y]∧Var W (w.heap.size + 1 + 1) [.int .i64 c.x,.int .i64 c.y]∧Var W (w.heap.size + 1 + 1 + 1) [.int .i64 d.x,.int .i64 d.y]∧Grew w 4 W) w1):=⟨HS0.out.1.below hb1,HS0.out.2.1.below hb1,HS0.out.2.2.1.below hb1,HS0.out.2.2.2.1.below hb1,HS0.out.2.2.2.2.below hb1⟩
  clear c0 c1 c2 c3 c4 c5 c6 c7 hb1
  obtain ⟨c0,c1⟩:=HS0.out.1.two
  obtain ⟨c2,c3⟩:=HS0.out.2.1.two
  obtain ⟨c4,c5⟩:=HS0.out.2.2.1.two
  obtain ⟨c6,c7⟩:=HS0.out.2.2.2.1.two
  go_wp2_with fail
  go_meet
  case rel=>exact ⟨rfl,HS0.out⟩
 case rest=>
 obtain ⟨rfl,hS0⟩:=hcut
 replace HS0:=Lib.hid hS0
 clear hS0 c0 c1 c2 c3 c4 c5 c6 c7
 obtain ⟨c0,c1⟩:=HS0.out.1.two
 obtain ⟨c2,c3⟩:=HS0.out.2.1.two
 obtain ⟨c4,c5⟩:=HS0.out.2.2.1.two
 obtain ⟨c6,c7⟩:=HS0.out.2.2.2.1.two
 clear q1 q2 F1 F2 F3 F4
 go_wp2_with fail
 (with_reducible refine (T0.out _).mono ?_);rintro e w1 ⟨rfl,hb1⟩
 replace HS0:Hid ((fun W=>Var W (w.heap.size) [.int .i64 a.x,.int .i64 a.y]∧Var W (w.heap.size + 1) [.int .i64 b.x,.int .i64 b.y]∧Var W (w.heap.size + 1 + 1) [.int .i64 c.x,.int .i64 c.y]∧Var W (w.heap.size + 1 + 1 + 1) [.int .i64 d.x,.int .i64 d.y]∧Grew w 4 W) w1):=⟨HS0.out.1.below hb1,HS0.out.2.1.below hb1,HS0.out.2.2.1.below hb1,HS0.out.2.2.2.1.below hb1,HS0.out.2.2.2.2.below hb1⟩
 clear c0 c1 c2 c3 c4 c5 c6 c7 hb1
 obtain ⟨c0,c1⟩:=HS0.out.1.two
 obtain ⟨c2,c3⟩:=HS0.out.2.1.two
 obtain ⟨c4,c5⟩:=HS0.out.2.2.1.two
 obtain ⟨c6,c7⟩:=HS0.out.2.2.2.1.two
 go_wp2_with fail
 (with_reducible refine (T1.out _).mono ?_);rintro e w1 ⟨rfl,hb1⟩
 replace HS0:Hid ((fun W=>Var W (w.heap.size) [.int .i64 a.x,.int .i64 a.y]∧Var W (w.heap.size + 1) [.int .i64 b.x,.int .i64 b.y]∧Var W (w.heap.size + 1 + 1) [.int .i64 c.x,.int .i64 c.y]∧Var W (w.heap.size + 1 + 1 + 1) [.int .i64 d.x,.int .i64 d.y]∧Grew w 4 W) w1):=⟨HS0.out.1.below hb1,HS0.out.2.1.below hb1,HS0.out.2.2.1.below hb1,HS0.out.2.2.2.1.below hb1,HS0.out.2.2.2.2.below hb1⟩
 clear c0 c1 c2 c3 c4 c5 c6 c7 hb1
 obtain ⟨c0,c1⟩:=HS0.out.1.two
 obtain ⟨c2,c3⟩:=HS0.out.2.1.two
 obtain ⟨c4,c5⟩:=HS0.out.2.2.1.two
 obtain ⟨c6,c7⟩:=HS0.out.2.2.2.1.two
 have HP:Hid (rn=(if (eac || ead || ebc || ebd)=true then 1 else if (o1 || o2 || o3 || o4)=true then 2 else if (!(decide (t0=t1)) && !(decide (s0=s1)))=true then 3 else 0)∧re=0):=by
  obtain ⟨h1,h2⟩:=HN.out
  refine ⟨(h1.trans (if_neg HK.out.2)).trans ?_,h2⟩
  simp only [tellsZ,Bool.and_eq_true,ne_eq,Bool.not_eq_true',decide_eq_false_iff_not]
 clear HN
 go_upto_region 5 with (fail)
 go_cut [54] (fun x W=>x=.bool false∧(fun W=>Var W (w.heap.size) [.int .i64 a.x,.int .i64 a.y]∧Var W (w.heap.size + 1) [.int .i64 b.x,.int .i64 b.y]∧Var W (w.heap.size + 1 + 1) [.int .i64 c.x,.int .i64 c.y]∧Var W (w.heap.size + 1 + 1 + 1) [.int .i64 d.x,.int .i64 d.y]∧Grew w 4 W) W)
 case first=>
  rcases dec2 t0 0 with ⟨x1,x2⟩ | ⟨x1,x2⟩ <;> rcases dec2 t1 0 with ⟨y1,y2⟩ | ⟨y1,y2⟩
  case inl.inl=>exact absurd ⟨of_decide_eq_true x2,of_decide_eq_true y2⟩ HK.out.2
  all_goals
   clear x2 y2
   go_wp2_with fail
   go_meet
   case rel=>exact ⟨rfl,HS0.out⟩
 case rest=>
 obtain ⟨rfl,hS0⟩:=hcut
 replace HS0:=Lib.hid hS0
 clear hS0 c0 c1 c2 c3 c4 c5 c6 c7
 obtain ⟨c0,c1⟩:=HS0.out.1.two
 obtain ⟨c2,c3⟩:=HS0.out.2.1.two
 obtain ⟨c4,c5⟩:=HS0.out.2.2.1.two
 obtain ⟨c6,c7⟩:=HS0.out.2.2.2.1.two
 clear HK
 go_upto_region 20 with (fail)
 go_cut [120] (fun x W=>x=.bool (eac || ead || ebc || ebd)∧(fun W=>Var W (w.heap.size) [.int .i64 a.x,.int .i64 a.y]∧Var W (w.heap.size + 1) [.int .i64 b.x,.int .i64 b.y]∧Var W (w.heap.size + 1 + 1) [.int .i64 c.x,.int .i64 c.y]∧Var W (w.heap.size + 1 + 1 + 1) [.int .i64 d.x,.int .i64 d.y]∧Grew w 4 W) W)
 case first=>
  have hc:eac=true ∨ (eac=false∧ead=true) ∨ (eac=false∧ead=false∧ebc=true) ∨ (eac=false∧ead=false∧ebc=false∧ebd=true) ∨ (eac=false∧ead=false∧ebc=false∧ebd=false):=by cases eac <;> cases ead <;> cases ebc <;> cases ebd <;> simp
  rcases hc with rfl | ⟨rfl,rfl⟩ | ⟨rfl,rfl,rfl⟩ | ⟨rfl,rfl,rfl,rfl⟩ | ⟨rfl,rfl,rfl,rfl⟩
  all_goals
   go_wp2_with fail
   go_meet
   case rel=>exact ⟨by simp,HS0.out⟩
 case rest=>
 obtain ⟨rfl,hS0⟩:=hcut
 replace HS0:=Lib.hid hS0
 clear hS0 c0 c1 c2 c3 c4 c5 c6 c7
 obtain ⟨c0,c1⟩:=HS0.out.1.two
 obtain ⟨c2,c3⟩:=HS0.out.2.1.two
 obtain ⟨c4,c5⟩:=HS0.out.2.2.1.two
 obtain ⟨c6,c7⟩:=HS0.out.2.2.2.1.two
 clear q3 q4 q5 q6
 generalize (eac || ead || ebc || ebd)=jo at *
 cases jo
 case true=>
  go_wp2
  go_ret2
  exact ⟨by rw [HP.out.1,HP.out.2];rfl,HS0.out.2.2.2.2.hb⟩
 case false=>
 go_upto_region 22 with (fail)
 go_cut [142] (fun x W=>x=.bool (o1 || o2 || o3 || o4)∧(fun W=>Var W (w.heap.size) [.int .i64 a.x,.int .i64 a.y]∧Var W (w.heap.size + 1) [.int .i64 b.x,.int .i64 b.y]∧Var W (w.heap.size + 1 + 1) [.int .i64 c.x,.int .i64 c.y]∧Var W (w.heap.size + 1 + 1 + 1) [.int .i64 d.x,.int .i64 d.y]∧Grew w 4 W) W)
 case first=>
  go_wp2_with fail
  (with_reducible refine (O1.out _).mono ?_);rintro e w1 ⟨rfl,hb1⟩
  replace HS0:Hid ((fun W=>Var W (w.heap.size) [.int .i64 a.x,.int .i64 a.y]∧Var W (w.heap.size + 1) [.int .i64 b.x,.int .i64 b.y]∧Var W (w.heap.size + 1 + 1) [.int .i64 c.x,.int .i64 c.y]∧Var W (w.heap.size + 1 + 1 + 1) [.int .i64 d.x,.int .i64 d.y]∧Grew w 4 W) w1):=⟨HS0.out.1.below hb1,HS0.out.2.1.below hb1,HS0.out.2.2.1.below hb1,HS0.out.2.2.2.1.below hb1,HS0.out.2.2.2.2.below hb1⟩
  clear c0 c1 c2 c3 c4 c5 c6 c7 hb1
  obtain ⟨c0,c1⟩:=HS0.out.1.two
  obtain ⟨c2,c3⟩:=HS0.out.2.1.two
  obtain ⟨c4,c5⟩:=HS0.out.2.2.1.two
  obtain ⟨c6,c7⟩:=HS0.out.2.2.2.1.two
  cases o1
  case true=>
   go_wp2_with fail
   go_meet
   case rel=>exact ⟨by simp,HS0.out⟩
  case false=>
  go_wp2_with fail
  (with_reducible refine (O2.out _).mono ?_);rintro e w1 ⟨rfl,hb1⟩
  replace HS0:Hid ((fun W=>Var W (w.heap.size) [.int .i64 a.x,.int .i64 a.y]∧Var W (w.heap.size + 1) [.int .i64 b.x,.int .i64 b.y]∧Var W (w.heap.size + 1 + 1) [.int .i64 c.x,.int .i64 c.y]∧Var W (w.heap.size + 1 + 1 + 1) [.int .i64 d.x,.int .i64 d.y]∧Grew w 4 W) w1):=⟨HS0.out.1.below hb1,HS0.out.2.1.below hb1,HS0.out.2.2.1.below hb1,HS0.out.2.2.2.1.below hb1,HS0.out.2.2.2.2.below hb1⟩
  clear c0 c1 c2 c3 c4 c5 c6 c7 hb1
  obtain ⟨c0,c1⟩:=HS0.out.1.two
  obtain ⟨c2,c3⟩:=HS0.out.2.1.two
  obtain ⟨c4,c5⟩:=HS0.out.2.2.1.two
  obtain ⟨c6,c7⟩:=HS0.out.2.2.2.1.two
  cases o2
  case true=>
   go_wp2_with fail
   go_meet
   case rel=>exact ⟨by simp,HS0.out⟩
  case false=>
  go_wp2_with fail
  (with_reducible refine (O3.out _).mono ?_);rintro e w1 ⟨rfl,hb1⟩
  replace HS0:Hid ((fun W=>Var W (w.heap.size) [.int .i64 a.x,.int .i64 a.y]∧Var W (w.heap.size + 1) [.int .i64 b.x,.int .i64 b.y]∧Var W (w.heap.size + 1 + 1) [.int .i64 c.x,.int .i64 c.y]∧Var W (w.heap.size + 1 + 1 + 1) [.int .i64 d.x,.int .i64 d.y]∧Grew w 4 W) w1):=⟨HS0.out.1.below hb1,HS0.out.2.1.below hb1,HS0.out.2.2.1.below hb1,HS0.out.2.2.2.1.below hb1,HS0.out.2.2.2.2.below hb1⟩
  clear c0 c1 c2 c3 c4 c5 c6 c7 hb1
  obtain ⟨c0,c1⟩:=HS0.out.1.two
  obtain ⟨c2,c3⟩:=HS0.out.2.1.two
  obtain ⟨c4,c5⟩:=HS0.out.2.2.1.two
  obtain ⟨c6,c7⟩:=HS0.out.2.2.2.1.two
  cases o3
  case true=>
   go_wp2_with fail
   go_meet
   case rel=>exact ⟨by simp,HS0.out⟩
  case false=>
  go_wp2_with fail
  (with_reducible refine (O4.out _).mono ?_);rintro e w1 ⟨rfl,hb1⟩
  replace HS0:Hid ((fun W=>Var W (w.heap.size) [.int .i64 a.x,.int .i64 a.y]∧Var W (w.heap.size + 1) [.int .i64 b.x,.int .i64 b.y]∧Var W (w.heap.size + 1 + 1) [.int .i64 c.x,.int .i64 c.y]∧Var W (w.heap.size + 1 + 1 + 1) [.int .i64 d.x,.int .i64 d.y]∧Grew w 4 W) w1):=⟨HS0.out.1.below hb1,HS0.out.2.1.below hb1,HS0.out.2.2.1.below hb1,HS0.out.2.2.2.1.below hb1,HS0.out.2.2.2.2.below hb1⟩
  clear c0 c1 c2 c3 c4 c5 c6 c7 hb1
  obtain ⟨c0,c1⟩:=HS0.out.1.two
  obtain ⟨c2,c3⟩:=HS0.out.2.1.two
  obtain ⟨c4,c5⟩:=HS0.out.2.2.1.two
  obtain ⟨c6,c7⟩:=HS0.out.2.2.2.1.two
  cases o4
  all_goals
   go_wp2_with fail
   go_meet
   case rel=>exact ⟨rfl,HS0.out⟩
 case rest=>
 obtain ⟨rfl,hS0⟩:=hcut
 replace HS0:=Lib.hid hS0
 clear hS0 c0 c1 c2 c3 c4 c5 c6 c7
 obtain ⟨c0,c1⟩:=HS0.out.1.two
 obtain ⟨c2,c3⟩:=HS0.out.2.1.two
 obtain ⟨c4,c5⟩:=HS0.out.2.2.1.two
 obtain ⟨c6,c7⟩:=HS0.out.2.2.2.1.two
 generalize (o1 || o2 || o3 || o4)=on at *
 cases on
 case true=>
  go_wp2
  go_ret2
  exact ⟨by rw [HP.out.1,HP.out.2];rfl,HS0.out.2.2.2.2.hb⟩
 case false=>
 clear c0 c1 c2 c3 c4 c5 c6 c7
 go_upto_region 24 with (fail)
 go_cut [156] (fun x W=>x=.bool (!(decide (t0=t1)) && !(decide (s0=s1)))∧(fun W=>Var W (w.heap.size) [.int .i64 a.x,.int .i64 a.y]∧Var W (w.heap.size + 1) [.int .i64 b.x,.int .i64 b.y]∧Var W (w.heap.size + 1 + 1) [.int .i64 c.x,.int .i64 c.y]∧Var W (w.heap.size + 1 + 1 + 1) [.int .i64 d.x,.int .i64 d.y]∧Grew w 4 W) W)
 case first=>
  rcases dec2 t0 t1 with ⟨x1,x2⟩ | ⟨x1,x2⟩
  case inl=>
   have X2:=Lib.hid x2
   have x3:(!(t0 == t1))=false:=by rw [x1];rfl
   have x4:(t0 != t1)=false:=by unfold bne;rw [x1];rfl
   clear x2
   refine wp_region_held_drew (S:=fun W=>Var W (w.heap.size) [.int .i64 a.x,.int .i64 a.y]∧Var W (w.heap.size + 1) [.int .i64 b.x,.int .i64 b.y]∧Var W (w.heap.size + 1 + 1) [.int .i64 c.x,.int .i64 c.y]∧Var W (w.heap.size + 1 + 1 + 1) [.int .i64 d.x,.int .i64 d.y]∧Grew w 4 W) (by kernel_rfl) ?_ (fun hHeld=>?_)
   ·exact ⟨HS0.out.1.below (bel_drew _),HS0.out.2.1.below (bel_drew _),HS0.out.2.2.1.below (bel_drew _),HS0.out.2.2.2.1.below (bel_drew _),HS0.out.2.2.2.2.below (bel_drew _)⟩
   revert hHeld
   generalize World.drew _=W1
   intro hHeld 
   refine wpAnyH_take (i:=0) (v:=?_) rfl (by kernel_rfl) (by kernel_rfl) (by kernel_rfl) (fun _ _ _ h=>h) (Or.inl ⟨by rfl,?_⟩) (by assumption) ?_
   rotate_left
   ·rintro _ -
    go_simp
    all_goals (with_reducible rfl)
   try simp only [Act.put,List.getElem_toArray,List.getElem_cons_zero,List.setIfInBounds_toArray,List.set_cons_zero,List.set_cons_succ]
   refine wpAnyH_take (i:=1) (v:=?_) rfl (by kernel_rfl) (by kernel_rfl) (by kernel_rfl) (fun _ _ _ h=>h) (Or.inl ⟨by rfl,?_⟩) (by assumption) ?_
   rotate_left
   ·rintro _ -
    go_simp
    all_goals (with_reducible rfl)
   try simp only [Act.put,List.getElem_toArray,List.getElem_cons_succ,List.getElem_cons_zero,List.setIfInBounds_toArray,List.set_cons_zero,List.set_cons_succ]
   refine wpAnyH_take (i:=2) (v:=?_) rfl (by kernel_rfl) (by kernel_rfl) (by kernel_rfl) (fun _ _ _ h=>h) (Or.inl ⟨by rfl,?_⟩) (by assumption) ?_
   rotate_left
   ·rintro _ -
    go_simp
    all_goals (with_reducible rfl)
   try simp only [Act.put,List.getElem_toArray,List.getElem_cons_succ,List.getElem_cons_zero,List.setIfInBounds_toArray,List.set_cons_zero,List.set_cons_succ]
   refine wpAnyH_take (i:=3) (v:=?_) rfl (by kernel_rfl) (by kernel_rfl) (by kernel_rfl) (fun _ _ _ h=>h) (Or.inl ⟨by rfl,?_⟩) (by assumption) ?_
   rotate_left
   ·rintro _ -
    go_simp
    all_goals (with_reducible rfl)
   try simp only [Act.put,List.getElem_toArray,List.getElem_cons_succ,List.getElem_cons_zero,List.setIfInBounds_toArray,List.set_cons_zero,List.set_cons_succ]
   refine wpAnyH_take (i:=4) (v:=_) rfl (by kernel_rfl) (by kernel_rfl) (by kernel_rfl) (fun _ _ _ h=>h) (Or.inr ⟨by rfl,rfl⟩) (by assumption) ?_
   try simp only [Act.put,List.getElem_toArray,List.getElem_cons_succ,List.getElem_cons_zero,List.setIfInBounds_toArray,List.set_cons_zero,List.set_cons_succ]
   refine wpAnyH_take (i:=5) (v:=_) rfl (by kernel_rfl) (by kernel_rfl) (by kernel_rfl) (fun _ _ _ h=>h) (Or.inr ⟨by rfl,rfl⟩) (by assumption) ?_
   try simp only [Act.put,List.getElem_toArray,List.getElem_cons_succ,List.getElem_cons_zero,List.setIfInBounds_toArray,List.set_cons_zero,List.set_cons_succ]
   refine wpAnyH_take (i:=6) (v:=_) rfl (by kernel_rfl) (by kernel_rfl) (by kernel_rfl) (fun _ _ _ h=>h) (Or.inr ⟨by rfl,rfl⟩) (by assumption) ?_
   try simp only [Act.put,List.getElem_toArray,List.getElem_cons_succ,List.getElem_cons_zero,List.setIfInBounds_toArray,List.set_cons_zero,List.set_cons_succ]
   refine wpAnyH_take (i:=8) (v:=_) rfl (by kernel_rfl) (by kernel_rfl) (by kernel_rfl) (fun _ _ _ h=>h) (Or.inr ⟨by rfl,rfl⟩) (by assumption) ?_
   try simp only [Act.put,List.getElem_toArray,List.getElem_cons_succ,List.getElem_cons_zero,List.setIfInBounds_toArray,List.set_cons_zero,List.set_cons_succ]
   refine wpAnyH_take (i:=9) (v:=_) rfl (by kernel_rfl) (by kernel_rfl) (by kernel_rfl) (fun _ _ _ h=>h) (Or.inr ⟨by rfl,rfl⟩) (by assumption) ?_
   try simp only [Act.put,List.getElem_toArray,List.getElem_cons_succ,List.getElem_cons_zero,List.setIfInBounds_toArray,List.set_cons_zero,List.set_cons_succ]
   refine wpAnyH_take (i:=10) (v:=_) rfl (by kernel_rfl) (by kernel_rfl) (by kernel_rfl) (fun _ _ _ h=>h) (Or.inr ⟨by rfl,rfl⟩) (by assumption) ?_
   try simp only [Act.put,List.getElem_toArray,List.getElem_cons_succ,List.getElem_cons_zero,List.setIfInBounds_toArray,List.set_cons_zero,List.set_cons_succ]
   refine wpAnyH_take (i:=7) (v:=_) rfl (by kernel_rfl) (by kernel_rfl) (by kernel_rfl) (fun _ _ _ h=>h) (Or.inr ⟨by rfl,rfl⟩) (by assumption) ?_
   try simp only [Act.put,List.getElem_toArray,List.getElem_cons_succ,List.getElem_cons_zero,List.setIfInBounds_toArray,List.set_cons_zero,List.set_cons_succ]
   refine wpAnyH_take (i:=11) (v:=_) rfl (by kernel_rfl) (by kernel_rfl) (by kernel_rfl) (fun _ _ _ h=>h) (Or.inr ⟨by rfl,rfl⟩) (by assumption) ?_
   try simp only [Act.put,List.getElem_toArray,List.getElem_cons_succ,List.getElem_cons_zero,List.setIfInBounds_toArray,List.set_cons_zero,List.set_cons_succ]
   refine wpAnyH_take (i:=12) (v:=_) rfl (by kernel_rfl) (by kernel_rfl) (by kernel_rfl) (fun _ _ _ h=>h) (Or.inr ⟨by rfl,rfl⟩) (by assumption) ?_
   try simp only [Act.put,List.getElem_toArray,List.getElem_cons_succ,List.getElem_cons_zero,List.setIfInBounds_toArray,List.set_cons_zero,List.set_cons_succ]
   refine wpAnyH_take (i:=13) (v:=?_) rfl (by kernel_rfl) (by kernel_rfl) (by kernel_rfl) (fun _ _ _ h=>h) (Or.inl ⟨by rfl,?_⟩) (by assumption) ?_
   rotate_left
   ·rintro _ -
    go_simp
    all_goals (with_reducible rfl)
   try simp only [Act.put,List.getElem_toArray,List.getElem_cons_succ,List.getElem_cons_zero,List.setIfInBounds_toArray,List.set_cons_zero,List.set_cons_succ]
   refine wpAnyH_done (by kernel_rfl) ?_ _
   go_wp2_with fail
   go_meet
   case rel=>exact ⟨by rw [X2.out];rfl,id hHeld⟩
  case inr=>
   rcases dec2 s0 s1 with ⟨y1,y2⟩ | ⟨y1,y2⟩
   all_goals
    have X2:=Lib.hid x2
    have Y2:=Lib.hid y2
    have x4:(t0 != t1)=true:=by unfold bne;rw [x1];rfl
    first | (have y4:(s0 != s1)=true:=by unfold bne;rw [y1];rfl) | (have y4:(s0 != s1)=false:=by unfold bne;rw [y1];rfl)
    clear x2 y2
    refine wp_region_held_drew (S:=fun W=>Var W (w.heap.size) [.int .i64 a.x,.int .i64 a.y]∧Var W (w.heap.size + 1) [.int .i64 b.x,.int .i64 b.y]∧Var W (w.heap.size + 1 + 1) [.int .i64 c.x,.int .i64 c.y]∧Var W (w.heap.size + 1 + 1 + 1) [.int .i64 d.x,.int .i64 d.y]∧Grew w 4 W) (by kernel_rfl) ?_ (fun hHeld=>?_)
    ·exact ⟨HS0.out.1.below (bel_drew _),HS0.out.2.1.below (bel_drew _),HS0.out.2.2.1.below (bel_drew _),HS0.out.2.2.2.1.below (bel_drew _),HS0.out.2.2.2.2.below (bel_drew _)⟩
    revert hHeld
    generalize World.drew _=W1
    intro hHeld 
    refine wpAnyH_take (i:=0) (v:=?_) rfl (by kernel_rfl) (by kernel_rfl) (by kernel_rfl) (fun _ _ _ h=>h) (Or.inl ⟨by rfl,?_⟩) (by assumption) ?_
    rotate_left
    ·rintro _ -
     go_simp
     all_goals (with_reducible rfl)
    try simp only [Act.put,List.getElem_toArray,List.getElem_cons_zero,List.setIfInBounds_toArray,List.set_cons_zero,List.set_cons_succ]
    refine wpAnyH_take (i:=1) (v:=?_) rfl (by kernel_rfl) (by kernel_rfl) (by kernel_rfl) (fun _ _ _ h=>h) (Or.inl ⟨by rfl,?_⟩) (by assumption) ?_
    rotate_left
    ·rintro _ -
     go_simp
     all_goals (with_reducible rfl)
    try simp only [Act.put,List.getElem_toArray,List.getElem_cons_succ,List.getElem_cons_zero,List.setIfInBounds_toArray,List.set_cons_zero,List.set_cons_succ]
    refine wpAnyH_take (i:=2) (v:=?_) rfl (by kernel_rfl) (by kernel_rfl) (by kernel_rfl) (fun _ _ _ h=>h) (Or.inl ⟨by rfl,?_⟩) (by assumption) ?_
    rotate_left
    ·rintro _ -
     go_simp
     all_goals (with_reducible rfl)
    try simp only [Act.put,List.getElem_toArray,List.getElem_cons_succ,List.getElem_cons_zero,List.setIfInBounds_toArray,List.set_cons_zero,List.set_cons_succ]
    refine wpAnyH_take (i:=3) (v:=?_) rfl (by kernel_rfl) (by kernel_rfl) (by kernel_rfl) (fun _ _ _ h=>h) (Or.inl ⟨by rfl,?_⟩) (by assumption) ?_
    rotate_left
    ·rintro _ -
     go_simp
     all_goals (with_reducible rfl)
    try simp only [Act.put,List.getElem_toArray,List.getElem_cons_succ,List.getElem_cons_zero,List.setIfInBounds_toArray,List.set_cons_zero,List.set_cons_succ]
    refine wpAnyH_take (i:=4) (v:=?_) rfl (by kernel_rfl) (by kernel_rfl) (by kernel_rfl) (fun _ _ _ h=>h) (Or.inl ⟨by rfl,?_⟩) (by assumption) ?_
    rotate_left
    ·intro Wq hSw
     obtain ⟨k0,k1⟩:=(id hSw).2.2.1.two
     clear hSw
     go_simp
     all_goals (with_reducible rfl)
    try simp only [Act.put,List.getElem_toArray,List.getElem_cons_succ,List.getElem_cons_zero,List.setIfInBounds_toArray,List.set_cons_zero,List.set_cons_succ]
    refine wpAnyH_take (i:=5) (v:=?_) rfl (by kernel_rfl) (by kernel_rfl) (by kernel_rfl) (fun _ _ _ h=>h) (Or.inl ⟨by rfl,?_⟩) (by assumption) ?_
    rotate_left
    ·intro Wq hSw
     obtain ⟨k0,k1⟩:=(id hSw).2.2.2.1.two
     clear hSw
     go_simp
     all_goals (with_reducible rfl)
    try simp only [Act.put,List.getElem_toArray,List.getElem_cons_succ,List.getElem_cons_zero,List.setIfInBounds_toArray,List.set_cons_zero,List.set_cons_succ]
    refine wpAnyH_take (i:=6) (v:=?_) rfl (by kernel_rfl) (by kernel_rfl) (by kernel_rfl) (fun _ _ _ h=>h) (Or.inl ⟨by rfl,?_⟩) (by assumption) ?_
    rotate_left
    ·intro Wq hSw
     obtain ⟨k0,k1⟩:=(id hSw).1.two
     clear hSw
     go_simp
     all_goals (with_reducible rfl)
    try simp only [Act.put,List.getElem_toArray,List.getElem_cons_succ,List.getElem_cons_zero,List.setIfInBounds_toArray,List.set_cons_zero,List.set_cons_succ]
    refine wpAnyH_take (i:=8) (v:=?_) rfl (by kernel_rfl) (by kernel_rfl) (by kernel_rfl) (fun _ _ _ h=>h) (Or.inl ⟨by rfl,?_⟩) (by assumption) ?_
    rotate_left
    ·intro Wq hSw
     obtain ⟨k0,k1⟩:=(id hSw).2.2.1.two
     clear hSw
     go_simp
     all_goals (with_reducible rfl)
    try simp only [Act.put,List.getElem_toArray,List.getElem_cons_succ,List.getElem_cons_zero,List.setIfInBounds_toArray,List.set_cons_zero,List.set_cons_succ]
    refine wpAnyH_take (i:=9) (v:=?_) rfl (by kernel_rfl) (by kernel_rfl) (by kernel_rfl) (fun _ _ _ h=>h) (Or.inl ⟨by rfl,?_⟩) (by assumption) ?_
    rotate_left
    ·intro Wq hSw
     obtain ⟨k0,k1⟩:=(id hSw).2.2.2.1.two
     clear hSw
     go_simp
     all_goals (with_reducible rfl)
    try simp only [Act.put,List.getElem_toArray,List.getElem_cons_succ,List.getElem_cons_zero,List.setIfInBounds_toArray,List.set_cons_zero,List.set_cons_succ]
    refine wpAnyH_take (i:=10) (v:=?_) rfl (by kernel_rfl) (by kernel_rfl) (by kernel_rfl) (fun _ _ _ h=>h) (Or.inl ⟨by rfl,?_⟩) (by assumption) ?_
    rotate_left
    ·intro Wq hSw
     obtain ⟨k0,k1⟩:=(id hSw).2.1.two
     clear hSw
     go_simp
     all_goals (with_reducible rfl)
    try simp only [Act.put,List.getElem_toArray,List.getElem_cons_succ,List.getElem_cons_zero,List.setIfInBounds_toArray,List.set_cons_zero,List.set_cons_succ]
    refine wpAnyH_ready (rs:=[7]) (by kernel_rfl) (by simp) ?_
    refine (AllReadyH.cons rfl (fun K hK=>?_) AllReadyH.nil)
    rw [if_pos (by rfl)]
    go_simp
    go_at_call 73
    (with_reducible refine (S0.out _).mono ?_);rintro e w1 ⟨rfl,hb1⟩
    go_wp2_with fail
    refine hK.out _ _ ?_ (fun hHeld2=>?_)
    ·exact ⟨(id hHeld).1.below hb1,(id hHeld).2.1.below hb1,(id hHeld).2.2.1.below hb1,(id hHeld).2.2.2.1.below hb1,(id hHeld).2.2.2.2.below hb1⟩
    clear hK K hHeld hb1
    have hHeld:=hHeld2
    clear hHeld2
    try simp only [Act.put,List.getElem_toArray,List.getElem_cons_succ,List.getElem_cons_zero,List.setIfInBounds_toArray,List.set_cons_zero,List.set_cons_succ]
    refine wpAnyH_ready (rs:=[11]) (by kernel_rfl) (by simp) ?_
    refine (AllReadyH.cons rfl (fun K hK=>?_) AllReadyH.nil)
    rw [if_pos (by rfl)]
    go_simp
    go_at_call 73
    (with_reducible refine (S1.out _).mono ?_);rintro e w1 ⟨rfl,hb1⟩
    go_wp2_with fail
    refine hK.out _ _ ?_ (fun hHeld2=>?_)
    ·exact ⟨(id hHeld).1.below hb1,(id hHeld).2.1.below hb1,(id hHeld).2.2.1.below hb1,(id hHeld).2.2.2.1.below hb1,(id hHeld).2.2.2.2.below hb1⟩
    clear hK K hHeld hb1
    have hHeld:=hHeld2
    clear hHeld2
    try simp only [Act.put,List.getElem_toArray,List.getElem_cons_succ,List.getElem_cons_zero,List.setIfInBounds_toArray,List.set_cons_zero,List.set_cons_succ]
    refine wpAnyH_take (i:=12) (v:=?_) rfl (by kernel_rfl) (by kernel_rfl) (by kernel_rfl) (fun _ _ _ h=>h) (Or.inl ⟨by rfl,?_⟩) (by assumption) ?_
    rotate_left
    ·rintro _ -
     go_simp
     all_goals (with_reducible rfl)
    try simp only [Act.put,List.getElem_toArray,List.getElem_cons_succ,List.getElem_cons_zero,List.setIfInBounds_toArray,List.set_cons_zero,List.set_cons_succ]
    refine wpAnyH_take (i:=13) (v:=?_) rfl (by kernel_rfl) (by kernel_rfl) (by kernel_rfl) (fun _ _ _ h=>h) (Or.inl ⟨by rfl,?_⟩) (by assumption) ?_
    rotate_left
    ·rintro _ -
     go_simp
     all_goals (with_reducible rfl)
    try simp only [Act.put,List.getElem_toArray,List.getElem_cons_succ,List.getElem_cons_zero,List.setIfInBounds_toArray,List.set_cons_zero,List.set_cons_succ]
    refine wpAnyH_done (by kernel_rfl) ?_ _
    go_wp2_with fail
    go_meet
    case rel=>exact ⟨by rw [X2.out,Y2.out];rfl,id hHeld⟩
 case rest=>
 obtain ⟨rfl,hS0⟩:=hcut
 replace HS0:=Lib.hid hS0
 clear hS0
 obtain ⟨c0,c1⟩:=HS0.out.1.two
 obtain ⟨c2,c3⟩:=HS0.out.2.1.two
 obtain ⟨c4,c5⟩:=HS0.out.2.2.1.two
 obtain ⟨c6,c7⟩:=HS0.out.2.2.2.1.two
 generalize (!(decide (t0=t1)) && !(decide (s0=s1)))=df at *
 cases df
 all_goals
  go_wp2
  go_ret2
  exact ⟨by rw [HP.out.1,HP.out.2];rfl,HS0.out.2.2.2.2.hb⟩

theorem refSegs_l (a b c d:Pt) (w:World):Calls Tryz.prog 41 #[.agg #[.int .i64 a.x,.int .i64 a.y],.agg #[.int .i64 b.x,.int .i64 b.y],.agg #[.int .i64 c.x,.int .i64 c.y],.agg #[.int .i64 d.x,.int .i64 d.y]] w (Gives (.tuple #[.int .i64 (segsN a b c d),.int .i64 (segsE a b c d)]) w):=by
 cases h:(eqB a b || eqB c d || !(fitB a) || !(fitB b) || !(fitB c) || !(fitB d))
 ·by_cases h2:orientZ a b c=0∧orientZ a b d=0
  ·exact refSegs_col a b c d ⟨h,h2⟩ w
  ·exact refSegs_nc a b c d ⟨h,h2⟩ w
 ·exact refSegs_bad a b c d h w
end Go.Proofs.YtpjaefcmaiimlaaGreat
