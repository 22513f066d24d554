/-
  Layer 10: the document's first flaw of two places or two segments.
-/
import Derived.Test.YtpjaefcmaiimlaaGreatVRefCA
import Derived.Test.YtpjaefcmaiimlaaGreatVMaths
import Derived.Test.YtpjaefcmaiimlaaGreatRefSegs
import Derived.Test.YtpjaefcmaiimlaaGreatRefOns
import Derived.Test.YtpjaefcmaiimlaaGreatWMids0
import Derived.Test.YtpjaefcmaiimlaaGreatWRefs
set_option linter.unusedVariables false
set_option linter.unusedSimpArgs false
set_option linter.deprecated false
namespace Go.Proofs.YtpjaefcmaiimlaaGreat
open Go.RowKit

-- short names, for the walks of regions
theorem pk2 {α:Type} {xs:List α} {i:Nat} (h:i < xs.toArray.size):xs.toArray[i]=xs[i]'h:=rfl
theorem pk3 {α:Type} (a:α) (l:List α) (i:Nat) (h:i + 1 < (a :: l).length):(a :: l)[i + 1]=l[i]'(Nat.lt_of_succ_lt_succ h):=rfl
theorem pk4 {α:Type} (a:α) (l:List α) (h:0 < (a :: l).length):(a :: l)[0]=a:=rfl
theorem pk5 {α:Type} (l:List α) (i:Nat) (a:α):l.toArray.setIfInBounds i a=(l.set i a).toArray:=List.setIfInBounds_toArray l i a
theorem pk6 {α:Type} {x:α} {xs:List α} {a:α}:(x :: xs).set 0 a=a :: xs:=rfl
theorem pk7 {α:Type} {x:α} {xs:List α} {i:Nat} {a:α}:(x :: xs).set (i + 1) a=x :: xs.set i a:=rfl

theorem flFound {p l i:List Pt} {j:Nat} {f:Fl} (h:(flTo p l i j).k=0) (hf:chk p l i j=f) (h0:f.k ≠ 0) {m:Nat} (hm:j < m):flTo p l i m=f:=by
 have e:=flTo_step h
 rw [hf] at e
 rw [flTo_stay (j:=j + 1) (by rw [e];exact h0) m hm,e]
theorem seg_at10 {p l i S:List Pt} (hc:ChkOk p l i) (hS:l ++ i=S) {k:Nat} (hk:k < S.length):∃ a b:Nat,a < p.length∧b < p.length∧pget S k=⟨(a:Int),(b:Int)⟩∧segF p (pget S k)=⟨pget p a,pget p b⟩:=by
 subst hS
 obtain ⟨x0,x1,y0,y1⟩:=sgInB_iff.1 (chk_seg hc hk)
 obtain ⟨a,e1,h1,p1⟩:=ptI_at x0 x1
 obtain ⟨b,e2,h2,p2⟩:=ptI_at y0 y1
 exact ⟨a,b,h1,h2,Pt.ext' e1 e2,by unfold segF;rw [p1,p2]⟩
set_option maxHeartbeats 16000000 in
set_option maxRecDepth 100000 in
theorem refPairs10_l (p l i:List Pt) (ap al ai:Option Addr) (cp cl ci:Nat) (w:World) (hA:Pol w ap al ai cp cl ci p l i) (hc:ChkOk p l i) :
 Calls Tryz.prog 27 #[.agg #[.slice ap p.length cp,.slice al l.length cl,.slice ai i.length ci]] w (Gives (.agg #[.int .i64 (flTo p l i 4).k,.int .i64 (flTo p l i 4).a,.int .i64 (flTo p l i 4).b]) w):=by
 have HA:=Lib.hid hA
 have HC:=Lib.hid hc
 have HPn:=Lib.hid hc.n
 clear hA hc
 go_enter Tryz.func27,Tryz.ntmps27
 go_upto_region 1 with (fail)
 have HV:=Lib.hid ((var3_new w (.slice ap p.length cp) (.slice al l.length cl) (.slice ai i.length ci) 25 w.heap.size rfl).below (bl_one _ (.cells #[.int .i64 0,.int .i64 0,.int .i64 0] 30)))
 have HF:=Lib.hid (var3_new (w.alloc (.cells #[.slice ap p.length cp,.slice al l.length cl,.slice ai i.length ci] 25)) (.int .i64 0) (.int .i64 0) (.int .i64 0) 30 (w.heap.size + 1) (by simp))
 have HB:=Lib.hid (bl_alloc (bl_one w (.cells #[.slice ap p.length cp,.slice al l.length cl,.slice ai i.length ci] 25)) (.cells #[.int .i64 0,.int .i64 0,.int .i64 0] 30))
 generalize (w.alloc (.cells #[.slice ap p.length cp,.slice al l.length cl,.slice ai i.length ci] 25)).alloc (.cells #[.int .i64 0,.int .i64 0,.int .i64 0] 30)=W1 at *
 obtain ⟨k0,k1,k2⟩:=HV.out.three
 go_wp2_with fail
 clear k0 k1 k2
 go_loopw [3] (fun iv W=>∃ k:Nat,k ≤ p.length∧iv=.int .i64 k∧(∀ a b,a < k → b < p.length → alikeF p a b=false)∧Below W1.heap.size W1 W) (fun iv _=>p.length - (intOf iv).toNat)
 case atStart=>exact ⟨0,Nat.zero_le _,rfl,fun a b h=>absurd h (Nat.not_lt_zero _),Below.refl _ _⟩
 case round=>
  obtain ⟨k,hk,rfl,hn,hB⟩:=hrel
  have HNk:=Lib.hid hn
  have HB2:=Lib.hid hB
  clear hn hB
  obtain ⟨W0,eW⟩:∃ W0,W0=wr:=⟨_,rfl⟩
  subst eW
  obtain ⟨k0,k1,k2⟩:=(HV.out.below HB2.out).three
  by_cases hlt:k < p.length
  ·have b2:((k:Int) < (p.length:Int))=True:=eq_true (by omega)
   have hpn:=HPn.out
   obtain ⟨m1,m2,m3,m4⟩:=wnum (i:=k) (by omega)
   go_wp2_with fail
   clear m1 m2 m3 m4 b2 k0 k1 k2
   go_loopw [4] (fun iv W=>∃ j:Nat,k < j∧j ≤ p.length∧iv=.int .i64 j∧(∀ b,b < j → alikeF p k b=false)∧Below W0.heap.size W0 W) (fun iv _=>p.length - (intOf iv).toNat)
   case atStart=>exact ⟨k + 1,Nat.lt_succ_self _,hlt,by rw [Int.natCast_add];rfl,fun b hb=>by unfold alikeF;rw [decide_eq_false (by omega),Bool.false_and],Below.refl _ _⟩
   case round=>
    obtain ⟨j,hkj,hj,rfl,hn,hB⟩:=hrel
    have HNj:=Lib.hid hn
    have HB3:=Lib.hid hB
    clear hn hB
    obtain ⟨W2,eW⟩:∃ W2,W2=wr:=⟨_,rfl⟩
    subst eW
    have HBB:=Lib.hid (bl_trans HB2.out HB3.out)
    obtain ⟨k0,k1,k2⟩:=(HV.out.below HBB.out).three
    by_cases hlj:j < p.length
    ·have b2:((j:Int) < (p.length:Int))=True:=eq_true (by omega)
     have d1:(k < p.length)=True:=eq_true hlt
     have d2:(j < p.length)=True:=eq_true hlj
     have c1:((k:Int) < (p.length:Int))=True:=eq_true (by omega)
     have c2:((0:Int) ≤ (k:Int))=True:=eq_true (by omega)
     have c3:((0:Int) ≤ (j:Int))=True:=eq_true (by omega)
     obtain ⟨gp,op,rfl⟩:=HA.out.pp.some (by omega)
     obtain ⟨⟨ax,ay⟩,ha⟩:∃ q,pget p k=q:=⟨_,rfl⟩
     obtain ⟨⟨bx,b_y⟩,hb⟩:∃ q,pget p j=q:=⟨_,rfl⟩
     have HQ1:=Lib.hid ha
     have HQ2:=Lib.hid hb
     have HAF:Hid (alikeF p k j=eqB ⟨ax,ay⟩ ⟨bx,b_y⟩):=by unfold Hid alikeF;rw [decide_eq_true hkj,Bool.true_and,ha,hb]
     clear ha hb
     go_upto_region 7 with (fail)
     by_cases hx:ax=bx
     ·have x1:(ax=bx)=True:=eq_true hx
      by_cases hy:ay=b_y
      ·have y1:(ay=b_y)=True:=eq_true hy
       have he:eqB ⟨ax,ay⟩ ⟨bx,b_y⟩=true:=by unfold eqB;exact decide_eq_true (by rw [hx,hy])
       rw [he] at HAF
       clear he hx hy
       refine wp_region_held_drew (S:=fun V=>Below W2.heap.size W2 V) (by kernel_rfl) ?_ (fun hHeld=>?_)
       ·exact bel_drew W2
       revert hHeld
       generalize World.drew _=W1
       intro hHeld 
       refine tk (i:=0) (v:=?_) rfl (Or.inl ⟨by rfl,?_⟩) ?_
       rotate_left;· rintro _ -;go_simp;all_goals (with_reducible rfl)
       try simp only [Act.put,pk2,pk4,pk5,pk6,pk7]
       refine tk (i:=1) (v:=?_) rfl (Or.inl ⟨by rfl,?_⟩) ?_
       rotate_left
       ·intro Wq hSw
        obtain ⟨k0,k1,k2⟩:=((HV.out.below HBB.out).below hSw).three
        clear hSw
        go_simp;all_goals (with_reducible rfl)
       try simp only [Act.put,pk2,pk3,pk4,pk5,pk6,pk7]
       refine tk (i:=2) (v:=?_) rfl (Or.inl ⟨by rfl,?_⟩) ?_
       rotate_left;· rintro _ -;go_simp;all_goals (with_reducible rfl)
       try simp only [Act.put,pk2,pk3,pk4,pk5,pk6,pk7]
       refine tk (i:=3) (v:=?_) rfl (Or.inl ⟨by rfl,?_⟩) ?_
       rotate_left;· rintro _ -;go_simp;all_goals (with_reducible rfl)
       try simp only [Act.put,pk2,pk3,pk4,pk5,pk6,pk7]
       refine tk (i:=4) (v:=?_) rfl (Or.inl ⟨by rfl,?_⟩) ?_
       rotate_left
       ·intro Wq hSw
        obtain ⟨c0,c1⟩:=ptRow_at (HA.out.pp.below (bl_trans HB.out (bl_trans HBB.out hSw))) hlt HQ1.out
        dsimp only at c0 c1
        clear hSw
        go_simp;all_goals (with_reducible rfl)
       try simp only [Act.put,pk2,pk3,pk4,pk5,pk6,pk7]
       refine tk (i:=5) (v:=?_) rfl (Or.inl ⟨by rfl,?_⟩) ?_
       rotate_left;· rintro _ -;go_simp;all_goals (with_reducible rfl)
       try simp only [Act.put,pk2,pk3,pk4,pk5,pk6,pk7]
       refine tk (i:=6) (v:=?_) rfl (Or.inl ⟨by rfl,?_⟩) ?_
       rotate_left
       ·intro Wq hSw
        obtain ⟨k0,k1,k2⟩:=((HV.out.below HBB.out).below hSw).three
        clear hSw
        go_simp;all_goals (with_reducible rfl)
       try simp only [Act.put,pk2,pk3,pk4,pk5,pk6,pk7]
       refine tk (i:=7) (v:=?_) rfl (Or.inl ⟨by rfl,?_⟩) ?_
       rotate_left;· rintro _ -;go_simp;all_goals (with_reducible rfl)
       try simp only [Act.put,pk2,pk3,pk4,pk5,pk6,pk7]
       refine tk (i:=8) (v:=?_) rfl (Or.inl ⟨by rfl,?_⟩) ?_
       rotate_left;· rintro _ -;go_simp;all_goals (with_reducible rfl)
       try simp only [Act.put,pk2,pk3,pk4,pk5,pk6,pk7]
       refine tk (i:=9) (v:=?_) rfl (Or.inl ⟨by rfl,?_⟩) ?_
       rotate_left
       ·intro Wq hSw
        obtain ⟨c0,c1⟩:=ptRow_at (HA.out.pp.below (bl_trans HB.out (bl_trans HBB.out hSw))) hlj HQ2.out
        dsimp only at c0 c1
        clear hSw
        go_simp;all_goals (with_reducible rfl)
       try simp only [Act.put,pk2,pk3,pk4,pk5,pk6,pk7]
       refine tk (i:=10) (v:=?_) rfl (Or.inl ⟨by rfl,?_⟩) ?_
       rotate_left;· rintro _ -;go_simp;all_goals (with_reducible rfl)
       try simp only [Act.put,pk2,pk3,pk4,pk5,pk6,pk7]
       refine wpAnyH_done (by kernel_rfl) ?_ _
       have HB4:=Lib.hid (bl_trans HB3.out hHeld)
       replace HBB:=Lib.hid (bl_trans HB2.out HB4.out)
       clear hHeld
       have HZ:Hid (flTo p l i 4=⟨1,k,j⟩):=flFound (j:=0) rfl (fl2_at hlt hlj HAF.out fun a b ha hb h=>by
        rcases h with h | ⟨rfl,h⟩
        ·exact HNk.out a b h hb
        ·exact HNj.out b h) (by show (1:Int) ≠ 0;decide) (by decide)
       replace HF:=Lib.hid (HF.out.below HBB.out)
       replace HB:=Lib.hid (bl_trans HB.out HBB.out)
       obtain ⟨d0,d1,d2⟩:=HF.out.three
       obtain ⟨f0,f1,f2⟩:=HF.out.free3
       go_wp2_with fail
       obtain ⟨e0,e1,e2⟩:=(HF.out.set3 (.int .i64 1) (.int .i64 k) (.int .i64 j)).three
       refine bodyPost_ret (v:=.agg #[.int .i64 1,.int .i64 k,.int .i64 j]) (by simp [results,Tryz.results27,go_sem,e0,e1,e2];done) rfl ⟨by rw [HZ.out] <;> rfl,?_⟩
       exact bl_set (bl_set (bl_set HB.out (by dsimp only;omega) _) (by dsimp only;omega) _) (by dsimp only;omega) _
      ·have y1:(ay=b_y)=False:=eq_false hy
       have he:eqB ⟨ax,ay⟩ ⟨bx,b_y⟩=false:=by unfold eqB;exact decide_eq_false (fun e=>hy (by injection e))
       rw [he] at HAF
       clear he hx hy
       refine wp_region_held_drew (S:=fun V=>Below W2.heap.size W2 V) (by kernel_rfl) ?_ (fun hHeld=>?_)
       ·exact bel_drew W2
       revert hHeld
       generalize World.drew _=W1
       intro hHeld 
       refine tk (i:=0) (v:=?_) rfl (Or.inl ⟨by rfl,?_⟩) ?_
       rotate_left;· rintro _ -;go_simp;all_goals (with_reducible rfl)
       try simp only [Act.put,pk2,pk4,pk5,pk6,pk7]
       refine tk (i:=1) (v:=?_) rfl (Or.inl ⟨by rfl,?_⟩) ?_
       rotate_left
       ·intro Wq hSw
        obtain ⟨k0,k1,k2⟩:=((HV.out.below HBB.out).below hSw).three
        clear hSw
        go_simp;all_goals (with_reducible rfl)
       try simp only [Act.put,pk2,pk3,pk4,pk5,pk6,pk7]
       refine tk (i:=2) (v:=?_) rfl (Or.inl ⟨by rfl,?_⟩) ?_
       rotate_left;· rintro _ -;go_simp;all_goals (with_reducible rfl)
       try simp only [Act.put,pk2,pk3,pk4,pk5,pk6,pk7]
       refine tk (i:=3) (v:=?_) rfl (Or.inl ⟨by rfl,?_⟩) ?_
       rotate_left;· rintro _ -;go_simp;all_goals (with_reducible rfl)
       try simp only [Act.put,pk2,pk3,pk4,pk5,pk6,pk7]
       refine tk (i:=4) (v:=?_) rfl (Or.inl ⟨by rfl,?_⟩) ?_
       rotate_left
       ·intro Wq hSw
        obtain ⟨c0,c1⟩:=ptRow_at (HA.out.pp.below (bl_trans HB.out (bl_trans HBB.out hSw))) hlt HQ1.out
        dsimp only at c0 c1
        clear hSw
        go_simp;all_goals (with_reducible rfl)
       try simp only [Act.put,pk2,pk3,pk4,pk5,pk6,pk7]
       refine tk (i:=5) (v:=?_) rfl (Or.inl ⟨by rfl,?_⟩) ?_
       rotate_left;· rintro _ -;go_simp;all_goals (with_reducible rfl)
       try simp only [Act.put,pk2,pk3,pk4,pk5,pk6,pk7]
       refine tk (i:=6) (v:=?_) rfl (Or.inl ⟨by rfl,?_⟩) ?_
       rotate_left
       ·intro Wq hSw
        obtain ⟨k0,k1,k2⟩:=((HV.out.below HBB.out).below hSw).three
        clear hSw
        go_simp;all_goals (with_reducible rfl)
       try simp only [Act.put,pk2,pk3,pk4,pk5,pk6,pk7]
       refine tk (i:=7) (v:=?_) rfl (Or.inl ⟨by rfl,?_⟩) ?_
       rotate_left;· rintro _ -;go_simp;all_goals (with_reducible rfl)
       try simp only [Act.put,pk2,pk3,pk4,pk5,pk6,pk7]
       refine tk (i:=8) (v:=?_) rfl (Or.inl ⟨by rfl,?_⟩) ?_
       rotate_left;· rintro _ -;go_simp;all_goals (with_reducible rfl)
       try simp only [Act.put,pk2,pk3,pk4,pk5,pk6,pk7]
       refine tk (i:=9) (v:=?_) rfl (Or.inl ⟨by rfl,?_⟩) ?_
       rotate_left
       ·intro Wq hSw
        obtain ⟨c0,c1⟩:=ptRow_at (HA.out.pp.below (bl_trans HB.out (bl_trans HBB.out hSw))) hlj HQ2.out
        dsimp only at c0 c1
        clear hSw
        go_simp;all_goals (with_reducible rfl)
       try simp only [Act.put,pk2,pk3,pk4,pk5,pk6,pk7]
       refine tk (i:=10) (v:=?_) rfl (Or.inl ⟨by rfl,?_⟩) ?_
       rotate_left;· rintro _ -;go_simp;all_goals (with_reducible rfl)
       try simp only [Act.put,pk2,pk3,pk4,pk5,pk6,pk7]
       refine wpAnyH_done (by kernel_rfl) ?_ _
       have HB4:=Lib.hid (bl_trans HB3.out hHeld)
       replace HBB:=Lib.hid (bl_trans HB2.out HB4.out)
       clear hHeld
       obtain ⟨m1,m2,m3,m4⟩:=wnum (i:=j) (by have:=HPn.out;omega)
       go_wp2_with fail
       clear m1 m2 m3 m4
       exact ⟨⟨j + 1,by omega,hlj,by rw [Int.natCast_add];rfl,fun b hb=>by
        rcases Nat.lt_or_eq_of_le (Nat.le_of_lt_succ hb) with h | rfl
        ·exact HNj.out b h
        ·exact HAF.out,HB4.out⟩,by simp [intOf];omega⟩
     ·have x1:(ax=bx)=False:=eq_false hx
      have he:eqB ⟨ax,ay⟩ ⟨bx,b_y⟩=false:=by unfold eqB;exact decide_eq_false (fun e=>hx (by injection e))
      rw [he] at HAF
      clear he hx
      refine wp_region_held_drew (S:=fun V=>Below W2.heap.size W2 V) (by kernel_rfl) ?_ (fun hHeld=>?_)
      ·exact bel_drew W2
      revert hHeld
      generalize World.drew _=W1
      intro hHeld 
      refine tk (i:=0) (v:=?_) rfl (Or.inl ⟨by rfl,?_⟩) ?_
      rotate_left;· rintro _ -;go_simp;all_goals (with_reducible rfl)
      try simp only [Act.put,pk2,pk4,pk5,pk6,pk7]
      refine tk (i:=1) (v:=?_) rfl (Or.inl ⟨by rfl,?_⟩) ?_
      rotate_left
      ·intro Wq hSw
       obtain ⟨k0,k1,k2⟩:=((HV.out.below HBB.out).below hSw).three
       clear hSw
       go_simp;all_goals (with_reducible rfl)
      try simp only [Act.put,pk2,pk3,pk4,pk5,pk6,pk7]
      refine tk (i:=2) (v:=?_) rfl (Or.inl ⟨by rfl,?_⟩) ?_
      rotate_left;· rintro _ -;go_simp;all_goals (with_reducible rfl)
      try simp only [Act.put,pk2,pk3,pk4,pk5,pk6,pk7]
      refine tk (i:=3) (v:=?_) rfl (Or.inl ⟨by rfl,?_⟩) ?_
      rotate_left;· rintro _ -;go_simp;all_goals (with_reducible rfl)
      try simp only [Act.put,pk2,pk3,pk4,pk5,pk6,pk7]
      refine tk (i:=4) (v:=?_) rfl (Or.inl ⟨by rfl,?_⟩) ?_
      rotate_left
      ·intro Wq hSw
       obtain ⟨c0,c1⟩:=ptRow_at (HA.out.pp.below (bl_trans HB.out (bl_trans HBB.out hSw))) hlt HQ1.out
       dsimp only at c0 c1
       clear hSw
       go_simp;all_goals (with_reducible rfl)
      try simp only [Act.put,pk2,pk3,pk4,pk5,pk6,pk7]
      refine tk (i:=5) (v:=?_) rfl (Or.inl ⟨by rfl,?_⟩) ?_
      rotate_left;· rintro _ -;go_simp;all_goals (with_reducible rfl)
      try simp only [Act.put,pk2,pk3,pk4,pk5,pk6,pk7]
      refine tk (i:=6) (v:=?_) rfl (Or.inl ⟨by rfl,?_⟩) ?_
      rotate_left
      ·intro Wq hSw
       obtain ⟨k0,k1,k2⟩:=((HV.out.below HBB.out).below hSw).three
       clear hSw
       go_simp;all_goals (with_reducible rfl)
      try simp only [Act.put,pk2,pk3,pk4,pk5,pk6,pk7]
      refine tk (i:=7) (v:=?_) rfl (Or.inl ⟨by rfl,?_⟩) ?_
      rotate_left;· rintro _ -;go_simp;all_goals (with_reducible rfl)
      try simp only [Act.put,pk2,pk3,pk4,pk5,pk6,pk7]
      refine tk (i:=8) (v:=?_) rfl (Or.inl ⟨by rfl,?_⟩) ?_
      rotate_left;· rintro _ -;go_simp;all_goals (with_reducible rfl)
      try simp only [Act.put,pk2,pk3,pk4,pk5,pk6,pk7]
      refine tk (i:=9) (v:=?_) rfl (Or.inl ⟨by rfl,?_⟩) ?_
      rotate_left
      ·intro Wq hSw
       obtain ⟨c0,c1⟩:=ptRow_at (HA.out.pp.below (bl_trans HB.out (bl_trans HBB.out hSw))) hlj HQ2.out
       dsimp only at c0 c1
       clear hSw
       go_simp;all_goals (with_reducible rfl)
      try simp only [Act.put,pk2,pk3,pk4,pk5,pk6,pk7]
      refine tk (i:=10) (v:=?_) rfl (Or.inl ⟨by rfl,?_⟩) ?_
      rotate_left;· rintro _ -;go_simp;all_goals (with_reducible rfl)
      try simp only [Act.put,pk2,pk3,pk4,pk5,pk6,pk7]
      refine wpAnyH_done (by kernel_rfl) ?_ _
      have HB4:=Lib.hid (bl_trans HB3.out hHeld)
      replace HBB:=Lib.hid (bl_trans HB2.out HB4.out)
      clear hHeld
      obtain ⟨m1,m2,m3,m4⟩:=wnum (i:=j) (by have:=HPn.out;omega)
      go_wp2_with fail
      clear m1 m2 m3 m4
      exact ⟨⟨j + 1,by omega,hlj,by rw [Int.natCast_add];rfl,fun b hb=>by
       rcases Nat.lt_or_eq_of_le (Nat.le_of_lt_succ hb) with h | rfl
       ·exact HNj.out b h
       ·exact HAF.out,HB4.out⟩,by simp [intOf];omega⟩
    ·obtain rfl:j=p.length:=by omega
     have b2:((p.length:Int) < (p.length:Int))=False:=eq_false (by omega)
     go_wp2_with fail
     clear k0 k1 k2
     obtain ⟨m1,m2,m3,m4⟩:=wnum (i:=k) (by have:=HPn.out;omega)
     go_wp2_with fail
     clear m1 m2 m3 m4
     exact ⟨⟨k + 1,hlt,by rw [Int.natCast_add];rfl,fun a b ha hb=>by
      rcases Nat.lt_or_eq_of_le (Nat.le_of_lt_succ ha) with h | rfl
      ·exact HNk.out a b h hb
      ·exact HNj.out b hb,HBB.out⟩,by simp [intOf];omega⟩
  ·obtain rfl:k=p.length:=by omega
   have b2:((p.length:Int) < (p.length:Int))=False:=eq_false (by omega)
   have H0:Hid ((flTo p l i 1).k=0):=by unfold Hid;rw [flTo_step rfl];exact (fl2_zero (by decide)).2 fun a b ha hb=>HNk.out a b ha hb
   obtain ⟨S,hS⟩:∃ S,l ++ i=S:=⟨_,rfl⟩
   have HSS:=Lib.hid hS
   have HAl:=Lib.hid (fun W h=>refAll10_l p l i S hS ap al ai cp cl ci W (HA.out.below h))
   replace HB:=Lib.hid (bl_trans HB.out HB2.out)
   replace HV:=Lib.hid (HV.out.below HB2.out)
   replace HF:=Lib.hid (HF.out.below HB2.out)
   clear HNk HB2 hk hlt hS
   go_wp2_with fail
   (with_reducible refine (HAl.out _ HB.out).mono ?_);rintro e w2 ⟨ad,cp2,rfl,hrow,hb2⟩
   have HSr:=Lib.hid hrow
   replace HB:=Lib.hid (bl_trans HB.out hb2)
   replace HV:=Lib.hid (HV.out.below hb2)
   replace HF:=Lib.hid (HF.out.below hb2)
   have HSl:Hid (S.length ≤ 800):=by unfold Hid;rw [← HSS.out,List.length_append];have h1:=HC.out.nl;have h2:=HC.out.ni;omega
   clear hb2 HAl k0 k1 k2 hrow b2
   go_wp2_with fail
   go_loopw [6] (fun iv W=>∃ k:Nat,k ≤ S.length∧iv=.int .i64 k∧(∀ a,a < k → shrunkF S a=false)∧Below w2.heap.size w2 W) (fun iv _=>S.length - (intOf iv).toNat)
   case atStart=>exact ⟨0,Nat.zero_le _,rfl,fun a h=>absurd h (Nat.not_lt_zero _),Below.refl _ _⟩
   case round=>
    obtain ⟨k,hk,rfl,hn,hB⟩:=hrel
    have HNk:=Lib.hid hn
    have HB2:=Lib.hid hB
    clear hn hB
    obtain ⟨W0,eW⟩:∃ W0,W0=wr:=⟨_,rfl⟩
    subst eW
    by_cases hlt:k < S.length
    ·have b2:((k:Int) < (S.length:Int))=True:=eq_true (by omega)
     have d1:(k < S.length)=True:=eq_true hlt
     have c2:((0:Int) ≤ (k:Int))=True:=eq_true (by omega)
     obtain ⟨gs,os,rfl⟩:=HSr.out.some (by omega)
     obtain ⟨⟨x,y⟩,hq⟩:∃ q,pget S k=q:=⟨_,rfl⟩
     have HQ:=Lib.hid hq
     have HSF:Hid (shrunkF S k=decide (x=y)):=by unfold Hid shrunkF;rw [hq]
     clear hq
     go_upto_region 13 with (fail)
     by_cases hx:x=y
     ·have x1:(x=y)=True:=eq_true hx
      have x2:(x == y)=true:=beq_iff_eq.mpr hx
      rw [decide_eq_true hx] at HSF
      clear hx
      refine wp_region_held_drew (S:=fun V=>Below W0.heap.size W0 V) (by kernel_rfl) ?_ (fun hHeld=>?_)
      ·exact bel_drew W0
      revert hHeld
      generalize World.drew _=W1
      intro hHeld 
      refine tk (i:=0) (v:=?_) rfl (Or.inl ⟨by rfl,?_⟩) ?_
      rotate_left;· rintro _ -;go_simp;all_goals (with_reducible rfl)
      try simp only [Act.put,pk2,pk4,pk5,pk6,pk7]
      refine tk (i:=1) (v:=?_) rfl (Or.inl ⟨by rfl,?_⟩) ?_
      rotate_left;· rintro _ -;go_simp;all_goals (with_reducible rfl)
      try simp only [Act.put,pk2,pk3,pk4,pk5,pk6,pk7]
      refine tk (i:=2) (v:=?_) rfl (Or.inl ⟨by rfl,?_⟩) ?_
      rotate_left;· rintro _ -;go_simp;all_goals (with_reducible rfl)
      try simp only [Act.put,pk2,pk3,pk4,pk5,pk6,pk7]
      refine tk (i:=3) (v:=?_) rfl (Or.inl ⟨by rfl,?_⟩) ?_
      rotate_left;· rintro _ -;go_simp;all_goals (with_reducible rfl)
      try simp only [Act.put,pk2,pk3,pk4,pk5,pk6,pk7]
      refine tk (i:=4) (v:=?_) rfl (Or.inl ⟨by rfl,?_⟩) ?_
      rotate_left
      ·intro Wq hSw
       obtain ⟨c0,c1⟩:=ptRow_at (HSr.out.below (bl_trans HB2.out hSw)) hlt HQ.out
       dsimp only at c0 c1
       clear hSw
       go_simp;all_goals (with_reducible rfl)
      try simp only [Act.put,pk2,pk3,pk4,pk5,pk6,pk7]
      refine tk (i:=5) (v:=?_) rfl (Or.inl ⟨by rfl,?_⟩) ?_
      rotate_left;· rintro _ -;go_simp;all_goals (with_reducible rfl)
      try simp only [Act.put,pk2,pk3,pk4,pk5,pk6,pk7]
      refine tk (i:=6) (v:=?_) rfl (Or.inl ⟨by rfl,?_⟩) ?_
      rotate_left;· rintro _ -;go_simp;all_goals (with_reducible rfl)
      try simp only [Act.put,pk2,pk3,pk4,pk5,pk6,pk7]
      refine tk (i:=7) (v:=?_) rfl (Or.inl ⟨by rfl,?_⟩) ?_
      rotate_left;· rintro _ -;go_simp;all_goals (with_reducible rfl)
      try simp only [Act.put,pk2,pk3,pk4,pk5,pk6,pk7]
      refine tk (i:=8) (v:=?_) rfl (Or.inl ⟨by rfl,?_⟩) ?_
      rotate_left;· rintro _ -;go_simp;all_goals (with_reducible rfl)
      try simp only [Act.put,pk2,pk3,pk4,pk5,pk6,pk7]
      refine tk (i:=9) (v:=?_) rfl (Or.inl ⟨by rfl,?_⟩) ?_
      rotate_left
      ·intro Wq hSw
       obtain ⟨c0,c1⟩:=ptRow_at (HSr.out.below (bl_trans HB2.out hSw)) hlt HQ.out
       dsimp only at c0 c1
       clear hSw
       go_simp;all_goals (with_reducible rfl)
      try simp only [Act.put,pk2,pk3,pk4,pk5,pk6,pk7]
      refine tk (i:=10) (v:=?_) rfl (Or.inl ⟨by rfl,?_⟩) ?_
      rotate_left;· rintro _ -;go_simp;all_goals (with_reducible rfl)
      try simp only [Act.put,pk2,pk3,pk4,pk5,pk6,pk7]
      refine wpAnyH_done (by kernel_rfl) ?_ _
      replace HB2:=Lib.hid (bl_trans HB2.out hHeld)
      clear hHeld
      have HZ:Hid (flTo p l i 4=⟨2,k,0⟩):=flFound (j:=1) H0.out (by
       show fl1 2 (shrunkF (l ++ i)) (l ++ i).length=_
       rw [HSS.out];exact fl1_at hlt HSF.out HNk.out) (by show (2:Int) ≠ 0;decide) (by decide)
      replace HF:=Lib.hid (HF.out.below HB2.out)
      replace HB:=Lib.hid (bl_trans HB.out HB2.out)
      obtain ⟨d0,d1,d2⟩:=HF.out.three
      obtain ⟨f0,f1,f2⟩:=HF.out.free3
      go_wp2_with fail
      obtain ⟨e0,e1,e2⟩:=(HF.out.set3 (.int .i64 2) (.int .i64 k) (.int .i64 0)).three
      refine bodyPost_ret (v:=.agg #[.int .i64 2,.int .i64 k,.int .i64 0]) (by simp [results,Tryz.results27,go_sem,e0,e1,e2];done) rfl ⟨by rw [HZ.out] <;> rfl,?_⟩
      exact bl_set (bl_set (bl_set HB.out (by dsimp only;omega) _) (by dsimp only;omega) _) (by dsimp only;omega) _
     ·have x1:(x=y)=False:=eq_false hx
      have x2:(x == y)=false:=beq_eq_false_iff_ne.mpr hx
      rw [decide_eq_false hx] at HSF
      clear hx
      refine wp_region_held_drew (S:=fun V=>Below W0.heap.size W0 V) (by kernel_rfl) ?_ (fun hHeld=>?_)
      ·exact bel_drew W0
      revert hHeld
      generalize World.drew _=W1
      intro hHeld 
      refine tk (i:=0) (v:=?_) rfl (Or.inl ⟨by rfl,?_⟩) ?_
      rotate_left;· rintro _ -;go_simp;all_goals (with_reducible rfl)
      try simp only [Act.put,pk2,pk4,pk5,pk6,pk7]
      refine tk (i:=1) (v:=?_) rfl (Or.inl ⟨by rfl,?_⟩) ?_
      rotate_left;· rintro _ -;go_simp;all_goals (with_reducible rfl)
      try simp only [Act.put,pk2,pk3,pk4,pk5,pk6,pk7]
      refine tk (i:=2) (v:=?_) rfl (Or.inl ⟨by rfl,?_⟩) ?_
      rotate_left;· rintro _ -;go_simp;all_goals (with_reducible rfl)
      try simp only [Act.put,pk2,pk3,pk4,pk5,pk6,pk7]
      refine tk (i:=3) (v:=?_) rfl (Or.inl ⟨by rfl,?_⟩) ?_
      rotate_left;· rintro _ -;go_simp;all_goals (with_reducible rfl)
      try simp only [Act.put,pk2,pk3,pk4,pk5,pk6,pk7]
      refine tk (i:=4) (v:=?_) rfl (Or.inl ⟨by rfl,?_⟩) ?_
      rotate_left
      ·intro Wq hSw
       obtain ⟨c0,c1⟩:=ptRow_at (HSr.out.below (bl_trans HB2.out hSw)) hlt HQ.out
       dsimp only at c0 c1
       clear hSw
       go_simp;all_goals (with_reducible rfl)
      try simp only [Act.put,pk2,pk3,pk4,pk5,pk6,pk7]
      refine tk (i:=5) (v:=?_) rfl (Or.inl ⟨by rfl,?_⟩) ?_
      rotate_left;· rintro _ -;go_simp;all_goals (with_reducible rfl)
      try simp only [Act.put,pk2,pk3,pk4,pk5,pk6,pk7]
      refine tk (i:=6) (v:=?_) rfl (Or.inl ⟨by rfl,?_⟩) ?_
      rotate_left;· rintro _ -;go_simp;all_goals (with_reducible rfl)
      try simp only [Act.put,pk2,pk3,pk4,pk5,pk6,pk7]
      refine tk (i:=7) (v:=?_) rfl (Or.inl ⟨by rfl,?_⟩) ?_
      rotate_left;· rintro _ -;go_simp;all_goals (with_reducible rfl)
      try simp only [Act.put,pk2,pk3,pk4,pk5,pk6,pk7]
      refine tk (i:=8) (v:=?_) rfl (Or.inl ⟨by rfl,?_⟩) ?_
      rotate_left;· rintro _ -;go_simp;all_goals (with_reducible rfl)
      try simp only [Act.put,pk2,pk3,pk4,pk5,pk6,pk7]
      refine tk (i:=9) (v:=?_) rfl (Or.inl ⟨by rfl,?_⟩) ?_
      rotate_left
      ·intro Wq hSw
       obtain ⟨c0,c1⟩:=ptRow_at (HSr.out.below (bl_trans HB2.out hSw)) hlt HQ.out
       dsimp only at c0 c1
       clear hSw
       go_simp;all_goals (with_reducible rfl)
      try simp only [Act.put,pk2,pk3,pk4,pk5,pk6,pk7]
      refine tk (i:=10) (v:=?_) rfl (Or.inl ⟨by rfl,?_⟩) ?_
      rotate_left;· rintro _ -;go_simp;all_goals (with_reducible rfl)
      try simp only [Act.put,pk2,pk3,pk4,pk5,pk6,pk7]
      refine wpAnyH_done (by kernel_rfl) ?_ _
      replace HB2:=Lib.hid (bl_trans HB2.out hHeld)
      clear hHeld
      obtain ⟨m1,m2,m3,m4⟩:=wnum (i:=k) (by have:=HSl.out;omega)
      go_wp2_with fail
      clear m1 m2 m3 m4
      exact ⟨⟨k + 1,hlt,by rw [Int.natCast_add];rfl,fun a ha=>by
       rcases Nat.lt_or_eq_of_le (Nat.le_of_lt_succ ha) with h | rfl
       ·exact HNk.out a h
       ·exact HSF.out,HB2.out⟩,by simp [intOf];omega⟩
    ·obtain rfl:k=S.length:=by omega
     have b2:((S.length:Int) < (S.length:Int))=False:=eq_false (by omega)
     have H1:Hid ((flTo p l i 2).k=0):=by
      unfold Hid;rw [flTo_step H0.out]
      show (fl1 2 (shrunkF (l ++ i)) (l ++ i).length).k=0
      rw [HSS.out];exact (fl1_zero (by decide)).2 fun a ha=>HNk.out a ha
     replace HB:=Lib.hid (bl_trans HB.out HB2.out)
     replace HV:=Lib.hid (HV.out.below HB2.out)
     replace HF:=Lib.hid (HF.out.below HB2.out)
     replace HSr:=Lib.hid (HSr.out.below HB2.out)
     obtain ⟨W3,eW⟩:∃ W3,W3=W0:=⟨_,rfl⟩
     subst eW
     clear HNk HB2 hk hlt
     go_wp2_with fail
     go_loopw [7] (fun iv W=>∃ k:Nat,k ≤ S.length∧iv=.int .i64 k∧(∀ a b,a < k → b < S.length → meetF p S a b=false)∧Below W3.heap.size W3 W) (fun iv _=>S.length - (intOf iv).toNat)
     case atStart=>exact ⟨0,Nat.zero_le _,rfl,fun a b h=>absurd h (Nat.not_lt_zero _),Below.refl _ _⟩
     case round=>
      obtain ⟨k,hk,rfl,hn,hB⟩:=hrel
      have HNk:=Lib.hid hn
      have HB2:=Lib.hid hB
      clear hn hB b2
      obtain ⟨W4,eW⟩:∃ W4,W4=wr:=⟨_,rfl⟩
      subst eW
      by_cases hlt:k < S.length
      ·have b2:((k:Int) < (S.length:Int))=True:=eq_true (by omega)
       have hsl:=HSl.out
       obtain ⟨m1,m2,m3,m4⟩:=wnum (i:=k) (by omega)
       go_wp2_with fail
       clear m1 m2 m3 m4 b2
       go_loopw [8] (fun iv W=>∃ j:Nat,k < j∧j ≤ S.length∧iv=.int .i64 j∧(∀ b,b < j → meetF p S k b=false)∧Below W4.heap.size W4 W) (fun iv _=>S.length - (intOf iv).toNat)
       case atStart=>exact ⟨k + 1,Nat.lt_succ_self _,hlt,by rw [Int.natCast_add];rfl,fun b hb=>by unfold meetF;rw [decide_eq_false (by omega),Bool.false_and],Below.refl _ _⟩
       case round=>
        obtain ⟨j,hkj,hj,rfl,hn,hB⟩:=hrel
        have HNj:=Lib.hid hn
        have HB3:=Lib.hid hB
        clear hn hB
        obtain ⟨W5,eW⟩:∃ W5,W5=wr:=⟨_,rfl⟩
        subst eW
        have HBB:=Lib.hid (bl_trans HB2.out HB3.out)
        by_cases hlj:j < S.length
        ·have b2:((j:Int) < (S.length:Int))=True:=eq_true (by omega)
         have d1:(k < S.length)=True:=eq_true hlt
         have d2:(j < S.length)=True:=eq_true hlj
         have c1:((k:Int) < (S.length:Int))=True:=eq_true (by omega)
         have c2:((0:Int) ≤ (k:Int))=True:=eq_true (by omega)
         have c3:((0:Int) ≤ (j:Int))=True:=eq_true (by omega)
         obtain ⟨gs,os,rfl⟩:=HSr.out.some (by omega)
         obtain ⟨a1,a2,ha1,ha2,hq1,hg1⟩:=seg_at10 HC.out HSS.out hlt
         obtain ⟨b1,b3,hb1,hb3,hq2,hg2⟩:=seg_at10 HC.out HSS.out hlj
         obtain ⟨gp,op,rfl⟩:=HA.out.pp.some (by omega)
         have HQ1:=Lib.hid hq1
         have HQ2:=Lib.hid hq2
         have HMF:Hid (meetF p S k j=badB (segF p (pget S k)) (segF p (pget S j))):=by unfold Hid meetF;rw [decide_eq_true hkj,Bool.true_and]
         rw [hg1,hg2] at HMF
         obtain ⟨⟨ax,ay⟩,hA1⟩:∃ q,pget p a1=q:=⟨_,rfl⟩
         obtain ⟨⟨bx,b_y⟩,hA2⟩:∃ q,pget p a2=q:=⟨_,rfl⟩
         obtain ⟨⟨cx,cy⟩,hA3⟩:∃ q,pget p b1=q:=⟨_,rfl⟩
         obtain ⟨⟨dx,dy⟩,hA4⟩:∃ q,pget p b3=q:=⟨_,rfl⟩
         rw [hA1,hA2,hA3,hA4] at HMF
         have HP1:=Lib.hid hA1
         have HP2:=Lib.hid hA2
         have HP3:=Lib.hid hA3
         have HP4:=Lib.hid hA4
         have HSg:=Lib.hid (fun W=>refSegs_l ⟨ax,ay⟩ ⟨bx,b_y⟩ ⟨cx,cy⟩ ⟨dx,dy⟩ W)
         unfold badB at HMF
         dsimp only at HMF HSg
         obtain ⟨nn,hnn⟩:∃ n,segsN ⟨ax,ay⟩ ⟨bx,b_y⟩ ⟨cx,cy⟩ ⟨dx,dy⟩=n:=⟨_,rfl⟩
         obtain ⟨ee,hee⟩:∃ n,segsE ⟨ax,ay⟩ ⟨bx,b_y⟩ ⟨cx,cy⟩ ⟨dx,dy⟩=n:=⟨_,rfl⟩
         rw [hnn] at HMF HSg
         rw [hee] at HSg
         clear hnn hee hA1 hA2 hA3 hA4 hq1 hq2 hg1 hg2
         have f1:(a1 < p.length)=True:=eq_true ha1
         have f2:(a2 < p.length)=True:=eq_true ha2
         have f3:(b1 < p.length)=True:=eq_true hb1
         have f4:(b3 < p.length)=True:=eq_true hb3
         have g1:((a1:Int) < (p.length:Int))=True:=eq_true (by omega)
         have g2:((a2:Int) < (p.length:Int))=True:=eq_true (by omega)
         have g3:((b1:Int) < (p.length:Int))=True:=eq_true (by omega)
         have g4:((b3:Int) < (p.length:Int))=True:=eq_true (by omega)
         have h1:((0:Int) ≤ (a1:Int))=True:=eq_true (by omega)
         have h2:((0:Int) ≤ (a2:Int))=True:=eq_true (by omega)
         have h3:((0:Int) ≤ (b1:Int))=True:=eq_true (by omega)
         have h4:((0:Int) ≤ (b3:Int))=True:=eq_true (by omega)
         go_upto_region 21 with (fail)
         refine wp_region_held_drew (S:=fun V=>Below W5.heap.size W5 V) (by kernel_rfl) ?_ (fun hHeld=>?_)
         ·exact bel_drew W5
         revert hHeld
         generalize World.drew _=W1
         intro hHeld 
         refine tk (i:=0) (v:=?_) rfl (Or.inl ⟨by rfl,?_⟩) ?_
         rotate_left;· rintro _ -;go_simp;all_goals (with_reducible rfl)
         try simp only [Act.put,pk2,pk4,pk5,pk6,pk7]
         refine tk (i:=1) (v:=?_) rfl (Or.inl ⟨by rfl,?_⟩) ?_
         rotate_left
         ·intro Wq hSw
          obtain ⟨k0,k1,k2⟩:=(HV.out.below (bl_trans HBB.out hSw)).three
          clear hSw
          go_simp;all_goals (with_reducible rfl)
         try simp only [Act.put,pk2,pk3,pk4,pk5,pk6,pk7]
         refine tk (i:=2) (v:=?_) rfl (Or.inl ⟨by rfl,?_⟩) ?_
         rotate_left;· rintro _ -;go_simp;all_goals (with_reducible rfl)
         try simp only [Act.put,pk2,pk3,pk4,pk5,pk6,pk7]
         refine tk (i:=3) (v:=?_) rfl (Or.inl ⟨by rfl,?_⟩) ?_
         rotate_left;· rintro _ -;go_simp;all_goals (with_reducible rfl)
         try simp only [Act.put,pk2,pk3,pk4,pk5,pk6,pk7]
         refine tk (i:=4) (v:=?_) rfl (Or.inl ⟨by rfl,?_⟩) ?_
         rotate_left;· rintro _ -;go_simp;all_goals (with_reducible rfl)
         try simp only [Act.put,pk2,pk3,pk4,pk5,pk6,pk7]
         refine tk (i:=5) (v:=?_) rfl (Or.inl ⟨by rfl,?_⟩) ?_
         rotate_left;· rintro _ -;go_simp;all_goals (with_reducible rfl)
         try simp only [Act.put,pk2,pk3,pk4,pk5,pk6,pk7]
         refine tk (i:=6) (v:=?_) rfl (Or.inl ⟨by rfl,?_⟩) ?_
         rotate_left
         ·intro Wq hSw
          obtain ⟨c0,c1⟩:=ptRow_at (HSr.out.below (bl_trans HBB.out hSw)) hlt HQ1.out
          dsimp only at c0 c1
          clear hSw
          go_simp;all_goals (with_reducible rfl)
         try simp only [Act.put,pk2,pk3,pk4,pk5,pk6,pk7]
         refine tk (i:=7) (v:=?_) rfl (Or.inl ⟨by rfl,?_⟩) ?_
         rotate_left;· rintro _ -;go_simp;all_goals (with_reducible rfl)
         try simp only [Act.put,pk2,pk3,pk4,pk5,pk6,pk7]
         refine tk (i:=8) (v:=?_) rfl (Or.inl ⟨by rfl,?_⟩) ?_
         rotate_left
         ·intro Wq hSw
          obtain ⟨c0,c1⟩:=ptRow_at (HA.out.pp.below (bl_trans HB.out (bl_trans HBB.out hSw))) ha1 HP1.out
          dsimp only at c0 c1
          clear hSw
          go_simp;all_goals (with_reducible rfl)
         try simp only [Act.put,pk2,pk3,pk4,pk5,pk6,pk7]
         refine tk (i:=9) (v:=?_) rfl (Or.inl ⟨by rfl,?_⟩) ?_
         rotate_left;· rintro _ -;go_simp;all_goals (with_reducible rfl)
         try simp only [Act.put,pk2,pk3,pk4,pk5,pk6,pk7]
         refine tk (i:=10) (v:=?_) rfl (Or.inl ⟨by rfl,?_⟩) ?_
         rotate_left
         ·intro Wq hSw
          obtain ⟨k0,k1,k2⟩:=(HV.out.below (bl_trans HBB.out hSw)).three
          clear hSw
          go_simp;all_goals (with_reducible rfl)
         try simp only [Act.put,pk2,pk3,pk4,pk5,pk6,pk7]
         refine tk (i:=11) (v:=?_) rfl (Or.inl ⟨by rfl,?_⟩) ?_
         rotate_left;· rintro _ -;go_simp;all_goals (with_reducible rfl)
         try simp only [Act.put,pk2,pk3,pk4,pk5,pk6,pk7]
         refine tk (i:=12) (v:=?_) rfl (Or.inl ⟨by rfl,?_⟩) ?_
         rotate_left;· rintro _ -;go_simp;all_goals (with_reducible rfl)
         try simp only [Act.put,pk2,pk3,pk4,pk5,pk6,pk7]
         refine tk (i:=13) (v:=?_) rfl (Or.inl ⟨by rfl,?_⟩) ?_
         rotate_left;· rintro _ -;go_simp;all_goals (with_reducible rfl)
         try simp only [Act.put,pk2,pk3,pk4,pk5,pk6,pk7]
         refine tk (i:=14) (v:=?_) rfl (Or.inl ⟨by rfl,?_⟩) ?_
         rotate_left;· rintro _ -;go_simp;all_goals (with_reducible rfl)
         try simp only [Act.put,pk2,pk3,pk4,pk5,pk6,pk7]
         refine tk (i:=15) (v:=?_) rfl (Or.inl ⟨by rfl,?_⟩) ?_
         rotate_left
         ·intro Wq hSw
          obtain ⟨c0,c1⟩:=ptRow_at (HSr.out.below (bl_trans HBB.out hSw)) hlt HQ1.out
          dsimp only at c0 c1
          clear hSw
          go_simp;all_goals (with_reducible rfl)
         try simp only [Act.put,pk2,pk3,pk4,pk5,pk6,pk7]
         refine tk (i:=16) (v:=?_) rfl (Or.inl ⟨by rfl,?_⟩) ?_
         rotate_left;· rintro _ -;go_simp;all_goals (with_reducible rfl)
         try simp only [Act.put,pk2,pk3,pk4,pk5,pk6,pk7]
         refine tk (i:=17) (v:=?_) rfl (Or.inl ⟨by rfl,?_⟩) ?_
         rotate_left
         ·intro Wq hSw
          obtain ⟨c0,c1⟩:=ptRow_at (HA.out.pp.below (bl_trans HB.out (bl_trans HBB.out hSw))) ha2 HP2.out
          dsimp only at c0 c1
          clear hSw
          go_simp;all_goals (with_reducible rfl)
         try simp only [Act.put,pk2,pk3,pk4,pk5,pk6,pk7]
         refine tk (i:=18) (v:=?_) rfl (Or.inl ⟨by rfl,?_⟩) ?_
         rotate_left;· rintro _ -;go_simp;all_goals (with_reducible rfl)
         try simp only [Act.put,pk2,pk3,pk4,pk5,pk6,pk7]
         refine tk (i:=19) (v:=?_) rfl (Or.inl ⟨by rfl,?_⟩) ?_
         rotate_left
         ·intro Wq hSw
          obtain ⟨k0,k1,k2⟩:=(HV.out.below (bl_trans HBB.out hSw)).three
          clear hSw
          go_simp;all_goals (with_reducible rfl)
         try simp only [Act.put,pk2,pk3,pk4,pk5,pk6,pk7]
         refine tk (i:=20) (v:=?_) rfl (Or.inl ⟨by rfl,?_⟩) ?_
         rotate_left;· rintro _ -;go_simp;all_goals (with_reducible rfl)
         try simp only [Act.put,pk2,pk3,pk4,pk5,pk6,pk7]
         refine tk (i:=21) (v:=?_) rfl (Or.inl ⟨by rfl,?_⟩) ?_
         rotate_left;· rintro _ -;go_simp;all_goals (with_reducible rfl)
         try simp only [Act.put,pk2,pk3,pk4,pk5,pk6,pk7]
         refine tk (i:=22) (v:=?_) rfl (Or.inl ⟨by rfl,?_⟩) ?_
         rotate_left;· rintro _ -;go_simp;all_goals (with_reducible rfl)
         try simp only [Act.put,pk2,pk3,pk4,pk5,pk6,pk7]
         refine tk (i:=23) (v:=?_) rfl (Or.inl ⟨by rfl,?_⟩) ?_
         rotate_left;· rintro _ -;go_simp;all_goals (with_reducible rfl)
         try simp only [Act.put,pk2,pk3,pk4,pk5,pk6,pk7]
         refine tk (i:=24) (v:=?_) rfl (Or.inl ⟨by rfl,?_⟩) ?_
         rotate_left
         ·intro Wq hSw
          obtain ⟨c0,c1⟩:=ptRow_at (HSr.out.below (bl_trans HBB.out hSw)) hlj HQ2.out
          dsimp only at c0 c1
          clear hSw
          go_simp;all_goals (with_reducible rfl)
         try simp only [Act.put,pk2,pk3,pk4,pk5,pk6,pk7]
         refine tk (i:=25) (v:=?_) rfl (Or.inl ⟨by rfl,?_⟩) ?_
         rotate_left;· rintro _ -;go_simp;all_goals (with_reducible rfl)
         try simp only [Act.put,pk2,pk3,pk4,pk5,pk6,pk7]
         refine tk (i:=26) (v:=?_) rfl (Or.inl ⟨by rfl,?_⟩) ?_
         rotate_left
         ·intro Wq hSw
          obtain ⟨c0,c1⟩:=ptRow_at (HA.out.pp.below (bl_trans HB.out (bl_trans HBB.out hSw))) hb1 HP3.out
          dsimp only at c0 c1
          clear hSw
          go_simp;all_goals (with_reducible rfl)
         try simp only [Act.put,pk2,pk3,pk4,pk5,pk6,pk7]
         refine tk (i:=27) (v:=?_) rfl (Or.inl ⟨by rfl,?_⟩) ?_
         rotate_left;· rintro _ -;go_simp;all_goals (with_reducible rfl)
         try simp only [Act.put,pk2,pk3,pk4,pk5,pk6,pk7]
         refine tk (i:=28) (v:=?_) rfl (Or.inl ⟨by rfl,?_⟩) ?_
         rotate_left
         ·intro Wq hSw
          obtain ⟨k0,k1,k2⟩:=(HV.out.below (bl_trans HBB.out hSw)).three
          clear hSw
          go_simp;all_goals (with_reducible rfl)
         try simp only [Act.put,pk2,pk3,pk4,pk5,pk6,pk7]
         refine tk (i:=29) (v:=?_) rfl (Or.inl ⟨by rfl,?_⟩) ?_
         rotate_left;· rintro _ -;go_simp;all_goals (with_reducible rfl)
         try simp only [Act.put,pk2,pk3,pk4,pk5,pk6,pk7]
         refine tk (i:=30) (v:=?_) rfl (Or.inl ⟨by rfl,?_⟩) ?_
         rotate_left;· rintro _ -;go_simp;all_goals (with_reducible rfl)
         try simp only [Act.put,pk2,pk3,pk4,pk5,pk6,pk7]
         refine tk (i:=31) (v:=?_) rfl (Or.inl ⟨by rfl,?_⟩) ?_
         rotate_left;· rintro _ -;go_simp;all_goals (with_reducible rfl)
         try simp only [Act.put,pk2,pk3,pk4,pk5,pk6,pk7]
         refine tk (i:=32) (v:=?_) rfl (Or.inl ⟨by rfl,?_⟩) ?_
         rotate_left;· rintro _ -;go_simp;all_goals (with_reducible rfl)
         try simp only [Act.put,pk2,pk3,pk4,pk5,pk6,pk7]
         refine tk (i:=33) (v:=?_) rfl (Or.inl ⟨by rfl,?_⟩) ?_
         rotate_left
         ·intro Wq hSw
          obtain ⟨c0,c1⟩:=ptRow_at (HSr.out.below (bl_trans HBB.out hSw)) hlj HQ2.out
          dsimp only at c0 c1
          clear hSw
          go_simp;all_goals (with_reducible rfl)
         try simp only [Act.put,pk2,pk3,pk4,pk5,pk6,pk7]
         refine tk (i:=34) (v:=?_) rfl (Or.inl ⟨by rfl,?_⟩) ?_
         rotate_left;· rintro _ -;go_simp;all_goals (with_reducible rfl)
         try simp only [Act.put,pk2,pk3,pk4,pk5,pk6,pk7]
         refine tk (i:=35) (v:=?_) rfl (Or.inl ⟨by rfl,?_⟩) ?_
         rotate_left
         ·intro Wq hSw
          obtain ⟨c0,c1⟩:=ptRow_at (HA.out.pp.below (bl_trans HB.out (bl_trans HBB.out hSw))) hb3 HP4.out
          dsimp only at c0 c1
          clear hSw
          go_simp;all_goals (with_reducible rfl)
         try simp only [Act.put,pk2,pk3,pk4,pk5,pk6,pk7]
         refine r1 (i:=36) rfl (fun K hK=>?_)
         go_simp
         (with_reducible refine (HSg.out _).mono ?_)
         rintro e w8 ⟨rfl,hb1⟩
         go_wp2_with fail
         refine hK.out _ _ (bl_trans hHeld hb1) (fun hHeld2=>?_)
         clear hK K hHeld
         have hHeld:=hHeld2
         clear hHeld2
         try simp only [Act.put,pk2,pk3,pk4,pk5,pk6,pk7]
         refine tk (i:=37) (v:=?_) rfl (Or.inl ⟨by rfl,?_⟩) ?_
         rotate_left;· rintro _ -;go_simp;all_goals (with_reducible rfl)
         try simp only [Act.put,pk2,pk3,pk4,pk5,pk6,pk7]
         refine tk (i:=38) (v:=?_) rfl (Or.inl ⟨by rfl,?_⟩) ?_
         rotate_left;· rintro _ -;go_simp;all_goals (with_reducible rfl)
         try simp only [Act.put,pk2,pk3,pk4,pk5,pk6,pk7]
         refine tk (i:=39) (v:=?_) rfl (Or.inl ⟨by rfl,?_⟩) ?_
         rotate_left;· rintro _ -;go_simp;all_goals (with_reducible rfl)
         try simp only [Act.put,pk2,pk3,pk4,pk5,pk6,pk7]
         refine tk (i:=40) (v:=?_) rfl (Or.inl ⟨by rfl,?_⟩) ?_
         rotate_left;· rintro _ -;go_simp;all_goals (with_reducible rfl)
         try simp only [Act.put,pk2,pk3,pk4,pk5,pk6,pk7]
         refine tk (i:=41) (v:=?_) rfl (Or.inl ⟨by rfl,?_⟩) ?_
         rotate_left;· rintro _ -;go_simp;all_goals (with_reducible rfl)
         try simp only [Act.put,pk2,pk3,pk4,pk5,pk6,pk7]
         refine wpAnyH_done (by kernel_rfl) ?_ _
         have HB4:=Lib.hid (bl_trans HB3.out hHeld)
         replace HBB:=Lib.hid (bl_trans HB2.out HB4.out)
         clear hHeld
         by_cases hz:1 < nn
         ·have z1:(1 < nn)=True:=eq_true hz
          rw [decide_eq_true hz] at HMF
          clear hz
          have HZ:Hid (flTo p l i 4=⟨3,k,j⟩):=flFound (j:=2) H1.out (by
           show fl2 3 (meetF p (l ++ i)) (l ++ i).length (l ++ i).length=_
           rw [HSS.out];exact fl2_at hlt hlj HMF.out fun a b ha hb h=>by
            rcases h with h | ⟨rfl,h⟩
            ·exact HNk.out a b h hb
            ·exact HNj.out b h) (by show (3:Int) ≠ 0;decide) (by decide)
          replace HF:=Lib.hid (HF.out.below HBB.out)
          replace HB:=Lib.hid (bl_trans HB.out HBB.out)
          obtain ⟨d0,d1,d2⟩:=HF.out.three
          obtain ⟨f0,f1,f2⟩:=HF.out.free3
          go_wp2_with fail
          obtain ⟨e0,e1,e2⟩:=(HF.out.set3 (.int .i64 3) (.int .i64 k) (.int .i64 j)).three
          refine bodyPost_ret (v:=.agg #[.int .i64 3,.int .i64 k,.int .i64 j]) (by simp [results,Tryz.results27,go_sem,e0,e1,e2];done) rfl ⟨by rw [HZ.out] <;> rfl,?_⟩
          exact bl_set (bl_set (bl_set HB.out (by dsimp only;omega) _) (by dsimp only;omega) _) (by dsimp only;omega) _
         ·have z1:(1 < nn)=False:=eq_false hz
          rw [decide_eq_false hz] at HMF
          clear hz
          obtain ⟨m1,m2,m3,m4⟩:=wnum (i:=j) (by have:=HSl.out;omega)
          go_wp2_with fail
          clear m1 m2 m3 m4
          exact ⟨⟨j + 1,by omega,hlj,by rw [Int.natCast_add];rfl,fun b hb=>by
           rcases Nat.lt_or_eq_of_le (Nat.le_of_lt_succ hb) with h | rfl
           ·exact HNj.out b h
           ·exact HMF.out,HB4.out⟩,by simp [intOf];omega⟩
        ·obtain rfl:j=S.length:=by omega
         have b2:((S.length:Int) < (S.length:Int))=False:=eq_false (by omega)
         obtain ⟨m1,m2,m3,m4⟩:=wnum (i:=k) (by have:=HSl.out;omega)
         go_wp2_with fail
         clear m1 m2 m3 m4
         exact ⟨⟨k + 1,hlt,by rw [Int.natCast_add];rfl,fun a b ha hb=>by
          rcases Nat.lt_or_eq_of_le (Nat.le_of_lt_succ ha) with h | rfl
          ·exact HNk.out a b h hb
          ·exact HNj.out b hb,HBB.out⟩,by simp [intOf];omega⟩
      ·obtain rfl:k=S.length:=by omega
       have b2:((S.length:Int) < (S.length:Int))=False:=eq_false (by omega)
       have H2:Hid ((flTo p l i 3).k=0):=by
        unfold Hid;rw [flTo_step H1.out]
        show (fl2 3 (meetF p (l ++ i)) (l ++ i).length (l ++ i).length).k=0
        rw [HSS.out];exact (fl2_zero (by decide)).2 fun a b ha hb=>HNk.out a b ha hb
       replace HB:=Lib.hid (bl_trans HB.out HB2.out)
       replace HV:=Lib.hid (HV.out.below HB2.out)
       replace HF:=Lib.hid (HF.out.below HB2.out)
       replace HSr:=Lib.hid (HSr.out.below HB2.out)
       obtain ⟨W6,eW⟩:∃ W6,W6=W4:=⟨_,rfl⟩
       subst eW
       clear HNk HB2 hk hlt
       go_wp2_with fail
       go_loopw [11] (fun iv W=>∃ k:Nat,k ≤ p.length∧iv=.int .i64 k∧(∀ a b,a < k → b < S.length → coverF p S a b=false)∧Below W6.heap.size W6 W) (fun iv _=>p.length - (intOf iv).toNat)
       case atStart=>exact ⟨0,Nat.zero_le _,rfl,fun a b h=>absurd h (Nat.not_lt_zero _),Below.refl _ _⟩
       case round=>
        obtain ⟨k,hk,rfl,hn,hB⟩:=hrel
        have HNk:=Lib.hid hn
        have HB2:=Lib.hid hB
        clear hn hB b2
        obtain ⟨W7,eW⟩:∃ W7,W7=wr:=⟨_,rfl⟩
        subst eW
        obtain ⟨k0,k1,k2⟩:=(HV.out.below HB2.out).three
        by_cases hlt:k < p.length
        ·have b2:((k:Int) < (p.length:Int))=True:=eq_true (by omega)
         go_wp2_with fail
         clear b2 k0 k1 k2
         go_loopw [12] (fun iv W=>∃ j:Nat,j ≤ S.length∧iv=.int .i64 j∧(∀ b,b < j → coverF p S k b=false)∧Below W7.heap.size W7 W) (fun iv _=>S.length - (intOf iv).toNat)
         case atStart=>exact ⟨0,Nat.zero_le _,rfl,fun b h=>absurd h (Nat.not_lt_zero _),Below.refl _ _⟩
         case round=>
          obtain ⟨j,hj,rfl,hn,hB⟩:=hrel
          have HNj:=Lib.hid hn
          have HB3:=Lib.hid hB
          clear hn hB
          obtain ⟨W8,eW⟩:∃ W8,W8=wr:=⟨_,rfl⟩
          subst eW
          have HBB:=Lib.hid (bl_trans HB2.out HB3.out)
          by_cases hlj:j < S.length
          ·have b2:((j:Int) < (S.length:Int))=True:=eq_true (by omega)
           have d1:(k < p.length)=True:=eq_true hlt
           have d2:(j < S.length)=True:=eq_true hlj
           have c1:((k:Int) < (p.length:Int))=True:=eq_true (by omega)
           have c2:((0:Int) ≤ (k:Int))=True:=eq_true (by omega)
           have c3:((0:Int) ≤ (j:Int))=True:=eq_true (by omega)
           obtain ⟨gs,os,rfl⟩:=HSr.out.some (by omega)
           obtain ⟨b1,b3,hb1,hb3,hq2,hg2⟩:=seg_at10 HC.out HSS.out hlj
           obtain ⟨gp,op,rfl⟩:=HA.out.pp.some (by omega)
           have HQ2:=Lib.hid hq2
           have HMF:Hid (coverF p S k j=insideB (ptI p (pget S j).x) (ptI p (pget S j).y) (pget p k)):=rfl
           injection hg2 with hg3 hg4
           rw [hg3,hg4] at HMF
           obtain ⟨⟨ax,ay⟩,hA1⟩:∃ q,pget p k=q:=⟨_,rfl⟩
           obtain ⟨⟨cx,cy⟩,hA3⟩:∃ q,pget p b1=q:=⟨_,rfl⟩
           obtain ⟨⟨dx,dy⟩,hA4⟩:∃ q,pget p b3=q:=⟨_,rfl⟩
           rw [hA1,hA3,hA4] at HMF
           have HP1:=Lib.hid hA1
           have HP3:=Lib.hid hA3
           have HP4:=Lib.hid hA4
           have HSg:=Lib.hid (fun W=>refInside_l ⟨cx,cy⟩ ⟨dx,dy⟩ ⟨ax,ay⟩ W)
           dsimp only at HMF HSg
           obtain ⟨r,hr⟩:∃ n,insideB ⟨cx,cy⟩ ⟨dx,dy⟩ ⟨ax,ay⟩=n:=⟨_,rfl⟩
           rw [hr] at HMF HSg
           clear hr hA1 hA3 hA4 hq2 hg3 hg4
           have f3:(b1 < p.length)=True:=eq_true hb1
           have f4:(b3 < p.length)=True:=eq_true hb3
           have g3:((b1:Int) < (p.length:Int))=True:=eq_true (by omega)
           have g4:((b3:Int) < (p.length:Int))=True:=eq_true (by omega)
           have h3:((0:Int) ≤ (b1:Int))=True:=eq_true (by omega)
           have h4:((0:Int) ≤ (b3:Int))=True:=eq_true (by omega)
           go_upto_region 30 with (fail)
           refine wp_region_held_drew (S:=fun V=>Below W8.heap.size W8 V) (by kernel_rfl) ?_ (fun hHeld=>?_)
           ·exact bel_drew W8
           revert hHeld
           generalize World.drew _=W1
           intro hHeld 
           refine tk (i:=0) (v:=?_) rfl (Or.inl ⟨by rfl,?_⟩) ?_
           rotate_left;· rintro _ -;go_simp;all_goals (with_reducible rfl)
           try simp only [Act.put,pk2,pk4,pk5,pk6,pk7]
           refine tk (i:=1) (v:=?_) rfl (Or.inl ⟨by rfl,?_⟩) ?_
           rotate_left
           ·intro Wq hSw
            obtain ⟨k0,k1,k2⟩:=(HV.out.below (bl_trans HBB.out hSw)).three
            clear hSw
            go_simp;all_goals (with_reducible rfl)
           try simp only [Act.put,pk2,pk3,pk4,pk5,pk6,pk7]
           refine tk (i:=2) (v:=?_) rfl (Or.inl ⟨by rfl,?_⟩) ?_
           rotate_left;· rintro _ -;go_simp;all_goals (with_reducible rfl)
           try simp only [Act.put,pk2,pk3,pk4,pk5,pk6,pk7]
           refine tk (i:=3) (v:=?_) rfl (Or.inl ⟨by rfl,?_⟩) ?_
           rotate_left;· rintro _ -;go_simp;all_goals (with_reducible rfl)
           try simp only [Act.put,pk2,pk3,pk4,pk5,pk6,pk7]
           refine tk (i:=4) (v:=?_) rfl (Or.inl ⟨by rfl,?_⟩) ?_
           rotate_left;· rintro _ -;go_simp;all_goals (with_reducible rfl)
           try simp only [Act.put,pk2,pk3,pk4,pk5,pk6,pk7]
           refine tk (i:=5) (v:=?_) rfl (Or.inl ⟨by rfl,?_⟩) ?_
           rotate_left;· rintro _ -;go_simp;all_goals (with_reducible rfl)
           try simp only [Act.put,pk2,pk3,pk4,pk5,pk6,pk7]
           refine tk (i:=6) (v:=?_) rfl (Or.inl ⟨by rfl,?_⟩) ?_
           rotate_left
           ·intro Wq hSw
            obtain ⟨c0,c1⟩:=ptRow_at (HSr.out.below (bl_trans HBB.out hSw)) hlj HQ2.out
            dsimp only at c0 c1
            clear hSw
            go_simp;all_goals (with_reducible rfl)
           try simp only [Act.put,pk2,pk3,pk4,pk5,pk6,pk7]
           refine tk (i:=7) (v:=?_) rfl (Or.inl ⟨by rfl,?_⟩) ?_
           rotate_left;· rintro _ -;go_simp;all_goals (with_reducible rfl)
           try simp only [Act.put,pk2,pk3,pk4,pk5,pk6,pk7]
           refine tk (i:=8) (v:=?_) rfl (Or.inl ⟨by rfl,?_⟩) ?_
           rotate_left
           ·intro Wq hSw
            obtain ⟨c0,c1⟩:=ptRow_at (HA.out.pp.below (bl_trans HB.out (bl_trans HBB.out hSw))) hb1 HP3.out
            dsimp only at c0 c1
            clear hSw
            go_simp;all_goals (with_reducible rfl)
           try simp only [Act.put,pk2,pk3,pk4,pk5,pk6,pk7]
           refine tk (i:=9) (v:=?_) rfl (Or.inl ⟨by rfl,?_⟩) ?_
           rotate_left;· rintro _ -;go_simp;all_goals (with_reducible rfl)
           try simp only [Act.put,pk2,pk3,pk4,pk5,pk6,pk7]
           refine tk (i:=10) (v:=?_) rfl (Or.inl ⟨by rfl,?_⟩) ?_
           rotate_left
           ·intro Wq hSw
            obtain ⟨k0,k1,k2⟩:=(HV.out.below (bl_trans HBB.out hSw)).three
            clear hSw
            go_simp;all_goals (with_reducible rfl)
           try simp only [Act.put,pk2,pk3,pk4,pk5,pk6,pk7]
           refine tk (i:=11) (v:=?_) rfl (Or.inl ⟨by rfl,?_⟩) ?_
           rotate_left;· rintro _ -;go_simp;all_goals (with_reducible rfl)
           try simp only [Act.put,pk2,pk3,pk4,pk5,pk6,pk7]
           refine tk (i:=12) (v:=?_) rfl (Or.inl ⟨by rfl,?_⟩) ?_
           rotate_left;· rintro _ -;go_simp;all_goals (with_reducible rfl)
           try simp only [Act.put,pk2,pk3,pk4,pk5,pk6,pk7]
           refine tk (i:=13) (v:=?_) rfl (Or.inl ⟨by rfl,?_⟩) ?_
           rotate_left;· rintro _ -;go_simp;all_goals (with_reducible rfl)
           try simp only [Act.put,pk2,pk3,pk4,pk5,pk6,pk7]
           refine tk (i:=14) (v:=?_) rfl (Or.inl ⟨by rfl,?_⟩) ?_
           rotate_left;· rintro _ -;go_simp;all_goals (with_reducible rfl)
           try simp only [Act.put,pk2,pk3,pk4,pk5,pk6,pk7]
           refine tk (i:=15) (v:=?_) rfl (Or.inl ⟨by rfl,?_⟩) ?_
           rotate_left
           ·intro Wq hSw
            obtain ⟨c0,c1⟩:=ptRow_at (HSr.out.below (bl_trans HBB.out hSw)) hlj HQ2.out
            dsimp only at c0 c1
            clear hSw
            go_simp;all_goals (with_reducible rfl)
           try simp only [Act.put,pk2,pk3,pk4,pk5,pk6,pk7]
           refine tk (i:=16) (v:=?_) rfl (Or.inl ⟨by rfl,?_⟩) ?_
           rotate_left;· rintro _ -;go_simp;all_goals (with_reducible rfl)
           try simp only [Act.put,pk2,pk3,pk4,pk5,pk6,pk7]
           refine tk (i:=17) (v:=?_) rfl (Or.inl ⟨by rfl,?_⟩) ?_
           rotate_left
           ·intro Wq hSw
            obtain ⟨c0,c1⟩:=ptRow_at (HA.out.pp.below (bl_trans HB.out (bl_trans HBB.out hSw))) hb3 HP4.out
            dsimp only at c0 c1
            clear hSw
            go_simp;all_goals (with_reducible rfl)
           try simp only [Act.put,pk2,pk3,pk4,pk5,pk6,pk7]
           refine tk (i:=18) (v:=?_) rfl (Or.inl ⟨by rfl,?_⟩) ?_
           rotate_left;· rintro _ -;go_simp;all_goals (with_reducible rfl)
           try simp only [Act.put,pk2,pk3,pk4,pk5,pk6,pk7]
           refine tk (i:=19) (v:=?_) rfl (Or.inl ⟨by rfl,?_⟩) ?_
           rotate_left
           ·intro Wq hSw
            obtain ⟨k0,k1,k2⟩:=(HV.out.below (bl_trans HBB.out hSw)).three
            clear hSw
            go_simp;all_goals (with_reducible rfl)
           try simp only [Act.put,pk2,pk3,pk4,pk5,pk6,pk7]
           refine tk (i:=20) (v:=?_) rfl (Or.inl ⟨by rfl,?_⟩) ?_
           rotate_left;· rintro _ -;go_simp;all_goals (with_reducible rfl)
           try simp only [Act.put,pk2,pk3,pk4,pk5,pk6,pk7]
           refine tk (i:=21) (v:=?_) rfl (Or.inl ⟨by rfl,?_⟩) ?_
           rotate_left;· rintro _ -;go_simp;all_goals (with_reducible rfl)
           try simp only [Act.put,pk2,pk3,pk4,pk5,pk6,pk7]
           refine tk (i:=22) (v:=?_) rfl (Or.inl ⟨by rfl,?_⟩) ?_
           rotate_left
           ·intro Wq hSw
            obtain ⟨c0,c1⟩:=ptRow_at (HA.out.pp.below (bl_trans HB.out (bl_trans HBB.out hSw))) hlt HP1.out
            dsimp only at c0 c1
            clear hSw
            go_simp;all_goals (with_reducible rfl)
           try simp only [Act.put,pk2,pk3,pk4,pk5,pk6,pk7]
           refine r1 (i:=23) rfl (fun K hK=>?_)
           go_simp
           (with_reducible refine (HSg.out _).mono ?_)
           rintro e w8 ⟨rfl,hb1⟩
           go_wp2_with fail
           refine hK.out _ _ (bl_trans hHeld hb1) (fun hHeld2=>?_)
           clear hK K hHeld
           have hHeld:=hHeld2
           clear hHeld2
           try simp only [Act.put,pk2,pk3,pk4,pk5,pk6,pk7]
           refine wpAnyH_done (by kernel_rfl) ?_ _
           have HB4:=Lib.hid (bl_trans HB3.out hHeld)
           replace HBB:=Lib.hid (bl_trans HB2.out HB4.out)
           clear hHeld
           cases r with
           | true=>
            have HZ:Hid (flTo p l i 4=⟨4,k,j⟩):=flFound (j:=3) H2.out (by
             show fl2 4 (coverF p (l ++ i)) p.length (l ++ i).length=_
             rw [HSS.out];exact fl2_at hlt hlj HMF.out fun a b ha hb h=>by
              rcases h with h | ⟨rfl,h⟩
              ·exact HNk.out a b h hb
              ·exact HNj.out b h) (by show (4:Int) ≠ 0;decide) (by decide)
            replace HF:=Lib.hid (HF.out.below HBB.out)
            replace HB:=Lib.hid (bl_trans HB.out HBB.out)
            obtain ⟨d0,d1,d2⟩:=HF.out.three
            obtain ⟨f0,f1,f2⟩:=HF.out.free3
            go_wp2_with fail
            obtain ⟨e0,e1,e2⟩:=(HF.out.set3 (.int .i64 4) (.int .i64 k) (.int .i64 j)).three
            refine bodyPost_ret (v:=.agg #[.int .i64 4,.int .i64 k,.int .i64 j]) (by simp [results,Tryz.results27,go_sem,e0,e1,e2];done) rfl ⟨by rw [HZ.out] <;> rfl,?_⟩
            exact bl_set (bl_set (bl_set HB.out (by dsimp only;omega) _) (by dsimp only;omega) _) (by dsimp only;omega) _
           | false=>
            obtain ⟨m1,m2,m3,m4⟩:=wnum (i:=j) (by have:=HSl.out;omega)
            go_wp2_with fail
            clear m1 m2 m3 m4
            exact ⟨⟨j + 1,hlj,by rw [Int.natCast_add];rfl,fun b hb=>by
             rcases Nat.lt_or_eq_of_le (Nat.le_of_lt_succ hb) with h | rfl
             ·exact HNj.out b h
             ·exact HMF.out,HB4.out⟩,by simp [intOf];omega⟩
          ·obtain rfl:j=S.length:=by omega
           have b2:((S.length:Int) < (S.length:Int))=False:=eq_false (by omega)
           obtain ⟨m1,m2,m3,m4⟩:=wnum (i:=k) (by have:=HPn.out;omega)
           go_wp2_with fail
           clear m1 m2 m3 m4
           exact ⟨⟨k + 1,hlt,by rw [Int.natCast_add];rfl,fun a b ha hb=>by
            rcases Nat.lt_or_eq_of_le (Nat.le_of_lt_succ ha) with h | rfl
            ·exact HNk.out a b h hb
            ·exact HNj.out b hb,HBB.out⟩,by simp [intOf];omega⟩
        ·obtain rfl:k=p.length:=by omega
         have b2:((p.length:Int) < (p.length:Int))=False:=eq_false (by omega)
         have HZ:Hid (flTo p l i 4=⟨0,0,0⟩):=by
          refine flTo_kind (j:=4) ?_
          rw [flTo_step H2.out]
          show (fl2 4 (coverF p (l ++ i)) p.length (l ++ i).length).k=0
          rw [HSS.out];exact (fl2_zero (by decide)).2 fun a b ha hb=>HNk.out a b ha hb
         replace HB:=Lib.hid (bl_trans HB.out HB2.out)
         replace HF:=Lib.hid (HF.out.below HB2.out)
         obtain ⟨d0,d1,d2⟩:=HF.out.three
         obtain ⟨f0,f1,f2⟩:=HF.out.free3
         go_wp2_with fail
         obtain ⟨e0,e1,e2⟩:=(HF.out.set3 (.int .i64 0) (.int .i64 0) (.int .i64 0)).three
         refine bodyPost_ret (v:=.agg #[.int .i64 0,.int .i64 0,.int .i64 0]) (by simp [results,Tryz.results27,go_sem,e0,e1,e2];done) rfl ⟨by rw [HZ.out] <;> rfl,?_⟩
         exact bl_set (bl_set (bl_set HB.out (by dsimp only;omega) _) (by dsimp only;omega) _) (by dsimp only;omega) _
end Go.Proofs.YtpjaefcmaiimlaaGreat

/-
  Layer 10: the document's first flaw of loops, and of what is inside.
-/
namespace Go.Proofs.YtpjaefcmaiimlaaGreat
open Go.RowKit

theorem take_snocL (l:List Pt) {k:Nat} (h:k < l.length):l.take (k + 1)=l.take k ++ [pget l k]:=by
 rw [List.take_add_one,List.getElem?_eq_getElem h,pget_getElem h];rfl
theorem deg_step {l:List Pt} {j:Nat} (h:j < l.length) (p:Int) (hns:(pget l j).x ≠ (pget l j).y):(deg (l.take (j + 1)) p:Int)=(deg (l.take j) p:Int) + (if (pget l j).x=p ∨ (pget l j).y=p then 1 else 0):=by
 rw [take_snocL l h]
 unfold deg
 rw [nbs_snoc,List.length_append,Int.natCast_add]
 congr 1
 unfold nb1
 by_cases h1:(pget l j).x=p
 ·have h2:(pget l j).y ≠ p:=fun e=>hns (h1.trans e.symm)
  simp [h1,h2]
 ·by_cases h2:(pget l j).y=p
  ·simp [h1,h2]
  ·simp [h1,h2]
theorem wdeg10 {d:Int} (h0:0 ≤ d) (h1:d ≤ 100000):wrap64 (d + 1)=d + 1∧IntKind.i64.wrap (d + 1)=d + 1:=⟨by unfold wrap64;omega,IntWalk.i64_in _ (by omega)⟩
set_option maxHeartbeats 16000000 in
set_option maxRecDepth 100000 in
theorem refLoops10_l (p l i:List Pt) (ap al ai:Option Addr) (cp cl ci:Nat) (w:World) (hA:Pol w ap al ai cp cl ci p l i) (hc:ChkOk p l i) (h4:(flTo p l i 4).k=0) :
 Calls Tryz.prog 28 #[.agg #[.slice ap p.length cp,.slice al l.length cl,.slice ai i.length ci]] w (Gives (.agg #[.int .i64 (flTo p l i 8).k,.int .i64 (flTo p l i 8).a,.int .i64 (flTo p l i 8).b]) w):=by
 have HA:=Lib.hid hA
 have HC:=Lib.hid hc
 have HPn:=Lib.hid hc.n
 have HLn:=Lib.hid hc.nl
 have HIn:=Lib.hid hc.ni
 have H4:=Lib.hid h4
 have HNS:Hid (∀ a,a < l.length → (pget l a).x ≠ (pget l a).y):=fun a ha=>by
  have:=shrunk_no (flTo_zero.1 h4 1 (by omega)) (a:=a) (by rw [List.length_append];omega)
  rwa [pget_left ha] at this
 clear hA hc h4
 go_enter Tryz.func28,Tryz.ntmps28
 go_upto_region 1 with (fail)
 have HV:=Lib.hid ((var3_new w (.slice ap p.length cp) (.slice al l.length cl) (.slice ai i.length ci) 25 w.heap.size rfl).below (bl_one _ (.cells #[.int .i64 0,.int .i64 0,.int .i64 0] 30)))
 have HF:=Lib.hid (var3_new (w.alloc (.cells #[.slice ap p.length cp,.slice al l.length cl,.slice ai i.length ci] 25)) (.int .i64 0) (.int .i64 0) (.int .i64 0) 30 (w.heap.size + 1) (by simp))
 have HB:=Lib.hid (bl_alloc (bl_one w (.cells #[.slice ap p.length cp,.slice al l.length cl,.slice ai i.length ci] 25)) (.cells #[.int .i64 0,.int .i64 0,.int .i64 0] 30))
 generalize (w.alloc (.cells #[.slice ap p.length cp,.slice al l.length cl,.slice ai i.length ci] 25)).alloc (.cells #[.int .i64 0,.int .i64 0,.int .i64 0] 30)=W1 at *
 obtain ⟨k0,k1,k2⟩:=HV.out.three
 go_wp2_with fail
 clear k0 k1 k2
 go_loopw [3] (fun iv W=>∃ k:Nat,k ≤ p.length∧iv=.int .i64 k∧(∀ a,a < k → forkB l a=false)∧Below W1.heap.size W1 W) (fun iv _=>p.length - (intOf iv).toNat)
 case atStart=>exact ⟨0,Nat.zero_le _,rfl,fun a h=>absurd h (Nat.not_lt_zero _),Below.refl _ _⟩
 case round=>
  obtain ⟨k,hk,rfl,hn,hB⟩:=hrel
  have HNk:=Lib.hid hn
  have HB2:=Lib.hid hB
  clear hn hB
  obtain ⟨W0,eW⟩:∃ W0,W0=wr:=⟨_,rfl⟩
  subst eW
  obtain ⟨k0,k1,k2⟩:=(HV.out.below HB2.out).three
  by_cases hlt:k < p.length
  ·have b2:((k:Int) < (p.length:Int))=True:=eq_true (by omega)
   go_wp2_with fail
   clear b2 k0 k1 k2
   go_loopw [4,5] (fun dv jv W=>∃ j:Nat,∃ d:Int,j ≤ l.length∧jv=.int .i64 j∧dv=.int .i64 d∧d=(deg (l.take j) (k:Int):Int)∧0 ≤ d∧d ≤ (j:Int)∧Below W0.heap.size W0 W) (fun _ jv _=>l.length - (intOf jv).toNat)
   case atStart=>exact ⟨0,0,Nat.zero_le _,rfl,rfl,rfl,by omega,by omega,Below.refl _ _⟩
   case round=>
    obtain ⟨j,d,hj,rfl,rfl,hd,d0,d1,hB⟩:=hrel
    have HB3:=Lib.hid hB
    clear hB
    obtain ⟨W2,eW⟩:∃ W2,W2=wr:=⟨_,rfl⟩
    subst eW
    have HBB:=Lib.hid (bl_trans HB2.out HB3.out)
    obtain ⟨k0,k1,k2⟩:=(HV.out.below HBB.out).three
    by_cases hlj:j < l.length
    ·have b2:((j:Int) < (l.length:Int))=True:=eq_true (by omega)
     have e1:(j < l.length)=True:=eq_true hlj
     have c2:((0:Int) ≤ (j:Int))=True:=eq_true (by omega)
     have hln:=HLn.out
     have HWd:=Lib.hid (wdeg10 d0 (by omega))
     obtain ⟨gl,ol,rfl⟩:=HA.out.ll.some (by omega)
     have hns:=HNS.out j hlj
     have hst:=deg_step hlj (k:Int) hns
     obtain ⟨⟨sx,sy⟩,hq⟩:∃ q,pget l j=q:=⟨_,rfl⟩
     rw [hq] at hns hst
     obtain ⟨c0,c1⟩:=ptRow_at (HA.out.ll.below (bl_trans HB.out HBB.out)) hlj hq
     dsimp only at c0 c1 hns hst
     rw [← hd] at hst
     have HST:=Lib.hid hst
     clear hst hq hd
     by_cases hx:sx=(k:Int)
     ·have x1:(sx=(k:Int))=True:=eq_true hx
      have x2:(sx == (k:Int))=true:=beq_iff_eq.mpr hx
      have HST2:Hid (d + 1=(deg (l.take (j + 1)) (k:Int):Int)):=by have h:=HST.out;rw [if_pos (.inl hx)] at h;exact h.symm
      clear hx hns HST
      obtain ⟨m1,m2,m3,m4⟩:=wnum (i:=j) (by omega)
      obtain ⟨w1,w2⟩:=HWd.out
      go_wp2_with fail
      clear m1 m2 m3 m4 w1 w2
      exact ⟨⟨j + 1,d + 1,hlj,by rw [Int.natCast_add];rfl,rfl,HST2.out,by omega,by omega,HB3.out⟩,by simp [intOf];omega⟩
     ·have x1:(sx=(k:Int))=False:=eq_false hx
      have x2:(sx == (k:Int))=false:=beq_eq_false_iff_ne.mpr hx
      by_cases hy:sy=(k:Int)
      ·have y1:(sy=(k:Int))=True:=eq_true hy
       have y2:(sy == (k:Int))=true:=beq_iff_eq.mpr hy
       have HST2:Hid (d + 1=(deg (l.take (j + 1)) (k:Int):Int)):=by have h:=HST.out;rw [if_pos (.inr hy)] at h;exact h.symm
       clear hx hy hns HST
       obtain ⟨m1,m2,m3,m4⟩:=wnum (i:=j) (by omega)
       obtain ⟨w1,w2⟩:=HWd.out
       go_wp2_with fail
       clear m1 m2 m3 m4 w1 w2
       exact ⟨⟨j + 1,d + 1,hlj,by rw [Int.natCast_add];rfl,rfl,HST2.out,by omega,by omega,HB3.out⟩,by simp [intOf];omega⟩
      ·have y1:(sy=(k:Int))=False:=eq_false hy
       have y2:(sy == (k:Int))=false:=beq_eq_false_iff_ne.mpr hy
       have HST2:Hid (d=(deg (l.take (j + 1)) (k:Int):Int)):=by have h:=HST.out;rw [if_neg (by rintro (h | h) <;> contradiction),Int.add_zero] at h;exact h.symm
       clear hx hy hns HST
       obtain ⟨m1,m2,m3,m4⟩:=wnum (i:=j) (by omega)
       go_wp2_with fail
       clear m1 m2 m3 m4
       exact ⟨⟨j + 1,d,hlj,by rw [Int.natCast_add];rfl,rfl,HST2.out,d0,by omega,HB3.out⟩,by simp [intOf];omega⟩
    ·obtain rfl:j=l.length:=by omega
     have b2:((l.length:Int) < (l.length:Int))=False:=eq_false (by omega)
     rw [List.take_length] at hd
     have HFk:Hid (forkB l k=(decide (d ≠ 0) && decide (d ≠ 2))):=by
      unfold Hid forkB
      rw [hd]
      congr 1 <;> (rw [decide_eq_decide];omega)
     have hpn:=HPn.out
     have HWk:=Lib.hid (wnum (i:=k) (by omega))
     clear hd
     by_cases hz:d=0
     ·subst hz
      have HF0:Hid (forkB l k=false):=HFk.out
      clear HFk
      obtain ⟨m1,m2,m3,m4⟩:=HWk.out
      go_wp2_with fail
      clear m1 m2 m3 m4
      exact ⟨⟨k + 1,hlt,by rw [Int.natCast_add];rfl,fun a ha=>by
       rcases Nat.lt_or_eq_of_le (Nat.le_of_lt_succ ha) with h | rfl
       ·exact HNk.out a h
       ·exact HF0.out,HBB.out⟩,by simp [intOf];omega⟩
     ·by_cases ht:d=2
      ·subst ht
       have HF0:Hid (forkB l k=false):=HFk.out
       clear HFk
       obtain ⟨m1,m2,m3,m4⟩:=HWk.out
       go_wp2_with fail
       clear m1 m2 m3 m4
       exact ⟨⟨k + 1,hlt,by rw [Int.natCast_add];rfl,fun a ha=>by
        rcases Nat.lt_or_eq_of_le (Nat.le_of_lt_succ ha) with h | rfl
        ·exact HNk.out a h
        ·exact HF0.out,HBB.out⟩,by simp [intOf];omega⟩
      ·have HF0:Hid (forkB l k=true):=by unfold Hid;rw [HFk.out,decide_eq_true hz,decide_eq_true ht];rfl
       have z1:(d=0)=False:=eq_false hz
       have z2:(d != 0)=true:=bne_iff_ne.mpr hz
       have z3:(d=2)=False:=eq_false ht
       have z4:(d != 2)=true:=bne_iff_ne.mpr ht
       have HZ:Hid (flTo p l i 8=⟨5,k,0⟩):=flFound (j:=4) H4.out (fl1_at hlt HF0.out HNk.out) (by show (5:Int) ≠ 0;decide) (by decide)
       replace HF:=Lib.hid (HF.out.below HBB.out)
       replace HB:=Lib.hid (bl_trans HB.out HBB.out)
       clear hz ht
       obtain ⟨d0,d1,d2⟩:=HF.out.three
       obtain ⟨f0,f1,f2⟩:=HF.out.free3
       go_wp2_with fail
       obtain ⟨e0,e1,e2⟩:=(HF.out.set3 (.int .i64 5) (.int .i64 k) (.int .i64 0)).three
       refine bodyPost_ret (v:=.agg #[.int .i64 5,.int .i64 k,.int .i64 0]) (by simp [results,Tryz.results28,go_sem,e0,e1,e2];done) rfl ⟨by rw [HZ.out] <;> rfl,?_⟩
       exact bl_set (bl_set (bl_set HB.out (by dsimp only;omega) _) (by dsimp only;omega) _) (by dsimp only;omega) _
  ·obtain rfl:k=p.length:=by omega
   have b2:((p.length:Int) < (p.length:Int))=False:=eq_false (by omega)
   have H5:Hid ((flTo p l i 5).k=0):=by unfold Hid;rw [flTo_step H4.out];exact (fl1_zero (by decide)).2 fun a ha=>HNk.out a ha
   replace HB:=Lib.hid (bl_trans HB.out HB2.out)
   replace HV:=Lib.hid (HV.out.below HB2.out)
   replace HF:=Lib.hid (HF.out.below HB2.out)
   clear HNk HB2 hk hlt
   by_cases hl0:l=[]
   ·have z1:(l=[])=True:=eq_true hl0
    have z2:((l.length:Int) == 0)=true:=by rw [hl0];rfl
    have HZ:Hid (flTo p l i 8=⟨6,0,0⟩):=flFound (j:=5) H5.out (by show (if l.length=0 then Fl.mk 6 0 0 else fl0)=_;rw [if_pos (by rw [hl0];rfl)]) (by show (6:Int) ≠ 0;decide) (by decide)
    clear hl0
    obtain ⟨d0,d1,d2⟩:=HF.out.three
    obtain ⟨f0,f1,f2⟩:=HF.out.free3
    go_wp2_with fail
    obtain ⟨e0,e1,e2⟩:=(HF.out.set3 (.int .i64 6) (.int .i64 0) (.int .i64 0)).three
    refine bodyPost_ret (v:=.agg #[.int .i64 6,.int .i64 0,.int .i64 0]) (by simp [results,Tryz.results28,go_sem,e0,e1,e2];done) rfl ⟨by rw [HZ.out] <;> rfl,?_⟩
    exact bl_set (bl_set (bl_set HB.out (by dsimp only;omega) _) (by dsimp only;omega) _) (by dsimp only;omega) _
   ·have z1:(l=[])=False:=eq_false hl0
    have z2:((l.length:Int) == 0)=false:=by rw [beq_eq_false_iff_ne];intro e;exact hl0 (List.length_eq_zero_iff.1 (by omega))
    have H6:Hid ((flTo p l i 6).k=0):=by
     unfold Hid;rw [flTo_step H5.out]
     show (if l.length=0 then Fl.mk 6 0 0 else fl0).k=0
     rw [if_neg fun e=>hl0 (List.length_eq_zero_iff.1 e)];rfl
    clear hl0
    go_wp2_with fail
    go_loopw [6] (fun iv W=>∃ k:Nat,k ≤ i.length∧iv=.int .i64 k∧(∀ a,a < k → (!(midW p l (pget i a)))=false)∧Below W0.heap.size W0 W) (fun iv _=>i.length - (intOf iv).toNat)
    case atStart=>exact ⟨0,Nat.zero_le _,rfl,fun a h=>absurd h (Nat.not_lt_zero _),Below.refl _ _⟩
    case round=>
     obtain ⟨k,hk,rfl,hn,hB⟩:=hrel
     have HNk:=Lib.hid hn
     have HB2:=Lib.hid hB
     clear hn hB b2
     obtain ⟨W3,eW⟩:∃ W3,W3=wr:=⟨_,rfl⟩
     subst eW
     obtain ⟨k0,k1,k2⟩:=(HV.out.below HB2.out).three
     by_cases hlt:k < i.length
     ·have b2:((k:Int) < (i.length:Int))=True:=eq_true (by omega)
      have d1:(k < i.length)=True:=eq_true hlt
      have c2:((0:Int) ≤ (k:Int))=True:=eq_true (by omega)
      obtain ⟨gi,oi,rfl⟩:=HA.out.ii.some (by omega)
      obtain ⟨⟨x,y⟩,hq⟩:∃ q,pget i k=q:=⟨_,rfl⟩
      have HQ:=Lib.hid hq
      have HMW:Hid (midW p l (pget i k)=decide (midN p l [x,y]=1)):=by unfold Hid;rw [hq];rfl
      obtain ⟨nn,hnn⟩:∃ n,midN p l [x,y]=n:=⟨_,rfl⟩
      obtain ⟨ee,hee⟩:∃ n,midE p l [x,y]=n:=⟨_,rfl⟩
      have HMd:Hid (∀ (W:World) (g:Nat),PtRow W ap p → PtRow W al l → IntRow W (some ⟨g,0,none⟩) [x,y] → Calls Tryz.prog 42 #[.slice ap p.length cp,.slice al l.length cl,.slice (some ⟨g,0,none⟩) 2 2] W (Gives (.tuple #[.int .i64 nn,.int .i64 ee]) W)):=fun W g hP hL hI=>by
       have h:=refMid9_l p l [x,y] ap al g 0 cp cl 2 W hP hL hI HA.out.lenL (by simp)
       rw [hnn,hee] at h;exact h
      rw [hnn] at HMW
      clear hq hnn hee
      go_upto_region 17 with (fail)
      clear k0 k1 k2
      refine wp_region_held_drew (S:=fun V=>Below W3.heap.size W3 V) (by kernel_rfl) ?_ (fun hHeld=>?_)
      ·exact bel_drew W3
      revert hHeld
      generalize World.drew _=W1
      intro hHeld 
      refine tk (i:=0) (v:=?_) rfl (Or.inl ⟨by rfl,?_⟩) ?_
      rotate_left;· rintro _ -;go_simp;all_goals (with_reducible rfl)
      try simp only [Act.put,pk2,pk4,pk5,pk6,pk7]
      refine tk (i:=1) (v:=?_) rfl (Or.inl ⟨by rfl,?_⟩) ?_
      rotate_left
      ·intro Wq hSw
       obtain ⟨k0,k1,k2⟩:=((HV.out.below HB2.out).below hSw).three
       clear hSw
       go_simp;all_goals (with_reducible rfl)
      try simp only [Act.put,pk2,pk3,pk4,pk5,pk6,pk7]
      refine tk (i:=2) (v:=?_) rfl (Or.inl ⟨by rfl,?_⟩) ?_
      rotate_left;· rintro _ -;go_simp;all_goals (with_reducible rfl)
      try simp only [Act.put,pk2,pk3,pk4,pk5,pk6,pk7]
      refine tk (i:=3) (v:=?_) rfl (Or.inl ⟨by rfl,?_⟩) ?_
      rotate_left
      ·intro Wq hSw
       obtain ⟨k0,k1,k2⟩:=((HV.out.below HB2.out).below hSw).three
       clear hSw
       go_simp;all_goals (with_reducible rfl)
      try simp only [Act.put,pk2,pk3,pk4,pk5,pk6,pk7]
      refine tk (i:=4) (v:=?_) rfl (Or.inl ⟨by rfl,?_⟩) ?_
      rotate_left;· rintro _ -;go_simp;all_goals (with_reducible rfl)
      try simp only [Act.put,pk2,pk3,pk4,pk5,pk6,pk7]
      refine tk (i:=5) (v:=?_) rfl (Or.inl ⟨by rfl,?_⟩) ?_
      rotate_left
      ·intro Wq hSw
       obtain ⟨k0,k1,k2⟩:=((HV.out.below HB2.out).below hSw).three
       clear hSw
       go_simp;all_goals (with_reducible rfl)
      try simp only [Act.put,pk2,pk3,pk4,pk5,pk6,pk7]
      refine tk (i:=6) (v:=?_) rfl (Or.inl ⟨by rfl,?_⟩) ?_
      rotate_left;· rintro _ -;go_simp;all_goals (with_reducible rfl)
      try simp only [Act.put,pk2,pk3,pk4,pk5,pk6,pk7]
      refine tk (i:=7) (v:=?_) rfl (Or.inl ⟨by rfl,?_⟩) ?_
      rotate_left;· rintro _ -;go_simp;all_goals (with_reducible rfl)
      try simp only [Act.put,pk2,pk3,pk4,pk5,pk6,pk7]
      refine tk (i:=8) (v:=?_) rfl (Or.inl ⟨by rfl,?_⟩) ?_
      rotate_left;· rintro _ -;go_simp;all_goals (with_reducible rfl)
      try simp only [Act.put,pk2,pk3,pk4,pk5,pk6,pk7]
      refine tk (i:=9) (v:=?_) rfl (Or.inl ⟨by rfl,?_⟩) ?_
      rotate_left
      ·intro Wq hSw
       obtain ⟨c0,c1⟩:=ptRow_at (HA.out.ii.below (bl_trans HB.out (bl_trans HB2.out hSw))) hlt HQ.out
       dsimp only at c0 c1
       clear hSw
       go_simp;all_goals (with_reducible rfl)
      try simp only [Act.put,pk2,pk3,pk4,pk5,pk6,pk7]
      refine tk (i:=10) (v:=?_) rfl (Or.inl ⟨by rfl,?_⟩) ?_
      rotate_left;· rintro _ -;go_simp;all_goals (with_reducible rfl)
      try simp only [Act.put,pk2,pk3,pk4,pk5,pk6,pk7]
      refine tk (i:=11) (v:=?_) rfl (Or.inl ⟨by rfl,?_⟩) ?_
      rotate_left
      ·intro Wq hSw
       obtain ⟨k0,k1,k2⟩:=((HV.out.below HB2.out).below hSw).three
       clear hSw
       go_simp;all_goals (with_reducible rfl)
      try simp only [Act.put,pk2,pk3,pk4,pk5,pk6,pk7]
      refine tk (i:=12) (v:=?_) rfl (Or.inl ⟨by rfl,?_⟩) ?_
      rotate_left;· rintro _ -;go_simp;all_goals (with_reducible rfl)
      try simp only [Act.put,pk2,pk3,pk4,pk5,pk6,pk7]
      refine tk (i:=13) (v:=?_) rfl (Or.inl ⟨by rfl,?_⟩) ?_
      rotate_left;· rintro _ -;go_simp;all_goals (with_reducible rfl)
      try simp only [Act.put,pk2,pk3,pk4,pk5,pk6,pk7]
      refine tk (i:=14) (v:=?_) rfl (Or.inl ⟨by rfl,?_⟩) ?_
      rotate_left;· rintro _ -;go_simp;all_goals (with_reducible rfl)
      try simp only [Act.put,pk2,pk3,pk4,pk5,pk6,pk7]
      refine tk (i:=15) (v:=?_) rfl (Or.inl ⟨by rfl,?_⟩) ?_
      rotate_left
      ·intro Wq hSw
       obtain ⟨c0,c1⟩:=ptRow_at (HA.out.ii.below (bl_trans HB.out (bl_trans HB2.out hSw))) hlt HQ.out
       dsimp only at c0 c1
       clear hSw
       go_simp;all_goals (with_reducible rfl)
      try simp only [Act.put,pk2,pk3,pk4,pk5,pk6,pk7]
      refine r1 (i:=16) rfl (fun K hK=>?_)
      go_simp
      refine hK.out _ _ (bl_alloc hHeld _) (fun hHeld2=>?_)
      clear hK K hHeld
      have hHeld:=hHeld2
      clear hHeld2
      try simp only [Act.put,pk2,pk3,pk4,pk5,pk6,pk7]
      refine r1 (i:=17) rfl (fun K hK=>?_)
      go_simp
      (with_reducible refine (HMd.out _ _ (HA.out.pp.below (bl_trans HB.out (bl_trans HB2.out hHeld))) (HA.out.ll.below (bl_trans HB.out (bl_trans HB2.out hHeld))) (intRow_n2 W1 x y _)).mono ?_)
      rintro e w8 ⟨rfl,hb1⟩
      go_wp2_with fail
      refine hK.out _ _ (bl_trans hHeld hb1) (fun hHeld2=>?_)
      clear hK K hHeld
      have hHeld:=hHeld2
      clear hHeld2
      try simp only [Act.put,pk2,pk3,pk4,pk5,pk6,pk7]
      refine tk (i:=18) (v:=?_) rfl (Or.inl ⟨by rfl,?_⟩) ?_
      rotate_left;· rintro _ -;go_simp;all_goals (with_reducible rfl)
      try simp only [Act.put,pk2,pk3,pk4,pk5,pk6,pk7]
      refine tk (i:=19) (v:=?_) rfl (Or.inl ⟨by rfl,?_⟩) ?_
      rotate_left;· rintro _ -;go_simp;all_goals (with_reducible rfl)
      try simp only [Act.put,pk2,pk3,pk4,pk5,pk6,pk7]
      refine tk (i:=20) (v:=?_) rfl (Or.inl ⟨by rfl,?_⟩) ?_
      rotate_left;· rintro _ -;go_simp;all_goals (with_reducible rfl)
      try simp only [Act.put,pk2,pk3,pk4,pk5,pk6,pk7]
      refine tk (i:=21) (v:=?_) rfl (Or.inl ⟨by rfl,?_⟩) ?_
      rotate_left;· rintro _ -;go_simp;all_goals (with_reducible rfl)
      try simp only [Act.put,pk2,pk3,pk4,pk5,pk6,pk7]
      refine tk (i:=22) (v:=?_) rfl (Or.inl ⟨by rfl,?_⟩) ?_
      rotate_left;· rintro _ -;go_simp;all_goals (with_reducible rfl)
      try simp only [Act.put,pk2,pk3,pk4,pk5,pk6,pk7]
      refine wpAnyH_done (by kernel_rfl) ?_ _
      replace HB2:=Lib.hid (bl_trans HB2.out hHeld)
      clear hHeld
      by_cases hz:nn=1
      ·have z1:(nn=1)=True:=eq_true hz
       have z2:(nn != 1)=false:=by rw [hz];rfl
       rw [decide_eq_true hz] at HMW
       clear hz
       obtain ⟨m1,m2,m3,m4⟩:=wnum (i:=k) (by have:=HIn.out;omega)
       go_wp2_with fail
       clear m1 m2 m3 m4
       exact ⟨⟨k + 1,hlt,by rw [Int.natCast_add];rfl,fun a ha=>by
        rcases Nat.lt_or_eq_of_le (Nat.le_of_lt_succ ha) with h | rfl
        ·exact HNk.out a h
        ·rw [HMW.out];rfl,HB2.out⟩,by simp [intOf];omega⟩
      ·have z1:(nn=1)=False:=eq_false hz
       have z2:(nn != 1)=true:=bne_iff_ne.mpr hz
       rw [decide_eq_false hz] at HMW
       clear hz
       have HZ:Hid (flTo p l i 8=⟨7,k,0⟩):=flFound (j:=6) H6.out (fl1_at hlt (by rw [HMW.out];rfl) HNk.out) (by show (7:Int) ≠ 0;decide) (by decide)
       replace HF:=Lib.hid (HF.out.below HB2.out)
       replace HB:=Lib.hid (bl_trans HB.out HB2.out)
       obtain ⟨d0,d1,d2⟩:=HF.out.three
       obtain ⟨f0,f1,f2⟩:=HF.out.free3
       go_wp2_with fail
       obtain ⟨e0,e1,e2⟩:=(HF.out.set3 (.int .i64 7) (.int .i64 k) (.int .i64 0)).three
       refine bodyPost_ret (v:=.agg #[.int .i64 7,.int .i64 k,.int .i64 0]) (by simp [results,Tryz.results28,go_sem,e0,e1,e2];done) rfl ⟨by rw [HZ.out] <;> rfl,?_⟩
       exact bl_set (bl_set (bl_set HB.out (by dsimp only;omega) _) (by dsimp only;omega) _) (by dsimp only;omega) _
     ·obtain rfl:k=i.length:=by omega
      have b2:((i.length:Int) < (i.length:Int))=False:=eq_false (by omega)
      have H7:Hid ((flTo p l i 7).k=0):=by unfold Hid;rw [flTo_step H6.out];exact (fl1_zero (by decide)).2 fun a ha=>HNk.out a ha
      obtain ⟨S,hS⟩:∃ S,l ++ i=S:=⟨_,rfl⟩
      have HSS:=Lib.hid hS
      have HAl:=Lib.hid (fun W h=>refAll10_l p l i S hS ap al ai cp cl ci W (HA.out.below h))
      have HSl:Hid (S.length ≤ 800):=by unfold Hid;rw [← HSS.out,List.length_append];have h1:=HC.out.nl;have h2:=HC.out.ni;omega
      have HNT:Hid (∀ a,a < S.length → (pget S a).x ≠ (pget S a).y):=fun a ha=>by
       have:=shrunk_no (flTo_zero.1 H4.out 1 (by omega)) (a:=a) (by rw [hS];exact ha)
       rwa [hS] at this
      have HPr:=Lib.hid (proper_l10 HC.out (flTo_le H4.out (by omega)))
      have HFt:=Lib.hid (fitK_10 HC.out (show (0:Int) ≤ 1 by omega) (by omega))
      replace HB:=Lib.hid (bl_trans HB.out HB2.out)
      replace HV:=Lib.hid (HV.out.below HB2.out)
      replace HF:=Lib.hid (HF.out.below HB2.out)
      clear HNk HB2 hk hlt hS
      go_wp2_with fail
      (with_reducible refine (HAl.out _ HB.out).mono ?_);rintro e w2 ⟨ad,cp2,rfl,hrow,hb2⟩
      have HSr:=Lib.hid hrow
      replace HB:=Lib.hid (bl_trans HB.out hb2)
      replace HV:=Lib.hid (HV.out.below hb2)
      replace HF:=Lib.hid (HF.out.below hb2)
      clear hb2 HAl k0 k1 k2 hrow b2
      go_wp2_with fail
      go_loopw [10] (fun iv W=>∃ k:Nat,k ≤ p.length∧iv=.int .i64 k∧(∀ a,a < k → strayF p l S a=false)∧Below w2.heap.size w2 W) (fun iv _=>p.length - (intOf iv).toNat)
      case atStart=>exact ⟨0,Nat.zero_le _,rfl,fun a h=>absurd h (Nat.not_lt_zero _),Below.refl _ _⟩
      case round=>
       obtain ⟨k,hk,rfl,hn,hB⟩:=hrel
       have HNk:=Lib.hid hn
       have HB2:=Lib.hid hB
       clear hn hB
       obtain ⟨W4,eW⟩:∃ W4,W4=wr:=⟨_,rfl⟩
       subst eW
       obtain ⟨k0,k1,k2⟩:=(HV.out.below HB2.out).three
       by_cases hlt:k < p.length
       ·have b2:((k:Int) < (p.length:Int))=True:=eq_true (by omega)
        go_wp2_with fail
        clear b2 k0 k1 k2
        go_loopw [11,12] (fun ev jv W=>∃ j:Nat,∃ d:Bool,j ≤ S.length∧jv=.int .i64 j∧ev=.bool d∧d=decide (deg (S.take j) (k:Int) ≠ 0)∧Below W4.heap.size W4 W) (fun _ jv _=>S.length - (intOf jv).toNat)
        case atStart=>exact ⟨0,false,Nat.zero_le _,rfl,rfl,rfl,Below.refl _ _⟩
        case round=>
         obtain ⟨j,d,hj,rfl,rfl,hd,hB⟩:=hrel
         have HB3:=Lib.hid hB
         clear hB
         obtain ⟨W5,eW⟩:∃ W5,W5=wr:=⟨_,rfl⟩
         subst eW
         have HBB:=Lib.hid (bl_trans HB2.out HB3.out)
         by_cases hlj:j < S.length
         ·have b2:((j:Int) < (S.length:Int))=True:=eq_true (by omega)
          have e1:(j < S.length)=True:=eq_true hlj
          have c2:((0:Int) ≤ (j:Int))=True:=eq_true (by omega)
          have hsl:=HSl.out
          obtain ⟨gs,os,rfl⟩:=HSr.out.some (by omega)
          have hst:=deg_step hlj (k:Int) (HNT.out j hlj)
          obtain ⟨⟨sx,sy⟩,hq⟩:∃ q,pget S j=q:=⟨_,rfl⟩
          rw [hq] at hst
          obtain ⟨c0,c1⟩:=ptRow_at (HSr.out.below HBB.out) hlj hq
          dsimp only at c0 c1 hst
          have HST:Hid (decide (deg (S.take (j + 1)) (k:Int) ≠ 0)=(d || (decide (sx=(k:Int)) || decide (sy=(k:Int))))):=by
           unfold Hid
           rw [hd]
           by_cases h1:sx=(k:Int) ∨ sy=(k:Int)
           ·rw [if_pos h1] at hst
            rw [decide_eq_true (show deg (S.take (j + 1)) (k:Int) ≠ 0 by omega),← Bool.decide_or,decide_eq_true h1,Bool.or_true]
           ·rw [if_neg h1] at hst
            rw [← Bool.decide_or,decide_eq_false h1,Bool.or_false,decide_eq_decide]
            omega
          clear hst hq hd
          have HWj:=Lib.hid (wnum (i:=j) (by omega))
          cases d with
          | true=>
           rw [Bool.true_or] at HST
           obtain ⟨m1,m2,m3,m4⟩:=HWj.out
           go_wp2_with fail
           clear m1 m2 m3 m4
           exact ⟨⟨j + 1,_,hlj,by rw [Int.natCast_add];rfl,rfl,HST.out.symm,HB3.out⟩,by simp [intOf];omega⟩
          | false=>
           rw [Bool.false_or] at HST
           by_cases hx:sx=(k:Int)
           ·have x1:(sx=(k:Int))=True:=eq_true hx
            have x2:(sx == (k:Int))=true:=beq_iff_eq.mpr hx
            rw [decide_eq_true hx,Bool.true_or] at HST
            clear hx
            obtain ⟨m1,m2,m3,m4⟩:=HWj.out
            go_wp2_with fail
            clear m1 m2 m3 m4
            exact ⟨⟨j + 1,_,hlj,by rw [Int.natCast_add];rfl,rfl,HST.out.symm,HB3.out⟩,by simp [intOf];omega⟩
           ·have x1:(sx=(k:Int))=False:=eq_false hx
            have x2:(sx == (k:Int))=false:=beq_eq_false_iff_ne.mpr hx
            rw [decide_eq_false hx,Bool.false_or] at HST
            clear hx
            by_cases hy:sy=(k:Int)
            ·have y1:(sy=(k:Int))=True:=eq_true hy
             have y2:(sy == (k:Int))=true:=beq_iff_eq.mpr hy
             rw [decide_eq_true hy] at HST
             clear hy
             obtain ⟨m1,m2,m3,m4⟩:=HWj.out
             go_wp2_with fail
             clear m1 m2 m3 m4
             exact ⟨⟨j + 1,_,hlj,by rw [Int.natCast_add];rfl,rfl,HST.out.symm,HB3.out⟩,by simp [intOf];omega⟩
            ·have y1:(sy=(k:Int))=False:=eq_false hy
             have y2:(sy == (k:Int))=false:=beq_eq_false_iff_ne.mpr hy
             rw [decide_eq_false hy] at HST
             clear hy
             obtain ⟨m1,m2,m3,m4⟩:=HWj.out
             go_wp2_with fail
             clear m1 m2 m3 m4
             exact ⟨⟨j + 1,_,hlj,by rw [Int.natCast_add];rfl,rfl,HST.out.symm,HB3.out⟩,by simp [intOf];omega⟩
         ·obtain rfl:j=S.length:=by omega
          have b2:((S.length:Int) < (S.length:Int))=False:=eq_false (by omega)
          rw [List.take_length] at hd
          have HSF:Hid (strayF p l S k=(!d && !decide (whereZ 1 p l (pget p k)=1))):=by
           unfold Hid strayF
           rw [hd]
           congr 1
           by_cases h0:deg S (k:Int)=0 <;> simp [h0]
          clear hd
          have d1:(k < p.length)=True:=eq_true hlt
          have c1:((k:Int) < (p.length:Int))=True:=eq_true (by omega)
          have c2:((0:Int) ≤ (k:Int))=True:=eq_true (by omega)
          obtain ⟨gp,op,rfl⟩:=HA.out.pp.some (by omega)
          obtain ⟨⟨qx,qy⟩,hq⟩:∃ q,pget p k=q:=⟨_,rfl⟩
          have HQ:=Lib.hid hq
          have hfq:=place_fit (HC.out.pl k hlt)
          rw [hq] at hfq HSF
          have HWr:=Lib.hid (fun W h=>where9_l p l ⟨qx,qy⟩ (some ⟨gp,op,none⟩) al cp cl 1 (by omega) (by omega) W (HA.out.pp.below h) (HA.out.ll.below h) HA.out.lenL HPr.out HFt.out hfq)
          dsimp only at HWr
          obtain ⟨nn,hnn⟩:∃ n,whereZ 1 p l ⟨qx,qy⟩=n:=⟨_,rfl⟩
          rw [hnn] at HWr HSF
          have HPn':=HPn
          have HWk:=Lib.hid (wnum (i:=k) (by have:=HPn.out;omega))
          clear hq hfq hnn
          cases d with
          | true=>
           have HS0:Hid (strayF p l S k=false):=by unfold Hid;rw [HSF.out];rfl
           clear HSF
           go_upto_region 29 with (fail)
           refine wp_region_held_drew (S:=fun V=>Below W5.heap.size W5 V) (by kernel_rfl) ?_ (fun hHeld=>?_)
           ·exact bel_drew W5
           revert hHeld
           generalize World.drew _=W1
           intro hHeld 
           refine tk (i:=0) (v:=?_) rfl (Or.inl ⟨by rfl,?_⟩) ?_
           rotate_left;· rintro _ -;go_simp;all_goals (with_reducible rfl)
           try simp only [Act.put,pk2,pk4,pk5,pk6,pk7]
           refine tk (i:=1) (v:=?_) rfl (Or.inl ⟨by rfl,?_⟩) ?_
           rotate_left;· rintro _ -;go_simp;all_goals (with_reducible rfl)
           try simp only [Act.put,pk2,pk3,pk4,pk5,pk6,pk7]
           refine tk (i:=2) (v:=?_) rfl (Or.inl ⟨by rfl,?_⟩) ?_
           rotate_left;· rintro _ -;go_simp;all_goals (with_reducible rfl)
           try simp only [Act.put,pk2,pk3,pk4,pk5,pk6,pk7]
           refine tk (i:=3) (v:=_) rfl (Or.inr ⟨by rfl,rfl⟩) ?_
           try simp only [Act.put,pk2,pk3,pk4,pk5,pk6,pk7]
           refine tk (i:=4) (v:=_) rfl (Or.inr ⟨by rfl,rfl⟩) ?_
           try simp only [Act.put,pk2,pk3,pk4,pk5,pk6,pk7]
           refine tk (i:=5) (v:=_) rfl (Or.inr ⟨by rfl,rfl⟩) ?_
           try simp only [Act.put,pk2,pk3,pk4,pk5,pk6,pk7]
           refine tk (i:=6) (v:=_) rfl (Or.inr ⟨by rfl,rfl⟩) ?_
           try simp only [Act.put,pk2,pk3,pk4,pk5,pk6,pk7]
           refine tk (i:=7) (v:=_) rfl (Or.inr ⟨by rfl,rfl⟩) ?_
           try simp only [Act.put,pk2,pk3,pk4,pk5,pk6,pk7]
           refine tk (i:=8) (v:=_) rfl (Or.inr ⟨by rfl,rfl⟩) ?_
           try simp only [Act.put,pk2,pk3,pk4,pk5,pk6,pk7]
           refine tk (i:=9) (v:=_) rfl (Or.inr ⟨by rfl,rfl⟩) ?_
           try simp only [Act.put,pk2,pk3,pk4,pk5,pk6,pk7]
           refine tk (i:=10) (v:=_) rfl (Or.inr ⟨by rfl,rfl⟩) ?_
           try simp only [Act.put,pk2,pk3,pk4,pk5,pk6,pk7]
           refine tk (i:=11) (v:=_) rfl (Or.inr ⟨by rfl,rfl⟩) ?_
           try simp only [Act.put,pk2,pk3,pk4,pk5,pk6,pk7]
           refine tk (i:=12) (v:=_) rfl (Or.inr ⟨by rfl,rfl⟩) ?_
           try simp only [Act.put,pk2,pk3,pk4,pk5,pk6,pk7]
           refine tk (i:=13) (v:=_) rfl (Or.inr ⟨by rfl,rfl⟩) ?_
           try simp only [Act.put,pk2,pk3,pk4,pk5,pk6,pk7]
           refine tk (i:=14) (v:=?_) rfl (Or.inl ⟨by rfl,?_⟩) ?_
           rotate_left;· rintro _ -;go_simp;all_goals (with_reducible rfl)
           try simp only [Act.put,pk2,pk3,pk4,pk5,pk6,pk7]
           refine wpAnyH_done (by kernel_rfl) ?_ _
           replace HBB:=Lib.hid (bl_trans HBB.out hHeld)
           clear hHeld
           obtain ⟨m1,m2,m3,m4⟩:=HWk.out
           go_wp2_with fail
           clear m1 m2 m3 m4
           exact ⟨⟨k + 1,hlt,by rw [Int.natCast_add];rfl,fun a ha=>by
            rcases Nat.lt_or_eq_of_le (Nat.le_of_lt_succ ha) with h | rfl
            ·exact HNk.out a h
            ·exact HS0.out,HBB.out⟩,by simp [intOf];omega⟩
          | false=>
           rw [Bool.not_false,Bool.true_and] at HSF
           go_upto_region 29 with (fail)
           by_cases hz:nn=1
           ·have z1:(nn=1)=True:=eq_true hz
            have z2:(nn != 1)=false:=by rw [hz];rfl
            have HS0:Hid (strayF p l S k=false):=by unfold Hid;rw [HSF.out,decide_eq_true hz];rfl
            clear hz HSF
            refine wp_region_held_drew (S:=fun V=>Below W5.heap.size W5 V) (by kernel_rfl) ?_ (fun hHeld=>?_)
            ·exact bel_drew W5
            revert hHeld
            generalize World.drew _=W1
            intro hHeld 
            refine tk (i:=0) (v:=?_) rfl (Or.inl ⟨by rfl,?_⟩) ?_
            rotate_left;· rintro _ -;go_simp;all_goals (with_reducible rfl)
            try simp only [Act.put,pk2,pk4,pk5,pk6,pk7]
            refine tk (i:=1) (v:=?_) rfl (Or.inl ⟨by rfl,?_⟩) ?_
            rotate_left;· rintro _ -;go_simp;all_goals (with_reducible rfl)
            try simp only [Act.put,pk2,pk3,pk4,pk5,pk6,pk7]
            refine tk (i:=2) (v:=?_) rfl (Or.inl ⟨by rfl,?_⟩) ?_
            rotate_left;· rintro _ -;go_simp;all_goals (with_reducible rfl)
            try simp only [Act.put,pk2,pk3,pk4,pk5,pk6,pk7]
            refine tk (i:=3) (v:=?_) rfl (Or.inl ⟨by rfl,?_⟩) ?_
            rotate_left;· rintro _ -;go_simp;all_goals (with_reducible rfl)
            try simp only [Act.put,pk2,pk3,pk4,pk5,pk6,pk7]
            refine tk (i:=4) (v:=?_) rfl (Or.inl ⟨by rfl,?_⟩) ?_
            rotate_left
            ·intro Wq hSw
             obtain ⟨k0,k1,k2⟩:=((HV.out.below HBB.out).below hSw).three
             clear hSw
             go_simp;all_goals (with_reducible rfl)
            try simp only [Act.put,pk2,pk3,pk4,pk5,pk6,pk7]
            refine tk (i:=5) (v:=?_) rfl (Or.inl ⟨by rfl,?_⟩) ?_
            rotate_left;· rintro _ -;go_simp;all_goals (with_reducible rfl)
            try simp only [Act.put,pk2,pk3,pk4,pk5,pk6,pk7]
            refine tk (i:=6) (v:=?_) rfl (Or.inl ⟨by rfl,?_⟩) ?_
            rotate_left
            ·intro Wq hSw
             obtain ⟨k0,k1,k2⟩:=((HV.out.below HBB.out).below hSw).three
             clear hSw
             go_simp;all_goals (with_reducible rfl)
            try simp only [Act.put,pk2,pk3,pk4,pk5,pk6,pk7]
            refine tk (i:=7) (v:=?_) rfl (Or.inl ⟨by rfl,?_⟩) ?_
            rotate_left;· rintro _ -;go_simp;all_goals (with_reducible rfl)
            try simp only [Act.put,pk2,pk3,pk4,pk5,pk6,pk7]
            refine tk (i:=8) (v:=?_) rfl (Or.inl ⟨by rfl,?_⟩) ?_
            rotate_left
            ·intro Wq hSw
             obtain ⟨k0,k1,k2⟩:=((HV.out.below HBB.out).below hSw).three
             clear hSw
             go_simp;all_goals (with_reducible rfl)
            try simp only [Act.put,pk2,pk3,pk4,pk5,pk6,pk7]
            refine tk (i:=9) (v:=?_) rfl (Or.inl ⟨by rfl,?_⟩) ?_
            rotate_left;· rintro _ -;go_simp;all_goals (with_reducible rfl)
            try simp only [Act.put,pk2,pk3,pk4,pk5,pk6,pk7]
            refine tk (i:=10) (v:=?_) rfl (Or.inl ⟨by rfl,?_⟩) ?_
            rotate_left;· rintro _ -;go_simp;all_goals (with_reducible rfl)
            try simp only [Act.put,pk2,pk3,pk4,pk5,pk6,pk7]
            refine tk (i:=11) (v:=?_) rfl (Or.inl ⟨by rfl,?_⟩) ?_
            rotate_left
            ·intro Wq hSw
             obtain ⟨c3,c4⟩:=ptRow_at (HA.out.pp.below (bl_trans HB.out (bl_trans HBB.out hSw))) hlt HQ.out
             dsimp only at c3 c4
             clear hSw
             go_simp;all_goals (with_reducible rfl)
            try simp only [Act.put,pk2,pk3,pk4,pk5,pk6,pk7]
            refine r1 (i:=12) rfl (fun K hK=>?_)
            go_simp
            (with_reducible refine (HWr.out _ (bl_trans HB.out (bl_trans HBB.out hHeld))).mono ?_)
            rintro e w8 ⟨rfl,hb1⟩
            go_wp2_with fail
            refine hK.out _ _ (bl_trans hHeld hb1) (fun hHeld2=>?_)
            clear hK K hHeld
            have hHeld:=hHeld2
            clear hHeld2
            try simp only [Act.put,pk2,pk3,pk4,pk5,pk6,pk7]
            refine tk (i:=13) (v:=?_) rfl (Or.inl ⟨by rfl,?_⟩) ?_
            rotate_left;· rintro _ -;go_simp;all_goals (with_reducible rfl)
            try simp only [Act.put,pk2,pk3,pk4,pk5,pk6,pk7]
            refine tk (i:=14) (v:=?_) rfl (Or.inl ⟨by rfl,?_⟩) ?_
            rotate_left;· rintro _ -;go_simp;all_goals (with_reducible rfl)
            try simp only [Act.put,pk2,pk3,pk4,pk5,pk6,pk7]
            refine wpAnyH_done (by kernel_rfl) ?_ _
            replace HBB:=Lib.hid (bl_trans HBB.out hHeld)
            clear hHeld
            obtain ⟨m1,m2,m3,m4⟩:=HWk.out
            go_wp2_with fail
            clear m1 m2 m3 m4
            exact ⟨⟨k + 1,hlt,by rw [Int.natCast_add];rfl,fun a ha=>by
             rcases Nat.lt_or_eq_of_le (Nat.le_of_lt_succ ha) with h | rfl
             ·exact HNk.out a h
             ·exact HS0.out,HBB.out⟩,by simp [intOf];omega⟩
           ·have z1:(nn=1)=False:=eq_false hz
            have z2:(nn != 1)=true:=bne_iff_ne.mpr hz
            have HS0:Hid (strayF p l S k=true):=by unfold Hid;rw [HSF.out,decide_eq_false hz];rfl
            clear hz HSF
            refine wp_region_held_drew (S:=fun V=>Below W5.heap.size W5 V) (by kernel_rfl) ?_ (fun hHeld=>?_)
            ·exact bel_drew W5
            revert hHeld
            generalize World.drew _=W1
            intro hHeld 
            refine tk (i:=0) (v:=?_) rfl (Or.inl ⟨by rfl,?_⟩) ?_
            rotate_left;· rintro _ -;go_simp;all_goals (with_reducible rfl)
            try simp only [Act.put,pk2,pk4,pk5,pk6,pk7]
            refine tk (i:=1) (v:=?_) rfl (Or.inl ⟨by rfl,?_⟩) ?_
            rotate_left;· rintro _ -;go_simp;all_goals (with_reducible rfl)
            try simp only [Act.put,pk2,pk3,pk4,pk5,pk6,pk7]
            refine tk (i:=2) (v:=?_) rfl (Or.inl ⟨by rfl,?_⟩) ?_
            rotate_left;· rintro _ -;go_simp;all_goals (with_reducible rfl)
            try simp only [Act.put,pk2,pk3,pk4,pk5,pk6,pk7]
            refine tk (i:=3) (v:=?_) rfl (Or.inl ⟨by rfl,?_⟩) ?_
            rotate_left;· rintro _ -;go_simp;all_goals (with_reducible rfl)
            try simp only [Act.put,pk2,pk3,pk4,pk5,pk6,pk7]
            refine tk (i:=4) (v:=?_) rfl (Or.inl ⟨by rfl,?_⟩) ?_
            rotate_left
            ·intro Wq hSw
             obtain ⟨k0,k1,k2⟩:=((HV.out.below HBB.out).below hSw).three
             clear hSw
             go_simp;all_goals (with_reducible rfl)
            try simp only [Act.put,pk2,pk3,pk4,pk5,pk6,pk7]
            refine tk (i:=5) (v:=?_) rfl (Or.inl ⟨by rfl,?_⟩) ?_
            rotate_left;· rintro _ -;go_simp;all_goals (with_reducible rfl)
            try simp only [Act.put,pk2,pk3,pk4,pk5,pk6,pk7]
            refine tk (i:=6) (v:=?_) rfl (Or.inl ⟨by rfl,?_⟩) ?_
            rotate_left
            ·intro Wq hSw
             obtain ⟨k0,k1,k2⟩:=((HV.out.below HBB.out).below hSw).three
             clear hSw
             go_simp;all_goals (with_reducible rfl)
            try simp only [Act.put,pk2,pk3,pk4,pk5,pk6,pk7]
            refine tk (i:=7) (v:=?_) rfl (Or.inl ⟨by rfl,?_⟩) ?_
            rotate_left;· rintro _ -;go_simp;all_goals (with_reducible rfl)
            try simp only [Act.put,pk2,pk3,pk4,pk5,pk6,pk7]
            refine tk (i:=8) (v:=?_) rfl (Or.inl ⟨by rfl,?_⟩) ?_
            rotate_left
            ·intro Wq hSw
             obtain ⟨k0,k1,k2⟩:=((HV.out.below HBB.out).below hSw).three
             clear hSw
             go_simp;all_goals (with_reducible rfl)
            try simp only [Act.put,pk2,pk3,pk4,pk5,pk6,pk7]
            refine tk (i:=9) (v:=?_) rfl (Or.inl ⟨by rfl,?_⟩) ?_
            rotate_left;· rintro _ -;go_simp;all_goals (with_reducible rfl)
            try simp only [Act.put,pk2,pk3,pk4,pk5,pk6,pk7]
            refine tk (i:=10) (v:=?_) rfl (Or.inl ⟨by rfl,?_⟩) ?_
            rotate_left;· rintro _ -;go_simp;all_goals (with_reducible rfl)
            try simp only [Act.put,pk2,pk3,pk4,pk5,pk6,pk7]
            refine tk (i:=11) (v:=?_) rfl (Or.inl ⟨by rfl,?_⟩) ?_
            rotate_left
            ·intro Wq hSw
             obtain ⟨c3,c4⟩:=ptRow_at (HA.out.pp.below (bl_trans HB.out (bl_trans HBB.out hSw))) hlt HQ.out
             dsimp only at c3 c4
             clear hSw
             go_simp;all_goals (with_reducible rfl)
            try simp only [Act.put,pk2,pk3,pk4,pk5,pk6,pk7]
            refine r1 (i:=12) rfl (fun K hK=>?_)
            go_simp
            (with_reducible refine (HWr.out _ (bl_trans HB.out (bl_trans HBB.out hHeld))).mono ?_)
            rintro e w8 ⟨rfl,hb1⟩
            go_wp2_with fail
            refine hK.out _ _ (bl_trans hHeld hb1) (fun hHeld2=>?_)
            clear hK K hHeld
            have hHeld:=hHeld2
            clear hHeld2
            try simp only [Act.put,pk2,pk3,pk4,pk5,pk6,pk7]
            refine tk (i:=13) (v:=?_) rfl (Or.inl ⟨by rfl,?_⟩) ?_
            rotate_left;· rintro _ -;go_simp;all_goals (with_reducible rfl)
            try simp only [Act.put,pk2,pk3,pk4,pk5,pk6,pk7]
            refine tk (i:=14) (v:=?_) rfl (Or.inl ⟨by rfl,?_⟩) ?_
            rotate_left;· rintro _ -;go_simp;all_goals (with_reducible rfl)
            try simp only [Act.put,pk2,pk3,pk4,pk5,pk6,pk7]
            refine wpAnyH_done (by kernel_rfl) ?_ _
            replace HBB:=Lib.hid (bl_trans HBB.out hHeld)
            clear hHeld
            have HZ:Hid (flTo p l i 8=⟨8,k,0⟩):=flFound (j:=7) H7.out (by
             show fl1 8 (strayF p l (l ++ i)) p.length=_
             rw [HSS.out];exact fl1_at hlt HS0.out HNk.out) (by show (8:Int) ≠ 0;decide) (by decide)
            replace HF:=Lib.hid (HF.out.below HBB.out)
            replace HB:=Lib.hid (bl_trans HB.out HBB.out)
            obtain ⟨d0,d1,d2⟩:=HF.out.three
            obtain ⟨f0,f1,f2⟩:=HF.out.free3
            go_wp2_with fail
            obtain ⟨e0,e1,e2⟩:=(HF.out.set3 (.int .i64 8) (.int .i64 k) (.int .i64 0)).three
            refine bodyPost_ret (v:=.agg #[.int .i64 8,.int .i64 k,.int .i64 0]) (by simp [results,Tryz.results28,go_sem,e0,e1,e2];done) rfl ⟨by rw [HZ.out] <;> rfl,?_⟩
            exact bl_set (bl_set (bl_set HB.out (by dsimp only;omega) _) (by dsimp only;omega) _) (by dsimp only;omega) _
       ·obtain rfl:k=p.length:=by omega
        have b2:((p.length:Int) < (p.length:Int))=False:=eq_false (by omega)
        have HZ:Hid (flTo p l i 8=⟨0,0,0⟩):=by
         refine flTo_kind (j:=8) ?_
         rw [flTo_step H7.out]
         show (fl1 8 (strayF p l (l ++ i)) p.length).k=0
         rw [HSS.out];exact (fl1_zero (by decide)).2 fun a ha=>HNk.out a ha
        replace HB:=Lib.hid (bl_trans HB.out HB2.out)
        replace HF:=Lib.hid (HF.out.below HB2.out)
        obtain ⟨d0,d1,d2⟩:=HF.out.three
        obtain ⟨f0,f1,f2⟩:=HF.out.free3
        go_wp2_with fail
        obtain ⟨e0,e1,e2⟩:=(HF.out.set3 (.int .i64 0) (.int .i64 0) (.int .i64 0)).three
        refine bodyPost_ret (v:=.agg #[.int .i64 0,.int .i64 0,.int .i64 0]) (by simp [results,Tryz.results28,go_sem,e0,e1,e2];done) rfl ⟨by rw [HZ.out] <;> rfl,?_⟩
        exact bl_set (bl_set (bl_set HB.out (by dsimp only;omega) _) (by dsimp only;omega) _) (by dsimp only;omega) _
end Go.Proofs.YtpjaefcmaiimlaaGreat

/-
  Layer 10: the document's First and Right.
-/
namespace Go.Proofs.YtpjaefcmaiimlaaGreat
open Go.RowKit

set_option maxHeartbeats 8000000 in
set_option maxRecDepth 100000 in
theorem refFirst10_l (p l i:List Pt) (ap al ai:Option Addr) (cp cl ci:Nat) (w:World) (hA:Pol w ap al ai cp cl ci p l i) :
 Calls Tryz.prog 9 #[.agg #[.slice ap p.length cp,.slice al l.length cl,.slice ai i.length ci]] w (Gives (.tuple #[.agg #[.int .i64 (firstF p l i).k,.int .i64 (firstF p l i).a,.int .i64 (firstF p l i).b],.int .i64 (firstE p l i)]) w):=by
 have HCk:=Lib.hid (fun W h=>refCheck10_l p l i ap al ai cp cl ci W (hA.below h))
 have HPr:=Lib.hid (fun W h hc=>refPairs10_l p l i ap al ai cp cl ci W (hA.below h) hc)
 have HLp:=Lib.hid (fun W h hc h4=>refLoops10_l p l i ap al ai cp cl ci W (hA.below h) hc h4)
 clear hA
 have HE0:Hid (firstE p l i=if checkB p l i=true then 0 else 2):=rfl
 have HF0:Hid (firstF p l i=if checkB p l i=true then flTo p l i 8 else fl0):=rfl
 obtain ⟨ee,hee⟩:∃ e,firstE p l i=e:=⟨_,rfl⟩
 rw [hee] at HCk
 have HEE:=Lib.hid hee
 clear hee
 go_enter Tryz.func9,Tryz.ntmps9
 go_upto_region 1 with (fail)
 have HV:=Lib.hid ((var3_new w (.slice ap p.length cp) (.slice al l.length cl) (.slice ai i.length ci) 25 w.heap.size rfl).below (bl_one _ (.cells #[.int .i64 0,.int .i64 0,.int .i64 0] 30)))
 have HF:=Lib.hid (var3_new (w.alloc (.cells #[.slice ap p.length cp,.slice al l.length cl,.slice ai i.length ci] 25)) (.int .i64 0) (.int .i64 0) (.int .i64 0) 30 (w.heap.size + 1) (by simp))
 have HB:=Lib.hid (bl_alloc (bl_one w (.cells #[.slice ap p.length cp,.slice al l.length cl,.slice ai i.length ci] 25)) (.cells #[.int .i64 0,.int .i64 0,.int .i64 0] 30))
 generalize (w.alloc (.cells #[.slice ap p.length cp,.slice al l.length cl,.slice ai i.length ci] 25)).alloc (.cells #[.int .i64 0,.int .i64 0,.int .i64 0] 30)=W1 at *
 obtain ⟨k0,k1,k2⟩:=HV.out.three
 go_wp2_with fail
 (with_reducible refine (HCk.out _ HB.out).mono ?_);rintro e w2 ⟨rfl,hb2⟩
 replace HB:=Lib.hid (bl_trans HB.out hb2)
 replace HV:=Lib.hid (HV.out.below hb2)
 replace HF:=Lib.hid (HF.out.below hb2)
 clear hb2 HCk k0 k1 k2
 by_cases hck:checkB p l i=true
 case neg=>
  obtain rfl:ee=2:=by rw [← HEE.out,HE0.out,if_neg hck]
  have HE:Hid (firstE p l i=2):=HEE.out
  have HZ:Hid (firstF p l i=⟨0,0,0⟩):=by unfold Hid;rw [HF0.out,if_neg hck];rfl
  clear hck HE0 HF0 HPr HLp
  obtain ⟨d0,d1,d2⟩:=HF.out.three
  obtain ⟨f0,f1,f2⟩:=HF.out.free3
  go_wp2_with fail
  obtain ⟨e0,e1,e2⟩:=(HF.out.set3 (.int .i64 0) (.int .i64 0) (.int .i64 0)).three
  refine bodyPost_ret (v:=.tuple #[.agg #[.int .i64 0,.int .i64 0,.int .i64 0],.int .i64 2]) (by simp [results,Tryz.results9,go_sem,e0,e1,e2];done) rfl ⟨by rw [HZ.out,HE.out] <;> rfl,?_⟩
  exact bl_set (bl_set (bl_set HB.out (by dsimp only;omega) _) (by dsimp only;omega) _) (by dsimp only;omega) _
 case pos=>
 obtain rfl:ee=0:=by rw [← HEE.out,HE0.out,if_pos hck]
 have HE:Hid (firstE p l i=0):=HEE.out
 have HZ:Hid (firstF p l i=flTo p l i 8):=by unfold Hid;rw [HF0.out,if_pos hck]
 have hc:=checkB_iff.1 hck
 have HP2:=Lib.hid (fun W h=>HPr.out W h hc)
 have HL2:=Lib.hid (fun h4 W h=>HLp.out W h hc h4)
 clear hck HE0 HF0 HPr HLp hc
 have HST:Hid ((flTo p l i 4).k ≠ 0 → flTo p l i 8=flTo p l i 4):=fun h=>flTo_stay h 8 (by omega)
 obtain ⟨⟨c,a,b⟩,hf⟩:∃ f,flTo p l i 4=f:=⟨_,rfl⟩
 rw [hf] at HST HP2 HL2
 dsimp only at HP2 HL2 HST
 clear hf
 obtain ⟨k0,k1,k2⟩:=HV.out.three
 go_wp2_with fail
 (with_reducible refine (HP2.out _ HB.out).mono ?_);rintro e w3 ⟨rfl,hb2⟩
 replace HB:=Lib.hid (bl_trans HB.out hb2)
 replace HV:=Lib.hid (HV.out.below hb2)
 replace HF:=Lib.hid (HF.out.below hb2)
 clear hb2 HP2 k0 k1 k2
 go_upto_region 5 with (fail)
 have hF3:=HF.out.lt
 have HG:=Lib.hid (var3_new w3 (.int .i64 c) (.int .i64 a) (.int .i64 b) 30 w3.heap.size rfl)
 replace HB:=Lib.hid (bl_trans HB.out (bl_one w3 (.cells #[.int .i64 c,.int .i64 a,.int .i64 b] 30)))
 replace HV:=Lib.hid (HV.out.below (bl_one w3 (.cells #[.int .i64 c,.int .i64 a,.int .i64 b] 30)))
 replace HF:=Lib.hid (HF.out.below (bl_one w3 (.cells #[.int .i64 c,.int .i64 a,.int .i64 b] 30)))
 generalize hg5:w3.heap.size=g5 at *
 generalize w3.alloc (.cells #[.int .i64 c,.int .i64 a,.int .i64 b] 30)=W4 at *
 obtain ⟨y0,y1,y2⟩:=HG.out.three
 by_cases hz:c=0
 ·have z1:(c=0)=True:=eq_true hz
  have z2:(c == 0)=true:=beq_iff_eq.mpr hz
  have HL3:=Lib.hid (HL2.out hz)
  clear HL2 HST hz
  obtain ⟨⟨c',a',b'⟩,hf⟩:∃ f,flTo p l i 8=f:=⟨_,rfl⟩
  rw [hf] at HZ HL3
  dsimp only at HL3
  clear hf
  obtain ⟨k0,k1,k2⟩:=HV.out.three
  go_wp2_with fail
  (with_reducible refine (HL3.out _ HB.out).mono ?_);rintro e w5 ⟨rfl,hb2⟩
  replace HB:=Lib.hid (bl_trans HB.out hb2)
  replace HF:=Lib.hid (HF.out.below hb2)
  replace HG:=Lib.hid (HG.out.below hb2)
  clear hb2 HL3 k0 k1 k2 y0 y1 y2
  obtain ⟨y0,y1,y2⟩:=HG.out.three
  obtain ⟨x0,x1,x2⟩:=HG.out.free3
  have hgs:=HG.out.lt
  have HG2:=Lib.hid (HG.out.set3 (.int .i64 c') (.int .i64 a') (.int .i64 b'))
  have HF2:=Lib.hid (((HF.out.far (p:=⟨g5,0,none⟩) (by dsimp only;omega) (.int .i64 c')).far (p:=⟨g5,1,none⟩) (by dsimp only;omega) (.int .i64 a')).far (p:=⟨g5,2,none⟩) (by dsimp only;omega) (.int .i64 b'))
  have HB2:=Lib.hid (bl_set (bl_set (bl_set HB.out (p:=⟨g5,0,none⟩) (by dsimp only;omega) (.int .i64 c')) (p:=⟨g5,1,none⟩) (by dsimp only;omega) (.int .i64 a')) (p:=⟨g5,2,none⟩) (by dsimp only;omega) (.int .i64 b'))
  go_upto_region 7 with (fail)
  clear y0 y1 y2 x0 x1 x2 HG HF HB
  generalize ((w5.setCell ⟨g5,0,none⟩ (.int .i64 c')).setCell ⟨g5,1,none⟩ (.int .i64 a')).setCell ⟨g5,2,none⟩ (.int .i64 b')=W6 at *
  obtain ⟨y0,y1,y2⟩:=HG2.out.three
  have HF:=HF2
  have HB:=HB2
  obtain ⟨d0,d1,d2⟩:=HF.out.three
  obtain ⟨f0,f1,f2⟩:=HF.out.free3
  go_wp2_with fail
  obtain ⟨e0,e1,e2⟩:=(HF.out.set3 (.int .i64 c') (.int .i64 a') (.int .i64 b')).three
  refine bodyPost_ret (v:=.tuple #[.agg #[.int .i64 c',.int .i64 a',.int .i64 b'],.int .i64 0]) (by simp [results,Tryz.results9,go_sem,e0,e1,e2];done) rfl ⟨by rw [HZ.out,HE.out] <;> rfl,?_⟩
  exact bl_set (bl_set (bl_set HB.out (by dsimp only;omega) _) (by dsimp only;omega) _) (by dsimp only;omega) _
 ·have z1:(c=0)=False:=eq_false hz
  have z2:(c == 0)=false:=beq_eq_false_iff_ne.mpr hz
  rw [HST.out hz] at HZ
  clear HST HL2 hz
  obtain ⟨d0,d1,d2⟩:=HF.out.three
  obtain ⟨f0,f1,f2⟩:=HF.out.free3
  go_wp2_with fail
  obtain ⟨e0,e1,e2⟩:=(HF.out.set3 (.int .i64 c) (.int .i64 a) (.int .i64 b)).three
  refine bodyPost_ret (v:=.tuple #[.agg #[.int .i64 c,.int .i64 a,.int .i64 b],.int .i64 0]) (by simp [results,Tryz.results9,go_sem,e0,e1,e2];done) rfl ⟨by rw [HZ.out,HE.out] <;> rfl,?_⟩
  exact bl_set (bl_set (bl_set HB.out (by dsimp only;omega) _) (by dsimp only;omega) _) (by dsimp only;omega) _
end Go.Proofs.YtpjaefcmaiimlaaGreat
