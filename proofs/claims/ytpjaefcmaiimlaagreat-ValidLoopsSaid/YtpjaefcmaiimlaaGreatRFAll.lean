/-
  Contract of the document's Degrees; of like.
-/
import Derived.Test.YtpjaefcmaiimlaaGreatRSegsAll
import Derived.Test.YtpjaefcmaiimlaaGreatRAreas
set_option linter.unusedVariables false
set_option linter.unusedSimpArgs false
set_option linter.deprecated false
namespace Go.Proofs.YtpjaefcmaiimlaaGreat
open Go.RowKit

set_option maxHeartbeats 8000000 in
set_option maxRecDepth 100000 in
theorem refDegrees_l (n:Int) (l:List Pt) (ad:Option Addr) (cap:Nat) (w:World) (hP:PtRow w ad l) (hn:n ≤ 10000 ∨ 1048576 < n) (hlen:l.length ≤ 10000) :
  Calls Tryz.prog 60 #[.int .i64 n,.slice ad l.length cap] w (DegP n l w):=by
 obtain ⟨e0,hi0,hz0,hz1,hz2⟩:=info_parts info_int
 have HP0:=Lib.hid hP
 clear hP
 go_enter Tryz.func60,Tryz.ntmps60
 by_cases h0:n < 0
 ·have b0:(n < 0)=True:=eq_true h0
  have hNo:Hid (¬ okL n l):=fun h=>by have:=h.1;omega
  clear hn h0
  go_wp2_with fail
  go_ret2
  exact .inr ⟨hNo.out,rfl,Below.refl _ _⟩
 have b0:(n < 0)=False:=eq_false h0
 by_cases h1:1048576 < n
 ·have b1:(1048576 < n)=True:=eq_true h1
  have hNo:Hid (¬ okL n l):=fun h=>by have:=h.2.1;omega
  clear hn h0 h1
  go_wp2_with fail
  go_ret2
  exact .inr ⟨hNo.out,rfl,Below.refl _ _⟩
 obtain ⟨m,rfl⟩:=Int.eq_ofNat_of_zero_le (by omega:0 ≤ n)
 have b1:(1048576 < (m:Int))=False:=eq_false h1
 have hm:m ≤ 10000:=by omega
 clear hn h0 h1
 go_wp2_with fail
 go_loopw [6] (fun iv W=>∃ k:Nat,k ≤ l.length∧iv=.int .i64 k∧(∀ s ∈ l.take k,okS (m:Int) s)∧Below w.heap.size w W) (fun iv _=>l.length - (intOf iv).toNat)
 case atStart=>exact ⟨0,Nat.zero_le _,rfl,fun s hs=>by simp at hs,Below.refl _ _⟩
 case round=>
  obtain ⟨k,hk,rfl,hS,hB⟩:=hrel
  have HB:=Lib.hid hB
  have HS:=Lib.hid hS
  clear hB hS
  by_cases hlt:k < l.length
  ·have b2:((k:Int) < (l.length:Int))=True:=eq_true (by omega)
   have d2:(k < l.length)=True:=eq_true hlt
   have c2:((0:Int) ≤ (k:Int))=True:=eq_true (by omega)
   obtain ⟨g,o,rfl⟩:=HP0.out.some (by omega)
   obtain ⟨s,hs⟩:∃ s,pget l k=s:=⟨_,rfl⟩
   have HSK:=Lib.hid hs
   obtain ⟨k0,k1⟩:=ptRow_at (HP0.out.below HB.out) hlt hs
   clear hs
   obtain ⟨x,hx⟩:∃ x,s.x=x:=⟨_,rfl⟩
   obtain ⟨y,hy⟩:∃ y,s.y=y:=⟨_,rfl⟩
   rw [hx] at k0
   rw [hy] at k1
   have HOS:Hid (okS (m:Int) s ↔ 0 ≤ x∧0 ≤ y∧x < (m:Int)∧y < (m:Int)∧x ≠ y):=by unfold okS;rw [hx,hy];exact Iff.rfl
   clear hx hy
   have HB2:=Lib.hid (bl_trans HB.out (bl_one wr (.cells #[.int .i64 x,.int .i64 y] 59)))
   go_upto_region 7 with (fail)
   have HV:=Lib.hid (var2_new wr (.int .i64 x) (.int .i64 y) 59 wr.heap.size rfl)
   generalize wr.alloc (.cells #[.int .i64 x,.int .i64 y] 59)=W2 at *
   generalize wr.heap.size=g8 at *
   obtain ⟨v0,v1⟩:=HV.out.two
   clear k0 k1 HB
   have hNo:Hid (¬ okS (m:Int) s → ¬ okL (m:Int) l):=fun h h2=>h (HSK.out ▸ h2.2.2 _ (pget_mem hlt))
   by_cases e1:x=y
   ·have t1:(x=y)=True:=eq_true e1
    have hN:=Lib.hid (hNo.out (fun h=>(HOS.out.1 h).2.2.2.2 e1))
    subst e1
    go_wp2_with fail
    go_ret2
    exact .inr ⟨hN.out,rfl,HB2.out⟩
   have t1:(x=y)=False:=eq_false e1
   have t1b:(x == y)=false:=beq_eq_false_iff_ne.2 e1
   by_cases e2:x < 0
   ·have t2:(x < 0)=True:=eq_true e2
    have hN:=Lib.hid (hNo.out (fun h=>by have:=(HOS.out.1 h).1;omega))
    clear e1 e2
    go_wp2_with fail
    go_ret2
    exact .inr ⟨hN.out,rfl,HB2.out⟩
   have t2:(x < 0)=False:=eq_false e2
   by_cases e3:(m:Int) ≤ x
   ·have t3:((m:Int) ≤ x)=True:=eq_true e3
    have hN:=Lib.hid (hNo.out (fun h=>by have:=(HOS.out.1 h).2.2.1;omega))
    clear e1 e2 e3
    go_wp2_with fail
    go_ret2
    exact .inr ⟨hN.out,rfl,HB2.out⟩
   have t3:((m:Int) ≤ x)=False:=eq_false e3
   by_cases e4:y < 0
   ·have t4:(y < 0)=True:=eq_true e4
    have hN:=Lib.hid (hNo.out (fun h=>by have:=(HOS.out.1 h).2.1;omega))
    clear e1 e2 e3 e4
    go_wp2_with fail
    go_ret2
    exact .inr ⟨hN.out,rfl,HB2.out⟩
   have t4:(y < 0)=False:=eq_false e4
   by_cases e5:(m:Int) ≤ y
   ·have t5:((m:Int) ≤ y)=True:=eq_true e5
    have hN:=Lib.hid (hNo.out (fun h=>by have:=(HOS.out.1 h).2.2.2.1;omega))
    clear e1 e2 e3 e4 e5
    go_wp2_with fail
    go_ret2
    exact .inr ⟨hN.out,rfl,HB2.out⟩
   have t5:((m:Int) ≤ y)=False:=eq_false e5
   have hY:=Lib.hid (HOS.out.2 ⟨by omega,by omega,by omega,by omega,e1⟩)
   clear e1 e2 e3 e4 e5
   obtain ⟨m1,m2,m3,m4⟩:=wnum (i:=k) (by omega)
   go_wp2_with fail
   clear m1 m2 m3 m4
   refine ⟨⟨k + 1,hlt,by rw [Int.natCast_add];rfl,fun t ht=>?_,HB2.out⟩,by simp [intOf];omega⟩
   rw [take_snoc l hlt,HSK.out] at ht
   rcases List.mem_append.1 ht with h | h
   ·exact HS.out t h
   ·simp at h
    rw [h]
    exact hY.out
  ·obtain rfl:k=l.length:=by omega
   have b2:((l.length:Int) < (l.length:Int))=False:=eq_false (by omega)
   have hOk:Hid (okL (m:Int) l):=⟨by omega,by omega,by have:=HS.out;rwa [List.take_length] at this⟩
   clear HS
   go_wp2_with (at_make;refine wpList_make_full _ rfl _ _ 43 rfl wr.heap.size 3 e0 (.int .i64 0) 1 Tryz.underlying43 hi0 hz0 hz1 _ _ _ _ m rfl rfl rfl rfl ?b2 ?b3 (by simp) ?_)
   case b2=>rw [hz2];omega
   case b3=>unfold maxLen;omega
   intro w0 hown0 hgrow0
   have HO0:=Lib.hid (oi_made rfl hown0 hgrow0)
   clear hown0 hgrow0 b0 b1 b2
   obtain ⟨g3,hg3⟩:∃ g,wr.heap.size=g:=⟨_,rfl⟩
   rw [hg3] at HO0 ⊢
   clear hg3
   obtain ⟨W9,hW9⟩:∃ W9,W9=wr:=⟨_,rfl⟩
   subst hW9
   go_wp2_with fail
   go_loopw [9] (fun iv W=>∃ k:Nat,k ≤ l.length∧iv=.int .i64 k∧Oi W9 (.slice (some ⟨g3,0,none⟩) m m) (degs m (l.take k)) W) (fun iv _=>l.length - (intOf iv).toNat)
   case atStart=>exact ⟨0,Nat.zero_le _,rfl,by rw [List.take_zero,degs_nil];exact HO0.out⟩
   case round=>
    obtain ⟨k,hk,rfl,hO⟩:=hrel
    clear HO0
    have HO1:=Lib.hid hO
    clear hO
    by_cases hlt:k < l.length
    ·have b2:((k:Int) < (l.length:Int))=True:=eq_true (by omega)
     have d2:(k < l.length)=True:=eq_true hlt
     have c2:((0:Int) ≤ (k:Int))=True:=eq_true (by omega)
     obtain ⟨g,o,rfl⟩:=HP0.out.some (by omega)
     obtain ⟨s,hs⟩:∃ s,pget l k=s:=⟨_,rfl⟩
     have HSK:=Lib.hid hs
     have HPW:=Lib.hid (HP0.out.below HB.out)
     obtain ⟨k0,k1⟩:=ptRow_at (HPW.out.below HO1.out.hb) hlt hs
     have hok:=hOk.out.2.2 _ (pget_mem hlt)
     rw [hs] at hok
     clear hs
     unfold okS at hok
     obtain ⟨a,ha⟩:=Int.eq_ofNat_of_zero_le hok.1
     obtain ⟨b,hb⟩:=Int.eq_ofNat_of_zero_le hok.2.1
     have hA:=Lib.hid ha
     have hB:=Lib.hid hb
     rw [ha] at k0
     rw [hb] at k1
     have hab:a ≠ b:=by omega
     have ham:a < m:=by omega
     have hbm:b < m:=by omega
     clear hok ha hb
     have hdl:(degs m (l.take k)).length=m:=degs_len _ _
     have f1:=HO1.out.frozen hdl.symm a
     have k2:=HO1.out.cell hdl.symm (j:=a) (by omega)
     rw [degs_at] at k2
     have hd1:=deg_le (l.take k) (a:Int)
     have hd2:=deg_le (l.take k) (b:Int)
     rw [List.length_take] at hd1 hd2
     obtain ⟨e1,he1⟩:∃ e,deg (l.take k) (a:Int)=e:=⟨_,rfl⟩
     obtain ⟨e2,he2⟩:∃ e,deg (l.take k) (b:Int)=e:=⟨_,rfl⟩
     rw [he1] at k2 hd1
     rw [he2] at hd2
     have d3:(a < m)=True:=eq_true ham
     have d4:(b < m)=True:=eq_true hbm
     have c3:((0:Int) ≤ (a:Int))=True:=eq_true (by omega)
     have c4:((a:Int) < (m:Int))=True:=eq_true (by omega)
     have c5:((0:Int) ≤ (b:Int))=True:=eq_true (by omega)
     have c6:((b:Int) < (m:Int))=True:=eq_true (by omega)
     have HO2:=Lib.hid (HO1.out.store hdl.symm a ((e1:Int) + 1))
     have HST:Hid (((degs m (l.take k)).set a ((e1:Int) + 1)).set b ((e2:Int) + 1)=degs m (l.take (k + 1))):=by
      rw [take_snoc l hlt,← he1,← he2,HSK.out]
      exact degs_snoc hA.out hB.out hab ham hbm
     have HGE:Hid (∀ h:b < ((degs m (l.take k)).set a ((e1:Int) + 1)).length,((degs m (l.take k)).set a ((e1:Int) + 1))[b]=(e2:Int)):=by
      intro h
      rw [List.getElem_set_ne (by omega),degs_at,he2]
     have hs2:((degs m (l.take k)).set a ((e1:Int) + 1)).length=m:=by rw [List.length_set,hdl]
     generalize (degs m (l.take k)).set a ((e1:Int) + 1)=D2 at *
     clear hdl he1 he2
     obtain ⟨n1,n2,n3,n4⟩:=wnum (i:=e1) (by omega)
     go_upto_region 14 with (fail)
     clear n1 n2 n3 n4 f1 k2 k0 k1
     generalize wr.setCell ⟨g3,a,none⟩ (.int .i64 ((e1:Int) + 1))=W3 at *
     clear HO1
     obtain ⟨k0,k1⟩:=ptRow_at (HPW.out.below HO2.out.hb) hlt HSK.out
     rw [hB.out] at k1
     clear k0
     have f1:=HO2.out.frozen hs2.symm b
     have k2:=HO2.out.cell hs2.symm (j:=b) (by omega)
     rw [HGE.out (by omega)] at k2
     have HO3:=Lib.hid (HO2.out.store hs2.symm b ((e2:Int) + 1))
     rw [HST.out] at HO3
     clear HST HGE hs2 HO2
     obtain ⟨n1,n2,n3,n4⟩:=wnum (i:=e2) (by omega)
     obtain ⟨m1,m2,m3,m4⟩:=wnum (i:=k) (by omega)
     go_wp2_with fail
     clear n1 n2 n3 n4 m1 m2 m3 m4
     exact ⟨⟨k + 1,hlt,by rw [Int.natCast_add];rfl,HO3.out⟩,by simp [intOf];omega⟩
    ·obtain rfl:k=l.length:=by omega
     have b2:((l.length:Int) < (l.length:Int))=False:=eq_false (by omega)
     rw [List.take_length] at HO1
     go_wp2_with fail
     go_ret2
     refine .inl ⟨hOk.out,_,rfl,?_⟩
     rw [Int.toNat_natCast]
     exact HO1.out.base HB.out
end Go.Proofs.YtpjaefcmaiimlaaGreat

/-
  Contracts of the document's like, beside.
-/
namespace Go.Proofs.YtpjaefcmaiimlaaGreat
open Go.RowKit

set_option maxHeartbeats 8000000 in
set_option maxRecDepth 100000 in
theorem like_l (a b c d:Int) (w:World):Calls Tryz.prog 61 #[.agg #[.int .i64 a,.int .i64 b],.agg #[.int .i64 c,.int .i64 d]] w (Gives (.bool (decide (norm ⟨a,b⟩=norm ⟨c,d⟩))) w):=by
 obtain ⟨r,hr⟩:∃ r,decide (norm ⟨a,b⟩=norm ⟨c,d⟩)=r:=⟨_,rfl⟩
 have HR:Hid (r=(decide (a=c∧b=d) || decide (a=d∧b=c))):=by
  rw [← hr,← Bool.decide_or]
  exact decide_eq_decide.2 norm_eq
 rw [hr]
 clear hr
 go_enter Tryz.func61,Tryz.ntmps61
 go_upto_region 1 with (fail)
 have HV:=Lib.hid ((var2_new w (.int .i64 a) (.int .i64 b) 59 w.heap.size rfl).below (bl_one _ (.cells #[.int .i64 c,.int .i64 d] 59)))
 have HV2:=Lib.hid (var2_new (w.alloc (.cells #[.int .i64 a,.int .i64 b] 59)) (.int .i64 c) (.int .i64 d) 59 (w.heap.size + 1) (by simp))
 have HB:=Lib.hid (bl_alloc (bl_one w (.cells #[.int .i64 a,.int .i64 b] 59)) (.cells #[.int .i64 c,.int .i64 d] 59))
 generalize (w.alloc (.cells #[.int .i64 a,.int .i64 b] 59)).alloc (.cells #[.int .i64 c,.int .i64 d] 59)=W2 at *
 obtain ⟨v0,v1⟩:=HV.out.two
 obtain ⟨v2,v3⟩:=HV2.out.two
 have E:∀ x y:Int,x ≠ y → ((x=y)=False)∧((x == y)=false):=fun x y h=>⟨eq_false h,beq_eq_false_iff_ne.2 h⟩
 have HE:=Lib.hid E
 clear E
 by_cases h1:a=c
 ·subst h1
  by_cases h2:b=d
  ·subst h2
   have HT:Hid (r=true):=by rw [HR.out];simp [Hid]
   have z1:(a == a)=true:=by simp
   have z2:(b == b)=true:=by simp
   go_wp2_with fail
   go_ret
   exact ⟨by rw [HT.out];rfl,HB.out⟩
  ·obtain ⟨z1,z2⟩:=HE.out b d h2
   by_cases h3:a=d
   ·subst h3
    have HT:Hid (r=decide (b=a)):=by rw [HR.out];simp [Hid,h2]
    have z3:(a == a)=true:=by simp
    clear h2
    go_wp2_with fail
    go_ret
    refine ⟨?_,HB.out⟩
    rw [HT.out]
    simp [z1]
   ·obtain ⟨z3,z4⟩:=HE.out a d h3
    have HT:Hid (r=false):=by rw [HR.out];simp [Hid,h2,h3]
    have z5:(a == a)=true:=by simp
    clear h2 h3
    go_wp2_with fail
    go_ret
    exact ⟨by rw [HT.out];rfl,HB.out⟩
 ·obtain ⟨z1,z2⟩:=HE.out a c h1
  by_cases h3:a=d
  ·subst h3
   have HT:Hid (r=decide (b=c)):=by rw [HR.out];simp [Hid,h1]
   have z3:(a == a)=true:=by simp
   clear h1
   by_cases h4:b=c
   ·subst h4
    have z6:(b == b)=true:=by simp
    go_wp2_with fail
    go_ret
    exact ⟨by rw [HT.out];simp,HB.out⟩
   ·obtain ⟨z6,z7⟩:=HE.out b c h4
    go_wp2_with fail
    go_ret
    exact ⟨by rw [HT.out];simp [h4],HB.out⟩
  ·obtain ⟨z3,z4⟩:=HE.out a d h3
   have HT:Hid (r=false):=by rw [HR.out];simp [Hid,h1,h3]
   clear h1 h3
   go_wp2_with fail
   go_ret
   exact ⟨by rw [HT.out];rfl,HB.out⟩

/-- the least of N that is not in R; -1: there is none -/
def BS (N R:List Int) (z:Int):Prop:=(z = -1∧∀ q ∈ N,q ∈ R) ∨ (z ∈ N∧z ∉ R∧∀ q ∈ N,q ∉ R → z ≤ q)
def candS (s:Pt) (p:Int):Int:=if s.y=p then s.x else if s.x=p then s.y else -1
def candR (k:Int) (R:List Int):Int:=if R.contains k then -1 else k
def stepB (best k:Int):Int:=if 0 ≤ k∧(best < 0 ∨ k < best) then k else best
theorem bs_nil (R:List Int):BS [] R (-1):=.inl ⟨rfl,fun q h=>absurd h (by simp)⟩
theorem bs_one {N R:List Int} {z q:Int} (h:BS N R z) (hN:∀ x ∈ N,0 ≤ x) (hq:0 ≤ q):BS (N ++ [q]) R (stepB z (candR q R)):=by
 by_cases hR:q ∈ R
 ·have e:candR q R = -1:=by unfold candR;rw [if_pos (by simpa using hR)]
  rw [e]
  unfold stepB
  rw [if_neg (by omega)]
  clear e
  rcases h with ⟨e,k⟩ | ⟨k1,k2,k3⟩
  ·refine .inl ⟨e,fun x hx=>?_⟩
   rcases List.mem_append.1 hx with h1 | h1
   ·exact k x h1
   ·simp at h1;rw [h1];exact hR
  ·refine .inr ⟨List.mem_append_left _ k1,k2,fun x hx hxr=>?_⟩
   rcases List.mem_append.1 hx with h1 | h1
   ·exact k3 x h1 hxr
   ·simp at h1;rw [h1] at hxr;exact absurd hR hxr
 ·have e:candR q R=q:=by unfold candR;rw [if_neg (by simpa using hR)]
  rw [e]
  unfold stepB
  clear e
  rcases h with ⟨e,k⟩ | ⟨k1,k2,k3⟩
  ·rw [if_pos ⟨hq,.inl (by omega)⟩]
   refine .inr ⟨by simp,hR,fun x hx hxr=>?_⟩
   rcases List.mem_append.1 hx with h1 | h1
   ·exact absurd (k x h1) hxr
   ·simp at h1;omega
  ·have hz:=hN z k1
   by_cases hlt:q < z
   ·rw [if_pos ⟨hq,.inr hlt⟩]
    refine .inr ⟨by simp,hR,fun x hx hxr=>?_⟩
    rcases List.mem_append.1 hx with h1 | h1
    ·have:=k3 x h1 hxr;omega
    ·simp at h1;omega
   ·rw [if_neg (by omega)]
    refine .inr ⟨List.mem_append_left _ k1,k2,fun x hx hxr=>?_⟩
    rcases List.mem_append.1 hx with h1 | h1
    ·exact k3 x h1 hxr
    ·simp at h1;omega
theorem candR_neg (R:List Int):candR (-1) R = -1:=by unfold candR;split <;> rfl
theorem bs_step {N R:List Int} {z n p:Int} {s:Pt} (h:BS N R z) (hN:∀ x ∈ N,0 ≤ x) (hs:okS n s):BS (N ++ nb1 s p) R (stepB z (candR (candS s p) R)):=by
 unfold okS at hs
 unfold candS nb1
 by_cases h1:s.y=p
 ·rw [if_pos h1,if_pos h1,if_neg (by omega),List.nil_append]
  exact bs_one h hN hs.1
 ·rw [if_neg h1,if_neg h1]
  by_cases h2:s.x=p
  ·rw [if_pos h2,if_pos h2,List.append_nil]
   exact bs_one h hN hs.2.1
  ·rw [if_neg h2,if_neg h2,candR_neg,List.append_nil,List.append_nil]
   unfold stepB
   rw [if_neg (by omega)]
   exact h
theorem bs_way {n:Nat} {l:List Pt} (G:Good n l) {f:Int} {R:List Int} {b p c z:Int} (h:Way (pr l) (n:Int) f R b p c) (hp:b=f → p=min (pr l f).x (pr l f).y) (hz:BS (nbs l b) R z):z=if p=f then -1 else p:=by
 obtain ⟨b0,b1,b2⟩:=h.inn b h.hb
 have hm:=fun q=>G.mem (q:=q) b0 b1 b2
 have hpn:=G.net b b0 b1 b2 p h.hp
 by_cases hbf:b=f
 ·have hR:=h.one hbf
  subst hbf
  have hp:=hp rfl
  have hpb:p ≠ b:=hpn.2.2.1
  rw [if_neg hpb]
  have hx:=(G.net b b0 b1 b2 (pr l b).x (.inl rfl)).2.2.1
  have hy:=(G.net b b0 b1 b2 (pr l b).y (.inr rfl)).2.2.1
  rcases hz with ⟨e,k⟩ | ⟨k1,k2,k3⟩
  ·have:=k _ ((hm _).2 (.inl rfl))
   rw [hR] at this
   simp at this
   exact absurd this hx
  ·have h1:=(hm z).1 k1
   have h2:=k3 _ ((hm _).2 (.inl rfl)) (by rw [hR];simpa using hx)
   have h3:=k3 _ ((hm _).2 (.inr rfl)) (by rw [hR];simpa using hy)
   omega
 ·obtain ⟨c1,c2,c3⟩:=h.two hbf
  have hpp:=h.hp
  by_cases hpf:p=f
  ·rw [if_pos hpf]
   rcases hz with ⟨e,k⟩ | ⟨k1,k2,k3⟩
   ·exact e
   ·have h1:=(hm z).1 k1
    have h2:z=c ∨ z=p:=by omega
    rcases h2 with e | e
    ·rw [e] at k2;exact absurd c1 k2
    ·rw [e,hpf] at k2;exact absurd h.hf k2
  ·rw [if_neg hpf]
   have hfr:=h.fresh G.net hpf
   rcases hz with ⟨e,k⟩ | ⟨k1,k2,k3⟩
   ·exact absurd (k p ((hm p).2 hpp)) hfr
   ·have h1:=(hm z).1 k1
    have h2:z=c ∨ z=p:=by omega
    rcases h2 with e | e
    ·rw [e] at k2;exact absurd c1 k2
    ·exact e
end Go.Proofs.YtpjaefcmaiimlaaGreat

/-
  Contract of the document's beside.
-/
namespace Go.Proofs.YtpjaefcmaiimlaaGreat
open Go.RowKit

theorem candR_take {k:Int} {R:List Int} {j:Nat} (h:j < R.length):candR k (R.take (j + 1))=if R[j]=candR k (R.take j) then -1 else candR k (R.take j):=by
 have hm:k ∈ R.take (j + 1) ↔ k ∈ R.take j ∨ k=R[j]:=by rw [List.take_succ_eq_append_getElem h,List.mem_append,List.mem_singleton]
 have yes:∀ L:List Int,k ∈ L → candR k L = -1:=fun L hL=>by unfold candR;rw [if_pos (by simpa using hL)]
 have no:∀ L:List Int,k ∉ L → candR k L=k:=fun L hL=>by unfold candR;rw [if_neg (by simpa using hL)]
 by_cases h1:k ∈ R.take j
 ·rw [yes _ (hm.2 (.inl h1)),yes _ h1]
  split <;> rfl
 ·rw [no _ h1]
  by_cases h2:k=R[j]
  ·rw [yes _ (hm.2 (.inr h2)),if_pos h2.symm]
  ·rw [no _ (fun h=>(hm.1 h).elim h1 h2),if_neg (fun e=>h2 e.symm)]
set_option maxHeartbeats 8000000 in
set_option maxRecDepth 100000 in
theorem beside_l (l:List Pt) (ad:Option Addr) (cap:Nat) (p:Int) (R:List Int) (ar:Option Addr) (cr:Nat) (w:World) (hP:PtRow w ad l) (hR:IntRow w ar R) (hlen:l.length ≤ 10000) (hrl:R.length ≤ 10000) (n:Int) (hok:∀ s ∈ l,okS n s) :
  Calls Tryz.prog 62 #[.slice ad l.length cap,.int .i64 p,.slice ar R.length cr] w fun e w'=>∃ z,e=.returned (.int .i64 z)∧BS (nbs l p) R z∧Below w.heap.size w w':=by
 have HP:=Lib.hid hP
 have HR:=Lib.hid hR
 have HOK:=Lib.hid hok
 clear hP hR hok
 go_enter Tryz.func62,Tryz.ntmps62
 go_wp2_with fail
 go_loopw [7,8] (fun zv iv W=>∃ (i:Nat) (z:Int),i ≤ l.length∧iv=.int .i64 i∧zv=.int .i64 z∧BS (nbs (l.take i) p) R z∧Below w.heap.size w W) (fun _ iv _=>l.length - (intOf iv).toNat)
 case atStart=>exact ⟨0,-1,Nat.zero_le _,rfl,rfl,by rw [List.take_zero];exact bs_nil R,Below.refl _ _⟩
 case round=>
  obtain ⟨i,z,hi,rfl,rfl,hz,hB⟩:=hrel
  have HZ:=Lib.hid hz
  have HB:=Lib.hid hB
  clear hz hB
  by_cases hlt:i < l.length
  ·have b2:((i:Int) < (l.length:Int))=True:=eq_true (by omega)
   have d2:(i < l.length)=True:=eq_true hlt
   have c2:((0:Int) ≤ (i:Int))=True:=eq_true (by omega)
   obtain ⟨g,o,rfl⟩:=HP.out.some (by omega)
   obtain ⟨s,hs⟩:∃ s,pget l i=s:=⟨_,rfl⟩
   obtain ⟨k0,k1⟩:=ptRow_at (HP.out.below HB.out) hlt hs
   have hos:=HOK.out s (by rw [← hs];exact pget_mem hlt)
   have HST:Hid (BS (nbs (l.take (i + 1)) p) R (stepB z (candR (candS s p) R))):=by
    rw [take_snoc l hlt,hs,nbs_snoc]
    refine bs_step (n:=n) HZ.out (fun x hx=>?_) hos
    obtain ⟨t,ht,hk⟩:=mem_nbs.1 hx
    have:=HOK.out t (List.mem_of_mem_take ht)
    unfold okS at this
    omega
   clear hs
   unfold okS at hos
   obtain ⟨sx,hsx⟩:∃ x,s.x=x:=⟨_,rfl⟩
   obtain ⟨sy,hsy⟩:∃ x,s.y=x:=⟨_,rfl⟩
   have hxy:sx ≠ sy:=by rw [← hsx,← hsy];exact hos.2.2.2.2
   unfold candS at HST
   rw [hsx,hsy] at HST
   rw [hsx] at k0
   rw [hsy] at k1
   clear hsx hsy hos
   by_cases hyp:sy=p
   ·subst hyp
    have u1:(sx=sy)=False:=eq_false hxy
    have u2:(sx == sy)=false:=beq_eq_false_iff_ne.2 hxy
    have u3:(sy == sy)=true:=by simp
    rw [if_pos rfl] at HST
    clear hxy
    obtain ⟨W0,eW⟩:∃ W0,W0=wr:=⟨_,rfl⟩
    subst eW
    go_wp2_with fail
    clear k0 k1
    go_loopw [9,10] (fun kv jv W=>∃ j:Nat,j ≤ R.length∧jv=.int .i64 j∧kv=.int .i64 (candR (sx) (R.take j))∧Below w.heap.size w W) (fun _ jv _=>R.length - (intOf jv).toNat)
    case atStart=>exact ⟨0,Nat.zero_le _,rfl,rfl,HB.out⟩
    case round=>
     obtain ⟨j,hj,rfl,rfl,hB2⟩:=hrel
     have HB2:=Lib.hid hB2
     clear hB2
     by_cases hjl:j < R.length
     ·have q1:((j:Int) < (R.length:Int))=True:=eq_true (by omega)
      have q2:(j < R.length)=True:=eq_true hjl
      have q3:((0:Int) ≤ (j:Int))=True:=eq_true (by omega)
      obtain ⟨g5,o5,rfl⟩:=HR.out.some (by omega)
      obtain ⟨x,hx⟩:∃ x,R[j]=x:=⟨_,rfl⟩
      have k5:=intRow_at (HR.out.below HB2.out) hjl hx
      have HCT:=Lib.hid (candR_take (k:=sx) hjl)
      rw [hx] at HCT
      clear hx
      generalize candR (sx) (R.take j)=c0 at *
      obtain ⟨m1,m2,m3,m4⟩:=wnum (i:=j) (by omega)
      by_cases hxc:x=c0
      ·have t1:(x=c0)=True:=eq_true hxc
       have t2:(x == c0)=true:=beq_iff_eq.2 hxc
       rw [if_pos hxc] at HCT
       clear hxc
       go_wp2_with fail
       clear m1 m2 m3 m4
       exact ⟨⟨j + 1,hjl,by rw [Int.natCast_add];rfl,by rw [HCT.out],HB2.out⟩,by simp [intOf];omega⟩
      ·have t1:(x=c0)=False:=eq_false hxc
       have t2:(x == c0)=false:=beq_eq_false_iff_ne.2 hxc
       rw [if_neg hxc] at HCT
       clear hxc
       go_wp2_with fail
       clear m1 m2 m3 m4
       exact ⟨⟨j + 1,hjl,by rw [Int.natCast_add];rfl,by rw [HCT.out],HB2.out⟩,by simp [intOf];omega⟩
     ·obtain rfl:j=R.length:=by omega
      have q1:((R.length:Int) < (R.length:Int))=False:=eq_false (by omega)
      rw [List.take_length]
      generalize candR (sx) R=c0 at *
      obtain ⟨m1,m2,m3,m4⟩:=wnum (i:=i) (by omega)
      by_cases hs1:0 ≤ c0
      ·have t1:(0 ≤ c0)=True:=eq_true hs1
       by_cases hs2:z < 0
       ·have t2:(z < 0)=True:=eq_true hs2
        have e9:stepB z c0=c0:=by unfold stepB;rw [if_pos ⟨hs1,.inl hs2⟩]
        rw [e9] at HST
        clear hs1 hs2 e9
        go_wp2_with fail
        clear m1 m2 m3 m4
        exact ⟨⟨i + 1,c0,hlt,by rw [Int.natCast_add];rfl,rfl,HST.out,HB2.out⟩,by simp [intOf];omega⟩
       ·have t2:(z < 0)=False:=eq_false hs2
        by_cases hs3:c0 < z
        ·have t3:(c0 < z)=True:=eq_true hs3
         have e9:stepB z c0=c0:=by unfold stepB;rw [if_pos ⟨hs1,.inr hs3⟩]
         rw [e9] at HST
         clear hs1 hs2 hs3 e9
         go_wp2_with fail
         clear m1 m2 m3 m4
         exact ⟨⟨i + 1,c0,hlt,by rw [Int.natCast_add];rfl,rfl,HST.out,HB2.out⟩,by simp [intOf];omega⟩
        ·have t3:(c0 < z)=False:=eq_false hs3
         have e9:stepB z c0=z:=by unfold stepB;rw [if_neg (by omega)]
         rw [e9] at HST
         clear hs1 hs2 hs3 e9
         go_wp2_with fail
         clear m1 m2 m3 m4
         exact ⟨⟨i + 1,z,hlt,by rw [Int.natCast_add];rfl,rfl,HST.out,HB2.out⟩,by simp [intOf];omega⟩
      ·have t1:(0 ≤ c0)=False:=eq_false hs1
       have e9:stepB z c0=z:=by unfold stepB;rw [if_neg (by omega)]
       rw [e9] at HST
       clear hs1 e9
       go_wp2_with fail
       clear m1 m2 m3 m4
       exact ⟨⟨i + 1,z,hlt,by rw [Int.natCast_add];rfl,rfl,HST.out,HB2.out⟩,by simp [intOf];omega⟩
   ·have u1:(sy=p)=False:=eq_false hyp
    have u2:(sy == p)=false:=beq_eq_false_iff_ne.2 hyp
    rw [if_neg hyp] at HST
    clear hxy hyp
    by_cases hxp:sx=p
    ·subst hxp
     have u3:(sx == sx)=true:=by simp
     rw [if_pos rfl] at HST
     obtain ⟨W0,eW⟩:∃ W0,W0=wr:=⟨_,rfl⟩
     subst eW
     go_wp2_with fail
     clear k0 k1
     go_loopw [9,10] (fun kv jv W=>∃ j:Nat,j ≤ R.length∧jv=.int .i64 j∧kv=.int .i64 (candR (sy) (R.take j))∧Below w.heap.size w W) (fun _ jv _=>R.length - (intOf jv).toNat)
     case atStart=>exact ⟨0,Nat.zero_le _,rfl,rfl,HB.out⟩
     case round=>
      obtain ⟨j,hj,rfl,rfl,hB2⟩:=hrel
      have HB2:=Lib.hid hB2
      clear hB2
      by_cases hjl:j < R.length
      ·have q1:((j:Int) < (R.length:Int))=True:=eq_true (by omega)
       have q2:(j < R.length)=True:=eq_true hjl
       have q3:((0:Int) ≤ (j:Int))=True:=eq_true (by omega)
       obtain ⟨g5,o5,rfl⟩:=HR.out.some (by omega)
       obtain ⟨x,hx⟩:∃ x,R[j]=x:=⟨_,rfl⟩
       have k5:=intRow_at (HR.out.below HB2.out) hjl hx
       have HCT:=Lib.hid (candR_take (k:=sy) hjl)
       rw [hx] at HCT
       clear hx
       generalize candR (sy) (R.take j)=c0 at *
       obtain ⟨m1,m2,m3,m4⟩:=wnum (i:=j) (by omega)
       by_cases hxc:x=c0
       ·have t1:(x=c0)=True:=eq_true hxc
        have t2:(x == c0)=true:=beq_iff_eq.2 hxc
        rw [if_pos hxc] at HCT
        clear hxc
        go_wp2_with fail
        clear m1 m2 m3 m4
        exact ⟨⟨j + 1,hjl,by rw [Int.natCast_add];rfl,by rw [HCT.out],HB2.out⟩,by simp [intOf];omega⟩
       ·have t1:(x=c0)=False:=eq_false hxc
        have t2:(x == c0)=false:=beq_eq_false_iff_ne.2 hxc
        rw [if_neg hxc] at HCT
        clear hxc
        go_wp2_with fail
        clear m1 m2 m3 m4
        exact ⟨⟨j + 1,hjl,by rw [Int.natCast_add];rfl,by rw [HCT.out],HB2.out⟩,by simp [intOf];omega⟩
      ·obtain rfl:j=R.length:=by omega
       have q1:((R.length:Int) < (R.length:Int))=False:=eq_false (by omega)
       rw [List.take_length]
       generalize candR (sy) R=c0 at *
       obtain ⟨m1,m2,m3,m4⟩:=wnum (i:=i) (by omega)
       by_cases hs1:0 ≤ c0
       ·have t1:(0 ≤ c0)=True:=eq_true hs1
        by_cases hs2:z < 0
        ·have t2:(z < 0)=True:=eq_true hs2
         have e9:stepB z c0=c0:=by unfold stepB;rw [if_pos ⟨hs1,.inl hs2⟩]
         rw [e9] at HST
         clear hs1 hs2 e9
         go_wp2_with fail
         clear m1 m2 m3 m4
         exact ⟨⟨i + 1,c0,hlt,by rw [Int.natCast_add];rfl,rfl,HST.out,HB2.out⟩,by simp [intOf];omega⟩
        ·have t2:(z < 0)=False:=eq_false hs2
         by_cases hs3:c0 < z
         ·have t3:(c0 < z)=True:=eq_true hs3
          have e9:stepB z c0=c0:=by unfold stepB;rw [if_pos ⟨hs1,.inr hs3⟩]
          rw [e9] at HST
          clear hs1 hs2 hs3 e9
          go_wp2_with fail
          clear m1 m2 m3 m4
          exact ⟨⟨i + 1,c0,hlt,by rw [Int.natCast_add];rfl,rfl,HST.out,HB2.out⟩,by simp [intOf];omega⟩
         ·have t3:(c0 < z)=False:=eq_false hs3
          have e9:stepB z c0=z:=by unfold stepB;rw [if_neg (by omega)]
          rw [e9] at HST
          clear hs1 hs2 hs3 e9
          go_wp2_with fail
          clear m1 m2 m3 m4
          exact ⟨⟨i + 1,z,hlt,by rw [Int.natCast_add];rfl,rfl,HST.out,HB2.out⟩,by simp [intOf];omega⟩
       ·have t1:(0 ≤ c0)=False:=eq_false hs1
        have e9:stepB z c0=z:=by unfold stepB;rw [if_neg (by omega)]
        rw [e9] at HST
        clear hs1 e9
        go_wp2_with fail
        clear m1 m2 m3 m4
        exact ⟨⟨i + 1,z,hlt,by rw [Int.natCast_add];rfl,rfl,HST.out,HB2.out⟩,by simp [intOf];omega⟩
    ·have u3:(sx=p)=False:=eq_false hxp
     have u4:(sx == p)=false:=beq_eq_false_iff_ne.2 hxp
     rw [if_neg hxp] at HST
     clear hxp
     obtain ⟨W0,eW⟩:∃ W0,W0=wr:=⟨_,rfl⟩
     subst eW
     go_wp2_with fail
     clear k0 k1
     go_loopw [9,10] (fun kv jv W=>∃ j:Nat,j ≤ R.length∧jv=.int .i64 j∧kv=.int .i64 (candR (-1) (R.take j))∧Below w.heap.size w W) (fun _ jv _=>R.length - (intOf jv).toNat)
     case atStart=>exact ⟨0,Nat.zero_le _,rfl,rfl,HB.out⟩
     case round=>
      obtain ⟨j,hj,rfl,rfl,hB2⟩:=hrel
      have HB2:=Lib.hid hB2
      clear hB2
      by_cases hjl:j < R.length
      ·have q1:((j:Int) < (R.length:Int))=True:=eq_true (by omega)
       have q2:(j < R.length)=True:=eq_true hjl
       have q3:((0:Int) ≤ (j:Int))=True:=eq_true (by omega)
       obtain ⟨g5,o5,rfl⟩:=HR.out.some (by omega)
       obtain ⟨x,hx⟩:∃ x,R[j]=x:=⟨_,rfl⟩
       have k5:=intRow_at (HR.out.below HB2.out) hjl hx
       have HCT:=Lib.hid (candR_take (k:=-1) hjl)
       rw [hx] at HCT
       clear hx
       generalize candR (-1) (R.take j)=c0 at *
       obtain ⟨m1,m2,m3,m4⟩:=wnum (i:=j) (by omega)
       by_cases hxc:x=c0
       ·have t1:(x=c0)=True:=eq_true hxc
        have t2:(x == c0)=true:=beq_iff_eq.2 hxc
        rw [if_pos hxc] at HCT
        clear hxc
        go_wp2_with fail
        clear m1 m2 m3 m4
        exact ⟨⟨j + 1,hjl,by rw [Int.natCast_add];rfl,by rw [HCT.out],HB2.out⟩,by simp [intOf];omega⟩
       ·have t1:(x=c0)=False:=eq_false hxc
        have t2:(x == c0)=false:=beq_eq_false_iff_ne.2 hxc
        rw [if_neg hxc] at HCT
        clear hxc
        go_wp2_with fail
        clear m1 m2 m3 m4
        exact ⟨⟨j + 1,hjl,by rw [Int.natCast_add];rfl,by rw [HCT.out],HB2.out⟩,by simp [intOf];omega⟩
      ·obtain rfl:j=R.length:=by omega
       have q1:((R.length:Int) < (R.length:Int))=False:=eq_false (by omega)
       rw [List.take_length]
       generalize candR (-1) R=c0 at *
       obtain ⟨m1,m2,m3,m4⟩:=wnum (i:=i) (by omega)
       by_cases hs1:0 ≤ c0
       ·have t1:(0 ≤ c0)=True:=eq_true hs1
        by_cases hs2:z < 0
        ·have t2:(z < 0)=True:=eq_true hs2
         have e9:stepB z c0=c0:=by unfold stepB;rw [if_pos ⟨hs1,.inl hs2⟩]
         rw [e9] at HST
         clear hs1 hs2 e9
         go_wp2_with fail
         clear m1 m2 m3 m4
         exact ⟨⟨i + 1,c0,hlt,by rw [Int.natCast_add];rfl,rfl,HST.out,HB2.out⟩,by simp [intOf];omega⟩
        ·have t2:(z < 0)=False:=eq_false hs2
         by_cases hs3:c0 < z
         ·have t3:(c0 < z)=True:=eq_true hs3
          have e9:stepB z c0=c0:=by unfold stepB;rw [if_pos ⟨hs1,.inr hs3⟩]
          rw [e9] at HST
          clear hs1 hs2 hs3 e9
          go_wp2_with fail
          clear m1 m2 m3 m4
          exact ⟨⟨i + 1,c0,hlt,by rw [Int.natCast_add];rfl,rfl,HST.out,HB2.out⟩,by simp [intOf];omega⟩
         ·have t3:(c0 < z)=False:=eq_false hs3
          have e9:stepB z c0=z:=by unfold stepB;rw [if_neg (by omega)]
          rw [e9] at HST
          clear hs1 hs2 hs3 e9
          go_wp2_with fail
          clear m1 m2 m3 m4
          exact ⟨⟨i + 1,z,hlt,by rw [Int.natCast_add];rfl,rfl,HST.out,HB2.out⟩,by simp [intOf];omega⟩
       ·have t1:(0 ≤ c0)=False:=eq_false hs1
        have e9:stepB z c0=z:=by unfold stepB;rw [if_neg (by omega)]
        rw [e9] at HST
        clear hs1 e9
        go_wp2_with fail
        clear m1 m2 m3 m4
        exact ⟨⟨i + 1,z,hlt,by rw [Int.natCast_add];rfl,rfl,HST.out,HB2.out⟩,by simp [intOf];omega⟩
  ·obtain rfl:i=l.length:=by omega
   have b2:((l.length:Int) < (l.length:Int))=False:=eq_false (by omega)
   rw [List.take_length] at HZ
   go_wp2_with fail
   go_ret
   exact ⟨z,rfl,HZ.out,HB.out⟩
end Go.Proofs.YtpjaefcmaiimlaaGreat
