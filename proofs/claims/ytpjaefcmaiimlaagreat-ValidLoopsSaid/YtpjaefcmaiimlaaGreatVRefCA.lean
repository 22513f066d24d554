/-
  Layer 10: the document's Check and All.
-/
import Derived.Test.YtpjaefcmaiimlaaGreatVMems
set_option linter.unusedVariables false
set_option linter.unusedSimpArgs false
set_option linter.deprecated false
namespace Go.Proofs.YtpjaefcmaiimlaaGreat
open Go.RowKit

set_option maxHeartbeats 8000000 in
set_option maxRecDepth 100000 in
theorem refCheck10_l (p l i:List Pt) (ap al ai:Option Addr) (cp cl ci:Nat) (w:World) (hA:Pol w ap al ai cp cl ci p l i) :
 Calls Tryz.prog 26 #[.agg #[.slice ap p.length cp,.slice al l.length cl,.slice ai i.length ci]] w (Gives (.int .i64 (firstE p l i)) w):=by
 have HPP:=Lib.hid hA.pp
 have HLL:=Lib.hid hA.ll
 have HII:=Lib.hid hA.ii
 have hlp:=hA.lenP
 have hll:=hA.lenL
 have hli:=hA.lenI
 clear hA
 have HNo:Hid (¬ ChkOk p l i → firstE p l i=2):=fun h=>by
  unfold firstE
  rw [if_neg (fun e=>h (checkB_iff.1 e))]
 have HYes:Hid (ChkOk p l i → firstE p l i=0):=fun h=>by
  unfold firstE
  rw [if_pos (checkB_iff.2 h)]
 generalize firstE p l i=r at *
 go_enter Tryz.func26,Tryz.ntmps26
 go_upto_region 1 with (fail)
 have HV:=Lib.hid (var3_new w (.slice ap p.length cp) (.slice al l.length cl) (.slice ai i.length ci) 25 w.heap.size rfl)
 have HB:=Lib.hid (bl_one w (.cells #[.slice ap p.length cp,.slice al l.length cl,.slice ai i.length ci] 25))
 generalize w.alloc (.cells #[.slice ap p.length cp,.slice al l.length cl,.slice ai i.length ci] 25)=W1 at *
 obtain ⟨k0,k1,k2⟩:=HV.out.three
 by_cases h1:200 < p.length
 ·have a1:((200:Int) < (p.length:Int))=True:=eq_true (by omega)
  have a2:(200 < p.length)=True:=eq_true h1
  have HZ:=Lib.hid (HNo.out (fun h=>by have:=h.n;omega))
  clear h1
  go_wp2_with fail
  go_ret
  exact ⟨by rw [HZ.out];rfl,HB.out⟩
 have A1:((200:Int) < (p.length:Int))=False:=eq_false (by omega)
 have B1:(200 < p.length)=False:=eq_false h1
 by_cases h2:400 < l.length
 ·have a1:((400:Int) < (l.length:Int))=True:=eq_true (by omega)
  have a2:(400 < l.length)=True:=eq_true h2
  have HZ:=Lib.hid (HNo.out (fun h=>by have:=h.nl;omega))
  clear h2
  go_wp2_with fail
  go_ret
  exact ⟨by rw [HZ.out];rfl,HB.out⟩
 have A2:((400:Int) < (l.length:Int))=False:=eq_false (by omega)
 have B2:(400 < l.length)=False:=eq_false h2
 by_cases h3:400 < i.length
 ·have a1:((400:Int) < (i.length:Int))=True:=eq_true (by omega)
  have a2:(400 < i.length)=True:=eq_true h3
  have HZ:=Lib.hid (HNo.out (fun h=>by have:=h.ni;omega))
  clear h3
  go_wp2_with fail
  go_ret
  exact ⟨by rw [HZ.out];rfl,HB.out⟩
 have A3:((400:Int) < (i.length:Int))=False:=eq_false (by omega)
 have B3:(400 < i.length)=False:=eq_false h3
 go_wp2_with fail
 clear k0 k1 k2 A1 A2 A3 B1 B2 B3
 go_loopw [4] (fun iv W=>∃ k:Nat,k ≤ p.length∧iv=.int .i64 k∧(∀ j,j < k → placeB (pget p j)=true)∧Below W1.heap.size W1 W) (fun iv _=>p.length - (intOf iv).toNat)
 case atStart=>exact ⟨0,Nat.zero_le _,rfl,fun j h=>absurd h (Nat.not_lt_zero _),Below.refl _ _⟩
 case round=>
  obtain ⟨k,hk,rfl,hS,hB1⟩:=hrel
  have HS:=Lib.hid hS
  have HB1:=Lib.hid hB1
  have HBx:=Lib.hid (bl_trans HB.out hB1)
  clear hS hB1
  obtain ⟨k0,k1,k2⟩:=(HV.out.below HB1.out).three
  by_cases hlt:k < p.length
  ·have b2:((k:Int) < (p.length:Int))=True:=eq_true (by omega)
   have d2:(k < p.length)=True:=eq_true hlt
   have c2:((0:Int) ≤ (k:Int))=True:=eq_true (by omega)
   obtain ⟨gp,op,rfl⟩:=HPP.out.some (by omega)
   obtain ⟨⟨x,y⟩,hq⟩:∃ q,pget p k=q:=⟨_,rfl⟩
   obtain ⟨c0,c1⟩:=ptRow_at (HPP.out.below HBx.out) hlt hq
   dsimp only at c0 c1
   have HPl:Hid (placeB (pget p k)=true ↔ (-1048576 ≤ x∧x ≤ 1048576 ∧ -1048576 ≤ y∧y ≤ 1048576)):=by unfold Hid;rw [hq];exact place_iff
   clear hq
   by_cases h1:1048576 < x
   ·have a1:(1048576 < x)=True:=eq_true h1
    have HZ:=Lib.hid (HNo.out (fun h=>by have:=HPl.out.1 (h.pl k hlt);omega))
    clear h1
    go_wp2_with fail
    go_ret
    exact ⟨by rw [HZ.out];rfl,HBx.out⟩
   have a1:(1048576 < x)=False:=eq_false h1
   by_cases h2:x < -1048576
   ·have a2:(x < -1048576)=True:=eq_true h2
    have HZ:=Lib.hid (HNo.out (fun h=>by have:=HPl.out.1 (h.pl k hlt);omega))
    clear h2
    go_wp2_with fail
    go_ret
    exact ⟨by rw [HZ.out];rfl,HBx.out⟩
   have a2:(x < -1048576)=False:=eq_false h2
   by_cases h3:1048576 < y
   ·have a3:(1048576 < y)=True:=eq_true h3
    have HZ:=Lib.hid (HNo.out (fun h=>by have:=HPl.out.1 (h.pl k hlt);omega))
    clear h3
    go_wp2_with fail
    go_ret
    exact ⟨by rw [HZ.out];rfl,HBx.out⟩
   have a3:(1048576 < y)=False:=eq_false h3
   by_cases h4:y < -1048576
   ·have a4:(y < -1048576)=True:=eq_true h4
    have HZ:=Lib.hid (HNo.out (fun h=>by have:=HPl.out.1 (h.pl k hlt);omega))
    clear h4
    go_wp2_with fail
    go_ret
    exact ⟨by rw [HZ.out];rfl,HBx.out⟩
   have a4:(y < -1048576)=False:=eq_false h4
   obtain ⟨m1,m2,m3,m4⟩:=wnum (i:=k) (by omega)
   have HPk:=Lib.hid (HPl.out.2 (by omega))
   clear h1 h2 h3 h4
   go_wp2_with fail
   clear m1 m2 m3 m4
   refine ⟨⟨k + 1,hlt,by rw [Int.natCast_add];rfl,fun j hj=>?_,HB1.out⟩,by simp [intOf];omega⟩
   rcases Nat.lt_or_eq_of_le (Nat.le_of_lt_succ hj) with h | rfl
   ·exact HS.out j h
   ·exact HPk.out
  ·obtain rfl:k=p.length:=by omega
   have b2:((p.length:Int) < (p.length:Int))=False:=eq_false (by omega)
   go_wp2_with fail
   clear k0 k1 k2 b2 hlt
   obtain ⟨n,hn⟩:∃ n,l.length=n:=⟨_,rfl⟩
   obtain ⟨m,hm⟩:∃ m,i.length=m:=⟨_,rfl⟩
   obtain ⟨s,hs⟩:∃ s:Nat,s=n + m:=⟨_,rfl⟩
   have HN:=Lib.hid hn
   have HM:=Lib.hid hm
   have HSm:=Lib.hid hs
   rw [hn] at HV hll ⊢
   rw [hm] at HV hli ⊢
   have ws:wrap64 ((n:Int) + (m:Int))=(s:Int):=by rw [hs,Int.natCast_add];unfold wrap64;omega
   have ws':IntKind.i64.wrap ((n:Int) + (m:Int))=(s:Int):=by rw [hs,Int.natCast_add];exact IntWalk.i64_in _ (by omega)
   have hs2:s ≤ 20000:=by omega
   have HWs:=Lib.hid ws
   have HWs':=Lib.hid ws'
   clear hn hm hs ws ws'
   go_loopw [5] (fun iv W=>∃ k:Nat,k ≤ s∧iv=.int .i64 k∧(∀ j,j < k → sgInB p.length (pget (l ++ i) j)=true)∧Below W1.heap.size W1 W) (fun iv _=>s - (intOf iv).toNat)
   case atStart=>exact ⟨0,Nat.zero_le _,rfl,fun j h=>absurd h (Nat.not_lt_zero _),HB1.out⟩
   case round=>
    obtain ⟨k,hk,rfl,hG,hB2⟩:=hrel
    have HG:=Lib.hid hG
    have HB2:=Lib.hid hB2
    have HBy:=Lib.hid (bl_trans HB.out hB2)
    clear hG hB2
    obtain ⟨k0,k1,k2⟩:=(HV.out.below HB2.out).three
    obtain ⟨w1,w2⟩:=(⟨HWs.out,HWs'.out⟩:_∧_)
    by_cases hks:k < s
    ·have b2:((k:Int) < (s:Int))=True:=eq_true (by omega)
     have hkS:k < (l ++ i).length:=by have:=HN.out;have:=HM.out;have:=HSm.out;rw [List.length_append];omega
     obtain ⟨⟨x,y⟩,hq⟩:∃ q,pget (l ++ i) k=q:=⟨_,rfl⟩
     have HIn:Hid (sgInB p.length (pget (l ++ i) k)=true ↔ (0 ≤ x∧x < (p.length:Int)∧0 ≤ y∧y < (p.length:Int))):=by unfold Hid;rw [hq];exact sgInB_iff
     have HNk:Hid (sgInB p.length (pget (l ++ i) k)=false → r=2):=fun h=>HNo.out (fun hc=>by rw [chk_seg hc hkS] at h;cases h)
     have HQ:=Lib.hid hq
     clear hq
     go_upto_region 13 with (fail)
     have HVz:=Lib.hid (var2_new wr (.int .i64 0) (.int .i64 0) 59 wr.heap.size rfl)
     have HBz:=Lib.hid (bl_trans HBy.out (bl_one wr (.cells #[.int .i64 0,.int .i64 0] 59)))
     clear k0 k1 k2
     obtain ⟨k0,k1,k2⟩:=((HV.out.below HB2.out).below (bl_one wr (.cells #[.int .i64 0,.int .i64 0] 59))).three
     have HB2z:=Lib.hid (bl_trans HB2.out (bl_one wr (.cells #[.int .i64 0,.int .i64 0] 59)))
     obtain ⟨W2,eW2⟩:∃ W,wr.alloc (.cells #[.int .i64 0,.int .i64 0] 59)=W:=⟨_,rfl⟩
     rw [eW2] at HVz HBz HB2z k0 k1 k2 ⊢
     obtain ⟨z0,z1⟩:=HVz.out.two
     obtain ⟨zf0,zf1⟩:=HVz.out.free2
     by_cases hkn:k < n
     ·have b3:((k:Int) < (n:Int))=True:=eq_true (by omega)
      have b4:(k < n)=True:=eq_true hkn
      have b5:((0:Int) ≤ (k:Int))=True:=eq_true (by omega)
      obtain ⟨gl,ol,rfl⟩:=HLL.out.some (by have:=HN.out;omega)
      obtain ⟨c0,c1⟩:=ptRow_at (HLL.out.below HBz.out) (i:=k) (by have:=HN.out;omega) (t:=⟨x,y⟩) (by have:=HQ.out;rwa [pget_left (by have:=HN.out;omega)] at this)
      dsimp only at c0 c1
      have HB3:=Lib.hid (bl_set (bl_set HB2z.out (p:=⟨wr.heap.size,0,none⟩) HB2.out.size (.int .i64 x)) (p:=⟨wr.heap.size,1,none⟩) HB2.out.size (.int .i64 y))
      have HV3:=Lib.hid (HVz.out.set2 (.int .i64 x) (.int .i64 y))
      go_upto_region 16 with (fail)
      clear k0 k1 k2 z0 z1 zf0 zf1 c0 c1
      have HB:=Lib.hid (bl_trans HB.out HB3.out)
      generalize (W2.setCell ⟨wr.heap.size,0,none⟩ (.int .i64 x)).setCell ⟨wr.heap.size,1,none⟩ (.int .i64 y)=W3 at *
      obtain ⟨s0,s1⟩:=HV3.out.two
      clear b3
      by_cases h1:x < 0
      ·have a1:(x < 0)=True:=eq_true h1
       have HZ:=Lib.hid (HNk.out (by rw [Bool.eq_false_iff];intro e;have:=HIn.out.1 e;omega))
       clear h1
       go_wp2_with fail
       go_ret
       exact ⟨by rw [HZ.out];rfl,HB.out⟩
      have a1:(x < 0)=False:=eq_false h1
      by_cases h2:(p.length:Int) ≤ x
      ·have a2:((p.length:Int) ≤ x)=True:=eq_true h2
       have HZ:=Lib.hid (HNk.out (by rw [Bool.eq_false_iff];intro e;have:=HIn.out.1 e;omega))
       clear h2
       go_wp2_with fail
       go_ret
       exact ⟨by rw [HZ.out];rfl,HB.out⟩
      have a2:((p.length:Int) ≤ x)=False:=eq_false h2
      by_cases h3:y < 0
      ·have a3:(y < 0)=True:=eq_true h3
       have HZ:=Lib.hid (HNk.out (by rw [Bool.eq_false_iff];intro e;have:=HIn.out.1 e;omega))
       clear h3
       go_wp2_with fail
       go_ret
       exact ⟨by rw [HZ.out];rfl,HB.out⟩
      have a3:(y < 0)=False:=eq_false h3
      by_cases h4:(p.length:Int) ≤ y
      ·have a4:((p.length:Int) ≤ y)=True:=eq_true h4
       have HZ:=Lib.hid (HNk.out (by rw [Bool.eq_false_iff];intro e;have:=HIn.out.1 e;omega))
       clear h4
       go_wp2_with fail
       go_ret
       exact ⟨by rw [HZ.out];rfl,HB.out⟩
      have a4:((p.length:Int) ≤ y)=False:=eq_false h4
      have HPk:=Lib.hid (HIn.out.2 (by omega))
      clear h1 h2 h3 h4
      obtain ⟨m1,m2,m3,m4⟩:=wnum (i:=k) (by omega)
      go_wp2_with fail
      clear m1 m2 m3 m4
      refine ⟨⟨k + 1,hks,by rw [Int.natCast_add];rfl,fun j hj=>?_,HB3.out⟩,by simp [intOf];omega⟩
      rcases Nat.lt_or_eq_of_le (Nat.le_of_lt_succ hj) with h | rfl
      ·exact HG.out j h
      ·exact HPk.out
     ·have b3:((k:Int) < (n:Int))=False:=eq_false (by omega)
      have b4:(k < n)=False:=eq_false hkn
      obtain ⟨tt,ht⟩:∃ t,k=n + t:=⟨k - n,by omega⟩
      have htm:tt < m:=by have:=HSm.out;omega
      have w3:wrap64 ((k:Int) - (n:Int))=(tt:Int):=by rw [ht,Int.natCast_add];unfold wrap64;omega
      have w4:IntKind.i64.wrap ((k:Int) - (n:Int))=(tt:Int):=by rw [ht,Int.natCast_add,show (n:Int) + (tt:Int) - (n:Int)=(tt:Int) by omega];exact IntWalk.i64_in _ (by omega)
      have b5:((tt:Int) < (m:Int))=True:=eq_true (by omega)
      have b6:(tt < m)=True:=eq_true htm
      have b7:((0:Int) ≤ (tt:Int))=True:=eq_true (by omega)
      obtain ⟨gl,ol,rfl⟩:=HII.out.some (by have:=HM.out;omega)
      obtain ⟨c0,c1⟩:=ptRow_at (HII.out.below HBz.out) (i:=tt) (by have:=HM.out;omega) (t:=⟨x,y⟩) (by have:=HQ.out;rwa [pget_right (by have:=HN.out;omega),show k - l.length=tt by have:=HN.out;omega] at this)
      dsimp only at c0 c1
      have HTk:=Lib.hid ht
      clear ht
      have HB3:=Lib.hid (bl_set (bl_set HB2z.out (p:=⟨wr.heap.size,0,none⟩) HB2.out.size (.int .i64 x)) (p:=⟨wr.heap.size,1,none⟩) HB2.out.size (.int .i64 y))
      have HV3:=Lib.hid (HVz.out.set2 (.int .i64 x) (.int .i64 y))
      go_upto_region 16 with (fail)
      clear k0 k1 k2 z0 z1 zf0 zf1 c0 c1
      have HB:=Lib.hid (bl_trans HB.out HB3.out)
      generalize (W2.setCell ⟨wr.heap.size,0,none⟩ (.int .i64 x)).setCell ⟨wr.heap.size,1,none⟩ (.int .i64 y)=W3 at *
      obtain ⟨s0,s1⟩:=HV3.out.two
      clear b3 w3 w4
      by_cases h1:x < 0
      ·have a1:(x < 0)=True:=eq_true h1
       have HZ:=Lib.hid (HNk.out (by rw [Bool.eq_false_iff];intro e;have:=HIn.out.1 e;omega))
       clear h1
       go_wp2_with fail
       go_ret
       exact ⟨by rw [HZ.out];rfl,HB.out⟩
      have a1:(x < 0)=False:=eq_false h1
      by_cases h2:(p.length:Int) ≤ x
      ·have a2:((p.length:Int) ≤ x)=True:=eq_true h2
       have HZ:=Lib.hid (HNk.out (by rw [Bool.eq_false_iff];intro e;have:=HIn.out.1 e;omega))
       clear h2
       go_wp2_with fail
       go_ret
       exact ⟨by rw [HZ.out];rfl,HB.out⟩
      have a2:((p.length:Int) ≤ x)=False:=eq_false h2
      by_cases h3:y < 0
      ·have a3:(y < 0)=True:=eq_true h3
       have HZ:=Lib.hid (HNk.out (by rw [Bool.eq_false_iff];intro e;have:=HIn.out.1 e;omega))
       clear h3
       go_wp2_with fail
       go_ret
       exact ⟨by rw [HZ.out];rfl,HB.out⟩
      have a3:(y < 0)=False:=eq_false h3
      by_cases h4:(p.length:Int) ≤ y
      ·have a4:((p.length:Int) ≤ y)=True:=eq_true h4
       have HZ:=Lib.hid (HNk.out (by rw [Bool.eq_false_iff];intro e;have:=HIn.out.1 e;omega))
       clear h4
       go_wp2_with fail
       go_ret
       exact ⟨by rw [HZ.out];rfl,HB.out⟩
      have a4:((p.length:Int) ≤ y)=False:=eq_false h4
      have HPk:=Lib.hid (HIn.out.2 (by omega))
      clear h1 h2 h3 h4
      obtain ⟨m1,m2,m3,m4⟩:=wnum (i:=k) (by omega)
      go_wp2_with fail
      clear m1 m2 m3 m4
      refine ⟨⟨k + 1,hks,by rw [Int.natCast_add];rfl,fun j hj=>?_,HB3.out⟩,by simp [intOf];omega⟩
      rcases Nat.lt_or_eq_of_le (Nat.le_of_lt_succ hj) with h | rfl
      ·exact HG.out j h
      ·exact HPk.out
    ·obtain rfl:k=s:=by omega
     have b2:((k:Int) < (k:Int))=False:=eq_false (by omega)
     have HZ:=Lib.hid (HYes.out ⟨by omega,by have:=HN.out;omega,by have:=HM.out;omega,HS.out,fun j hj=>by
      have:=HG.out j (by have:=HSm.out;have:=HN.out;omega)
      rwa [pget_left hj] at this,fun j hj=>by
      have:=HG.out (l.length + j) (by have:=HSm.out;have:=HN.out;have:=HM.out;omega)
      rwa [pget_right (by omega),Nat.add_sub_cancel_left] at this⟩)
     go_wp2_with fail
     go_ret
     exact ⟨by rw [HZ.out];rfl,HBy.out⟩
end Go.Proofs.YtpjaefcmaiimlaaGreat

/-
  Layer 10: the document's All.
-/
namespace Go.Proofs.YtpjaefcmaiimlaaGreat
open Go.RowKit

set_option maxHeartbeats 8000000 in
set_option maxRecDepth 100000 in
theorem refAll10_l (p l i S:List Pt) (hS:l ++ i=S) (ap al ai:Option Addr) (cp cl ci:Nat) (w:World) (hA:Pol w ap al ai cp cl ci p l i) :
 Calls Tryz.prog 40 #[.agg #[.slice ap p.length cp,.slice al l.length cl,.slice ai i.length ci]] w fun e W=>∃ ad cap,e=.returned (.slice ad S.length cap)∧PtRow W ad S∧Below w.heap.size w W:=by
 have HLL:=Lib.hid hA.ll
 have HII:=Lib.hid hA.ii
 have HNL:=Lib.hid hA.nilL
 have HNI:=Lib.hid hA.nilI
 have hll:=hA.lenL
 have hli:=hA.lenI
 have HS:=Lib.hid hS
 clear hA hS
 obtain ⟨n,hn⟩:∃ n,l.length=n:=⟨_,rfl⟩
 obtain ⟨m,hm⟩:∃ m,i.length=m:=⟨_,rfl⟩
 have HN:=Lib.hid hn
 have HM:=Lib.hid hm
 rw [hn] at hll ⊢
 rw [hm] at hli ⊢
 clear hn hm
 go_enter Tryz.func40,Tryz.ntmps40
 go_upto_region 1 with (fail)
 have HV:=Lib.hid (var3_new w (.slice ap p.length cp) (.slice al n cl) (.slice ai m ci) 25 w.heap.size rfl)
 have HB:=Lib.hid (bl_one w (.cells #[.slice ap p.length cp,.slice al n cl,.slice ai m ci] 25))
 generalize w.alloc (.cells #[.slice ap p.length cp,.slice al n cl,.slice ai m ci] 25)=W1 at *
 obtain ⟨k0,k1,k2⟩:=HV.out.three
 have HO0:Hid (Op 59 W1 (.slice none 0 0) [] W1):=op_nil _ _
 go_wp2_with (at_builtin;refine app_pts rfl Tryz.underlying23 info_eseg10 _ _ rfl rfl HO0.out rfl (L:=l) HN.out.symm (HLL.out.below HB.out) HNL.out ?z1 ?_)
 case z1=>have:=HN.out;show 0 + l.length ≤ 1000000;omega
 intro v W2 hO
 have HO:=Lib.hid hO
 replace HV:=Lib.hid (HV.out.below hO.hb)
 clear hO k0 k1 k2 HO0
 obtain ⟨k0,k1,k2⟩:=HV.out.three
 go_wp2_with (at_builtin;refine app_pts rfl Tryz.underlying23 info_eseg10 _ _ rfl rfl HO.out rfl (L:=i) HM.out.symm (HII.out.below (bl_trans HB.out HO.out.hb)) HNI.out ?z2 ?_)
 case z2=>have:=HN.out;have:=HM.out;show l.length + i.length ≤ 1000000;omega
 intro v2 W3 hO2
 have h3:Op 59 W1 v2 S W3:=by
  have:=hO2
  rwa [show (l ++ i)=S from HS.out] at this
 obtain ⟨ad,cap,ev,-,hrow,-⟩:=h3.slice
 subst ev
 have HBz:=Lib.hid (bl_trans HB.out h3.hb)
 have HR:=Lib.hid hrow
 clear hO2 h3 hrow HO k0 k1 k2
 go_wp2_with fail
 go_ret
 exact ⟨ad,cap,rfl,HR.out,HBz.out⟩
end Go.Proofs.YtpjaefcmaiimlaaGreat
