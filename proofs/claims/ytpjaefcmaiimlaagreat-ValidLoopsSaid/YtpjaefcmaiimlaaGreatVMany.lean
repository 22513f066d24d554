/-
  Layer 10: the law's many.
-/
import Derived.Test.YtpjaefcmaiimlaaGreatVMems
set_option linter.unusedVariables false
set_option linter.unusedSimpArgs false
set_option linter.deprecated false
namespace Go.Proofs.YtpjaefcmaiimlaaGreat
open Go.RowKit

def many10 (n m k:Nat):Bool:=(decide (60 < n) && decide (n ≤ 200)) || (decide (80 < m) && decide (m ≤ 400)) || (decide (80 < k) && decide (k ≤ 400)) || decide (300 < n) || decide (500 < m) || decide (500 < k)
theorem many_no {n m k:Nat} (h:many10 n m k=false):n ≤ 300∧m ≤ 500∧k ≤ 500:=by
 unfold many10 at h
 simp only [Bool.or_eq_false_iff,decide_eq_false_iff_not] at h
 omega
set_option maxHeartbeats 8000000 in
set_option maxRecDepth 100000 in
theorem many10_l (n m k:Nat) (ap al ai:Option Addr) (cp cl ci:Nat) (w:World):Calls Tryz.prog 5 #[.agg #[.slice ap n cp,.slice al m cl,.slice ai k ci]] w (Gives (.bool (many10 n m k)) w):=by
 obtain ⟨r,hr⟩:∃ r,many10 n m k=r:=⟨_,rfl⟩
 have HR:=Lib.hid hr
 rw [hr]
 clear hr
 go_enter Tryz.func5,Tryz.ntmps5
 go_upto_region 1 with (fail)
 have HV:=Lib.hid (var3_new w (.slice ap n cp) (.slice al m cl) (.slice ai k ci) 25 w.heap.size rfl)
 have HB:=Lib.hid (bl_one w (.cells #[.slice ap n cp,.slice al m cl,.slice ai k ci] 25))
 generalize w.alloc (.cells #[.slice ap n cp,.slice al m cl,.slice ai k ci] 25)=W1 at *
 obtain ⟨k0,k1,k2⟩:=HV.out.three
 unfold many10 at HR
 by_cases h1:(60 < n)
 ·have a1:((60:Int) < (n:Int))=True:=eq_true (by omega)
  have t1:decide (60 < n)=true:=decide_eq_true h1
  have s1:(60 < n)=True:=eq_true h1
  by_cases h2:(n ≤ 200)
  ·have a2:((n:Int) ≤ 200)=True:=eq_true (by omega)
   have t2:decide (n ≤ 200)=true:=decide_eq_true h2
   have s2:(n ≤ 200)=True:=eq_true h2
   have HZ:Hid (r=true):=by
    unfold Hid;rw [← HR.out];simp only [t1,t2];simp
   clear HR
   go_wp2_with fail
   go_ret
   exact ⟨by rw [HZ.out];rfl,HB.out⟩
  ·have a2:((n:Int) ≤ 200)=False:=eq_false (by omega)
   have t2:decide (n ≤ 200)=false:=decide_eq_false h2
   have s2:(n ≤ 200)=False:=eq_false h2
   by_cases h3:(80 < m)
   ·have a3:((80:Int) < (m:Int))=True:=eq_true (by omega)
    have t3:decide (80 < m)=true:=decide_eq_true h3
    have s3:(80 < m)=True:=eq_true h3
    by_cases h4:(m ≤ 400)
    ·have a4:((m:Int) ≤ 400)=True:=eq_true (by omega)
     have t4:decide (m ≤ 400)=true:=decide_eq_true h4
     have s4:(m ≤ 400)=True:=eq_true h4
     have HZ:Hid (r=true):=by
      unfold Hid;rw [← HR.out];simp only [t1,t2,t3,t4];simp
     clear HR
     go_wp2_with fail
     go_ret
     exact ⟨by rw [HZ.out];rfl,HB.out⟩
    ·have a4:((m:Int) ≤ 400)=False:=eq_false (by omega)
     have t4:decide (m ≤ 400)=false:=decide_eq_false h4
     have s4:(m ≤ 400)=False:=eq_false h4
     by_cases h5:(80 < k)
     ·have a5:((80:Int) < (k:Int))=True:=eq_true (by omega)
      have t5:decide (80 < k)=true:=decide_eq_true h5
      have s5:(80 < k)=True:=eq_true h5
      by_cases h6:(k ≤ 400)
      ·have a6:((k:Int) ≤ 400)=True:=eq_true (by omega)
       have t6:decide (k ≤ 400)=true:=decide_eq_true h6
       have s6:(k ≤ 400)=True:=eq_true h6
       have HZ:Hid (r=true):=by
        unfold Hid;rw [← HR.out];simp only [t1,t2,t3,t4,t5,t6];simp
       clear HR
       go_wp2_with fail
       go_ret
       exact ⟨by rw [HZ.out];rfl,HB.out⟩
      ·have a6:((k:Int) ≤ 400)=False:=eq_false (by omega)
       have t6:decide (k ≤ 400)=false:=decide_eq_false h6
       have s6:(k ≤ 400)=False:=eq_false h6
       by_cases h7:(300 < n)
       ·have a7:((300:Int) < (n:Int))=True:=eq_true (by omega)
        have t7:decide (300 < n)=true:=decide_eq_true h7
        have s7:(300 < n)=True:=eq_true h7
        have HZ:Hid (r=true):=by
         unfold Hid;rw [← HR.out];simp only [t1,t2,t3,t4,t5,t6,t7];simp
        clear HR
        go_wp2_with fail
        go_ret
        exact ⟨by rw [HZ.out];rfl,HB.out⟩
       ·have a7:((300:Int) < (n:Int))=False:=eq_false (by omega)
        have t7:decide (300 < n)=false:=decide_eq_false h7
        have s7:(300 < n)=False:=eq_false h7
        by_cases h8:(500 < m)
        ·have a8:((500:Int) < (m:Int))=True:=eq_true (by omega)
         have t8:decide (500 < m)=true:=decide_eq_true h8
         have s8:(500 < m)=True:=eq_true h8
         have HZ:Hid (r=true):=by
          unfold Hid;rw [← HR.out];simp only [t1,t2,t3,t4,t5,t6,t7,t8];simp
         clear HR
         go_wp2_with fail
         go_ret
         exact ⟨by rw [HZ.out];rfl,HB.out⟩
        ·have a8:((500:Int) < (m:Int))=False:=eq_false (by omega)
         have t8:decide (500 < m)=false:=decide_eq_false h8
         have s8:(500 < m)=False:=eq_false h8
         by_cases h9:(500 < k)
         ·have a9:((500:Int) < (k:Int))=True:=eq_true (by omega)
          have t9:decide (500 < k)=true:=decide_eq_true h9
          have s9:(500 < k)=True:=eq_true h9
          have HZ:Hid (r=true):=by
           unfold Hid;rw [← HR.out];simp only [t1,t2,t3,t4,t5,t6,t7,t8,t9];simp
          clear HR
          go_wp2_with fail
          go_ret
          exact ⟨by rw [HZ.out];rfl,HB.out⟩
         ·have a9:((500:Int) < (k:Int))=False:=eq_false (by omega)
          have t9:decide (500 < k)=false:=decide_eq_false h9
          have s9:(500 < k)=False:=eq_false h9
          have HZ:Hid (r=false):=by
           unfold Hid;rw [← HR.out];simp only [t1,t2,t3,t4,t5,t6,t7,t8,t9];simp
          clear HR
          go_wp2_with fail
          go_ret
          exact ⟨by rw [HZ.out];rfl,HB.out⟩
     ·have a5:((80:Int) < (k:Int))=False:=eq_false (by omega)
      have t5:decide (80 < k)=false:=decide_eq_false h5
      have s5:(80 < k)=False:=eq_false h5
      by_cases h10:(300 < n)
      ·have a10:((300:Int) < (n:Int))=True:=eq_true (by omega)
       have t10:decide (300 < n)=true:=decide_eq_true h10
       have s10:(300 < n)=True:=eq_true h10
       have HZ:Hid (r=true):=by
        unfold Hid;rw [← HR.out];simp only [t1,t2,t3,t4,t5,t10];simp
       clear HR
       go_wp2_with fail
       go_ret
       exact ⟨by rw [HZ.out];rfl,HB.out⟩
      ·have a10:((300:Int) < (n:Int))=False:=eq_false (by omega)
       have t10:decide (300 < n)=false:=decide_eq_false h10
       have s10:(300 < n)=False:=eq_false h10
       by_cases h11:(500 < m)
       ·have a11:((500:Int) < (m:Int))=True:=eq_true (by omega)
        have t11:decide (500 < m)=true:=decide_eq_true h11
        have s11:(500 < m)=True:=eq_true h11
        have HZ:Hid (r=true):=by
         unfold Hid;rw [← HR.out];simp only [t1,t2,t3,t4,t5,t10,t11];simp
        clear HR
        go_wp2_with fail
        go_ret
        exact ⟨by rw [HZ.out];rfl,HB.out⟩
       ·have a11:((500:Int) < (m:Int))=False:=eq_false (by omega)
        have t11:decide (500 < m)=false:=decide_eq_false h11
        have s11:(500 < m)=False:=eq_false h11
        by_cases h12:(500 < k)
        ·exfalso;omega
        ·have a12:((500:Int) < (k:Int))=False:=eq_false (by omega)
         have t12:decide (500 < k)=false:=decide_eq_false h12
         have s12:(500 < k)=False:=eq_false h12
         have HZ:Hid (r=false):=by
          unfold Hid;rw [← HR.out];simp only [t1,t2,t3,t4,t5,t10,t11,t12];simp
         clear HR
         go_wp2_with fail
         go_ret
         exact ⟨by rw [HZ.out];rfl,HB.out⟩
   ·have a3:((80:Int) < (m:Int))=False:=eq_false (by omega)
    have t3:decide (80 < m)=false:=decide_eq_false h3
    have s3:(80 < m)=False:=eq_false h3
    by_cases h13:(80 < k)
    ·have a13:((80:Int) < (k:Int))=True:=eq_true (by omega)
     have t13:decide (80 < k)=true:=decide_eq_true h13
     have s13:(80 < k)=True:=eq_true h13
     by_cases h14:(k ≤ 400)
     ·have a14:((k:Int) ≤ 400)=True:=eq_true (by omega)
      have t14:decide (k ≤ 400)=true:=decide_eq_true h14
      have s14:(k ≤ 400)=True:=eq_true h14
      have HZ:Hid (r=true):=by
       unfold Hid;rw [← HR.out];simp only [t1,t2,t3,t13,t14];simp
      clear HR
      go_wp2_with fail
      go_ret
      exact ⟨by rw [HZ.out];rfl,HB.out⟩
     ·have a14:((k:Int) ≤ 400)=False:=eq_false (by omega)
      have t14:decide (k ≤ 400)=false:=decide_eq_false h14
      have s14:(k ≤ 400)=False:=eq_false h14
      by_cases h15:(300 < n)
      ·have a15:((300:Int) < (n:Int))=True:=eq_true (by omega)
       have t15:decide (300 < n)=true:=decide_eq_true h15
       have s15:(300 < n)=True:=eq_true h15
       have HZ:Hid (r=true):=by
        unfold Hid;rw [← HR.out];simp only [t1,t2,t3,t13,t14,t15];simp
       clear HR
       go_wp2_with fail
       go_ret
       exact ⟨by rw [HZ.out];rfl,HB.out⟩
      ·have a15:((300:Int) < (n:Int))=False:=eq_false (by omega)
       have t15:decide (300 < n)=false:=decide_eq_false h15
       have s15:(300 < n)=False:=eq_false h15
       by_cases h16:(500 < m)
       ·exfalso;omega
       ·have a16:((500:Int) < (m:Int))=False:=eq_false (by omega)
        have t16:decide (500 < m)=false:=decide_eq_false h16
        have s16:(500 < m)=False:=eq_false h16
        by_cases h17:(500 < k)
        ·have a17:((500:Int) < (k:Int))=True:=eq_true (by omega)
         have t17:decide (500 < k)=true:=decide_eq_true h17
         have s17:(500 < k)=True:=eq_true h17
         have HZ:Hid (r=true):=by
          unfold Hid;rw [← HR.out];simp only [t1,t2,t3,t13,t14,t15,t16,t17];simp
         clear HR
         go_wp2_with fail
         go_ret
         exact ⟨by rw [HZ.out];rfl,HB.out⟩
        ·have a17:((500:Int) < (k:Int))=False:=eq_false (by omega)
         have t17:decide (500 < k)=false:=decide_eq_false h17
         have s17:(500 < k)=False:=eq_false h17
         have HZ:Hid (r=false):=by
          unfold Hid;rw [← HR.out];simp only [t1,t2,t3,t13,t14,t15,t16,t17];simp
         clear HR
         go_wp2_with fail
         go_ret
         exact ⟨by rw [HZ.out];rfl,HB.out⟩
    ·have a13:((80:Int) < (k:Int))=False:=eq_false (by omega)
     have t13:decide (80 < k)=false:=decide_eq_false h13
     have s13:(80 < k)=False:=eq_false h13
     by_cases h18:(300 < n)
     ·have a18:((300:Int) < (n:Int))=True:=eq_true (by omega)
      have t18:decide (300 < n)=true:=decide_eq_true h18
      have s18:(300 < n)=True:=eq_true h18
      have HZ:Hid (r=true):=by
       unfold Hid;rw [← HR.out];simp only [t1,t2,t3,t13,t18];simp
      clear HR
      go_wp2_with fail
      go_ret
      exact ⟨by rw [HZ.out];rfl,HB.out⟩
     ·have a18:((300:Int) < (n:Int))=False:=eq_false (by omega)
      have t18:decide (300 < n)=false:=decide_eq_false h18
      have s18:(300 < n)=False:=eq_false h18
      by_cases h19:(500 < m)
      ·exfalso;omega
      ·have a19:((500:Int) < (m:Int))=False:=eq_false (by omega)
       have t19:decide (500 < m)=false:=decide_eq_false h19
       have s19:(500 < m)=False:=eq_false h19
       by_cases h20:(500 < k)
       ·exfalso;omega
       ·have a20:((500:Int) < (k:Int))=False:=eq_false (by omega)
        have t20:decide (500 < k)=false:=decide_eq_false h20
        have s20:(500 < k)=False:=eq_false h20
        have HZ:Hid (r=false):=by
         unfold Hid;rw [← HR.out];simp only [t1,t2,t3,t13,t18,t19,t20];simp
        clear HR
        go_wp2_with fail
        go_ret
        exact ⟨by rw [HZ.out];rfl,HB.out⟩
 ·have a1:((60:Int) < (n:Int))=False:=eq_false (by omega)
  have t1:decide (60 < n)=false:=decide_eq_false h1
  have s1:(60 < n)=False:=eq_false h1
  by_cases h21:(80 < m)
  ·have a21:((80:Int) < (m:Int))=True:=eq_true (by omega)
   have t21:decide (80 < m)=true:=decide_eq_true h21
   have s21:(80 < m)=True:=eq_true h21
   by_cases h22:(m ≤ 400)
   ·have a22:((m:Int) ≤ 400)=True:=eq_true (by omega)
    have t22:decide (m ≤ 400)=true:=decide_eq_true h22
    have s22:(m ≤ 400)=True:=eq_true h22
    have HZ:Hid (r=true):=by
     unfold Hid;rw [← HR.out];simp only [t1,t21,t22];simp
    clear HR
    go_wp2_with fail
    go_ret
    exact ⟨by rw [HZ.out];rfl,HB.out⟩
   ·have a22:((m:Int) ≤ 400)=False:=eq_false (by omega)
    have t22:decide (m ≤ 400)=false:=decide_eq_false h22
    have s22:(m ≤ 400)=False:=eq_false h22
    by_cases h23:(80 < k)
    ·have a23:((80:Int) < (k:Int))=True:=eq_true (by omega)
     have t23:decide (80 < k)=true:=decide_eq_true h23
     have s23:(80 < k)=True:=eq_true h23
     by_cases h24:(k ≤ 400)
     ·have a24:((k:Int) ≤ 400)=True:=eq_true (by omega)
      have t24:decide (k ≤ 400)=true:=decide_eq_true h24
      have s24:(k ≤ 400)=True:=eq_true h24
      have HZ:Hid (r=true):=by
       unfold Hid;rw [← HR.out];simp only [t1,t21,t22,t23,t24];simp
      clear HR
      go_wp2_with fail
      go_ret
      exact ⟨by rw [HZ.out];rfl,HB.out⟩
     ·have a24:((k:Int) ≤ 400)=False:=eq_false (by omega)
      have t24:decide (k ≤ 400)=false:=decide_eq_false h24
      have s24:(k ≤ 400)=False:=eq_false h24
      by_cases h25:(300 < n)
      ·exfalso;omega
      ·have a25:((300:Int) < (n:Int))=False:=eq_false (by omega)
       have t25:decide (300 < n)=false:=decide_eq_false h25
       have s25:(300 < n)=False:=eq_false h25
       by_cases h26:(500 < m)
       ·have a26:((500:Int) < (m:Int))=True:=eq_true (by omega)
        have t26:decide (500 < m)=true:=decide_eq_true h26
        have s26:(500 < m)=True:=eq_true h26
        have HZ:Hid (r=true):=by
         unfold Hid;rw [← HR.out];simp only [t1,t21,t22,t23,t24,t25,t26];simp
        clear HR
        go_wp2_with fail
        go_ret
        exact ⟨by rw [HZ.out];rfl,HB.out⟩
       ·have a26:((500:Int) < (m:Int))=False:=eq_false (by omega)
        have t26:decide (500 < m)=false:=decide_eq_false h26
        have s26:(500 < m)=False:=eq_false h26
        by_cases h27:(500 < k)
        ·have a27:((500:Int) < (k:Int))=True:=eq_true (by omega)
         have t27:decide (500 < k)=true:=decide_eq_true h27
         have s27:(500 < k)=True:=eq_true h27
         have HZ:Hid (r=true):=by
          unfold Hid;rw [← HR.out];simp only [t1,t21,t22,t23,t24,t25,t26,t27];simp
         clear HR
         go_wp2_with fail
         go_ret
         exact ⟨by rw [HZ.out];rfl,HB.out⟩
        ·have a27:((500:Int) < (k:Int))=False:=eq_false (by omega)
         have t27:decide (500 < k)=false:=decide_eq_false h27
         have s27:(500 < k)=False:=eq_false h27
         have HZ:Hid (r=false):=by
          unfold Hid;rw [← HR.out];simp only [t1,t21,t22,t23,t24,t25,t26,t27];simp
         clear HR
         go_wp2_with fail
         go_ret
         exact ⟨by rw [HZ.out];rfl,HB.out⟩
    ·have a23:((80:Int) < (k:Int))=False:=eq_false (by omega)
     have t23:decide (80 < k)=false:=decide_eq_false h23
     have s23:(80 < k)=False:=eq_false h23
     by_cases h28:(300 < n)
     ·exfalso;omega
     ·have a28:((300:Int) < (n:Int))=False:=eq_false (by omega)
      have t28:decide (300 < n)=false:=decide_eq_false h28
      have s28:(300 < n)=False:=eq_false h28
      by_cases h29:(500 < m)
      ·have a29:((500:Int) < (m:Int))=True:=eq_true (by omega)
       have t29:decide (500 < m)=true:=decide_eq_true h29
       have s29:(500 < m)=True:=eq_true h29
       have HZ:Hid (r=true):=by
        unfold Hid;rw [← HR.out];simp only [t1,t21,t22,t23,t28,t29];simp
       clear HR
       go_wp2_with fail
       go_ret
       exact ⟨by rw [HZ.out];rfl,HB.out⟩
      ·have a29:((500:Int) < (m:Int))=False:=eq_false (by omega)
       have t29:decide (500 < m)=false:=decide_eq_false h29
       have s29:(500 < m)=False:=eq_false h29
       by_cases h30:(500 < k)
       ·exfalso;omega
       ·have a30:((500:Int) < (k:Int))=False:=eq_false (by omega)
        have t30:decide (500 < k)=false:=decide_eq_false h30
        have s30:(500 < k)=False:=eq_false h30
        have HZ:Hid (r=false):=by
         unfold Hid;rw [← HR.out];simp only [t1,t21,t22,t23,t28,t29,t30];simp
        clear HR
        go_wp2_with fail
        go_ret
        exact ⟨by rw [HZ.out];rfl,HB.out⟩
  ·have a21:((80:Int) < (m:Int))=False:=eq_false (by omega)
   have t21:decide (80 < m)=false:=decide_eq_false h21
   have s21:(80 < m)=False:=eq_false h21
   by_cases h31:(80 < k)
   ·have a31:((80:Int) < (k:Int))=True:=eq_true (by omega)
    have t31:decide (80 < k)=true:=decide_eq_true h31
    have s31:(80 < k)=True:=eq_true h31
    by_cases h32:(k ≤ 400)
    ·have a32:((k:Int) ≤ 400)=True:=eq_true (by omega)
     have t32:decide (k ≤ 400)=true:=decide_eq_true h32
     have s32:(k ≤ 400)=True:=eq_true h32
     have HZ:Hid (r=true):=by
      unfold Hid;rw [← HR.out];simp only [t1,t21,t31,t32];simp
     clear HR
     go_wp2_with fail
     go_ret
     exact ⟨by rw [HZ.out];rfl,HB.out⟩
    ·have a32:((k:Int) ≤ 400)=False:=eq_false (by omega)
     have t32:decide (k ≤ 400)=false:=decide_eq_false h32
     have s32:(k ≤ 400)=False:=eq_false h32
     by_cases h33:(300 < n)
     ·exfalso;omega
     ·have a33:((300:Int) < (n:Int))=False:=eq_false (by omega)
      have t33:decide (300 < n)=false:=decide_eq_false h33
      have s33:(300 < n)=False:=eq_false h33
      by_cases h34:(500 < m)
      ·exfalso;omega
      ·have a34:((500:Int) < (m:Int))=False:=eq_false (by omega)
       have t34:decide (500 < m)=false:=decide_eq_false h34
       have s34:(500 < m)=False:=eq_false h34
       by_cases h35:(500 < k)
       ·have a35:((500:Int) < (k:Int))=True:=eq_true (by omega)
        have t35:decide (500 < k)=true:=decide_eq_true h35
        have s35:(500 < k)=True:=eq_true h35
        have HZ:Hid (r=true):=by
         unfold Hid;rw [← HR.out];simp only [t1,t21,t31,t32,t33,t34,t35];simp
        clear HR
        go_wp2_with fail
        go_ret
        exact ⟨by rw [HZ.out];rfl,HB.out⟩
       ·have a35:((500:Int) < (k:Int))=False:=eq_false (by omega)
        have t35:decide (500 < k)=false:=decide_eq_false h35
        have s35:(500 < k)=False:=eq_false h35
        have HZ:Hid (r=false):=by
         unfold Hid;rw [← HR.out];simp only [t1,t21,t31,t32,t33,t34,t35];simp
        clear HR
        go_wp2_with fail
        go_ret
        exact ⟨by rw [HZ.out];rfl,HB.out⟩
   ·have a31:((80:Int) < (k:Int))=False:=eq_false (by omega)
    have t31:decide (80 < k)=false:=decide_eq_false h31
    have s31:(80 < k)=False:=eq_false h31
    by_cases h36:(300 < n)
    ·exfalso;omega
    ·have a36:((300:Int) < (n:Int))=False:=eq_false (by omega)
     have t36:decide (300 < n)=false:=decide_eq_false h36
     have s36:(300 < n)=False:=eq_false h36
     by_cases h37:(500 < m)
     ·exfalso;omega
     ·have a37:((500:Int) < (m:Int))=False:=eq_false (by omega)
      have t37:decide (500 < m)=false:=decide_eq_false h37
      have s37:(500 < m)=False:=eq_false h37
      by_cases h38:(500 < k)
      ·exfalso;omega
      ·have a38:((500:Int) < (k:Int))=False:=eq_false (by omega)
       have t38:decide (500 < k)=false:=decide_eq_false h38
       have s38:(500 < k)=False:=eq_false h38
       have HZ:Hid (r=false):=by
        unfold Hid;rw [← HR.out];simp only [t1,t21,t31,t36,t37,t38];simp
       clear HR
       go_wp2_with fail
       go_ret
       exact ⟨by rw [HZ.out];rfl,HB.out⟩
end Go.Proofs.YtpjaefcmaiimlaaGreat
