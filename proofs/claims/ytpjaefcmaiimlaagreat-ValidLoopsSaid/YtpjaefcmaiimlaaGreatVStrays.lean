/-
  Layer 10: valid.covered, valid.stray.
-/
import Derived.Test.YtpjaefcmaiimlaaGreatVChks
import Derived.Test.YtpjaefcmaiimlaaGreatRMems
import Derived.Test.YtpjaefcmaiimlaaGreatVMems
set_option linter.unusedVariables false
set_option linter.unusedSimpArgs false
set_option linter.deprecated false
namespace Go.Proofs.YtpjaefcmaiimlaaGreat
open Go.RowKit

set_option maxHeartbeats 8000000 in
set_option maxRecDepth 100000 in
theorem covered_l (p l i:List Pt) (ap al ai:Option Addr) (cp cl ci:Nat) (w:World) (hA:Pol w ap al ai cp cl ci p l i) (S:List Pt) (hS:l ++ i=S) (hSi:∀ k,k < S.length → sgInB p.length (pget S k)=true) :
 Calls Tryz.prog 21 #[.agg #[.slice ap p.length cp,.slice al l.length cl,.slice ai i.length ci]] w (Gives (.agg #[.int .i64 (chk p l i 3).k,.int .i64 (chk p l i 3).a,.int .i64 (chk p l i 3).b]) w):=by
 have HG:=Lib.hid (fun W h=>vsegs_l p l i S hS ap al ai cp cl ci W (hA.below h))
 have HC1:=Lib.hid (fun a b q ha hb g h W (hW:Below w.heap.size w W) hv hq=>cov1_l p l i a b q ha hb ap al ai cp cl ci W (hA.below hW) g h hv hq)
 have HNO:Hid ((∀ a b,a < p.length → b < S.length → coverF p S a b=false) → chk p l i 3=fl0):=by subst hS;exact fun h=>fl2_no h
 have HAT:Hid (∀ a b,a < p.length → b < S.length → coverF p S a b=true → (∀ x y,x < p.length → y < S.length → (x < a ∨ x=a∧y < b) → coverF p S x y=false) → chk p l i 3=⟨4,a,b⟩):=by subst hS;exact fun a b h1 h2 h3 h4=>fl2_at h1 h2 h3 h4
 have hl:S.length ≤ 100000:=by have:=hA.lenL;have:=hA.lenI;rw [← hS,List.length_append];omega
 have HLn:=Lib.hid hl
 have HSi:=Lib.hid hSi
 have HPP:=Lib.hid hA.pp
 have hlp:=hA.lenP
 clear hA hS hl hSi
 generalize chk p l i 3=F at *
 go_enter Tryz.func21,Tryz.ntmps21
 go_upto_region 1 with (fail)
 have HV:=Lib.hid ((var3_new w (.slice ap p.length cp) (.slice al l.length cl) (.slice ai i.length ci) 25 w.heap.size rfl).below (bl_one _ (.cells #[.int .i64 0,.int .i64 0,.int .i64 0] 30)))
 have HF:=Lib.hid (var3_new (w.alloc (.cells #[.slice ap p.length cp,.slice al l.length cl,.slice ai i.length ci] 25)) (.int .i64 0) (.int .i64 0) (.int .i64 0) 30 (w.heap.size + 1) (by simp))
 have HB:=Lib.hid (bl_alloc (bl_one w (.cells #[.slice ap p.length cp,.slice al l.length cl,.slice ai i.length ci] 25)) (.cells #[.int .i64 0,.int .i64 0,.int .i64 0] 30))
 generalize (w.alloc (.cells #[.slice ap p.length cp,.slice al l.length cl,.slice ai i.length ci] 25)).alloc (.cells #[.int .i64 0,.int .i64 0,.int .i64 0] 30)=W1 at *
 obtain ⟨k0,k1,k2⟩:=HV.out.three
 go_wp2_with fail
 (with_reducible refine (HG.out _ HB.out).mono ?_);rintro e w2 ⟨ad,cap,rfl,hcap,hR,hn,hb2⟩
 have HR:=Lib.hid hR
 replace HB:=Lib.hid (bl_trans HB.out hb2)
 replace HF:=Lib.hid (HF.out.below hb2)
 replace HV:=Lib.hid (HV.out.below hb2)
 clear hb2 HG k0 k1 k2 hR hn hcap
 obtain ⟨k0,k1,k2⟩:=HV.out.three
 go_wp2_with fail
 clear k0 k1 k2
 go_loopw [12] (fun iv W=>∃ k:Nat,k ≤ p.length∧iv=.int .i64 k∧(∀ a b,a < k → b < S.length → coverF p S a b=false)∧Below w2.heap.size w2 W) (fun iv _=>p.length - (intOf iv).toNat)
 case atStart=>exact ⟨0,Nat.zero_le _,rfl,fun a b h=>absurd h (Nat.not_lt_zero _),Below.refl _ _⟩
 case round=>
  obtain ⟨k,hk,rfl,hS,hB2⟩:=hrel
  have HS:=Lib.hid hS
  have HB2:=Lib.hid hB2
  have HBw:=Lib.hid (bl_trans HB.out hB2)
  clear hS hB2
  by_cases hlt:k < p.length
  ·have b2:((k:Int) < (p.length:Int))=True:=eq_true (by omega)
   have d2:(k < p.length)=True:=eq_true hlt
   have c2:((0:Int) ≤ (k:Int))=True:=eq_true (by omega)
   obtain ⟨gp,op,rfl⟩:=HPP.out.some (by omega)
   obtain ⟨q,hq⟩:∃ q,pget p k=q:=⟨_,rfl⟩
   obtain ⟨c0,c1⟩:=ptRow_at (HPP.out.below HBw.out) hlt hq
   have HCV:Hid (∀ b,coverF p S k b=insideB (ptI p (pget S b).x) (ptI p (pget S b).y) q):=fun b=>by unfold coverF;rw [hq]
   clear hq
   go_upto_region 5 with (fail)
   have HQ:=Lib.hid (var2_new wr (.int .i64 q.x) (.int .i64 q.y) 64 wr.heap.size rfl)
   have HB3:=Lib.hid (bl_one wr (.cells #[.int .i64 q.x,.int .i64 q.y] 64))
   generalize wr.alloc (.cells #[.int .i64 q.x,.int .i64 q.y] 64)=W3 at *
   clear c0 c1
   have HIX:=Lib.hid (indexFuncS_l (cap:=cap) 49 #[.pointer (some ⟨w.heap.size,0,none⟩),.pointer (some ⟨wr.heap.size,0,none⟩)] (fun _ _=>rfl) S ad (coverF p S k) (fun _ W=>Below W3.heap.size W3 W) (fun _ W h=>((HR.out.below HB2.out).below HB3.out).below h) (fun b W hb h=>by
    obtain ⟨x0,x1,y0,y1⟩:=sgInB_iff.1 (HSi.out b hb)
    obtain ⟨u,eu,hu,pu⟩:=ptI_at x0 x1
    obtain ⟨v,ev,hv,pv⟩:=ptI_at y0 y1
    have:=HC1.out u v q hu hv w.heap.size wr.heap.size W (bl_trans (bl_trans HBw.out HB3.out) h) (((HV.out.below HB2.out).below HB3.out).below h) (HQ.out.below h)
    rw [← eu,← ev] at this
    rw [HCV.out,pu,pv]
    exact this.mono (fun e W' hg=>⟨hg.1,bl_trans h hg.2⟩)) HLn.out W3 (Below.refl _ _))
   go_wp2_with fail
   (with_reducible refine HIX.out.mono ?_);rintro e w4 ⟨rfl,-,hb4⟩
   have HB4:=Lib.hid (bl_trans (bl_trans HB2.out HB3.out) hb4)
   clear hb4 HIX HQ HB3
   rcases firstN_cases (coverF p S k) S.length with ⟨e9,h9⟩ | ⟨j,j1,e9,j3,j4⟩
   ·rw [e9]
    have H9:=Lib.hid h9
    clear e9 h9
    obtain ⟨m1,m2,m3,m4⟩:=wnum (i:=k) (by omega)
    go_wp2_with fail
    clear m1 m2 m3 m4
    refine ⟨⟨k + 1,hlt,by rw [Int.natCast_add];rfl,fun a b ha hb=>?_,HB4.out⟩,by simp [intOf];omega⟩
    rcases Nat.lt_or_eq_of_le (Nat.le_of_lt_succ ha) with h | rfl
    ·exact HS.out a b h hb
    ·exact H9.out b hb
   ·rw [e9]
    have HZ:=Lib.hid (HAT.out k j hlt j1 j3 (fun x y hx hy h=>by
     rcases h with h | ⟨rfl,h⟩
     ·exact HS.out x y h hy
     ·exact j4 y h))
    have q0:((0:Int) ≤ (j:Int))=True:=eq_true (by omega)
    have HF4:=Lib.hid (HF.out.below HB4.out)
    have HB:=Lib.hid (bl_trans HB.out HB4.out)
    clear j1 j3 j4 e9
    obtain ⟨d0,d1,d2⟩:=HF4.out.three
    obtain ⟨f0,f1,f2⟩:=HF4.out.free3
    go_wp2_with fail
    obtain ⟨e0,e1,e2⟩:=(HF4.out.set3 (.int .i64 4) (.int .i64 k) (.int .i64 j)).three
    refine bodyPost_ret (v:=.agg #[.int .i64 4,.int .i64 k,.int .i64 j]) (by simp [results,Tryz.results21,go_sem,e0,e1,e2];done) rfl ⟨by rw [HZ.out] <;> rfl,?_⟩
    exact bl_set (bl_set (bl_set HB.out (by dsimp only;omega) _) (by dsimp only;omega) _) (by dsimp only;omega) _
  ·obtain rfl:k=p.length:=by omega
   have b2:((p.length:Int) < (p.length:Int))=False:=eq_false (by omega)
   have HZ:=Lib.hid (HNO.out HS.out)
   have HF4:=Lib.hid (HF.out.below HB2.out)
   have HB:=Lib.hid (bl_trans HB.out HB2.out)
   obtain ⟨d0,d1,d2⟩:=HF4.out.three
   obtain ⟨f0,f1,f2⟩:=HF4.out.free3
   go_wp2_with fail
   obtain ⟨e0,e1,e2⟩:=(HF4.out.set3 (.int .i64 0) (.int .i64 0) (.int .i64 0)).three
   refine bodyPost_ret (v:=.agg #[.int .i64 0,.int .i64 0,.int .i64 0]) (by simp [results,Tryz.results21,go_sem,e0,e1,e2];done) rfl ⟨by rw [HZ.out] <;> rfl,?_⟩
   exact bl_set (bl_set (bl_set HB.out (by dsimp only;omega) _) (by dsimp only;omega) _) (by dsimp only;omega) _
theorem deg10_l (n:Nat) (l:List Pt) (ad:Option Addr) (cap:Nat) (w:World) (hP:PtRow w ad l) (hn:n ≤ 10000) (hlen:l.length ≤ 10000) (ho:okL (n:Int) l) :
 Calls Tryz.prog 52 #[.int .i64 (n:Int),.slice ad l.length cap] w fun e W=>∃ v,e=.returned (.tuple #[v,.int .i64 0])∧Oi w v (degs n l) W:=by
 refine (degrees_l (n:Int) l ad cap w hP (by omega) hlen).mono fun e W h=>?_
 rcases h with ⟨-,v,rfl,hO⟩ | ⟨h,-⟩
 ·exact ⟨v,rfl,hO⟩
 ·exact absurd ho h
set_option maxHeartbeats 8000000 in
set_option maxRecDepth 100000 in
theorem stray_l (p l i:List Pt) (ap al ai:Option Addr) (cp cl ci:Nat) (w:World) (hA:Pol w ap al ai cp cl ci p l i) (S:List Pt) (hS:l ++ i=S) (hc:ChkOk p l i) (h2:(flTo p l i 2).k=0) :
 Calls Tryz.prog 25 #[.agg #[.slice ap p.length cp,.slice al l.length cl,.slice ai i.length ci]] w (Gives (.agg #[.int .i64 (chk p l i 7).k,.int .i64 (chk p l i 7).a,.int .i64 (chk p l i 7).b]) w):=by
 have HG:=Lib.hid (fun W h=>vsegs_l p l i S hS ap al ai cp cl ci W (hA.below h))
 have HAt:=Lib.hid (fun q W h=>at9_l p l q ap al cp cl W (hA.pp.below h) (hA.ll.below h) hA.lenL)
 have HOk:Hid (okL (p.length:Int) S):=by unfold Hid;rw [← hS];exact okS_10 hc h2
 have HNO:Hid ((∀ a,a < p.length → strayF p l S a=false) → chk p l i 7=fl0):=by subst hS;exact fun h=>fl1_no h
 have HAT:Hid (∀ a,a < p.length → strayF p l S a=true → (∀ x,x < a → strayF p l S x=false) → chk p l i 7=⟨8,a,0⟩):=by subst hS;exact fun a h1 h2 h3=>fl1_at h1 h2 h3
 have HSt:Hid (∀ a,a < p.length → strayF p l S a=(decide (deg S (a:Int)=0) && !decide (atN 1 p l (pget p a)=1))):=fun a ha=>by unfold strayF;rw [at_10 hc h2 ha]
 have HLn:Hid (S.length ≤ 10000):=by unfold Hid;have:=hc.nl;have:=hc.ni;rw [← hS,List.length_append];omega
 have HPP:=Lib.hid hA.pp
 have hlp:=hA.lenP
 clear hA hS hc h2
 generalize chk p l i 7=F at *
 go_enter Tryz.func25,Tryz.ntmps25
 go_upto_region 1 with (fail)
 have HV:=Lib.hid ((var3_new w (.slice ap p.length cp) (.slice al l.length cl) (.slice ai i.length ci) 25 w.heap.size rfl).below (bl_one _ (.cells #[.int .i64 0,.int .i64 0,.int .i64 0] 30)))
 have HF:=Lib.hid (var3_new (w.alloc (.cells #[.slice ap p.length cp,.slice al l.length cl,.slice ai i.length ci] 25)) (.int .i64 0) (.int .i64 0) (.int .i64 0) 30 (w.heap.size + 1) (by simp))
 have HB:=Lib.hid (bl_alloc (bl_one w (.cells #[.slice ap p.length cp,.slice al l.length cl,.slice ai i.length ci] 25)) (.cells #[.int .i64 0,.int .i64 0,.int .i64 0] 30))
 generalize (w.alloc (.cells #[.slice ap p.length cp,.slice al l.length cl,.slice ai i.length ci] 25)).alloc (.cells #[.int .i64 0,.int .i64 0,.int .i64 0] 30)=W1 at *
 obtain ⟨k0,k1,k2⟩:=HV.out.three
 clear k0 k1 k2
 go_cut [3] (fun x W=>∃ v,x=v∧Oi W1 v (degs p.length S) W)
 case first=>
  refine wp_region_held_drew (S:=fun V=>Below W1.heap.size W1 V) (by kernel_rfl) ?_ (fun hHeld=>?_)
  ·exact bel_drew W1
  revert hHeld
  generalize World.drew _=W1
  intro hHeld 
  refine tk (i:=0) (v:=?_) rfl (Or.inl ⟨by rfl,?_⟩) ?_
  rotate_left;· rintro _ -;go_simp;all_goals (with_reducible rfl)
  try simp only [Act.put,x2,x4,x5,x6,x7]
  refine tk (i:=1) (v:=?_) rfl (Or.inl ⟨by rfl,?_⟩) ?_
  rotate_left
  ·intro Wq hSw
   obtain ⟨k0,k1,k2⟩:=(HV.out.below hSw).three
   clear hSw
   go_simp;all_goals (with_reducible rfl)
  try simp only [Act.put,x2,x3,x4,x5,x6,x7]
  refine tk (i:=2) (v:=?_) rfl (Or.inl ⟨by rfl,?_⟩) ?_
  rotate_left;· rintro _ -;go_simp;all_goals (with_reducible rfl)
  try simp only [Act.put,x2,x3,x4,x5,x6,x7]
  refine tk (i:=3) (v:=?_) rfl (Or.inl ⟨by rfl,?_⟩) ?_
  rotate_left
  ·intro Wq hSw
   obtain ⟨k0,k1,k2⟩:=(HV.out.below hSw).three
   clear hSw
   go_simp;all_goals (with_reducible rfl)
  try simp only [Act.put,x2,x3,x4,x5,x6,x7]
  refine r1 (i:=4) rfl (fun K hK=>?_)
  go_simp
  (with_reducible refine (HG.out _ (bl_trans HB.out hHeld)).mono ?_)
  rintro e w2 ⟨ad,cap,rfl,-,hR,-,hb1⟩
  have HD0:=Lib.hid (deg10_l p.length S ad cap w2 hR hlp HLn.out HOk.out)
  clear hR
  go_wp2_with fail
  refine hK.out _ _ (bl_trans hHeld hb1) (fun hHeld2=>?_)
  clear hK K hHeld
  have hHeld:=hHeld2
  clear hHeld2
  try simp only [Act.put,x2,x3,x4,x5,x6,x7]
  refine r1 (i:=5) rfl (fun K hK=>?_)
  go_simp
  (with_reducible refine HD0.out.mono ?_)
  rintro e w3 ⟨v,rfl,hO⟩
  have HO:=Lib.hid hO
  have hb1:=hO.hb
  have HOb:=Lib.hid (hO.base hHeld)
  clear hO HD0
  go_wp2_with fail
  refine hK.out _ _ (bl_trans hHeld hb1) (fun hHeld2=>?_)
  clear hK K hHeld
  have hHeld:=hHeld2
  clear hHeld2
  try simp only [Act.put,x2,x3,x4,x5,x6,x7]
  refine tk (i:=6) (v:=?_) rfl (Or.inl ⟨by rfl,?_⟩) ?_
  rotate_left;· rintro _ -;go_simp;all_goals (with_reducible rfl)
  try simp only [Act.put,x2,x3,x4,x5,x6,x7]
  refine tk (i:=7) (v:=?_) rfl (Or.inl ⟨by rfl,?_⟩) ?_
  rotate_left;· rintro _ -;go_simp;all_goals (with_reducible rfl)
  try simp only [Act.put,x2,x3,x4,x5,x6,x7]
  refine tk (i:=8) (v:=?_) rfl (Or.inl ⟨by rfl,?_⟩) ?_
  rotate_left;· rintro _ -;go_simp;all_goals (with_reducible rfl)
  try simp only [Act.put,x2,x3,x4,x5,x6,x7]
  refine tk (i:=9) (v:=?_) rfl (Or.inl ⟨by rfl,?_⟩) ?_
  rotate_left;· rintro _ -;go_simp;all_goals (with_reducible rfl)
  try simp only [Act.put,x2,x3,x4,x5,x6,x7]
  refine tk (i:=10) (v:=?_) rfl (Or.inl ⟨by rfl,?_⟩) ?_
  rotate_left;· rintro _ -;go_simp;all_goals (with_reducible rfl)
  try simp only [Act.put,x2,x3,x4,x5,x6,x7]
  refine wpAnyH_done (by kernel_rfl) ?_ _
  go_wp2_with fail
  go_meet
  case rel=>exact ⟨_,rfl,HOb.out⟩
 case rest=>
  obtain ⟨v,rfl,hO⟩:=hcut
  have HO:=Lib.hid hO
  obtain ⟨adD,cpD,ev,-,hD,-⟩:=hO.slice
  rw [degs_len] at ev
  subst ev
  have HD:=Lib.hid hD
  replace HB:=Lib.hid (bl_trans HB.out hO.hb)
  replace HF:=Lib.hid (HF.out.below hO.hb)
  replace HV:=Lib.hid (HV.out.below hO.hb)
  clear hO hD HO HG
  obtain ⟨k0,k1,k2⟩:=HV.out.three
  go_wp2_with fail
  clear k0 k1 k2
  go_loopw [21] (fun iv W=>∃ k:Nat,k ≤ p.length∧iv=.int .i64 k∧(∀ a,a < k → strayF p l S a=false)∧Below wc.heap.size wc W) (fun iv _=>p.length - (intOf iv).toNat)
  case atStart=>exact ⟨0,Nat.zero_le _,rfl,fun a h=>absurd h (Nat.not_lt_zero _),Below.refl _ _⟩
  case round=>
   obtain ⟨k,hk,rfl,hS,hB2⟩:=hrel
   have HS:=Lib.hid hS
   have HB2:=Lib.hid hB2
   have HBw:=Lib.hid (bl_trans HB.out hB2)
   clear hS hB2
   by_cases hlt:k < p.length
   ·have b2:((k:Int) < (p.length:Int))=True:=eq_true (by omega)
    have d2:(k < p.length)=True:=eq_true hlt
    have c2:((0:Int) ≤ (k:Int))=True:=eq_true (by omega)
    obtain ⟨gp,op,rfl⟩:=HPP.out.some (by omega)
    obtain ⟨q,hq⟩:∃ q,pget p k=q:=⟨_,rfl⟩
    obtain ⟨c0,c1⟩:=ptRow_at (HPP.out.below HBw.out) hlt hq
    have HSk:=Lib.hid (HSt.out k hlt)
    rw [hq] at HSk
    clear hq
    go_upto_region 5 with (fail)
    have HQ:=Lib.hid (var2_new wr (.int .i64 q.x) (.int .i64 q.y) 64 wr.heap.size rfl)
    have HB3:=Lib.hid (bl_one wr (.cells #[.int .i64 q.x,.int .i64 q.y] 64))
    generalize wr.alloc (.cells #[.int .i64 q.x,.int .i64 q.y] 64)=W3 at *
    clear c0 c1
    obtain ⟨k0,k1,k2⟩:=((HV.out.below HB2.out).below HB3.out).three
    obtain ⟨q0,q1⟩:=HQ.out.two
    have HAt1:=Lib.hid (HAt.out q W3 (bl_trans HBw.out HB3.out))
    generalize atN 1 p l q=z at *
    generalize atE 1 p l q=ze at *
    obtain ⟨dg,hdg⟩:∃ d,deg S (k:Int)=d:=⟨_,rfl⟩
    rw [hdg] at HSk
    have hkd:k < (degs p.length S).length:=by rw [degs_len];exact hlt
    have hdv:(degs p.length S)[k]=(dg:Int):=by rw [degs_at hkd,hdg]
    clear hdg
    go_wp2_with fail
    (with_reducible refine HAt1.out.mono ?_);rintro e w4 ⟨rfl,hb4⟩
    have HB4:=Lib.hid (bl_trans (bl_trans HB2.out HB3.out) hb4)
    clear hb4 HAt1 k0 k1 k2 q0 q1 HQ HB3
    obtain ⟨gd,od,rfl⟩:=HD.out.some (by omega)
    have kd:=intRow_at (HD.out.below HB4.out) hkd hdv
    clear hdv hkd
    by_cases h0:dg=0
    ·subst h0
     by_cases h1:z=1
     ·subst h1
      have H9:Hid (strayF p l S k=false):=HSk.out
      clear HSk
      obtain ⟨m1,m2,m3,m4⟩:=wnum (i:=k) (by omega)
      go_wp2_with fail
      clear m1 m2 m3 m4
      refine ⟨⟨k + 1,hlt,by rw [Int.natCast_add];rfl,fun a ha=>?_,HB4.out⟩,by simp [intOf];omega⟩
      rcases Nat.lt_or_eq_of_le (Nat.le_of_lt_succ ha) with h | rfl
      ·exact HS.out a h
      ·exact H9.out
     ·have y1:(z=1)=False:=eq_false h1
      have y2:(z == 1)=false:=beq_eq_false_iff_ne.2 h1
      have y3:(z != 1)=true:=bne_iff_ne.2 h1
      have HZ:=Lib.hid (HAT.out k hlt (by rw [HSk.out,decide_eq_false h1];rfl) HS.out)
      have HF4:=Lib.hid (HF.out.below HB4.out)
      have HB:=Lib.hid (bl_trans HB.out HB4.out)
      clear h1 HSk
      obtain ⟨d0,d1,d2⟩:=HF4.out.three
      obtain ⟨f0,f1,f2⟩:=HF4.out.free3
      go_wp2_with fail
      obtain ⟨e0,e1,e2⟩:=(HF4.out.set3 (.int .i64 8) (.int .i64 k) (.int .i64 0)).three
      refine bodyPost_ret (v:=.agg #[.int .i64 8,.int .i64 k,.int .i64 0]) (by simp [results,Tryz.results25,go_sem,e0,e1,e2];done) rfl ⟨by rw [HZ.out] <;> rfl,?_⟩
      exact bl_set (bl_set (bl_set HB.out (by dsimp only;omega) _) (by dsimp only;omega) _) (by dsimp only;omega) _
    ·have y1:(dg=0)=False:=eq_false h0
     have y2:((dg:Int)=0)=False:=eq_false (by omega)
     have y3:((dg:Int) == 0)=false:=beq_eq_false_iff_ne.2 (by omega)
     have H9:Hid (strayF p l S k=false):=by unfold Hid;rw [HSk.out,decide_eq_false h0];rfl
     clear HSk h0
     obtain ⟨m1,m2,m3,m4⟩:=wnum (i:=k) (by omega)
     go_wp2_with fail
     clear m1 m2 m3 m4
     refine ⟨⟨k + 1,hlt,by rw [Int.natCast_add];rfl,fun a ha=>?_,HB4.out⟩,by simp [intOf];omega⟩
     rcases Nat.lt_or_eq_of_le (Nat.le_of_lt_succ ha) with h | rfl
     ·exact HS.out a h
     ·exact H9.out
   ·obtain rfl:k=p.length:=by omega
    have b2:((p.length:Int) < (p.length:Int))=False:=eq_false (by omega)
    have HZ:=Lib.hid (HNO.out HS.out)
    have HF4:=Lib.hid (HF.out.below HB2.out)
    have HB:=Lib.hid (bl_trans HB.out HB2.out)
    obtain ⟨d0,d1,d2⟩:=HF4.out.three
    obtain ⟨f0,f1,f2⟩:=HF4.out.free3
    go_wp2_with fail
    obtain ⟨e0,e1,e2⟩:=(HF4.out.set3 (.int .i64 0) (.int .i64 0) (.int .i64 0)).three
    refine bodyPost_ret (v:=.agg #[.int .i64 0,.int .i64 0,.int .i64 0]) (by simp [results,Tryz.results25,go_sem,e0,e1,e2];done) rfl ⟨by rw [HZ.out] <;> rfl,?_⟩
    exact bl_set (bl_set (bl_set HB.out (by dsimp only;omega) _) (by dsimp only;omega) _) (by dsimp only;omega) _
end Go.Proofs.YtpjaefcmaiimlaaGreat

/-
  Layer 10: valid.meeting.
-/
namespace Go.Proofs.YtpjaefcmaiimlaaGreat
open Go.RowKit

def sgsOf (p S:List Pt):List Sg:=S.map (segF p)
theorem sgsOf_len (p S:List Pt):(sgsOf p S).length=S.length:=by simp [sgsOf]
theorem sget_sgs {p S:List Pt} {k:Nat} (h:k < S.length):sget (sgsOf p S) k=segF p (pget S k):=by
 unfold sget sgsOf pget
 rw [List.getD_eq_getElem?_getD,List.getElem?_map,List.getD_eq_getElem?_getD,List.getElem?_eq_getElem h]
 rfl
theorem sgs_take {p S:List Pt} {k:Nat} (h:k < S.length):(sgsOf p S).take (k + 1)=(sgsOf p S).take k ++ [segF p (pget S k)]:=by
 have hk:k < (sgsOf p S).length:=by rw [sgsOf_len];exact h
 rw [List.take_add_one,List.getElem?_eq_getElem hk]
 have:(sgsOf p S)[k]=segF p (pget S k):=by
  have e:=sget_sgs (p:=p) h
  unfold sget at e
  rw [List.getD_eq_getElem?_getD,List.getElem?_eq_getElem hk] at e
  exact e
 rw [this];rfl
/-- what meet.First tells -/
theorem first_chk {p l i S:List Pt} (hS:l ++ i=S) (hc:ChkOk p l i) (h2:(flTo p l i 2).k=0) {x y:Nat} {is:Bool} (h:FirstR (sgsOf p S) x y is):chk p l i 2=if is=true then ⟨3,x,y⟩ else fl0:=by
 subst hS
 have hok:(sgsOf p (l ++ i)).all okB=true:=all_ok fun j hj=>by
  rw [sgsOf_len] at hj
  rw [sget_sgs hj]
  exact okB_of9 (ok9_all hc h2 hj)
 rcases h with ⟨-,h⟩ | ⟨h,-⟩
 ·rw [sgsOf_len] at h
  rcases h with ⟨rfl,h1,h3,h4,h5⟩ | ⟨rfl,rfl,rfl,h5⟩
  ·rw [if_pos rfl]
   refine fl2_at (by omega) h3 ?_ fun a b ha hb hab=>?_
   ·unfold meetF
    rw [decide_eq_true h1]
    dsimp only at h4
    rw [sget_sgs (by omega),sget_sgs h3] at h4
    exact h4
   ·unfold meetF
    by_cases hl:a < b
    ·have:=h5 a b hl hb hab
     dsimp only at this
     rw [sget_sgs ha,sget_sgs hb] at this
     rw [this,Bool.and_false]
    ·rw [decide_eq_false hl];rfl
  ·refine fl2_no fun a b ha hb=>?_
   unfold meetF
   by_cases hl:a < b
   ·have:=h5 a b hl hb
    dsimp only at this
    rw [sget_sgs ha,sget_sgs hb] at this
    rw [this,Bool.and_false]
   ·rw [decide_eq_false hl];rfl
 ·rw [hok] at h;cases h
set_option maxHeartbeats 8000000 in
set_option maxRecDepth 100000 in
theorem meeting_l (p l i:List Pt) (ap al ai:Option Addr) (cp cl ci:Nat) (w:World) (hA:Pol w ap al ai cp cl ci p l i) (S:List Pt) (hS:l ++ i=S) (hc:ChkOk p l i) (h2:(flTo p l i 2).k=0) :
 Calls Tryz.prog 20 #[.agg #[.slice ap p.length cp,.slice al l.length cl,.slice ai i.length ci]] w (Gives (.agg #[.int .i64 (chk p l i 2).k,.int .i64 (chk p l i 2).a,.int .i64 (chk p l i 2).b]) w):=by
 have HG:=Lib.hid (fun W h=>vsegs_l p l i S hS ap al ai cp cl ci W (hA.below h))
 have HSi:Hid (∀ k,k < S.length → sgInB p.length (pget S k)=true):=by subst hS;exact fun k hk=>chk_seg hc hk
 have HFC:Hid (∀ x y is,FirstR (sgsOf p S) x y is → chk p l i 2=if is=true then ⟨3,(x:Int),(y:Int)⟩ else fl0):=fun x y is h=>first_chk hS hc h2 h
 have HLn:Hid (S.length ≤ 10000):=by unfold Hid;have:=hc.nl;have:=hc.ni;rw [← hS,List.length_append];omega
 have HPP:=Lib.hid hA.pp
 have HLp:=Lib.hid hA.lenP
 clear hA hS hc h2
 generalize chk p l i 2=F at *
 go_enter Tryz.func20,Tryz.ntmps20
 go_upto_region 1 with (fail)
 have HV:=Lib.hid ((var3_new w (.slice ap p.length cp) (.slice al l.length cl) (.slice ai i.length ci) 25 w.heap.size rfl).below (bl_one _ (.cells #[.int .i64 0,.int .i64 0,.int .i64 0] 30)))
 have HF:=Lib.hid (var3_new (w.alloc (.cells #[.slice ap p.length cp,.slice al l.length cl,.slice ai i.length ci] 25)) (.int .i64 0) (.int .i64 0) (.int .i64 0) 30 (w.heap.size + 1) (by simp))
 have HB:=Lib.hid (bl_alloc (bl_one w (.cells #[.slice ap p.length cp,.slice al l.length cl,.slice ai i.length ci] 25)) (.cells #[.int .i64 0,.int .i64 0,.int .i64 0] 30))
 generalize (w.alloc (.cells #[.slice ap p.length cp,.slice al l.length cl,.slice ai i.length ci] 25)).alloc (.cells #[.int .i64 0,.int .i64 0,.int .i64 0] 30)=W1 at *
 obtain ⟨k0,k1,k2⟩:=HV.out.three
 go_wp2_with fail
 (with_reducible refine (HG.out _ HB.out).mono ?_);rintro e w2 ⟨ad,cap,rfl,hcap,hR,hn,hb2⟩
 have HR:=Lib.hid hR
 replace HB:=Lib.hid (bl_trans HB.out hb2)
 replace HF:=Lib.hid (HF.out.below hb2)
 replace HV:=Lib.hid (HV.out.below hb2)
 clear hb2 HG k0 k1 k2 hR hn hcap
 go_wp2_with fail
 go_loopw [3,12] (fun rv iv W=>∃ (k:Nat) (v9:Value),k ≤ S.length∧v9=rv∧iv=.int .i64 k∧Og w2 v9 ((sgsOf p S).take k) W) (fun _ iv _=>S.length - (intOf iv).toNat)
 case atStart=>exact ⟨0,_,Nat.zero_le _,rfl,rfl,og_nil _⟩
 case round=>
  obtain ⟨k,rv,hk,rfl,rfl,hO⟩:=hrel
  have HO:=Lib.hid hO
  have HBw:=Lib.hid (bl_trans HB.out hO.hb)
  have HB2:=Lib.hid hO.hb
  clear hO
  by_cases hlt:k < S.length
  ·have b2:((k:Int) < (S.length:Int))=True:=eq_true (by omega)
   have d2:(k < S.length)=True:=eq_true hlt
   have c2:((0:Int) ≤ (k:Int))=True:=eq_true (by omega)
   obtain ⟨gs,os,rfl⟩:=HR.out.some (by omega)
   obtain ⟨x0,x1,y0,y1⟩:=sgInB_iff.1 (HSi.out k hlt)
   obtain ⟨a,ea,ha,pa⟩:=ptI_at x0 x1
   obtain ⟨b,eb,hb,pb⟩:=ptI_at y0 y1
   have hl:=HLp.out
   obtain ⟨c0,c1⟩:=ptRow_at (HR.out.below HB2.out) hlt rfl
   rw [ea] at c0
   rw [eb] at c1
   obtain ⟨gp,op,rfl⟩:=HPP.out.some (by omega)
   obtain ⟨x,hx⟩:∃ x,pget p a=x:=⟨_,rfl⟩
   obtain ⟨y,hy⟩:∃ y,pget p b=y:=⟨_,rfl⟩
   have HTk:Hid ((sgsOf p S).take (k + 1)=(sgsOf p S).take k ++ [⟨x,y⟩]):=by
    unfold Hid
    rw [sgs_take hlt]
    unfold segF
    rw [pa,pb,hx,hy]
   have HX:=Lib.hid hx
   have HY:=Lib.hid hy
   clear x0 x1 y0 y1 ea eb pa pb hx hy
   have HOB:Hid (∀ k,rv.ownBlock=some k → k ≠ wr.heap.size):=fun k e=>by have:=HO.out.own.lt k e;omega
   go_upto_region 5 with (fail)
   have HQ:=Lib.hid (var2_new wr (.int .i64 (a:Int)) (.int .i64 (b:Int)) 59 wr.heap.size rfl)
   have HO3:=Lib.hid (HO.out.alloc (.cells #[.int .i64 (a:Int),.int .i64 (b:Int)] 59))
   have HB3:=Lib.hid (bl_trans HB2.out (bl_one wr (.cells #[.int .i64 (a:Int),.int .i64 (b:Int)] 59)))
   generalize wr.alloc (.cells #[.int .i64 (a:Int),.int .i64 (b:Int)] 59)=W3 at *
   generalize wr.heap.size=g5 at *
   clear c0 c1 HO HB2 HBw
   have HP2:=Lib.hid (HPP.out.below HB.out)
   refine wp_region_held_drew (S:=fun V=>Below w2.heap.size w2 V∧Var V g5 [.int .i64 (a:Int),.int .i64 (b:Int)]) (by kernel_rfl) ?_ (fun hHeld=>?_)
   ·exact ⟨HB3.out.drew,HQ.out.below (bel_drew _)⟩
   have HO4:=Lib.hid HO3.out.drew
   revert HO4
   revert hHeld
   generalize World.drew _=W1
   intro hHeld HO4
   refine tk (i:=0) (v:=?_) rfl (Or.inl ⟨by rfl,?_⟩) ?_
   rotate_left;· rintro _ -;go_simp;all_goals (with_reducible rfl)
   try simp only [Act.put,x2,x4,x5,x6,x7]
   refine tk (i:=1) (v:=?_) rfl (Or.inl ⟨by rfl,?_⟩) ?_
   rotate_left;· rintro _ -;go_simp;all_goals (with_reducible rfl)
   try simp only [Act.put,x2,x3,x4,x5,x6,x7]
   refine tk (i:=2) (v:=?_) rfl (Or.inl ⟨by rfl,?_⟩) ?_
   rotate_left
   ·intro Wq hSw
    obtain ⟨k0,k1,k2⟩:=(HV.out.below hSw.1).three
    clear hSw
    go_simp;all_goals (with_reducible rfl)
   try simp only [Act.put,x2,x3,x4,x5,x6,x7]
   refine tk (i:=3) (v:=?_) rfl (Or.inl ⟨by rfl,?_⟩) ?_
   rotate_left;· rintro _ -;go_simp;all_goals (with_reducible rfl)
   try simp only [Act.put,x2,x3,x4,x5,x6,x7]
   refine tk (i:=4) (v:=?_) rfl (Or.inl ⟨by rfl,?_⟩) ?_
   rotate_left
   ·intro Wq hSw
    obtain ⟨s0,s1⟩:=hSw.2.two
    clear hSw
    go_simp;all_goals (with_reducible rfl)
   try simp only [Act.put,x2,x3,x4,x5,x6,x7]
   refine tk (i:=5) (v:=?_) rfl (Or.inl ⟨by rfl,?_⟩) ?_
   rotate_left
   ·intro Wq hSw
    have b1:((a:Int) < (p.length:Int))=True:=eq_true (by omega)
    have d1:(a < p.length)=True:=eq_true (by omega)
    have c1:((0:Int) ≤ (a:Int))=True:=eq_true (by omega)
    clear hSw
    go_simp;all_goals (with_reducible rfl)
   try simp only [Act.put,x2,x3,x4,x5,x6,x7]
   refine tk (i:=6) (v:=?_) rfl (Or.inl ⟨by rfl,?_⟩) ?_
   rotate_left
   ·intro Wq hSw
    obtain ⟨c0,c1⟩:=ptRow_at (HP2.out.below hSw.1) (i:=a) (by omega) HX.out
    clear hSw
    go_simp;all_goals (with_reducible rfl)
   try simp only [Act.put,x2,x3,x4,x5,x6,x7]
   refine tk (i:=7) (v:=?_) rfl (Or.inl ⟨by rfl,?_⟩) ?_
   rotate_left;· rintro _ -;go_simp;all_goals (with_reducible rfl)
   try simp only [Act.put,x2,x3,x4,x5,x6,x7]
   refine tk (i:=8) (v:=?_) rfl (Or.inl ⟨by rfl,?_⟩) ?_
   rotate_left
   ·intro Wq hSw
    obtain ⟨k0,k1,k2⟩:=(HV.out.below hSw.1).three
    clear hSw
    go_simp;all_goals (with_reducible rfl)
   try simp only [Act.put,x2,x3,x4,x5,x6,x7]
   refine tk (i:=9) (v:=?_) rfl (Or.inl ⟨by rfl,?_⟩) ?_
   rotate_left;· rintro _ -;go_simp;all_goals (with_reducible rfl)
   try simp only [Act.put,x2,x3,x4,x5,x6,x7]
   refine tk (i:=10) (v:=?_) rfl (Or.inl ⟨by rfl,?_⟩) ?_
   rotate_left
   ·intro Wq hSw
    obtain ⟨s0,s1⟩:=hSw.2.two
    clear hSw
    go_simp;all_goals (with_reducible rfl)
   try simp only [Act.put,x2,x3,x4,x5,x6,x7]
   refine tk (i:=11) (v:=?_) rfl (Or.inl ⟨by rfl,?_⟩) ?_
   rotate_left
   ·intro Wq hSw
    have b1:((b:Int) < (p.length:Int))=True:=eq_true (by omega)
    have d1:(b < p.length)=True:=eq_true (by omega)
    have c1:((0:Int) ≤ (b:Int))=True:=eq_true (by omega)
    clear hSw
    go_simp;all_goals (with_reducible rfl)
   try simp only [Act.put,x2,x3,x4,x5,x6,x7]
   refine tk (i:=12) (v:=?_) rfl (Or.inl ⟨by rfl,?_⟩) ?_
   rotate_left
   ·intro Wq hSw
    obtain ⟨c0,c1⟩:=ptRow_at (HP2.out.below hSw.1) (i:=b) (by omega) HY.out
    clear hSw
    go_simp;all_goals (with_reducible rfl)
   try simp only [Act.put,x2,x3,x4,x5,x6,x7]
   refine tk (i:=13) (v:=?_) rfl (Or.inl ⟨by rfl,?_⟩) ?_
   rotate_left;· rintro _ -;go_simp;all_goals (with_reducible rfl)
   try simp only [Act.put,x2,x3,x4,x5,x6,x7]
   refine r1 (i:=14) rfl (fun K hK=>?_)
   go_simp
   obtain ⟨Wb,eWb⟩:∃ W,W=W1:=⟨_,rfl⟩
   subst eWb
   have HN:=Lib.hid (sg_new Wb ⟨x,y⟩ 75)
   have HO5:=Lib.hid (HO4.out.alloc (.cells #[.int .i64 x.x,.int .i64 x.y,.int .i64 y.x,.int .i64 y.y] 75))
   refine hK.out _ _ ⟨HO5.out.hb,hHeld.2.below (bl_one _ _)⟩ (fun hHeld2=>?_)
   clear hK K hHeld HO4
   have hHeld:=hHeld2
   clear hHeld2
   try simp only [Act.put,x2,x3,x4,x5,x6,x7]
   refine r1 (i:=15) rfl (fun K hK=>?_)
   refine app_sg_wp (q:=⟨x,y⟩) (.tmp 16) (.tmp 30) rfl rfl HO5.out rfl HN.out ?lim (fun v2 w4 hO2 hg2=>?_)
   case lim=>(have:=HLn.out;rw [List.length_take];omega)
   have HO6:=Lib.hid hO2
   clear hO2 HO5 HN
   refine hK.out _ _ ⟨HO6.out.hb,hHeld.2.grown10 hg2 HOB.out⟩ (fun hHeld2=>?_)
   clear hK K hHeld hg2
   have hHeld:=hHeld2
   clear hHeld2
   try simp only [Act.put,x2,x3,x4,x5,x6,x7]
   refine tk (i:=16) (v:=?_) rfl (Or.inl ⟨by rfl,?_⟩) ?_
   rotate_left;· rintro _ -;go_simp;all_goals (with_reducible rfl)
   try simp only [Act.put,x2,x3,x4,x5,x6,x7]
   refine wpAnyH_done (by kernel_rfl) ?_ _
   clear hHeld
   obtain ⟨m1,m2,m3,m4⟩:=wnum (i:=k) (by have:=HLn.out;omega)
   go_wp2_with fail
   clear m1 m2 m3 m4
   exact ⟨⟨k + 1,_,hlt,rfl,by rw [Int.natCast_add];rfl,by rw [HTk.out];exact HO6.out⟩,by simp [intOf];omega⟩
  ·obtain rfl:k=S.length:=by omega
   have b2:((S.length:Int) < (S.length:Int))=False:=eq_false (by omega)
   have HO9:Hid (Og w2 rv (sgsOf p S) wr):=by
    have:=HO.out
    rwa [List.take_of_length_le (by rw [sgsOf_len];omega)] at this
   clear HO
   have HB4:=Lib.hid (bl_trans HB.out HO9.out.hb)
   have HF4:=Lib.hid (HF.out.below HO9.out.hb)
   have HFi:Hid (Calls Tryz.prog 48 #[rv] wr (FirstG (sgsOf p S) wr)):=by
    by_cases h0:(sgsOf p S).length=0
    ·obtain ⟨ad9,cp9,rfl⟩:=HO9.out.nil h0
     rw [List.length_eq_zero_iff.1 h0]
     exact first_nil ad9 cp9 wr
    ·obtain ⟨g9,cp9,rfl,hs9⟩:=HO9.out.slice (by omega)
     exact first_l _ _ _ _ (by rw [sgsOf_len];have:=HLn.out;omega) wr hs9
   clear HO9 HB2 HBw
   go_wp2_with fail
   (with_reducible refine HFi.out.mono ?_);rintro e w5 ⟨x,y,is,rfl,hfr,hb5⟩
   have HZ9:=Lib.hid (HFC.out x y is hfr)
   have HB:=Lib.hid (bl_trans HB4.out hb5)
   have HF:=Lib.hid (HF4.out.below hb5)
   clear HB4 HF4 hb5 HFi hfr
   cases is
   ·have HZ:Hid (F=fl0):=HZ9.out
    clear HZ9
    obtain ⟨d0,d1,d2⟩:=HF.out.three
    obtain ⟨f0,f1,f2⟩:=HF.out.free3
    go_wp2_with fail
    obtain ⟨e0,e1,e2⟩:=(HF.out.set3 (.int .i64 0) (.int .i64 0) (.int .i64 0)).three
    refine bodyPost_ret (v:=.agg #[.int .i64 0,.int .i64 0,.int .i64 0]) (by simp [results,Tryz.results20,go_sem,e0,e1,e2];done) rfl ⟨by rw [HZ.out] <;> rfl,?_⟩
    exact bl_set (bl_set (bl_set HB.out (by dsimp only;omega) _) (by dsimp only;omega) _) (by dsimp only;omega) _
   ·have HZ:Hid (F=⟨3,(x:Int),(y:Int)⟩):=HZ9.out
    clear HZ9
    obtain ⟨d0,d1,d2⟩:=HF.out.three
    obtain ⟨f0,f1,f2⟩:=HF.out.free3
    go_wp2_with fail
    obtain ⟨e0,e1,e2⟩:=(HF.out.set3 (.int .i64 3) (.int .i64 x) (.int .i64 y)).three
    refine bodyPost_ret (v:=.agg #[.int .i64 3,.int .i64 x,.int .i64 y]) (by simp [results,Tryz.results20,go_sem,e0,e1,e2];done) rfl ⟨by rw [HZ.out] <;> rfl,?_⟩
    exact bl_set (bl_set (bl_set HB.out (by dsimp only;omega) _) (by dsimp only;omega) _) (by dsimp only;omega) _
end Go.Proofs.YtpjaefcmaiimlaaGreat
