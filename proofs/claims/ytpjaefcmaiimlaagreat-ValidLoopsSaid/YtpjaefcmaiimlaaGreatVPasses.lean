/-
  Layer 10: slices.ContainsFunc, slices.Contains; valid.passes.
-/
import Derived.Test.YtpjaefcmaiimlaaGreatVChks
import Derived.Test.YtpjaefcmaiimlaaGreatRMems
set_option linter.unusedVariables false
set_option linter.unusedSimpArgs false
set_option linter.deprecated false
namespace Go.Proofs.YtpjaefcmaiimlaaGreat
open Go.RowKit

set_option maxHeartbeats 8000000 in
set_option maxRecDepth 100000 in
theorem indexFuncP_l (f:FuncId) (caps:Array Value) (hcf:∀ args w,(callFunc f args).run Tryz.prog w=.ok (.enter f args) w) (l:List Pt) (ad:Option Addr) (cap:Nat) (q:Nat → Bool) (Inv:Nat → World → Prop) (hI:∀ k W,Inv k W → PtRow W ad l)
 (hcall:∀ k W,k < l.length → Inv k W → Calls Tryz.prog f (#[.agg #[.int .i64 (pget l k).x,.int .i64 (pget l k).y]] ++ caps) W fun e W'=>e=.returned (.bool (q k))∧Inv (k + 1) W') (hlen:l.length ≤ 100000) (w:World) (h0:Inv 0 w) :
 Calls Tryz.prog 92 #[.slice ad l.length cap,.func (.func f) #[] caps] w fun e W=>e=.returned (.int .i64 (firstN q l.length))∧∃ k,Inv k W:=by
 have HI:=Lib.hid hI
 have HC:=Lib.hid hcall
 have H0:=Lib.hid h0
 clear hI hcall h0
 go_enter Tryz.func92,Tryz.ntmps92
 go_wp2_with fail
 go_loopw [8] (fun iv W=>∃ k:Nat,k ≤ l.length∧iv=.int .i64 k∧(∀ i,i < k → q i=false)∧Inv k W) (fun iv _=>l.length - (intOf iv).toNat)
 case atStart=>exact ⟨0,Nat.zero_le _,rfl,fun i hi=>absurd hi (Nat.not_lt_zero _),H0.out⟩
 case round=>
  obtain ⟨k,hk,rfl,hq,hV⟩:=hrel
  have HQ:=Lib.hid hq
  have HV:=Lib.hid hV
  clear hq hV H0
  by_cases hlt:k < l.length
  ·have b2:((k:Int) < (l.length:Int))=True:=eq_true (by omega)
   have d2:(k < l.length)=True:=eq_true hlt
   have c2:((0:Int) ≤ (k:Int))=True:=eq_true (by omega)
   have HR:=Lib.hid (HI.out k wr HV.out)
   obtain ⟨g,o,rfl⟩:=HR.out.some (by omega)
   obtain ⟨s,hs⟩:∃ s,pget l k=s:=⟨_,rfl⟩
   obtain ⟨k0,k1⟩:=ptRow_at HR.out hlt hs
   have HCL:=Lib.hid (HC.out k wr hlt HV.out)
   rw [hs] at HCL
   obtain ⟨r,hr⟩:∃ r,q k=r:=⟨_,rfl⟩
   rw [hr] at HCL
   have HQK:=Lib.hid hr
   clear hr hs
   go_wp2_with fail
   (with_reducible refine HCL.out.mono ?_);rintro e w1 ⟨rfl,hV1⟩
   have HV1:=Lib.hid hV1
   clear hV1 HV HCL k0 k1
   cases r
   ·obtain ⟨m1,m2,m3,m4⟩:=wnum (i:=k) (by omega)
    go_wp2_with fail
    clear m1 m2 m3 m4
    refine ⟨⟨k + 1,hlt,by rw [Int.natCast_add];rfl,fun i hi=>?_,HV1.out⟩,by simp [intOf];omega⟩
    rcases Nat.lt_or_ge i k with h | h
    ·exact HQ.out i h
    ·obtain rfl:i=k:=by omega
     exact HQK.out
   ·go_wp2_with fail
    go_ret
    exact ⟨by rw [firstN_at hlt HQK.out HQ.out];rfl,k + 1,HV1.out⟩
  ·obtain rfl:k=l.length:=by omega
   have b2:((l.length:Int) < (l.length:Int))=False:=eq_false (by omega)
   go_wp2_with fail
   go_ret
   exact ⟨by rw [firstN_no HQ.out];rfl,_,HV.out⟩

theorem first_any (q:Nat → Bool) (n:Nat):(firstN q n = -1∧anyN q n=false) ∨ (0 ≤ firstN q n∧anyN q n=true):=by
 rcases firstN_cases q n with ⟨e,h⟩ | ⟨k,h1,e,h2,-⟩
 ·exact .inl ⟨e,anyN_no.2 h⟩
 ·exact .inr ⟨by omega,anyN_yes h1 h2⟩
set_option maxHeartbeats 8000000 in
set_option maxRecDepth 100000 in
theorem containsFS_l (f:FuncId) (caps:Array Value) (hcf:∀ args w,(callFunc f args).run Tryz.prog w=.ok (.enter f args) w) (l:List Pt) (ad:Option Addr) (cap:Nat) (q:Nat → Bool) (Inv:Nat → World → Prop) (hI:∀ k W,Inv k W → PtRow W ad l)
 (hcall:∀ k W,k < l.length → Inv k W → Calls Tryz.prog f (#[.agg #[.int .i64 (pget l k).x,.int .i64 (pget l k).y]] ++ caps) W fun e W'=>e=.returned (.bool (q k))∧Inv (k + 1) W') (hlen:l.length ≤ 100000) (w:World) (h0:Inv 0 w) :
 Calls Tryz.prog 68 #[.slice ad l.length cap,.func (.func f) #[] caps] w fun e W=>e=.returned (.bool (anyN q l.length))∧∃ k,Inv k W:=by
 have HI:=Lib.hid (indexFuncS_l f caps hcf l ad cap q Inv hI hcall hlen w h0)
 have HA:=Lib.hid (first_any q l.length)
 clear hI hcall h0
 generalize anyN q l.length=r at *
 generalize firstN q l.length=z at *
 go_enter Tryz.func68,Tryz.ntmps68
 go_wp2_with fail
 (with_reducible refine HI.out.mono ?_);rintro e w1 ⟨rfl,hV1⟩
 have HV1:=Lib.hid hV1
 clear hV1 HI
 rcases HA.out with ⟨rfl,rfl⟩ | ⟨h0,rfl⟩
 ·go_wp2_with fail
  go_ret
  exact ⟨rfl,HV1.out⟩
 ·have b1:(0 ≤ z)=True:=eq_true h0
  clear h0
  go_wp2_with fail
  go_ret
  exact ⟨rfl,HV1.out⟩
set_option maxHeartbeats 8000000 in
set_option maxRecDepth 100000 in
theorem containsFP_l (f:FuncId) (caps:Array Value) (hcf:∀ args w,(callFunc f args).run Tryz.prog w=.ok (.enter f args) w) (l:List Pt) (ad:Option Addr) (cap:Nat) (q:Nat → Bool) (Inv:Nat → World → Prop) (hI:∀ k W,Inv k W → PtRow W ad l)
 (hcall:∀ k W,k < l.length → Inv k W → Calls Tryz.prog f (#[.agg #[.int .i64 (pget l k).x,.int .i64 (pget l k).y]] ++ caps) W fun e W'=>e=.returned (.bool (q k))∧Inv (k + 1) W') (hlen:l.length ≤ 100000) (w:World) (h0:Inv 0 w) :
 Calls Tryz.prog 69 #[.slice ad l.length cap,.func (.func f) #[] caps] w fun e W=>e=.returned (.bool (anyN q l.length))∧∃ k,Inv k W:=by
 have HI:=Lib.hid (indexFuncP_l f caps hcf l ad cap q Inv hI hcall hlen w h0)
 have HA:=Lib.hid (first_any q l.length)
 clear hI hcall h0
 generalize anyN q l.length=r at *
 generalize firstN q l.length=z at *
 go_enter Tryz.func69,Tryz.ntmps69
 go_wp2_with fail
 (with_reducible refine HI.out.mono ?_);rintro e w1 ⟨rfl,hV1⟩
 have HV1:=Lib.hid hV1
 clear hV1 HI
 rcases HA.out with ⟨rfl,rfl⟩ | ⟨h0,rfl⟩
 ·go_wp2_with fail
  go_ret
  exact ⟨rfl,HV1.out⟩
 ·have b1:(0 ≤ z)=True:=eq_true h0
  clear h0
  go_wp2_with fail
  go_ret
  exact ⟨rfl,HV1.out⟩

theorem eqSeg10 (a b:Pt) (w:World):(Op.equalIn 10000 59 (.agg #[.int .i64 a.x,.int .i64 a.y]) (.agg #[.int .i64 b.x,.int .i64 b.y])).run Tryz.prog w=.ok (decide (a=b)) w:=by
 have hS:Tryz.prog.underlying 59=some (.struct (Tryz.prog.fieldsOf 59)):=by kernel_rfl
 have hp:Tryz.prog.stoodInHeld 59=false:=by kernel_rfl
 have u4:=Tryz.underlying3
 rw [show (10000:Nat)=9999 + 1 from rfl,run_equalIn_agg w 9999 59 _ _ hS hp]
 simp only [Program.fieldsOf,Tryz.underlying59]
 go_simp
 have e:(a=b) ↔ (a.x=b.x∧a.y=b.y):=⟨fun h=>by rw [h];exact ⟨rfl,rfl⟩,fun h=>Pt.ext' h.1 h.2⟩
 by_cases h1:a.x=b.x <;> by_cases h2:a.y=b.y <;> simp [h1,h2,e]
set_option maxHeartbeats 8000000 in
set_option maxRecDepth 100000 in
theorem indexSeg_l (l:List Pt) (s:Pt) (ad:Option Addr) (cap:Nat) (w:World) (hL:PtRow w ad l) (hlen:l.length ≤ 100000) :
 Calls Tryz.prog 64 #[.slice ad l.length cap,.agg #[.int .i64 s.x,.int .i64 s.y]] w (Gives (.int .i64 (firstN (fun k=>decide (s=pget l k)) l.length)) w):=by
 have HEQ:=Lib.hid (fun b W=>eqSeg10 s b W)
 go_enter Tryz.func64,Tryz.ntmps64
 go_upto_region 1 with (fail)
 have HL:=Lib.hid (hL.below (bl_one w (.cells #[.int .i64 s.x,.int .i64 s.y] 59)))
 have HS:=Lib.hid (var2_new w (.int .i64 s.x) (.int .i64 s.y) 59 w.heap.size rfl)
 have HB0:=Lib.hid (bl_one w (.cells #[.int .i64 s.x,.int .i64 s.y] 59))
 generalize w.alloc (.cells #[.int .i64 s.x,.int .i64 s.y] 59)=W1 at *
 clear hL
 go_wp2_with fail
 go_loopw [8] (fun iv W=>∃ k:Nat,k ≤ l.length∧iv=.int .i64 k∧(∀ j,j < k → decide (s=pget l j)=false)∧Below W1.heap.size W1 W) (fun iv _=>l.length - (intOf iv).toNat)
 case atStart=>exact ⟨0,Nat.zero_le _,rfl,fun j hj=>absurd hj (Nat.not_lt_zero _),Below.refl _ _⟩
 case round=>
  obtain ⟨k,hk,rfl,hq,hB⟩:=hrel
  have HQ:=Lib.hid hq
  have HB:=Lib.hid hB
  clear hq hB
  by_cases hlt:k < l.length
  ·have b2:((k:Int) < (l.length:Int))=True:=eq_true (by omega)
   have d2:(k < l.length)=True:=eq_true hlt
   have c2:((0:Int) ≤ (k:Int))=True:=eq_true (by omega)
   obtain ⟨g,o,rfl⟩:=HL.out.some (by omega)
   obtain ⟨t,ht⟩:∃ t,pget l k=t:=⟨_,rfl⟩
   obtain ⟨k0,k1⟩:=ptRow_at (HL.out.below HB.out) hlt ht
   obtain ⟨s0,s1⟩:=(HS.out.below HB.out).two
   obtain ⟨r,hr⟩:∃ r,decide (s=t)=r:=⟨_,rfl⟩
   have he:=fun W=>HEQ.out t W
   rw [hr] at he
   have HK:Hid (decide (s=pget l k)=r):=by unfold Hid;rw [ht,hr]
   clear hr ht
   go_upto_region 4 with (fail)
   go_region
   all_goals
    clear k0 k1 s0 s1
    cases r
    ·obtain ⟨m1,m2,m3,m4⟩:=wnum (i:=k) (by omega)
     go_wp2_with fail
     clear m1 m2 m3 m4
     refine ⟨⟨k + 1,hlt,by rw [Int.natCast_add];rfl,fun j hj=>?_,HB.out.drew⟩,by simp [intOf];omega⟩
     rcases Nat.lt_or_eq_of_le (Nat.le_of_lt_succ hj) with h | rfl
     ·exact HQ.out j h
     ·exact HK.out
    ·go_wp2_with fail
     go_ret
     exact ⟨by rw [firstN_at hlt HK.out HQ.out];rfl,bl_trans HB0.out HB.out.drew⟩
  ·obtain rfl:k=l.length:=by omega
   have b2:((l.length:Int) < (l.length:Int))=False:=eq_false (by omega)
   go_wp2_with fail
   go_ret
   exact ⟨by rw [firstN_no HQ.out];rfl,bl_trans HB0.out HB.out⟩
end Go.Proofs.YtpjaefcmaiimlaaGreat

/-
  Layer 10: slices.Contains, valid.passes.
-/
namespace Go.Proofs.YtpjaefcmaiimlaaGreat
open Go.RowKit

set_option maxHeartbeats 8000000 in
set_option maxRecDepth 100000 in
theorem containsSeg_l (l:List Pt) (s:Pt) (ad:Option Addr) (cap:Nat) (w:World) (hL:PtRow w ad l) (hlen:l.length ≤ 100000) :
 Calls Tryz.prog 36 #[.slice ad l.length cap,.agg #[.int .i64 s.x,.int .i64 s.y]] w (Gives (.bool (anyN (fun k=>decide (s=pget l k)) l.length)) w):=by
 have HI:=Lib.hid (fun W h=>indexSeg_l l s ad cap W (hL.below h) hlen)
 have HA:=Lib.hid (first_any (fun k=>decide (s=pget l k)) l.length)
 clear hL
 generalize anyN (fun k=>decide (s=pget l k)) l.length=r at *
 generalize firstN (fun k=>decide (s=pget l k)) l.length=z at *
 obtain ⟨x,y⟩:=s
 dsimp only at *
 go_enter Tryz.func36,Tryz.ntmps36
 go_upto_region 1 with (fail)
 have HS:=Lib.hid (var2_new w (.int .i64 x) (.int .i64 y) 59 w.heap.size rfl)
 have HB:=Lib.hid (bl_one w (.cells #[.int .i64 x,.int .i64 y] 59))
 generalize w.alloc (.cells #[.int .i64 x,.int .i64 y] 59)=W1 at *
 obtain ⟨s0,s1⟩:=HS.out.two
 go_wp2_with fail
 (with_reducible refine (HI.out _ HB.out).mono ?_);rintro e w1 ⟨rfl,hb1⟩
 replace HB:=Lib.hid (bl_trans HB.out hb1)
 clear hb1 HI s0 s1 HS
 rcases HA.out with ⟨rfl,rfl⟩ | ⟨h0,rfl⟩
 ·go_wp2_with fail
  go_ret
  exact ⟨rfl,HB.out⟩
 ·have b1:(0 ≤ z)=True:=eq_true h0
  clear h0
  go_wp2_with fail
  go_ret
  exact ⟨rfl,HB.out⟩
/-- past all segments and points -/
def passB (p S:List Pt) (a b:Nat):Bool:=!(anyN (fun k=>badB ⟨pget p a,pget p b⟩ (segF p (pget S k))) S.length) && !(anyN (fun k=>insideB (pget p a) (pget p b) (pget p k)) p.length)
set_option maxHeartbeats 8000000 in
set_option maxRecDepth 100000 in
theorem passes_l (p l i S:List Pt) (a b:Nat) (ha:a < p.length) (hb:b < p.length) (ad:Option Addr) (cap:Nat) (ap al ai:Option Addr) (cp cl ci:Nat) (w:World) (hA:Pol w ap al ai cp cl ci p l i) (hR:PtRow w ad S) (hSl:S.length ≤ 100000) (hS:∀ k,k < S.length → sgInB p.length (pget S k)=true) :
 Calls Tryz.prog 37 #[.agg #[.slice ap p.length cp,.slice al l.length cl,.slice ai i.length ci],.slice ad S.length cap,.int .i64 (a:Int),.int .i64 (b:Int)] w (Gives (.bool (passB p S a b)) w):=by
 have hpp:=hA.pp
 obtain ⟨gp,op,rfl⟩:=hpp.some (by omega)
 have HA:=Lib.hid hA
 have HR:=Lib.hid hR
 have HSl:=Lib.hid hSl
 have HSi:=Lib.hid hS
 have HLp:=Lib.hid hA.lenP
 clear hA hR hSl hS
 obtain ⟨x,hx⟩:∃ x,pget p a=x:=⟨_,rfl⟩
 obtain ⟨y,hy⟩:∃ y,pget p b=y:=⟨_,rfl⟩
 have HPa:Hid (passB p S a b=(!(anyN (fun k=>badB ⟨x,y⟩ (segF p (pget S k))) S.length) && !(anyN (fun k=>insideB x y (pget p k)) p.length))):=by unfold Hid passB;rw [hx,hy]
 obtain ⟨c0,c1⟩:=ptRow_at hpp ha hx
 obtain ⟨c2,c3⟩:=ptRow_at hpp hb hy
 have HC0:=Lib.hid c0
 have HC1:=Lib.hid c1
 have HC2:=Lib.hid c2
 have HC3:=Lib.hid c3
 clear hpp hx hy c0 c1 c2 c3
 generalize passB p S a b=r at *
 have b1:((a:Int) < (p.length:Int))=True:=eq_true (by omega)
 have d1:(a < p.length)=True:=eq_true ha
 have e1:((0:Int) ≤ (a:Int))=True:=eq_true (by omega)
 have b2:((b:Int) < (p.length:Int))=True:=eq_true (by omega)
 have d2:(b < p.length)=True:=eq_true hb
 have e2:((0:Int) ≤ (b:Int))=True:=eq_true (by omega)
 go_enter Tryz.func37,Tryz.ntmps37
 go_upto_region 1 with (fail)
 have HB:=Lib.hid (bl_one w (.cells #[.slice (some ⟨gp,op,none⟩) p.length cp,.slice al l.length cl,.slice ai i.length ci] 25))
 have HV:=Lib.hid (var3_new w (.slice (some ⟨gp,op,none⟩) p.length cp) (.slice al l.length cl) (.slice ai i.length ci) 25 w.heap.size rfl)
 generalize w.alloc (.cells #[.slice (some ⟨gp,op,none⟩) p.length cp,.slice al l.length cl,.slice ai i.length ci] 25)=W1 at *
 obtain ⟨k0,k1,k2⟩:=HV.out.three
 have c0:=(HB.out.cell (cell_lt HC0.out)).trans HC0.out
 have c1:=(HB.out.cell (cell_lt HC1.out)).trans HC1.out
 have c2:=(HB.out.cell (cell_lt HC2.out)).trans HC2.out
 have c3:=(HB.out.cell (cell_lt HC3.out)).trans HC3.out
 clear HC0 HC1 HC2 HC3
 have hgw:=HV.out.lt
 have hgp:=cell_lt c0
 go_cut [9,10] (fun s9 s10 W=>∃ h9 h10:Nat,s9=.pointer (some ⟨h9,0,none⟩)∧s10=.pointer (some ⟨h10,0,none⟩)∧Var W h9 [.int .i64 x.x,.int .i64 x.y]∧Var W h10 [.int .i64 y.x,.int .i64 y.y]∧Below W1.heap.size W1 W)
 case first=>
  go_region
  ·go_wp2_with fail
   go_meet
   case rel=>exact ⟨_,_,rfl,rfl,((var2_new W1 (.int .i64 x.x) (.int .i64 x.y) 64 _ rfl).below (bl_one _ _)).below (bel_drew _),(var2_new (W1.alloc (.cells #[.int .i64 x.x,.int .i64 x.y] 64)) (.int .i64 y.x) (.int .i64 y.y) 64 _ (by simp)).below (bel_drew _),(bl_trans (bl_one _ _) (bl_one _ _)).drew⟩
  ·go_wp2_with fail
   go_meet
   case rel=>exact ⟨_,_,rfl,rfl,(var2_new (W1.alloc (.cells #[.int .i64 y.x,.int .i64 y.y] 64)) (.int .i64 x.x) (.int .i64 x.y) 64 _ (by simp)).below (bel_drew _),((var2_new W1 (.int .i64 y.x) (.int .i64 y.y) 64 _ rfl).below (bl_one _ _)).below (bel_drew _),(bl_trans (bl_one _ _) (bl_one _ _)).drew⟩
 case rest=>
  obtain ⟨h9,h10,rfl,rfl,hvx,hvy,hb⟩:=hcut
  clear k0 k1 k2 c0 c1 c2 c3 hgw hgp
  have HVX:=Lib.hid hvx
  have HVY:=Lib.hid hvy
  have HB1:=Lib.hid hb
  have HB2:=Lib.hid (bl_trans HB.out hb)
  clear hvx hvy hb
  have HVP:=Lib.hid (HV.out.below HB1.out)
  have HC:=Lib.hid (containsFS_l (cap:=cap) 65 #[.pointer (some ⟨h9,0,none⟩),.pointer (some ⟨h10,0,none⟩),.pointer (some ⟨w.heap.size,0,none⟩)] (fun _ _=>rfl) S ad (fun k=>badB ⟨x,y⟩ (segF p (pget S k))) (fun _ W=>Below wc.heap.size wc W) (fun _ W h=>(HR.out.below HB2.out).below h) (fun k W hk h=>by
   obtain ⟨x0,x1,y0,y1⟩:=sgInB_iff.1 (HSi.out k hk)
   obtain ⟨u,eu,hu,pu⟩:=ptI_at x0 x1
   obtain ⟨v,ev,hv,pv⟩:=ptI_at y0 y1
   have:=pas1_l p l i u v x y hu hv _ al ai cp cl ci W (HA.out.below (bl_trans HB2.out h)) w.heap.size h9 h10 (HVP.out.below h) (HVX.out.below h) (HVY.out.below h)
   rw [← eu,← ev] at this
   unfold segF
   rw [pu,pv]
   exact this.mono (fun e W' hg=>⟨hg.1,bl_trans h hg.2⟩)) HSl.out wc (Below.refl _ _))
  obtain ⟨k0,k1,k2⟩:=HVP.out.three
  have HC2:=Lib.hid (fun W3 (h3:Below wc.heap.size wc W3)=>containsFP_l (cap:=cp) 67 #[.pointer (some ⟨h9,0,none⟩),.pointer (some ⟨h10,0,none⟩)] (fun _ _=>rfl) p (some ⟨gp,op,none⟩) (fun k=>insideB x y (pget p k)) (fun _ W=>Below W3.heap.size W3 W) (fun _ W h=>((HA.out.pp.below HB2.out).below h3).below h) (fun k W hk h=>(pas2_l x y (pget p k) W h9 h10 ((HVX.out.below h3).below h) ((HVY.out.below h3).below h)).mono (fun e W' hg=>⟨hg.1,bl_trans h hg.2⟩)) (by have:=HLp.out;omega) W3 (Below.refl _ _))
  generalize anyN (fun k=>badB ⟨x,y⟩ (segF p (pget S k))) S.length=r1 at *
  generalize anyN (fun k=>insideB x y (pget p k)) p.length=r2 at *
  go_wp2_with fail
  (with_reducible refine HC.out.mono ?_);rintro e w3 ⟨rfl,-,hb3⟩
  have HB3:=Lib.hid hb3
  clear hb3 HC k0 k1 k2
  obtain ⟨k0,k1,k2⟩:=(HVP.out.below HB3.out).three
  cases r1
  ·go_wp2_with fail
   (with_reducible refine (HC2.out _ HB3.out).mono ?_);rintro e w4 ⟨rfl,-,hb4⟩
   have HB4:=Lib.hid (bl_trans HB2.out (bl_trans HB3.out hb4))
   clear hb4 HC2 k0 k1 k2
   cases r2
   ·go_wp2_with fail
    go_ret
    exact ⟨by rw [HPa.out];rfl,HB4.out⟩
   ·go_wp2_with fail
    go_ret
    exact ⟨by rw [HPa.out];rfl,HB4.out⟩
  ·have HB4:=Lib.hid (bl_trans HB2.out HB3.out)
   go_wp2_with fail
   go_ret
   exact ⟨by rw [HPa.out];rfl,HB4.out⟩
end Go.Proofs.YtpjaefcmaiimlaaGreat
