/-
  Contract of rings.loop.
-/
import Derived.Test.YtpjaefcmaiimlaaGreatRMems
import Derived.Deep.OwnRows
import Derived.Test.YtpjaefcmaiimlaaGreatRMaths
set_option linter.unusedVariables false
set_option linter.unusedSimpArgs false
set_option linter.deprecated false
namespace Go.Proofs.YtpjaefcmaiimlaaGreat
open Go.RowKit

theorem oi_one (W:World) (x:Int):Oi W (.slice (some ⟨W.heap.size,0,none⟩) 1 1) [x] (W.alloc (.cells #[.int .i64 x] 3)):=
 ⟨⟨rfl,.inr ⟨W.heap.size,1,#[.int .i64 x],rfl,Nat.le_refl _,heap_alloc_new W _,Nat.le_refl _,by unfold maxLen;omega,rfl,rfl⟩⟩,bl_one _ _,by simp⟩
set_option maxHeartbeats 8000000 in
set_option maxRecDepth 100000 in
theorem loop_l (K:List Pt) (Kf:Int → Pt) (n f:Nat) (ad:Option Addr) (cap:Nat) (w:World) (hK:K.length=n) (hKf:∀ a:Nat,a < n → pget K a=Kf (a:Int)) (hN:Net Kf (n:Int)) (hf:f < n) (ha:(Kf (f:Int)).x ≠ (Kf (f:Int)).y) (hn:n ≤ 10000) (hP:PtRow w ad K) :
  Calls Tryz.prog 89 #[.slice ad n cap,.int .i64 (f:Int)] w fun e w'=>∃ v,e=.returned v∧Oi w v (ringF Kf n (f:Int)) w':=by
 obtain ⟨g,o,rfl⟩:=hP.some (by omega)
 have HP:=Lib.hid hP
 have HKF:=Lib.hid hKf
 have HN:=Lib.hid hN
 have HA:=Lib.hid ha
 have HK:=Lib.hid hK
 obtain ⟨k0,k1⟩:=ptRow_at hP (i:=f) (by omega) (hKf f hf)
 obtain ⟨x,hx⟩:∃ x,(Kf (f:Int)).x=x:=⟨_,rfl⟩
 obtain ⟨y,hy⟩:∃ y,(Kf (f:Int)).y=y:=⟨_,rfl⟩
 obtain ⟨q,hq⟩:∃ q,min x y=q:=⟨_,rfl⟩
 rw [hx] at k0
 rw [hy] at k1
 have hqq:Hid (min (Kf (f:Int)).x (Kf (f:Int)).y=q):=by rw [hx,hy];exact hq
 clear hP hKf hN ha hx hy hK
 go_enter Tryz.func89,Tryz.ntmps89
 go_upto_region 2 with (fail)
 have HO1:=Lib.hid (oi_one w (f:Int))
 have k2:=((bl_one w (.cells #[.int .i64 (f:Int)] 3)).cell (cell_lt k0)).trans k0
 have k3:=((bl_one w (.cells #[.int .i64 (f:Int)] 3)).cell (cell_lt k1)).trans k1
 generalize w.alloc (.cells #[.int .i64 (f:Int)] 3)=W9 at *
 generalize w.heap.size=g5 at *
 clear k0 k1
 have k0:=k2
 have k1:=k3
 clear k2 k3
 refine wp_region_held_drew (S:=fun V=>Below W9.heap.size W9 V) (by kernel_rfl) ?_ (fun hHeld=>?_)
 ·exact bel_drew W9
 revert hHeld
 generalize World.drew _=W1
 intro hHeld 
 refine tk (i:=0) (v:=?_) rfl (Or.inl ⟨by rfl,?_⟩) ?_
 rotate_left;· rintro _ -;go_simp;all_goals (with_reducible rfl)
 try simp only [Act.put,x2,x4,x5,x6,x7]
 refine tk (i:=1) (v:=?_) rfl (Or.inl ⟨by rfl,?_⟩) ?_
 rotate_left;· rintro _ -;go_simp;all_goals (with_reducible rfl)
 try simp only [Act.put,x2,x3,x4,x5,x6,x7]
 refine tk (i:=2) (v:=?_) rfl (Or.inl ⟨by rfl,?_⟩) ?_
 rotate_left;· rintro _ -;go_simp;all_goals (with_reducible rfl)
 try simp only [Act.put,x2,x3,x4,x5,x6,x7]
 refine tk (i:=3) (v:=?_) rfl (Or.inl ⟨by rfl,?_⟩) ?_
 rotate_left
 ·intro Wq hSw
  have c3:((0:Int) ≤ (f:Int))=True:=eq_true (by omega)
  have c4:((f:Int) < (n:Int))=True:=eq_true (by omega)
  have d4:(f < n)=True:=eq_true hf
  clear hSw
  go_simp;all_goals (with_reducible rfl)
 try simp only [Act.put,x2,x3,x4,x5,x6,x7]
 refine tk (i:=4) (v:=?_) rfl (Or.inl ⟨by rfl,?_⟩) ?_
 rotate_left;· rintro _ -;go_simp;all_goals (with_reducible rfl)
 try simp only [Act.put,x2,x3,x4,x5,x6,x7]
 refine tk (i:=5) (v:=?_) rfl (Or.inl ⟨by rfl,?_⟩) ?_
 rotate_left
 ·intro Wq hSw
  have k2:=(hSw.cell (cell_lt k0)).trans k0
  clear hSw
  go_simp;all_goals (with_reducible rfl)
 try simp only [Act.put,x2,x3,x4,x5,x6,x7]
 refine tk (i:=6) (v:=?_) rfl (Or.inl ⟨by rfl,?_⟩) ?_
 rotate_left;· rintro _ -;go_simp;all_goals (with_reducible rfl)
 try simp only [Act.put,x2,x3,x4,x5,x6,x7]
 refine tk (i:=7) (v:=?_) rfl (Or.inl ⟨by rfl,?_⟩) ?_
 rotate_left;· rintro _ -;go_simp;all_goals (with_reducible rfl)
 try simp only [Act.put,x2,x3,x4,x5,x6,x7]
 refine tk (i:=8) (v:=?_) rfl (Or.inl ⟨by rfl,?_⟩) ?_
 rotate_left
 ·intro Wq hSw
  have c3:((0:Int) ≤ (f:Int))=True:=eq_true (by omega)
  have c4:((f:Int) < (n:Int))=True:=eq_true (by omega)
  have d4:(f < n)=True:=eq_true hf
  clear hSw
  go_simp;all_goals (with_reducible rfl)
 try simp only [Act.put,x2,x3,x4,x5,x6,x7]
 refine tk (i:=9) (v:=?_) rfl (Or.inl ⟨by rfl,?_⟩) ?_
 rotate_left;· rintro _ -;go_simp;all_goals (with_reducible rfl)
 try simp only [Act.put,x2,x3,x4,x5,x6,x7]
 refine tk (i:=10) (v:=?_) rfl (Or.inl ⟨by rfl,?_⟩) ?_
 rotate_left
 ·intro Wq hSw
  have k2:=(hSw.cell (cell_lt k1)).trans k1
  clear hSw
  go_simp;all_goals (with_reducible rfl)
 try simp only [Act.put,x2,x3,x4,x5,x6,x7]
 refine tk (i:=11) (v:=?_) rfl (Or.inl ⟨by rfl,?_⟩) ?_
 rotate_left;· rintro _ -;go_simp;all_goals (with_reducible rfl)
 try simp only [Act.put,x2,x3,x4,x5,x6,x7]
 refine tk (i:=12) (v:=?_) rfl (Or.inl ⟨by rfl,?_⟩) ?_
 rotate_left;· rintro _ -;go_simp;all_goals (with_reducible rfl)
 try simp only [Act.put,x2,x3,x4,x5,x6,x7]
 refine tk (i:=13) (v:=?_) rfl (Or.inl ⟨by rfl,?_⟩) ?_
 rotate_left;· rintro _ -;go_simp;all_goals (with_reducible rfl)
 try simp only [Act.put,x2,x3,x4,x5,x6,x7]
 refine wpAnyH_done (by kernel_rfl) ?_ _
 have HO2:=Lib.hid (HO1.out.below hHeld)
 clear HO1 hHeld k0 k1
 have HS:Hid (∃ c,Way Kf (n:Int) (f:Int) [(f:Int)] (f:Int) q c):=by
  have h1:q=(Kf (f:Int)).x ∨ q=(Kf (f:Int)).y:=by have:=hqq.out;omega
  exact ⟨_,Way.start (by omega) (by omega) HA.out h1⟩
 have HRG:Hid ([(f:Int)] ++ loopF Kf (f:Int) (n + 1 - 1) (f:Int) q=ringF Kf n (f:Int)):=by
  unfold ringF
  rw [hqq.out]
  rfl
 clear hq hqq HA
 go_wp2_with fail
 go_loopw [5,6,7] (fun v bv pv W=>∃ (R:List Int) (b p c:Int),bv=.int .i64 b∧pv=.int .i64 p∧Way Kf (n:Int) (f:Int) R b p c∧R ++ loopF Kf (f:Int) (n + 1 - R.length) b p=ringF Kf n (f:Int)∧Oi w v R W) (fun v _ _ _=>n + 1 - vlen v)
 case atStart=>
  obtain ⟨c,hc⟩:=HS.out
  exact ⟨_,_,_,c,rfl,rfl,hc,HRG.out,HO2.out⟩
 case round=>
  obtain ⟨R,b,p,c,rfl,rfl,hW,hR,hO⟩:=hrel
  clear HS HRG HO2
  have HO:=Lib.hid hO
  have HW:=Lib.hid hW
  have HR:=Lib.hid hR
  obtain ⟨adR,cpR,rfl,-,-,-⟩:=hO.slice
  clear hO hW hR
  by_cases hpf:p=(f:Int)
  ·have b0:(p=(f:Int))=True:=eq_true hpf
   have b1:(p != (f:Int))=false:=by rw [hpf];simp
   have HE:Hid (R=ringF Kf n (f:Int)):=by
    rw [← HR.out,hpf,loopF_end,List.append_nil]
    exact rfl
   clear hpf
   go_wp2_with fail
   go_ret
   exact ⟨_,rfl,by rw [← HE.out];exact HO.out⟩
  ·have b0:(p=(f:Int))=False:=eq_false hpf
   have b1:(p != (f:Int))=true:=bne_iff_ne.2 hpf
   have hin:=HW.out.inn b HW.out.hb
   have hpn:=HN.out b hin.1 hin.2.1 hin.2.2 p HW.out.hp
   have HW2:=Lib.hid (HW.out.step HN.out hpf)
   have hmo:=HW.out.more HN.out hpf
   obtain ⟨a,ha⟩:=Int.eq_ofNat_of_zero_le hpn.1
   have han:a < n:=by omega
   have HR2:Hid ((R ++ [p]) ++ loopF Kf (f:Int) (n + 1 - (R ++ [p]).length) p (nextF Kf b p)=ringF Kf n (f:Int)):=by
    rw [← HR.out,List.length_append,List.length_singleton,show n + 1 - R.length=(n + 1 - (R.length + 1)) + 1 by omega,loopF_step hpf,List.append_assoc]
    rfl
   clear hin hpn hpf HR HW
   subst ha
   obtain ⟨k0,k1⟩:=ptRow_at HP.out (i:=a) (by have:=HK.out;omega) (HKF.out a han)
   obtain ⟨x,hx⟩:∃ x,(Kf (a:Int)).x=x:=⟨_,rfl⟩
   obtain ⟨y,hy⟩:∃ y,(Kf (a:Int)).y=y:=⟨_,rfl⟩
   rw [hx] at k0
   rw [hy] at k1
   have HNX:Hid (nextF Kf b (a:Int)=if x=b then y else x):=by unfold nextF;rw [hx,hy];exact rfl
   clear hx hy
   have c3:((0:Int) ≤ (a:Int))=True:=eq_true (by omega)
   have c4:((a:Int) < (n:Int))=True:=eq_true (by omega)
   have d4:(a < n)=True:=eq_true han
   go_wp2_with (at_builtin;refine app_ints rfl _ _ rfl rfl (HO.out.alloc _) rfl (L:=[(a:Int)]) rfl (intRow_new _ _ _) (fun h=>by cases h) ?x1 ?_)
   case x1=>simp;omega
   intro v1 w1 hO1
   have HO1:=Lib.hid hO1
   replace k0:=(hO1.hb.cell (cell_lt k0)).trans k0
   replace k1:=(hO1.hb.cell (cell_lt k1)).trans k1
   obtain ⟨ad1,cp1,rfl,-,-,-⟩:=hO1.slice
   clear hO1 HO
   by_cases hxb:x=b
   ·have e0:(x=b)=True:=eq_true hxb
    have e1:(x == b)=true:=beq_iff_eq.2 hxb
    rw [if_pos hxb] at HNX
    rw [HNX.out] at HR2 HW2
    clear hxb HNX
    go_wp2_with fail
    refine ⟨⟨_,_,_,_,rfl,rfl,HW2.out,HR2.out,HO1.out⟩,?_⟩
    simp [vlen]
    omega
   ·have e0:(x=b)=False:=eq_false hxb
    have e1:(x == b)=false:=beq_eq_false_iff_ne.2 hxb
    rw [if_neg hxb] at HNX
    rw [HNX.out] at HR2 HW2
    clear hxb HNX
    go_wp2_with fail
    refine ⟨⟨_,_,_,_,rfl,rfl,HW2.out,HR2.out,HO1.out⟩,?_⟩
    simp [vlen]
    omega
end Go.Proofs.YtpjaefcmaiimlaaGreat

/-
  Rows of rows of numbers, in memory.
-/
namespace Go.Proofs.YtpjaefcmaiimlaaGreat
open Go.RowKit

/-- a slice of slices of numbers -/
def RowsAt (W:World) (ad:Option Addr) (L:List (List Int)):Prop:=
 ∀ i (h:i < L.length),∃ g o ad' cap',ad=some ⟨g,o,none⟩∧W.cell? ⟨g,o + i,none⟩=some (.slice ad' L[i].length cap')∧L[i].length ≤ cap'∧IntRow W ad' L[i]∧(ad'=none → cap'=0)
theorem RowsAt.below {W W':World} {ad:Option Addr} {L:List (List Int)} (h:RowsAt W ad L) (hb:Below W.heap.size W W'):RowsAt W' ad L:=by
 intro i hi
 obtain ⟨g,o,ad',cap',e,h1,h2,h3,h4⟩:=h i hi
 exact ⟨g,o,ad',cap',e,(hb.cell (cell_lt h1)).trans h1,h2,h3.below hb,h4⟩
theorem RowsAt.some {W:World} {ad:Option Addr} {L:List (List Int)} (h:RowsAt W ad L) (h0:0 < L.length):∃ g o,ad=some ⟨g,o,none⟩:=by
 obtain ⟨g,o,_,_,e,-⟩:=h 0 h0
 exact ⟨g,o,e⟩
theorem RowsAt.at {W:World} {g o:Nat} {L:List (List Int)} (h:RowsAt W (.some ⟨g,o,none⟩) L) {i:Nat} (hi:i < L.length) {M:List Int} (e:L[i]=M):∃ ad' cap',W.cell? ⟨g,o + i,none⟩=.some (.slice ad' M.length cap')∧M.length ≤ cap'∧IntRow W ad' M∧(ad'=none → cap'=0):=by
 obtain ⟨g',o',ad',cap',e1,h1,h2,h3,h4⟩:=h i hi
 simp only [Option.some.injEq,Addr.mk.injEq,and_true] at e1
 obtain ⟨rfl,rfl⟩:=e1
 subst e
 exact ⟨ad',cap',h1,h2,h3,h4⟩
def IsRows (W:World) (v:Value) (L:List (List Int)):Prop:=∃ ad cap,v=.slice ad L.length cap∧L.length ≤ cap∧RowsAt W ad L∧(ad=none → cap=0)
theorem IsRows.below {W W':World} {v:Value} {L:List (List Int)} (h:IsRows W v L) (hb:Below W.heap.size W W'):IsRows W' v L:=
 let ⟨ad,cap,e,c,r,n⟩:=h
 ⟨ad,cap,e,c,r.below hb,n⟩
/-- all blocks from B on are as they were -/
structure Keep (B:Nat) (W W':World):Prop where
 size:W.heap.size ≤ W'.heap.size
 block:∀ k,B ≤ k → k < W.heap.size → W'.heap[k]?=W.heap[k]?
theorem keep_below {B:Nat} {W W':World} (h:Below W.heap.size W W'):Keep B W W':=⟨h.size,fun k _ hk=>h.block k hk⟩
theorem keep_set {B:Nat} (W:World) {p:Addr} (hp:p.block < B) (u:Value):Keep B W (W.setCell p u):=⟨by simp [World.setCell],fun k hk _=>Below.heap_setCell _ _ _ _ (by omega)⟩
theorem cell_block {W W':World} {b o:Nat} (h:W'.heap[b]?=W.heap[b]?):W'.cell? ⟨b,o,none⟩=W.cell? ⟨b,o,none⟩:=by unfold World.cell?;rw [h]
theorem IntRow.block {W W':World} {ad:Option Addr} {M:List Int} (h:IntRow W ad M) (hb:0 < M.length → ∀ g o,ad=.some ⟨g,o,none⟩ → W'.heap[g]?=W.heap[g]?):IntRow W' ad M:=by
 intro i hi
 obtain ⟨g,o,e,h1⟩:=h i hi
 exact ⟨g,o,e,by rw [cell_block (hb (by omega) g o e)];exact h1⟩
/-- an element: a row in another block than blk, from block B on -/
def InRow (B:Nat) (blk:Option Nat) (W:World) (u:Value) (M:List Int):Prop:=
 ∃ ad cap,u=.slice ad M.length cap∧M.length ≤ cap∧IntRow W ad M∧(ad=none → cap=0)∧(0 < M.length → ∀ g o,ad=some ⟨g,o,none⟩ → B ≤ g∧g < W.heap.size∧some g ≠ blk)
theorem InRow.keep {B:Nat} {blk:Option Nat} {W W':World} {u:Value} {M:List Int} (h:InRow B blk W u M) (hk:Keep B W W'):InRow B blk W' u M:=by
 obtain ⟨ad,cap,e,h1,h2,h3,h4⟩:=h
 refine ⟨ad,cap,e,h1,h2.block fun h0 g o e=>?_,h3,fun h0 g o e=>?_⟩
 ·exact hk.block g (h4 h0 g o e).1 (h4 h0 g o e).2.1
 ·exact ⟨(h4 h0 g o e).1,Nat.lt_of_lt_of_le (h4 h0 g o e).2.1 hk.size,(h4 h0 g o e).2.2⟩
/-- a row of rows, the call's own -/
structure Orr (B:Nat) (v:Value) (L:List (List Int)) (W:World):Prop where
 ex:∃ vs:List Value,vs.length=L.length∧W.ownsRow B 43 1 v L.length vs∧∀ i (h:i < L.length) (h':i < vs.length),InRow B v.ownBlock W vs[i] L[i]
 sz:B ≤ W.heap.size
theorem orr_nil (W:World) (B:Nat) (h:B ≤ W.heap.size):Orr B (.slice none 0 0) [] W:=⟨⟨[],rfl,World.ownsRow_nil _ _ _ _,fun _ h=>absurd h (Nat.not_lt_zero _)⟩,h⟩
theorem owns_keep {B:Nat} {e:TypeId} {n k:Nat} {v:Value} {vs:List Value} {W W':World} (h:W.ownsRow B e n v k vs) (hk:Keep B W W'):W'.ownsRow B e n v k vs:=by
 refine ⟨h.1,?_⟩
 rcases h.2 with h | ⟨g,cap,cur,rfl,hb0,hc,rest⟩
 ·exact .inl h
 ·exact .inr ⟨g,cap,cur,rfl,hb0,(hk.block g hb0 (Array.getElem?_eq_some_iff.1 hc).1).trans hc,rest⟩
theorem Orr.keep {B:Nat} {v:Value} {L:List (List Int)} {W W':World} (h:Orr B v L W) (hk:Keep B W W'):Orr B v L W':=by
 obtain ⟨vs,h1,h2,h3⟩:=h.ex
 exact ⟨⟨vs,h1,owns_keep h2 hk,fun i a b=>(h3 i a b).keep hk⟩,Nat.le_trans h.sz hk.size⟩
theorem Orr.rows {B:Nat} {v:Value} {L:List (List Int)} {W:World} (h:Orr B v L W):IsRows W v L:=by
 obtain ⟨vs,h1,h2,h3⟩:=h.ex
 rcases h2.2 with ⟨rfl,hn⟩ | ⟨g,cap,cur,rfl,-,-,hcap,-⟩
 ·exact ⟨none,0,by rw [hn],by omega,fun i hi=>absurd hi (by omega),fun _=>rfl⟩
 ·refine ⟨_,cap,rfl,hcap,fun i hi=>?_,fun h=>by cases h⟩
  have hc:=h2.cells (g:=g) rfl
  obtain ⟨ad,c,e,k1,k2,k3,-⟩:=h3 i hi (by omega)
  have hcc:=hc i vs[i] (by simp)
  rw [add_plain,e] at hcc
  exact ⟨g,0,ad,c,rfl,hcc,k1,k2,k3⟩
theorem cells_of (W:World) (u:Value) (t:TypeId):∀ j x,[u][j]?=some x → (W.alloc (.cells #[u] t)).cell? ((⟨W.heap.size,0,none⟩:Addr).add j)=some x:=by
 intro j x hj
 match j,hj with
 | 0,hj=>simp at hj;subst hj;simp [Addr.add]
/-- one row more -/
theorem app_row {ops:Array Oper} {rest:List Oper} {o:Oper} {a:Act} {Q:Exit → Act → World → Prop} {W:World} {B:Nat} {L:List (List Int)} {M:List Int} {v u:Value} {ad:Addr} {c:Nat} (hgd:o.guard=none) (s x:Operand)
  (ho:o.op=.call { callee:=.builtin .append,args:=#[s,x],argTypes:=#[37,37] }) (hs:a.eval s=v) (hO:Orr B v L W) (hx:a.eval x=.slice (some ad) 1 c) (hc:∀ j y,[u][j]?=some y → W.cell? (ad.add j)=some y)
  (hu:InRow B v.ownBlock W u M) (hlen:L.length ≤ 1000000) (h:∀ v' W',Orr B v' (L ++ [M]) W' → W.grownBy W' v.ownBlock → wpList Tryz.prog ops Q rest (a.put o.dst v') W'):wpList Tryz.prog ops Q (o :: rest) a W:=by
 obtain ⟨e0,hi0,hz0,hz1,hz2⟩:=info_parts info_rows
 obtain ⟨vs,h1,h2,h3⟩:=hO.ex
 obtain ⟨adu,capu,rfl,u1,u2,u3,u4⟩:=hu
 refine wpList_append_own_at W hgd s x 37 ho B 43 e0 (.slice none 0 0) 1 24 Tryz.underlying37 hi0 hz0 hz1 hz2 rfl (by decide) v L.length vs hs h2 ad 1 c [.slice adu M.length capu] hx rfl hc (by simp [Value.oneCell']) (by unfold maxLen;omega) (by omega) hO.sz fun v' W' hown hg hnil hloc=>h v' W' ?_ hg
 refine ⟨⟨vs ++ [.slice adu M.length capu],by simp [h1],by simpa using hown,?_⟩,Nat.le_trans hO.sz hg.size⟩
 have key:∀ {u':Value} {M':List Int},InRow B v.ownBlock W u' M' → InRow B v'.ownBlock W' u' M':=by
  rintro u' M' ⟨ad',cap',e,k1,k2,k3,k4⟩
  refine ⟨ad',cap',e,k1,k2.block fun h0 g o e=>hg.block g (k4 h0 g o e).2.1 (k4 h0 g o e).2.2,k3,fun h0 g o e=>⟨(k4 h0 g o e).1,Nat.lt_of_lt_of_le (k4 h0 g o e).2.1 hg.size,?_⟩⟩
  rcases hloc with e' | e'
  ·rw [e'];exact (k4 h0 g o e).2.2
  ·rw [e'];have:=(k4 h0 g o e).2.1;simp;omega
 intro i hi hi'
 rcases Nat.lt_or_ge i L.length with hl | hl
 ·rw [List.getElem_append_left (by omega),List.getElem_append_left hl]
  exact key (h3 i hl (by omega))
 ·have e1:i=L.length:=by simp at hi;omega
  subst e1
  rw [List.getElem_append_right (by omega),List.getElem_append_right (by omega)]
  simp only [h1,Nat.sub_self,List.getElem_cons_zero]
  exact key ⟨adu,capu,rfl,u1,u2,u3,u4⟩
theorem rowIs_below {W W':World} {b n:Nat} {t:TypeId} {f:Nat → Value} (h:W.rowIs b t n f) (hb:Below W.heap.size W W'):W'.rowIs b t n f:=h.of_block (hb.block b h.lt)
theorem rowIs_grown {W W':World} {b n:Nat} {t:TypeId} {f:Nat → Value} {r:Option Nat} (h:W.rowIs b t n f) (hg:W.grownBy W' r) (hne:some b ≠ r):W'.rowIs b t n f:=h.of_block (hg.block b h.lt hne)
end Go.Proofs.YtpjaefcmaiimlaaGreat

/-
  Contract of rings.loops.
-/
namespace Go.Proofs.YtpjaefcmaiimlaaGreat
open Go.RowKit

theorem info_bool:(Tryz.prog.info? 4).map (fun i=>(i.zero,i.size,i.bytes))=some (some (.bool false),1,1):=by kernel_rfl
/-- is it in one of the loops? -/
def inB (L:List (List Int)) (i:Int):Bool:=L.any fun r=>r.contains i
set_option maxHeartbeats 8000000 in
set_option maxRecDepth 100000 in
theorem loops_l (K:List Pt) (Kf:Int → Pt) (n:Nat) (ad:Option Addr) (cap:Nat) (w:World) (hK:K.length=n) (hKf:∀ a:Nat,a < n → pget K a=Kf (a:Int)) (hN:Net Kf (n:Int)) (hn:n ≤ 10000) (hP:PtRow w ad K) :
  Calls Tryz.prog 58 #[.slice ad n cap] w fun e w'=>∃ v,e=.returned v∧IsRows w' v (ringsTo Kf n n)∧Below w.heap.size w w':=by
 have HP:=Lib.hid hP
 have HKF:=Lib.hid hKf
 have HN:=Lib.hid hN
 have HK:=Lib.hid hK
 have HCL:=Lib.hid (fun (f:Nat) W (h:PtRow W ad K) (h1:f < n) (h2:(Kf (f:Int)).x ≠ (Kf (f:Int)).y)=>loop_l K Kf n f ad cap W hK hKf hN h1 h2 hn h)
 clear hP hKf hN hK
 have hmk:=run_make_row' (P:=Tryz.prog) 114 4 (.bool false) 1 Tryz.underlying114 info_bool rfl .i64 .i64 n (by omega) (by omega)
 go_enter Tryz.func58,Tryz.ntmps58
 go_upto_region 3 with (fail)
 clear hmk
 have HR1:=Lib.hid (World.rowIs_made w (.bool false) n 4)
 have HB1:=Lib.hid (bl_one w (.cells (madeCells #[.bool false] n) 4))
 have hW1:(w.alloc (.cells (madeCells #[.bool false] n) 4)).heap.size=w.heap.size + 1:=by simp
 generalize w.alloc (.cells (madeCells #[.bool false] n) 4)=W1 at *
 have HRI:Hid (Orr (w.heap.size + 1) (.slice none 0 0) (ringsTo Kf n 0) W1):=orr_nil W1 _ (by omega)
 obtain ⟨gp,hgp⟩:∃ g,w.heap.size=g:=⟨_,rfl⟩
 have HGP:=Lib.hid hgp
 rw [hgp] at HR1 HRI hW1 ⊢
 clear hgp
 go_wp2_with fail
 go_loopw [3,15] (fun v iv W=>∃ m:Nat,m ≤ n∧iv=.int .i64 m∧Orr (gp + 1) v (ringsTo Kf n m) W∧W.rowIs gp 4 n (fun i=>.bool (inB (ringsTo Kf n m) (i:Int)))∧Below w.heap.size w W) (fun _ iv _=>n - (intOf iv).toNat)
 case atStart=>exact ⟨0,Nat.zero_le _,rfl,HRI.out,HR1.out,HB1.out⟩
 case round=>
  obtain ⟨m,hm,rfl,hO,hR,hB⟩:=hrel
  clear HRI HR1 HB1
  have HO:=Lib.hid hO
  have HR:=Lib.hid hR
  have HB:=Lib.hid hB
  obtain ⟨adL,cpL,hvL⟩:∃ adL cpL,_=Value.slice adL (ringsTo Kf n m).length cpL:=by obtain ⟨a,c,e,-⟩:=hO.rows;exact ⟨a,c,e⟩
  subst hvL
  clear hO hR hB
  by_cases hlt:m < n
  ·have b2:((m:Int) < (n:Int))=True:=eq_true (by omega)
   have d2:(m < n)=True:=eq_true hlt
   have c2:((0:Int) ≤ (m:Int))=True:=eq_true (by omega)
   obtain ⟨g,o,rfl⟩:=HP.out.some (by have:=HK.out;omega)
   obtain ⟨k0,k1⟩:=ptRow_at (HP.out.below HB.out) (i:=m) (by have:=HK.out;omega) (HKF.out m hlt)
   have k2:=HR.out.cell hlt
   obtain ⟨x,hx⟩:∃ x,(Kf (m:Int)).x=x:=⟨_,rfl⟩
   obtain ⟨y,hy⟩:∃ y,(Kf (m:Int)).y=y:=⟨_,rfl⟩
   obtain ⟨r,hr⟩:∃ r,inB (ringsTo Kf n m) (m:Int)=r:=⟨_,rfl⟩
   have HX:=Lib.hid hx
   have HY:=Lib.hid hy
   have HRR:=Lib.hid hr
   rw [hx] at k0
   rw [hy] at k1
   rw [hr] at k2
   clear hx hy hr
   go_upto_region 6 with (fail)
   have HV:=Lib.hid (var2_new wr (.int .i64 x) (.int .i64 y) 115 wr.heap.size rfl)
   have HO2:=Lib.hid (HO.out.keep (keep_below (bl_one wr (.cells #[.int .i64 x,.int .i64 y] 115))))
   have HR2:=Lib.hid (HR.out.alloc (.cells #[.int .i64 x,.int .i64 y] 115))
   have HB2:=Lib.hid (bl_alloc HB.out (.cells #[.int .i64 x,.int .i64 y] 115))
   generalize wr.alloc (.cells #[.int .i64 x,.int .i64 y] 115)=W2 at *
   generalize wr.heap.size=g6 at *
   obtain ⟨v0,v1⟩:=HV.out.two
   clear HO HR HB k0 k1 k2
   have k2:=HR2.out.cell hlt
   rw [HRR.out] at k2
   obtain ⟨m1,m2,m3,m4⟩:=wnum (i:=m) (by omega)
   cases r
   ·by_cases hxy:x=y
    ·subst hxy
     have HSK:Hid (ringsTo Kf n (m + 1)=ringsTo Kf n m):=ringsTo_skip (by rw [HX.out,HY.out];simp)
     have e0:(x == x)=true:=by simp
     go_wp2_with fail
     clear m1 m2 m3 m4
     refine ⟨⟨m + 1,hlt,by rw [Int.natCast_add];rfl,?_⟩,by simp [intOf];omega⟩
     rw [HSK.out]
     exact ⟨HO2.out,HR2.out,HB2.out⟩
    ·have e0:(x=y)=False:=eq_false hxy
     have e1:(x == y)=false:=beq_eq_false_iff_ne.2 hxy
     have hact:(Kf (m:Int)).x ≠ (Kf (m:Int)).y:=by rw [HX.out,HY.out];exact hxy
     have HNW:Hid (ringsTo Kf n (m + 1)=ringsTo Kf n m ++ [ringF Kf n (m:Int)]):=ringsTo_new (by
      have h1:=HRR.out
      unfold inB at h1
      rw [h1]
      simp [hact])
     have HRI:Hid (∀ r ∈ ringF Kf n (m:Int),0 ≤ r∧r < (n:Int)):=fun r hr=>by
      have:=ring_in HN.out (by omega) (by omega) hact hr
      exact ⟨this.1,this.2.1⟩
     have hRL:(ringF Kf n (m:Int)).length ≤ n:=ring_len HN.out (by omega) (by omega) hact
     have hR0:0 < (ringF Kf n (m:Int)).length:=by unfold ringF;simp
     have HC:=Lib.hid (HCL.out m W2 (HP.out.below HB2.out) hlt hact)
     clear hact hxy HX HY
     generalize ringF Kf n (m:Int)=R at *
     go_wp2_with fail
     (with_reducible refine HC.out.mono ?_);rintro e w3 ⟨v3,rfl,hO3⟩
     have HB3:=Lib.hid (bl_trans HB2.out hO3.hb)
     have HO3:=Lib.hid (HO2.out.keep (keep_below hO3.hb))
     have HR3:=Lib.hid (rowIs_below HR2.out hO3.hb)
     have HIN:Hid (InRow (gp + 1) (Value.slice adL (ringsTo Kf n m).length cpL).ownBlock w3 v3 R):=by
      obtain ⟨a,c,e,h1,h2,h3⟩:=hO3.slice
      refine ⟨a,c,e,h1,h2,h3,fun _ g o e'=>?_⟩
      subst e e'
      have h4:=hO3.own.lt g rfl
      refine ⟨Nat.le_trans HO2.out.sz h4.1,h4.2,fun e'=>?_⟩
      obtain ⟨vs,-,hw,-⟩:=HO2.out.ex
      have:=(hw.lt g e'.symm).2
      omega
     obtain ⟨a3,c3,rfl,hc3,hI3,hn3⟩:=hO3.slice
     have hI4:Hid (∀ g o,a3=some ⟨g,o,none⟩ → g ≠ gp):=by
      intro g o e
      have h1:=(hO3.own.lt g (by rw [e];rfl)).1
      have h2:=HR2.out.lt
      omega
     have HI3:=Lib.hid hI3
     clear hI3 hn3 hO3 HC HO2 HR2 HB2 v0 v1 k2 HV m1 m2 m3 m4
     obtain ⟨g3,o3,rfl⟩:=HI3.out.some hR0
     have hg3:=hI4.out g3 o3 rfl
     go_wp2_with fail
     go_loopw [36] (fun jv W=>∃ j:Nat,j ≤ R.length∧jv=.int .i64 j∧IntRow W (some ⟨g3,o3,none⟩) R∧Orr (gp + 1) (.slice adL (ringsTo Kf n m).length cpL) (ringsTo Kf n m) W∧InRow (gp + 1) (Value.slice adL (ringsTo Kf n m).length cpL).ownBlock W (.slice (some ⟨g3,o3,none⟩) R.length c3) R ∧
       W.rowIs gp 4 n (fun i=>.bool (inB (ringsTo Kf n m) (i:Int) || (R.take j).contains (i:Int)))∧Below w.heap.size w W) (fun jv _=>R.length - (intOf jv).toNat)
     case atStart=>exact ⟨0,Nat.zero_le _,rfl,HI3.out,HO3.out,HIN.out,HR3.out.congr (fun i _=>by simp),HB3.out⟩
     case round=>
      obtain ⟨j,hj,rfl,hI,hO,hIN,hR,hB⟩:=hrel
      clear HI3 HO3 HIN HR3 HB3
      have HI:=Lib.hid hI
      have HO:=Lib.hid hO
      have HIN:=Lib.hid hIN
      have HR:=Lib.hid hR
      have HB:=Lib.hid hB
      clear hI hO hIN hR hB
      by_cases hjl:j < R.length
      ·have q1:((j:Int) < (R.length:Int))=True:=eq_true (by omega)
       have q2:(j < R.length)=True:=eq_true hjl
       have q3:((0:Int) ≤ (j:Int))=True:=eq_true (by omega)
       have hin:=HRI.out _ (List.getElem_mem hjl)
       obtain ⟨a,ha⟩:=Int.eq_ofNat_of_zero_le hin.1
       have han:a < n:=by omega
       have k5:=intRow_at HI.out hjl ha
       have q4:((0:Int) ≤ (a:Int))=True:=eq_true (by omega)
       have q5:((a:Int) < (n:Int))=True:=eq_true (by omega)
       have q6:(a < n)=True:=eq_true han
       have f5:=HR.out.frozen a
       have k6:=HR.out.cell han
       have HR5:Hid ((wr.setCell ⟨gp,a,none⟩ (.bool true)).rowIs gp 4 n (fun i=>.bool (inB (ringsTo Kf n m) (i:Int) || (R.take (j + 1)).contains (i:Int)))):=by
        refine (HR.out.set a (.bool true)).congr fun i hi=>?_
        rw [List.take_succ_eq_append_getElem hjl,ha]
        by_cases e:i=a
        ·subst e
         rw [if_pos rfl]
         simp
        ·rw [if_neg e]
         have:((i:Int)=(a:Int))=False:=eq_false (by omega)
         simp [this]
       have HKP:=Lib.hid (keep_set (B:=gp + 1) wr (p:=⟨gp,a,none⟩) (by dsimp only;omega) (.bool true))
       have HO5:=Lib.hid (HO.out.keep HKP.out)
       have HIN5:=Lib.hid (HIN.out.keep HKP.out)
       have HB5:=Lib.hid (bl_set HB.out (p:=⟨gp,a,none⟩) (by have:=HGP.out;dsimp only;omega) (.bool true))
       have HI5:=Lib.hid (HI.out.other (g:=gp) (j:=a) (fun g o e=>by cases e;exact hg3) (.bool true))
       clear hin ha HKP
       obtain ⟨m1,m2,m3,m4⟩:=wnum (i:=j) (by omega)
       go_wp2_with fail
       clear m1 m2 m3 m4
       exact ⟨⟨j + 1,hjl,by rw [Int.natCast_add];rfl,HI5.out,HO5.out,HIN5.out,HR5.out,HB5.out⟩,by simp [intOf];omega⟩
      ·obtain rfl:j=R.length:=by omega
       have q1:((R.length:Int) < (R.length:Int))=False:=eq_false (by omega)
       have hll:=ringsTo_len Kf n m
       go_wp2_with (at_builtin;refine app_row rfl _ _ rfl rfl (HO.out.keep (keep_below (bl_one _ _))) rfl (cells_of _ _ _) (HIN.out.keep (keep_below (bl_one _ _))) (by omega) ?_)
       intro v5 w5 hO5 hG5
       rw [← HNW.out] at hO5
       have HO5:=Lib.hid hO5
       have hown:∀ k,(Value.slice adL (ringsTo Kf n m).length cpL).ownBlock=some k → gp + 1 ≤ k:=fun k e=>by
        obtain ⟨vs,-,hw,-⟩:=HO.out.ex
        exact (hw.lt k e).1
       have HR5:Hid (w5.rowIs gp 4 n (fun i=>.bool (inB (ringsTo Kf n (m + 1)) (i:Int)))):=by
        refine (rowIs_grown (HR.out.alloc _) hG5 (fun e=>?_)).congr fun i hi=>?_
        ·have:=hown gp e.symm
         omega
        ·rw [HNW.out,List.take_length]
         simp [inB]
       have HB5:Hid (Below w.heap.size w w5):=(bl_alloc HB.out _).grown hG5 (by have:=HB.out.size;simp;omega) (fun k e=>by have:=hown k e;have:=HGP.out;omega)
       clear hO5 hG5 hown HO HIN HR HB HI
       obtain ⟨m1,m2,m3,m4⟩:=wnum (i:=m) (by omega)
       go_wp2_with fail
       clear m1 m2 m3 m4
       exact ⟨⟨m + 1,hlt,by rw [Int.natCast_add];rfl,HO5.out,HR5.out,HB5.out⟩,by simp [intOf];omega⟩
   ·have HSK:Hid (ringsTo Kf n (m + 1)=ringsTo Kf n m):=ringsTo_skip (by
     have h1:=HRR.out
     unfold inB at h1
     rw [h1]
     rfl)
    go_wp2_with fail
    clear m1 m2 m3 m4
    refine ⟨⟨m + 1,hlt,by rw [Int.natCast_add];rfl,?_⟩,by simp [intOf];omega⟩
    rw [HSK.out]
    exact ⟨HO2.out,HR2.out,HB2.out⟩
  ·obtain rfl:m=n:=by omega
   have b2:((m:Int) < (m:Int))=False:=eq_false (by omega)
   go_wp2_with fail
   go_ret
   exact ⟨_,rfl,HO.out.rows,HB.out⟩
end Go.Proofs.YtpjaefcmaiimlaaGreat

/-
  Contract of rings.Rings.
-/
namespace Go.Proofs.YtpjaefcmaiimlaaGreat
open Go.RowKit

def RingsP (n:Int) (l:List Pt) (w:World) (e:Ending) (w':World):Prop:=
 ∃ v,e=.returned (.tuple #[v,.int .i64 (ringsR n l).2.1,.int .i64 (ringsR n l).2.2])∧IsRows w' v (ringsR n l).1∧Below w.heap.size w w'
theorem rows_nil (W:World):IsRows W (.slice none 0 0) []:=⟨none,0,rfl,Nat.le_refl _,fun _ h=>absurd h (Nat.not_lt_zero _),fun _=>rfl⟩
theorem firstN_congr {q r:Nat → Bool} {n:Nat} (h:∀ i,i < n → q i=r i):firstN q n=firstN r n:=by
 rcases firstN_cases r n with ⟨e,k⟩ | ⟨k,a,e,b,c⟩
 ·rw [e,firstN_no (fun i hi=>by rw [h i hi];exact k i hi)]
 ·rw [e,firstN_at a (by rw [h k a];exact b) (fun i hi=>by rw [h i (by omega)];exact c i hi)]
theorem ringsR_arg {n:Int} {l:List Pt} (h:¬ okL n l):ringsR n l=([],0,2):=by unfold ringsR;rw [if_neg h]
theorem ringsR_twice {n:Int} {l:List Pt} (h:okL n l) (h2:0 ≤ againF l):ringsR n l=([],againF l,80):=by unfold ringsR;rw [if_pos h,if_pos h2]
theorem ringsR_fork {n:Int} {l:List Pt} (h:okL n l) (h2:againF l < 0) (h3:0 ≤ forkF n.toNat l):ringsR n l=([],forkF n.toNat l,81):=by unfold ringsR;rw [if_pos h,if_neg (by omega),if_pos h3]
theorem ringsR_ok {n:Int} {l:List Pt} (h:okL n l) (h2:againF l < 0) (h3:forkF n.toNat l < 0):ringsR n l=(ringsTo (pr l) n.toNat n.toNat,0,0):=by unfold ringsR;rw [if_pos h,if_neg (by omega),if_neg (by omega)]
theorem rings_ret {n:Int} {l:List Pt} {w w':World} {v:Value} {L:List (List Int)} {i e:Int} (h:ringsR n l=(L,i,e)) (hv:IsRows w' v L) (hb:Below w.heap.size w w'):RingsP n l w (.returned (.tuple #[v,.int .i64 i,.int .i64 e])) w':=
 ⟨v,by rw [h],by rw [h];exact hv,hb⟩
set_option maxHeartbeats 8000000 in
set_option maxRecDepth 100000 in
theorem rings_l (n:Int) (l:List Pt) (ad:Option Addr) (cap:Nat) (w:World) (hP:PtRow w ad l) (hn:n ≤ 10000 ∨ 1048576 < n) (hlen:l.length ≤ 10000) :
  Calls Tryz.prog 32 #[.int .i64 n,.slice ad l.length cap] w (RingsP n l w):=by
 have HP:=Lib.hid hP
 have HD:=Lib.hid (degrees_l n l ad cap w hP hn hlen)
 clear hP
 go_enter Tryz.func32,Tryz.ntmps32
 go_wp2_with fail
 (with_reducible refine HD.out.mono ?_)
 rintro e w1 (⟨hok,v,rfl,hO⟩ | ⟨hok,rfl,hB⟩)
 ·have hn2:n ≤ 10000:=by have:=hok.2.1;omega
  obtain ⟨m,rfl⟩:=Int.eq_ofNat_of_zero_le hok.1
  rw [Int.toNat_natCast] at hO
  have HOK:=Lib.hid hok
  have HB1:=Lib.hid hO.hb
  obtain ⟨aD,cD,rfl,hcD,hID,hnD⟩:=hO.slice
  have HID:=Lib.hid hID
  have HAG:=Lib.hid (fun W (h:Below w.heap.size w W)=>again_l l ad cap W (HP.out.below h) hlen (fun s hs=>by have:=hok.2.2 s hs;unfold okS at this;unfold i64;omega))
  obtain ⟨ag,hag⟩:∃ z,againF l=z:=⟨_,rfl⟩
  rw [hag] at HAG
  have HA:=Lib.hid hag
  have hdl:=degs_len m l
  clear hID hnD hO hok HD hag hn
  go_wp2_with fail
  (with_reducible refine (HAG.out _ HB1.out).mono ?_);rintro e w2 ⟨rfl,hb2⟩
  have HB2:=Lib.hid (bl_trans HB1.out hb2)
  replace HID:=Lib.hid (HID.out.below hb2)
  clear hb2 HAG HB1
  by_cases h0:0 ≤ ag
  ·have b0:(0 ≤ ag)=True:=eq_true h0
   have HRR:Hid (ringsR (m:Int) l=([],ag,80)):=by rw [ringsR_twice HOK.out (by rw [HA.out];exact h0),HA.out];exact rfl
   clear h0
   go_wp2_with fail
   go_ret3
   exact rings_ret HRR.out (rows_nil _) HB2.out
  ·have b0:(0 ≤ ag)=False:=eq_false h0
   have HA2:Hid (againF l < 0):=by rw [HA.out];exact (show ag < 0 by omega)
   have HIX:=Lib.hid (indexFuncI_l 57 #[] (fun _ _=>rfl) (degs m l) aD cD (fun k=>decide ((degs m l).getD k 0 ≠ 0) && decide ((degs m l).getD k 0 ≠ 2)) (fun _ W=>IntRow W aD (degs m l)∧Below w.heap.size w W) (fun _ _ h=>h.1) (fun k W hk h=>(fork_l _ W).mono (fun e W' hg=>⟨hg.1,h.1.below hg.2,bl_trans h.2 hg.2⟩)) (by omega) w2 ⟨HID.out,HB2.out⟩)
   have hfk:firstN (fun k=>decide ((degs m l).getD k 0 ≠ 0) && decide ((degs m l).getD k 0 ≠ 2)) (degs m l).length=forkF m l:=by
    rw [hdl]
    refine firstN_congr fun i hi=>?_
    have:(degs m l).getD i 0=(deg l (i:Int):Int):=by
     rw [List.getD_eq_getElem?_getD,List.getElem?_eq_getElem (by omega),Option.getD_some,degs_at]
    rw [this]
    unfold forkB
    congr 1
    ·exact decide_eq_decide.2 (by omega)
    ·exact decide_eq_decide.2 (by omega)
   rw [hfk] at HIX
   obtain ⟨fk,hfk2⟩:∃ z,forkF m l=z:=⟨_,rfl⟩
   rw [hfk2,hdl] at HIX
   have HF:=Lib.hid hfk2
   clear hfk hfk2 h0 HA
   go_wp2_with fail
   (with_reducible refine HIX.out.mono ?_);rintro e w3 ⟨rfl,-,-,hB3⟩
   have HB3:=Lib.hid hB3
   clear hB3 HIX HB2 HID
   by_cases h1:0 ≤ fk
   ·have b1:(0 ≤ fk)=True:=eq_true h1
    have HRR:Hid (ringsR (m:Int) l=([],fk,81)):=by rw [ringsR_fork HOK.out HA2.out (by rw [Int.toNat_natCast,HF.out];exact h1),Int.toNat_natCast,HF.out];exact rfl
    clear h1
    go_wp2_with fail
    go_ret3
    exact rings_ret HRR.out (rows_nil _) HB3.out
   ·have b1:(0 ≤ fk)=False:=eq_false h1
    have HF2:Hid (forkF m l < 0):=by rw [HF.out];exact (show fk < 0 by omega)
    have HRR:Hid (ringsR (m:Int) l=(ringsTo (pr l) m m,0,0)):=by rw [ringsR_ok HOK.out HA2.out (by rw [Int.toNat_natCast];exact HF2.out),Int.toNat_natCast];exact rfl
    have HNB:=Lib.hid (neighbours_l m l ad cap w3 (HP.out.below HB3.out) HOK.out (by omega) hlen)
    have HG:=Lib.hid (good_of HOK.out HA2.out HF2.out)
    clear h1 HF
    go_wp2_with fail
    (with_reducible refine HNB.out.mono ?_);rintro e w4 ⟨v4,rfl,hO4⟩
    have HB4:=Lib.hid (bl_trans HB3.out hO4.hb)
    obtain ⟨a4,c4,rfl,-,hP4,-⟩:=hO4.slice
    have HL:=Lib.hid (loops_l (prs m l) (pr l) m a4 c4 w4 (prs_len _ _) (fun a ha=>prs_get ha) HG.out.net (by omega) hP4)
    have hpl:=prs_len m l
    rw [hpl]
    clear hP4 hO4 HNB HB3
    go_wp2_with fail
    (with_reducible refine HL.out.mono ?_);rintro e w5 ⟨v5,rfl,hR5,hb5⟩
    have HR5:=Lib.hid hR5
    have HB5:=Lib.hid (bl_trans HB4.out hb5)
    clear hR5 hb5 HL HB4
    go_wp2_with fail
    go_ret3
    exact rings_ret HRR.out (HR5.out) HB5.out
 ·have HB:=Lib.hid hB
  have HRR:=Lib.hid (ringsR_arg hok)
  clear hok hB HD
  go_wp2_with fail
  go_ret3
  exact rings_ret HRR.out (rows_nil _) HB.out
end Go.Proofs.YtpjaefcmaiimlaaGreat
