/-
  Rows of rows beside another row that grows.
-/
import Derived.Test.YtpjaefcmaiimlaaGreatRFAll
import Derived.Test.YtpjaefcmaiimlaaGreatROrdMath
set_option linter.unusedVariables false
set_option linter.unusedSimpArgs false
set_option linter.deprecated false
namespace Go.Proofs.YtpjaefcmaiimlaaGreat
open Go.RowKit

/-- a row of rows, the call's own, and none of its blocks is X -/
structure OrrX (B:Nat) (v:Value) (L:List (List Int)) (X:Option Nat) (W:World):Prop where
 ex:∃ vs:List Value,vs.length=L.length∧W.ownsRow B 43 1 v L.length vs∧∀ i (h:i < L.length) (h':i < vs.length),InRow B v.ownBlock W vs[i] L[i]∧InRow B X W vs[i] L[i]
 sep:∀ g,X=some g → v.ownBlock ≠ some g
 sz:B ≤ W.heap.size
theorem orrX_nil (W:World) (B:Nat) (X:Option Nat) (h:B ≤ W.heap.size):OrrX B (.slice none 0 0) [] X W:=⟨⟨[],rfl,World.ownsRow_nil _ _ _ _,fun _ h=>absurd h (Nat.not_lt_zero _)⟩,fun _ _ e=>(by cases e),h⟩
theorem OrrX.keep {B:Nat} {v:Value} {L:List (List Int)} {X:Option Nat} {W W':World} (h:OrrX B v L X W) (hk:Keep B W W'):OrrX B v L X W':=by
 obtain ⟨vs,h1,h2,h3⟩:=h.ex
 exact ⟨⟨vs,h1,owns_keep h2 hk,fun i a b=>⟨(h3 i a b).1.keep hk,(h3 i a b).2.keep hk⟩⟩,h.sep,Nat.le_trans h.sz hk.size⟩
theorem OrrX.rows {B:Nat} {v:Value} {L:List (List Int)} {X:Option Nat} {W:World} (h:OrrX B v L X W):IsRows W v L:=by
 obtain ⟨vs,h1,h2,h3⟩:=h.ex
 exact (⟨⟨vs,h1,h2,fun i a b=>(h3 i a b).1⟩,h.sz⟩:Orr B v L W).rows
theorem OrrX.lt {B:Nat} {v:Value} {L:List (List Int)} {X:Option Nat} {W:World} (h:OrrX B v L X W):∀ k,v.ownBlock=some k → B ≤ k∧k < W.heap.size:=by
 obtain ⟨vs,-,h2,-⟩:=h.ex
 exact h2.lt
theorem owns_grown {B:Nat} {e:TypeId} {n k:Nat} {v:Value} {vs:List Value} {W W':World} {X:Option Nat} (h:W.ownsRow B e n v k vs) (hg:W.grownBy W' X) (hs:∀ g,X=some g → v.ownBlock ≠ some g):W'.ownsRow B e n v k vs:=by
 refine ⟨h.1,?_⟩
 rcases h.2 with h | ⟨g,cap,cur,rfl,hb0,hc,rest⟩
 ·exact .inl h
 ·refine .inr ⟨g,cap,cur,rfl,hb0,(hg.block g (Array.getElem?_eq_some_iff.1 hc).1 (fun e=>?_)).trans hc,rest⟩
  exact hs g e.symm rfl
theorem InRow.grown {B:Nat} {blk X:Option Nat} {W W':World} {u:Value} {M:List Int} (h:InRow B blk W u M) (h2:InRow B X W u M) (hg:W.grownBy W' X):InRow B blk W' u M:=by
 obtain ⟨ad,cap,e,k1,k2,k3,k4⟩:=h
 obtain ⟨ad',cap',e',-,-,-,k5⟩:=h2
 rw [e] at e'
 cases e'
 exact ⟨ad,cap,e,k1,k2.block fun h0 g o e=>hg.block g (k4 h0 g o e).2.1 (k5 h0 g o e).2.2,k3,fun h0 g o e=>⟨(k4 h0 g o e).1,Nat.lt_of_lt_of_le (k4 h0 g o e).2.1 hg.size,(k4 h0 g o e).2.2⟩⟩
theorem InRow.fresh {B:Nat} {blk:Option Nat} {W W':World} {u:Value} {M:List Int} {n:Nat} (h:InRow B blk W' u M) (h2:InRow B blk W u M) (hn:W.heap.size ≤ n):InRow B (some n) W' u M:=by
 obtain ⟨ad,cap,e,k1,k2,k3,k4⟩:=h
 obtain ⟨ad',cap',e',-,-,-,k5⟩:=h2
 rw [e] at e'
 cases e'
 exact ⟨ad,cap,e,k1,k2,k3,fun h0 g o e=>⟨(k4 h0 g o e).1,(k4 h0 g o e).2.1,fun e2=>by have:=(k5 h0 g o e).2.1;simp at e2;omega⟩⟩
/-- the other row has grown -/
theorem OrrX.other {B:Nat} {v:Value} {L:List (List Int)} {X X':Option Nat} {W W':World} (h:OrrX B v L X W) (hg:W.grownBy W' X) (hl:X'=X ∨ X'=some W.heap.size):OrrX B v L X' W':=by
 obtain ⟨vs,h1,h2,h3⟩:=h.ex
 refine ⟨⟨vs,h1,owns_grown h2 hg h.sep,fun i a b=>⟨(h3 i a b).1.grown (h3 i a b).2 hg,?_⟩⟩,?_,Nat.le_trans h.sz hg.size⟩
 ·have k:=(h3 i a b).2.grown (h3 i a b).2 hg
  rcases hl with rfl | rfl
  ·exact k
  ·exact k.fresh (h3 i a b).2 (Nat.le_refl _)
 ·rcases hl with rfl | rfl
  ·exact h.sep
  ·intro g e e2
   have:=(h2.lt g e2).2
   simp at e
   omega
/-- one row more -/
theorem app_rowX {ops:Array Oper} {rest:List Oper} {o:Oper} {a:Act} {Q:Exit → Act → World → Prop} {W:World} {B:Nat} {L:List (List Int)} {M:List Int} {v u:Value} {X:Option Nat} {ad:Addr} {c:Nat} (hgd:o.guard=none) (s x:Operand)
  (ho:o.op=.call { callee:=.builtin .append,args:=#[s,x],argTypes:=#[37,37] }) (hs:a.eval s=v) (hO:OrrX B v L X W) (hx:a.eval x=.slice (some ad) 1 c) (hc:∀ j y,[u][j]?=some y → W.cell? (ad.add j)=some y)
  (hu:InRow B v.ownBlock W u M) (hu2:InRow B X W u M) (hX:∀ g,X=some g → g < W.heap.size) (hlen:L.length ≤ 1000000) (h:∀ v' W',OrrX B v' (L ++ [M]) X W' → W.grownBy W' v.ownBlock → wpList Tryz.prog ops Q rest (a.put o.dst v') W'):wpList Tryz.prog ops Q (o :: rest) a W:=by
 obtain ⟨e0,hi0,hz0,hz1,hz2⟩:=info_parts info_rows
 obtain ⟨vs,h1,h2,h3⟩:=hO.ex
 have hu3:=hu
 obtain ⟨adu,capu,rfl,u1,u2,u3,u4⟩:=hu3
 refine wpList_append_own_at W hgd s x 37 ho B 43 e0 (.slice none 0 0) 1 24 Tryz.underlying37 hi0 hz0 hz1 hz2 rfl (by decide) v L.length vs hs h2 ad 1 c [.slice adu M.length capu] hx rfl hc (by simp [Value.oneCell']) (by unfold maxLen;omega) (by omega) hO.sz fun v' W' hown hg hnil hloc=>h v' W' ?_ hg
 have key:∀ {u':Value} {M':List Int},InRow B v.ownBlock W u' M' → InRow B v'.ownBlock W' u' M':=fun {u' M'} k=>by
  have k2:=k.grown k hg
  rcases hloc with e' | e'
  ·rw [e'];exact k2
  ·rw [e'];exact k2.fresh k (Nat.le_refl _)
 refine ⟨⟨vs ++ [.slice adu M.length capu],by simp [h1],by simpa using hown,?_⟩,?_,Nat.le_trans hO.sz hg.size⟩
 ·intro i hi hi'
  rcases Nat.lt_or_ge i L.length with hl | hl
  ·rw [List.getElem_append_left (by omega),List.getElem_append_left hl]
   exact ⟨key (h3 i hl (by omega)).1,(h3 i hl (by omega)).2.grown (h3 i hl (by omega)).1 hg⟩
  ·have e1:i=L.length:=by simp at hi;omega
   subst e1
   rw [List.getElem_append_right (by omega),List.getElem_append_right (by omega)]
   simp only [h1,Nat.sub_self,List.getElem_cons_zero]
   exact ⟨key hu,hu2.grown hu hg⟩
 ·intro g e e2
  rcases hloc with e' | e'
  ·rw [e'] at e2;exact hO.sep g e e2
  ·rw [e'] at e2
   have:=hX g e
   simp at e2
   omega
/-- numbers appended to a row of the call's own: where it lies then -/
theorem app_ints_at {ops:Array Oper} {rest:List Oper} {o:Oper} {a:Act} {Q:Exit → Act → World → Prop} {w W:World} {D L:List Int} {v:Value} {g k m c:Nat} (hgd:o.guard=none) (s x:Operand)
  (ho:o.op=.call { callee:=.builtin .append,args:=#[s,x],argTypes:=#[43,43] }) (hs:a.eval s=v) (hO:Oi w v D W) (hx:a.eval x=.slice (some ⟨g,k,none⟩) m c) (hm:m=L.length) (hL:IntRow W (some ⟨g,k,none⟩) L)
  (hlen:D.length + L.length ≤ 1000000) (h:∀ v' W',Oi w v' (D ++ L) W' → W.grownBy W' v.ownBlock → (v'.ownBlock=v.ownBlock ∨ v'.ownBlock=some W.heap.size) → wpList Tryz.prog ops Q rest (a.put o.dst v') W'):wpList Tryz.prog ops Q (o :: rest) a W:=by
 obtain ⟨e0,hi0,hz0,hz1,hz2⟩:=info_parts info_int
 subst hm
 refine wpList_append_own_at W hgd s x 43 ho w.heap.size 3 e0 (.int .i64 0) 1 8 Tryz.underlying43 hi0 hz0 hz1 hz2 rfl (by decide) v _ _ hs hO.own _ _ c (iv L) hx (iv_len _) (iv_cells hL) (iv_one _) (by unfold maxLen;omega) (by omega) hO.sz fun v' W' ho hg _ hloc=>h v' W' ?_ hg hloc
 exact hO.more (by simp) ho hg
theorem Oi.other {w W W':World} {v:Value} {L:List Int} {X:Option Nat} (h:Oi w v L W) (hg:W.grownBy W' X) (hs:∀ g,X=some g → v.ownBlock ≠ some g) (hX:∀ k,X=some k → w.heap.size ≤ k):Oi w v L W':=
 ⟨owns_grown h.own hg hs,h.hb.grown hg h.sz hX,Nat.le_trans h.sz hg.size⟩
/-- is a place in one of the rings? -/
theorem flat_in (L:List (List Int)) (x:Int):L.flatten.contains x=L.any fun r=>r.contains x:=by
 induction L with
 | nil=>rfl
 | cons R L ih=>
  rw [List.flatten_cons,List.any_cons,← ih]
  by_cases h1:x ∈ R <;> by_cases h2:x ∈ L.flatten <;> simp [h1,h2]
theorem flat_len {K:Int → Pt} {n:Nat} (N:Net K (n:Int)):∀ m,m ≤ n → (ringsTo K n m).flatten.length ≤ m * n
 | 0,_=>by simp [ringsTo]
 | m + 1,hm=>by
  have ih:=flat_len N m (by omega)
  have e:(m + 1) * n=m * n + n:=Nat.succ_mul m n
  rw [ringsTo]
  split
  ·omega
  ·next hc=>
   rw [List.flatten_append,List.length_append]
   have:=ring_len N (f:=(m:Int)) (by omega) (by omega) (fun e2=>hc (by rw [decide_eq_true e2];simp))
   simp only [List.flatten_cons,List.flatten_nil,List.append_nil]
   omega
end Go.Proofs.YtpjaefcmaiimlaaGreat

/-
  Contract of the document's Rings.
-/
namespace Go.Proofs.YtpjaefcmaiimlaaGreat
open Go.RowKit

theorem seen_no {l:List Pt} {i:Nat} (h:∀ t,t < i → norm (pget l t) ≠ norm (pget l i)) (hi:i < l.length):seenB l i=false:=by
 cases e:seenB l i with
 | false=>rfl
 | true=>
  obtain ⟨k,hk,e2⟩:=(seenB_iff hi).1 e
  have h1:=h k hk
  unfold pget at h1
  simp only [List.getD_eq_getElem?_getD,List.getElem?_eq_getElem hi,List.getElem?_eq_getElem (show k < l.length by omega),Option.getD_some] at h1
  exact absurd e2 h1
theorem seen_yes {l:List Pt} {i k:Nat} (hk:k < i) (hi:i < l.length) (h:norm (pget l i)=norm (pget l k)):seenB l i=true:=by
 refine (seenB_iff hi).2 ⟨k,hk,?_⟩
 unfold pget at h
 simp only [List.getD_eq_getElem?_getD,List.getElem?_eq_getElem hi,List.getElem?_eq_getElem (show k < l.length by omega),Option.getD_some] at h
 exact h.symm
set_option maxHeartbeats 8000000 in
set_option maxRecDepth 100000 in
theorem refRings_l (n:Int) (l:List Pt) (ad:Option Addr) (cap:Nat) (w:World) (hP:PtRow w ad l) (hn:n ≤ 300 ∨ 1048576 < n) (hlen:l.length ≤ 10000) :
  Calls Tryz.prog 34 #[.int .i64 n,.slice ad l.length cap] w (RingsP n l w):=by
 have HP:=Lib.hid hP
 have HD:=Lib.hid (refDegrees_l n l ad cap w hP (by omega) hlen)
 clear hP
 go_enter Tryz.func34,Tryz.ntmps34
 go_wp2_with fail
 (with_reducible refine HD.out.mono ?_)
 rintro e w1 (⟨hok,v,rfl,hO⟩ | ⟨hok,rfl,hB⟩)
 ·have hn2:n ≤ 300:=by have:=hok.2.1;omega
  obtain ⟨m,rfl⟩:=Int.eq_ofNat_of_zero_le hok.1
  rw [Int.toNat_natCast] at hO
  have HOK:=Lib.hid hok
  have HB1:=Lib.hid hO.hb
  obtain ⟨aD,cD,rfl,hcD,hID,hnD⟩:=hO.slice
  have HID:=Lib.hid hID
  have hdl:=degs_len m l
  rw [hdl]
  clear hID hnD hO hok HD hn
  go_wp2_with fail
  go_loopw [9] (fun iv W=>∃ i:Nat,i ≤ l.length∧iv=.int .i64 i∧(∀ j,j < i → seenB l j=false)∧Below w1.heap.size w1 W) (fun iv _=>l.length - (intOf iv).toNat)
  case atStart=>exact ⟨0,Nat.zero_le _,rfl,fun j h=>absurd h (Nat.not_lt_zero _),Below.refl _ _⟩
  case round=>
   obtain ⟨i,hi,rfl,hS,hB⟩:=hrel
   have HS:=Lib.hid hS
   have HBi:=Lib.hid hB
   clear hS hB
   by_cases hlt:i < l.length
   ·have q1:((i:Int) < (l.length:Int))=True:=eq_true (by omega)
    have q2:(i < l.length)=True:=eq_true hlt
    go_wp2_with fail
    go_loopw [10] (fun kv W=>∃ k:Nat,k ≤ i∧kv=.int .i64 k∧(∀ t,t < k → norm (pget l t) ≠ norm (pget l i))∧Below w.heap.size w W∧Below w1.heap.size w1 W) (fun kv _=>i - (intOf kv).toNat)
    case atStart=>exact ⟨0,Nat.zero_le _,rfl,fun j h=>absurd h (Nat.not_lt_zero _),bl_trans HB1.out HBi.out,HBi.out⟩
    case round=>
     obtain ⟨k,hk,rfl,hT,hB,hBx⟩:=hrel
     have HT:=Lib.hid hT
     have HB:=Lib.hid hB
     have HBx:=Lib.hid hBx
     clear hT hB hBx
     by_cases hkl2:k < i
     ·have hkl:k < l.length:=by omega
      have q3:((k:Int) < (i:Int))=True:=eq_true (by omega)
      have q4:(k < i)=True:=eq_true hkl2
      obtain ⟨g,o,rfl⟩:=HP.out.some (by omega)
      have HNE:Hid (∀ j,j < i → seenB l j=false):=HS.out
      by_cases he:norm (pget l i)=norm (pget l k)
      ·have HLK:Hid (decide (norm ⟨(pget l i).x,(pget l i).y⟩=norm ⟨(pget l k).x,(pget l k).y⟩)=true):=decide_eq_true he
       have HRR:Hid (ringsR (m:Int) l=([],(i:Int),80)):=by
        have ha:againF l=(i:Int):=firstN_at hlt (seen_yes hkl2 hlt he) HS.out
        rw [ringsR_twice HOK.out (by omega),ha]
        exact rfl
       clear he
       go_wp2_with fail
       refine wp_region_held_drew (S:=fun V=>Below wr.heap.size wr V) (by kernel_rfl) ?_ (fun hHeld=>?_)
       ·exact bel_drew wr
       revert hHeld
       generalize World.drew _=W1
       intro hHeld 
       refine tk (i:=0) (v:=?_) rfl (Or.inl ⟨by rfl,?_⟩) ?_
       rotate_left;· rintro _ -;go_simp;all_goals (with_reducible rfl)
       try simp only [Act.put,x2,x4,x5,x6,x7]
       refine tk (i:=1) (v:=?_) rfl (Or.inl ⟨by rfl,?_⟩) ?_
       rotate_left;· rintro _ -;go_simp;all_goals (with_reducible rfl)
       try simp only [Act.put,x2,x3,x4,x5,x6,x7]
       refine tk (i:=2) (v:=?_) rfl (Or.inl ⟨by rfl,?_⟩) ?_
       rotate_left
       ·intro Wq hSw
        have b1:((i:Int) < (l.length:Int))=True:=eq_true (by omega)
        have d1:(i < l.length)=True:=eq_true (by omega)
        have c1:((0:Int) ≤ (i:Int))=True:=eq_true (by omega)
        clear hSw
        go_simp;all_goals (with_reducible rfl)
       try simp only [Act.put,x2,x3,x4,x5,x6,x7]
       refine tk (i:=3) (v:=?_) rfl (Or.inl ⟨by rfl,?_⟩) ?_
       rotate_left
       ·intro Wq hSw
        obtain ⟨k0,k1⟩:=ptRow_at (HP.out.below (bl_trans HB.out hSw)) (i:=i) hlt (t:=pget l i) rfl
        clear hSw
        go_simp;all_goals (with_reducible rfl)
       try simp only [Act.put,x2,x3,x4,x5,x6,x7]
       refine tk (i:=4) (v:=?_) rfl (Or.inl ⟨by rfl,?_⟩) ?_
       rotate_left;· rintro _ -;go_simp;all_goals (with_reducible rfl)
       try simp only [Act.put,x2,x3,x4,x5,x6,x7]
       refine tk (i:=5) (v:=?_) rfl (Or.inl ⟨by rfl,?_⟩) ?_
       rotate_left;· rintro _ -;go_simp;all_goals (with_reducible rfl)
       try simp only [Act.put,x2,x3,x4,x5,x6,x7]
       refine tk (i:=6) (v:=?_) rfl (Or.inl ⟨by rfl,?_⟩) ?_
       rotate_left
       ·intro Wq hSw
        have b1:((k:Int) < (l.length:Int))=True:=eq_true (by omega)
        have d1:(k < l.length)=True:=eq_true (by omega)
        have c1:((0:Int) ≤ (k:Int))=True:=eq_true (by omega)
        clear hSw
        go_simp;all_goals (with_reducible rfl)
       try simp only [Act.put,x2,x3,x4,x5,x6,x7]
       refine tk (i:=7) (v:=?_) rfl (Or.inl ⟨by rfl,?_⟩) ?_
       rotate_left
       ·intro Wq hSw
        obtain ⟨k0,k1⟩:=ptRow_at (HP.out.below (bl_trans HB.out hSw)) (i:=k) hkl (t:=pget l k) rfl
        clear hSw
        go_simp;all_goals (with_reducible rfl)
       try simp only [Act.put,x2,x3,x4,x5,x6,x7]
       refine r1 (i:=8) rfl (fun K hK=>?_)
       go_simp
       (with_reducible refine (like_l (pget l i).x (pget l i).y (pget l k).x (pget l k).y _).mono ?_)
       rintro e w1 ⟨rfl,hb1⟩
       rw [HLK.out]
       go_wp2_with fail
       refine hK.out _ _ (bl_trans hHeld hb1) (fun hHeld2=>?_)
       clear hK K hHeld
       have hHeld:=hHeld2
       clear hHeld2
       try simp only [Act.put,x2,x3,x4,x5,x6,x7]
       refine wpAnyH_done (by kernel_rfl) ?_ _
       replace HB:=Lib.hid (bl_trans HB.out hHeld)
       replace HBx:=Lib.hid (bl_trans HBx.out hHeld)
       clear hHeld
       go_wp2_with fail
       go_ret3
       exact rings_ret HRR.out (rows_nil _) HB.out
      ·have HLK:Hid (decide (norm ⟨(pget l i).x,(pget l i).y⟩=norm ⟨(pget l k).x,(pget l k).y⟩)=false):=decide_eq_false he
       have HNX:Hid (∀ t,t < k + 1 → norm (pget l t) ≠ norm (pget l i)):=fun t ht=>by
        rcases Nat.lt_or_ge t k with h | h
        ·exact HT.out t h
        ·obtain rfl:t=k:=by omega
         exact fun e=>he e.symm
       clear he
       go_wp2_with fail
       refine wp_region_held_drew (S:=fun V=>Below wr.heap.size wr V) (by kernel_rfl) ?_ (fun hHeld=>?_)
       ·exact bel_drew wr
       revert hHeld
       generalize World.drew _=W1
       intro hHeld 
       refine tk (i:=0) (v:=?_) rfl (Or.inl ⟨by rfl,?_⟩) ?_
       rotate_left;· rintro _ -;go_simp;all_goals (with_reducible rfl)
       try simp only [Act.put,x2,x4,x5,x6,x7]
       refine tk (i:=1) (v:=?_) rfl (Or.inl ⟨by rfl,?_⟩) ?_
       rotate_left;· rintro _ -;go_simp;all_goals (with_reducible rfl)
       try simp only [Act.put,x2,x3,x4,x5,x6,x7]
       refine tk (i:=2) (v:=?_) rfl (Or.inl ⟨by rfl,?_⟩) ?_
       rotate_left
       ·intro Wq hSw
        have b1:((i:Int) < (l.length:Int))=True:=eq_true (by omega)
        have d1:(i < l.length)=True:=eq_true (by omega)
        have c1:((0:Int) ≤ (i:Int))=True:=eq_true (by omega)
        clear hSw
        go_simp;all_goals (with_reducible rfl)
       try simp only [Act.put,x2,x3,x4,x5,x6,x7]
       refine tk (i:=3) (v:=?_) rfl (Or.inl ⟨by rfl,?_⟩) ?_
       rotate_left
       ·intro Wq hSw
        obtain ⟨k0,k1⟩:=ptRow_at (HP.out.below (bl_trans HB.out hSw)) (i:=i) hlt (t:=pget l i) rfl
        clear hSw
        go_simp;all_goals (with_reducible rfl)
       try simp only [Act.put,x2,x3,x4,x5,x6,x7]
       refine tk (i:=4) (v:=?_) rfl (Or.inl ⟨by rfl,?_⟩) ?_
       rotate_left;· rintro _ -;go_simp;all_goals (with_reducible rfl)
       try simp only [Act.put,x2,x3,x4,x5,x6,x7]
       refine tk (i:=5) (v:=?_) rfl (Or.inl ⟨by rfl,?_⟩) ?_
       rotate_left;· rintro _ -;go_simp;all_goals (with_reducible rfl)
       try simp only [Act.put,x2,x3,x4,x5,x6,x7]
       refine tk (i:=6) (v:=?_) rfl (Or.inl ⟨by rfl,?_⟩) ?_
       rotate_left
       ·intro Wq hSw
        have b1:((k:Int) < (l.length:Int))=True:=eq_true (by omega)
        have d1:(k < l.length)=True:=eq_true (by omega)
        have c1:((0:Int) ≤ (k:Int))=True:=eq_true (by omega)
        clear hSw
        go_simp;all_goals (with_reducible rfl)
       try simp only [Act.put,x2,x3,x4,x5,x6,x7]
       refine tk (i:=7) (v:=?_) rfl (Or.inl ⟨by rfl,?_⟩) ?_
       rotate_left
       ·intro Wq hSw
        obtain ⟨k0,k1⟩:=ptRow_at (HP.out.below (bl_trans HB.out hSw)) (i:=k) hkl (t:=pget l k) rfl
        clear hSw
        go_simp;all_goals (with_reducible rfl)
       try simp only [Act.put,x2,x3,x4,x5,x6,x7]
       refine r1 (i:=8) rfl (fun K hK=>?_)
       go_simp
       (with_reducible refine (like_l (pget l i).x (pget l i).y (pget l k).x (pget l k).y _).mono ?_)
       rintro e w1 ⟨rfl,hb1⟩
       rw [HLK.out]
       go_wp2_with fail
       refine hK.out _ _ (bl_trans hHeld hb1) (fun hHeld2=>?_)
       clear hK K hHeld
       have hHeld:=hHeld2
       clear hHeld2
       try simp only [Act.put,x2,x3,x4,x5,x6,x7]
       refine wpAnyH_done (by kernel_rfl) ?_ _
       replace HB:=Lib.hid (bl_trans HB.out hHeld)
       replace HBx:=Lib.hid (bl_trans HBx.out hHeld)
       clear hHeld
       obtain ⟨m1,m2,m3,m4⟩:=wnum (i:=k) (by omega)
       go_wp2_with fail
       clear m1 m2 m3 m4
       exact ⟨⟨k + 1,hkl2,by rw [Int.natCast_add];rfl,HNX.out,HB.out,HBx.out⟩,by simp [intOf];omega⟩
     ·obtain rfl:k=i:=by omega
      have q3:((k:Int) < (k:Int))=False:=eq_false (by omega)
      have HNX:=Lib.hid (seen_no HT.out hlt)
      have HBk:Hid (Below w1.heap.size w1 wr):=HBx.out
      obtain ⟨m1,m2,m3,m4⟩:=wnum (i:=k) (by omega)
      go_wp2_with fail
      clear m1 m2 m3 m4
      refine ⟨⟨k + 1,hlt,by rw [Int.natCast_add];rfl,fun j hj=>?_,HBk.out⟩,by simp [intOf];omega⟩
      rcases Nat.lt_or_ge j k with h | h
      ·exact HS.out j h
      ·obtain rfl:j=k:=by omega
       exact HNX.out
   ·obtain rfl:i=l.length:=by omega
    have q1:((l.length:Int) < (l.length:Int))=False:=eq_false (by omega)
    have HA:Hid (againF l < 0):=by
     have:againF l = -1:=firstN_no HS.out
     exact (show againF l < 0 by omega)
    have HB2:=Lib.hid (bl_trans HB1.out HBi.out)
    have HID2:=Lib.hid (HID.out.below HBi.out)
    clear HS HBi HID HB1
    obtain ⟨W1,eW⟩:∃ W1,W1=wr:=⟨_,rfl⟩
    subst eW
    go_wp2_with fail
    go_loopw [11] (fun iv W=>∃ i:Nat,i ≤ m∧iv=.int .i64 i∧(∀ j,j < i → forkB l j=false)∧Below W1.heap.size W1 W) (fun iv _=>m - (intOf iv).toNat)
    case atStart=>exact ⟨0,Nat.zero_le _,rfl,fun j h=>absurd h (Nat.not_lt_zero _),Below.refl _ _⟩
    case round=>
     obtain ⟨i,hi,rfl,hS,hB⟩:=hrel
     have HS:=Lib.hid hS
     have HBi:=Lib.hid hB
     clear hS hB q1
     by_cases hlt:i < m
     ·have q1:((i:Int) < (m:Int))=True:=eq_true (by omega)
      have q2:(i < m)=True:=eq_true hlt
      have q3:((0:Int) ≤ (i:Int))=True:=eq_true (by omega)
      obtain ⟨gD,oD,rfl⟩:=HID2.out.some (by omega)
      obtain ⟨d,hd⟩:∃ d,deg l (i:Int)=d:=⟨_,rfl⟩
      have k0:=intRow_at (HID2.out.below HBi.out) (i:=i) (by omega) (t:=(d:Int)) (by rw [degs_at,hd])
      have HFB:Hid (forkB l i=(decide (d ≠ 0) && decide (d ≠ 2))):=by unfold forkB;rw [hd];exact rfl
      clear hd
      by_cases d0:d=0
      ·subst d0
       have HNX:Hid (forkB l i=false):=HFB.out
       obtain ⟨m1,m2,m3,m4⟩:=wnum (i:=i) (by omega)
       simp only [show ((0:Nat):Int)=0 from rfl] at k0
       go_wp2_with fail
       clear m1 m2 m3 m4
       refine ⟨⟨i + 1,hlt,by rw [Int.natCast_add];rfl,fun j hj=>?_,HBi.out⟩,by simp [intOf];omega⟩
       rcases Nat.lt_or_ge j i with h | h
       ·exact HS.out j h
       ·obtain rfl:j=i:=by omega
        exact HNX.out
      ·have e0:((d:Int)=0)=False:=eq_false (by omega)
       have e1:((d:Int) != 0)=true:=bne_iff_ne.2 (by omega)
       have e1':(d=0)=False:=eq_false d0
       by_cases d2:d=2
       ·subst d2
        have HNX:Hid (forkB l i=false):=HFB.out
        obtain ⟨m1,m2,m3,m4⟩:=wnum (i:=i) (by omega)
        simp only [show ((2:Nat):Int)=2 from rfl] at k0
        clear e0 e1 e1' d0
        go_wp2_with fail
        clear m1 m2 m3 m4
        refine ⟨⟨i + 1,hlt,by rw [Int.natCast_add];rfl,fun j hj=>?_,HBi.out⟩,by simp [intOf];omega⟩
        rcases Nat.lt_or_ge j i with h | h
        ·exact HS.out j h
        ·obtain rfl:j=i:=by omega
         exact HNX.out
       ·have e2:((d:Int)=2)=False:=eq_false (by omega)
        have e3:((d:Int) != 2)=true:=bne_iff_ne.2 (by omega)
        have e3':(d=2)=False:=eq_false d2
        have HFY:Hid (forkB l i=true):=by rw [HFB.out];simp [Hid,d0,d2]
        have HRR:Hid (ringsR (m:Int) l=([],(i:Int),81)):=by
         have hf:forkF m l=(i:Int):=firstN_at hlt HFY.out HS.out
         rw [ringsR_fork HOK.out HA.out (by rw [Int.toNat_natCast,hf];omega),Int.toNat_natCast,hf]
         exact rfl
        have HBz:=Lib.hid (bl_trans HB2.out HBi.out)
        clear d0 d2
        go_wp2_with fail
        go_ret3
        exact rings_ret HRR.out (rows_nil _) HBz.out
     ·obtain rfl:i=m:=by omega
      have q1:((i:Int) < (i:Int))=False:=eq_false (by omega)
      have HF:Hid (forkF i l < 0):=by
       have:forkF i l = -1:=firstN_no HS.out
       exact (show forkF i l < 0 by omega)
      have HRR:Hid (ringsR (i:Int) l=(ringsTo (pr l) i i,0,0)):=by rw [ringsR_ok HOK.out HA.out (by rw [Int.toNat_natCast];exact HF.out),Int.toNat_natCast];exact rfl
      have HG:=Lib.hid (good_of HOK.out HA.out HF.out)
      replace HB2:=Lib.hid (bl_trans HB2.out HBi.out)
      replace HID2:=Lib.hid (HID2.out.below HBi.out)
      clear HS HBi HF HA
      obtain ⟨W9,eW9⟩:∃ W9,W9=wr:=⟨_,rfl⟩
      subst eW9
      obtain ⟨n,hnn⟩:∃ n,n=i:=⟨_,rfl⟩
      subst hnn
      go_wp2_with fail
      go_loopw [12,13,14] (fun ov sv iv W=>∃ m:Nat,m ≤ n∧iv=.int .i64 m∧OrrX W9.heap.size ov (ringsTo (pr l) n m) sv.ownBlock W∧Oi W9 sv (ringsTo (pr l) n m).flatten W) (fun _ _ iv _=>n - (intOf iv).toNat)
      case atStart=>exact ⟨0,Nat.zero_le _,rfl,orrX_nil _ _ _ (Nat.le_refl _),oi_nil _⟩
      case round=>
       obtain ⟨m,hm,rfl,hX,hS⟩:=hrel
       have HX:=Lib.hid hX
       have HS:=Lib.hid hS
       obtain ⟨aO,cO,hvO,-,-,-⟩:=hX.rows
       obtain ⟨aS,cS,hvS,-,-,-⟩:=hS.slice
       clear hX hS q1
       subst hvO hvS
       by_cases hlt:m < n
       ·have q1:((m:Int) < (n:Int))=True:=eq_true (by omega)
        have q2:(m < n)=True:=eq_true hlt
        have q3:((0:Int) ≤ (m:Int))=True:=eq_true (by omega)
        obtain ⟨gD,oD,rfl⟩:=HID2.out.some (by omega)
        obtain ⟨d,hd⟩:∃ d,deg l (m:Int)=d:=⟨_,rfl⟩
        have k0:=intRow_at (HID2.out.below HS.out.hb) (i:=m) (by omega) (t:=(d:Int)) (by rw [degs_at,hd])
        have HDZ:Hid (decide ((d:Int)=0)=decide ((pr l (m:Int)).x=(pr l (m:Int)).y)):=by
         refine decide_eq_decide.2 ?_
         rcases HG.out.cases (p:=(m:Int)) (by omega) (by omega) with ⟨e,h⟩ | ⟨e,h⟩
         ·have:d=0:=by rw [← hd];unfold deg;rw [e];rfl
          exact ⟨fun _=>h,fun _=>by omega⟩
         ·have:d=2:=by rw [← hd];unfold deg;rw [e];rfl
          exact ⟨fun h2=>by omega,fun h2=>absurd h2 h⟩
        have hfl:=flat_len HG.out.net m (by omega)
        have hmn:m * n ≤ 90000:=Nat.mul_le_mul (show m ≤ 300 by omega) (show n ≤ 300 by omega)
        have HFI:=Lib.hid (flat_in (ringsTo (pr l) n m) (m:Int))
        clear hd
        go_upto_region 23 with (fail)
        obtain ⟨c0,hc0⟩:∃ c,((d:Int) == 0)=c:=⟨_,rfl⟩
        have HC0:Hid (c0=decide ((pr l (m:Int)).x=(pr l (m:Int)).y)):=by rw [← HDZ.out,← hc0];exact rfl
        rw [hc0]
        have HSR:Hid (IntRow wr aS (ringsTo (pr l) n m).flatten):=by
         obtain ⟨a,c,e,-,h,-⟩:=HS.out.slice
         cases e
         exact h
        obtain ⟨S,hSe⟩:∃ S,(ringsTo (pr l) n m).flatten=S:=⟨_,rfl⟩
        rw [hSe] at HS HX hfl HFI HSR ⊢
        have HSE:=Lib.hid hSe
        have hsl:S.length ≤ 90000:=by omega
        clear k0 hc0 HDZ hSe hfl hmn
        obtain ⟨Wm,eWm⟩:∃ Wm,Wm=wr:=⟨_,rfl⟩
        subst eWm
        go_wp2_with fail
        go_loopw [15,16] (fun bv jv W=>∃ j:Nat,j ≤ S.length∧jv=.int .i64 j∧bv=.bool (c0 || (S.take j).contains (m:Int))∧Wm=W) (fun _ jv _=>S.length - (intOf jv).toNat)
        case atStart=>exact ⟨0,Nat.zero_le _,rfl,by simp,rfl⟩
        case round=>
         obtain ⟨j,hj,rfl,rfl,rfl⟩:=hrel
         by_cases hjl:j < S.length
         ·have p1:((j:Int) < (S.length:Int))=True:=eq_true (by omega)
          have p2:(j < S.length)=True:=eq_true hjl
          have p3:((0:Int) ≤ (j:Int))=True:=eq_true (by omega)
          obtain ⟨gS,oS,rfl⟩:=HSR.out.some (by omega)
          obtain ⟨x,hx⟩:∃ x,S[j]=x:=⟨_,rfl⟩
          have k5:=intRow_at HSR.out hjl hx
          have HTK:Hid ((c0 || (S.take (j + 1)).contains (m:Int))=((c0 || (S.take j).contains (m:Int)) || (x == (m:Int)))):=by
           rw [List.take_succ_eq_append_getElem hjl,hx]
           by_cases h1:x=(m:Int)
           ·subst h1
            cases c0 <;> simp [Hid]
           ·have h2:¬ (m:Int)=x:=fun e=>h1 e.symm
            cases c0 <;> simp [Hid,h1,h2]
          clear hx
          generalize (c0 || (S.take j).contains (m:Int))=bb at *
          obtain ⟨m1,m2,m3,m4⟩:=wnum (i:=j) (by omega)
          cases bb
          ·go_wp2_with fail
           clear m1 m2 m3 m4
           exact ⟨⟨j + 1,hjl,by rw [Int.natCast_add];rfl,by rw [HTK.out];simp,trivial⟩,by simp [intOf];omega⟩
          ·go_wp2_with fail
           clear m1 m2 m3 m4
           exact ⟨⟨j + 1,hjl,by rw [Int.natCast_add];rfl,by rw [HTK.out];simp,trivial⟩,by simp [intOf];omega⟩
         ·obtain rfl:j=S.length:=by omega
          have p1:((S.length:Int) < (S.length:Int))=False:=eq_false (by omega)
          rw [List.take_length]
          have HCD:Hid (((ringsTo (pr l) n m).any (fun r=>r.contains (m:Int)) || decide ((pr l (m:Int)).x=(pr l (m:Int)).y))=(c0 || S.contains (m:Int))):=by
           rw [HFI.out,HC0.out,Bool.or_comm]
           exact rfl
          generalize (c0 || S.contains (m:Int))=bb at *
          cases bb
          ·have HNW:=Lib.hid (ringsTo_new HCD.out)
           have hact:(pr l (m:Int)).x ≠ (pr l (m:Int)).y:=by
            intro e
            have:=HCD.out
            rw [decide_eq_true e,Bool.or_true] at this
            cases this
           have hmin:min (pr l (m:Int)).x (pr l (m:Int)).y=(pr l (m:Int)).x ∨ min (pr l (m:Int)).x (pr l (m:Int)).y=(pr l (m:Int)).y:=by omega
           have HWY:=Lib.hid (Way.start (K:=pr l) (n:=(n:Int)) (f:=(m:Int)) (by omega) (by omega) hact hmin)
           clear hact hmin HC0 HCD
           have HX1:=Lib.hid (HX.out.keep (keep_below (bl_one Wm (.cells #[.int .i64 (m:Int)] 3))))
           have HS1:=Lib.hid (HS.out.below (bl_one Wm (.cells #[.int .i64 (m:Int)] 3)))
           have HO1:=Lib.hid (oi_one Wm (m:Int))
           have hXlt:Hid (∀ g,(Value.slice aS S.length cS).ownBlock=some g → g < Wm.heap.size):=fun g e=>(HS.out.own.lt g e).2
           have hOlt:Hid (∀ g,(Value.slice aO (ringsTo (pr l) n m).length cO).ownBlock=some g → g < Wm.heap.size):=fun g e=>(HX.out.lt g e).2
           have hW9:W9.heap.size ≤ Wm.heap.size:=HS.out.sz
           go_wp2_with fail
           go_loopw [17] (fun v W=>∃ (R:List Int) (b p c:Int) (q:Nat),Way (pr l) (n:Int) (m:Int) R b p c∧(b=(m:Int) → p=min (pr l (m:Int)).x (pr l (m:Int)).y)∧R.length=q + 1∧(∀ h:q < R.length,R[q]=b)∧R ++ loopF (pr l) (m:Int) (n + 1 - R.length) b p=ringF (pr l) n (m:Int)∧Oi Wm v R W) (fun v _=>n + 1 - vlen v)
           case atStart=>exact ⟨[(m:Int)],(m:Int),_,(m:Int),0,HWY.out,fun _=>rfl,rfl,fun _=>rfl,rfl,HO1.out⟩
           case round=>
            obtain ⟨R,b,p,c,q,hW,hp,hq,hlast,hR,hO⟩:=hrel
            have HO:=Lib.hid hO
            have HW:=Lib.hid hW
            have HPM:=Lib.hid hp
            have HR:=Lib.hid hR
            have HQ:=Lib.hid hq
            obtain ⟨aR,cR,rfl,hcR,hIR,hnR⟩:=hO.slice
            have HIR:=Lib.hid hIR
            have hlen2:=hW.len
            have k5:=hIR
            obtain ⟨gR,oR,rfl⟩:=hIR.some (by omega)
            have k6:=intRow_at hIR (i:=q) (by omega) (hlast (by omega))
            have HBS:=Lib.hid (beside_l l ad cap b R (some ⟨gR,oR,none⟩) cR wr (HP.out.below (bl_trans HB2.out (bl_trans HS.out.hb hO.hb))) hIR hlen (by omega) (n:Int) HOK.out.2.2)
            have hHb:=Lib.hid (bl_trans HS1.out.hb (Below.refl _ _))
            have s1:(R.length:Int) - 1=(q:Int):=by omega
            have s2:((q:Int) < (R.length:Int))=True:=eq_true (by omega)
            have s3:(q < R.length)=True:=eq_true (by omega)
            have s4:((0:Int) ≤ (q:Int))=True:=eq_true (by omega)
            obtain ⟨m1,m2,m3,m4⟩:=wnum (i:=q) (by omega)
            clear hO hW hp hq hlast hR hIR k5 hnR
            go_wp2_with fail
            (with_reducible refine HBS.out.mono ?_);rintro en w4 ⟨z,rfl,hz,hb4⟩
            clear m1 m2 m3 m4 s1 s2 s3 s4 k6 HBS
            have hze:=bs_way HG.out HW.out HPM.out hz
            have HO4:=Lib.hid (HO.out.below hb4)
            have HIR4:=Lib.hid (HIR.out.below hb4)
            clear hz hb4 HO HIR
            by_cases hpf:p=(m:Int)
            ·rw [if_pos hpf] at hze
             subst hze
             have HRE:Hid (R=ringF (pr l) n (m:Int)):=by
              rw [← HR.out,hpf,loopF_end,List.append_nil]
              exact rfl
             have hr1:0 < R.length:=by have:=HQ.out;omega
             have hb9:=HO4.out.hb
             have HXr:=Lib.hid (HX.out.keep (keep_below hb9))
             have HSr:=Lib.hid (HS.out.below hb9)
             have hgr:=HO4.out.own.lt gR rfl
             have HU1:Hid (InRow W9.heap.size (Value.slice aO (ringsTo (pr l) n m).length cO).ownBlock w4 (.slice (some ⟨gR,oR,none⟩) R.length cR) R):=⟨_,_,rfl,hcR,HIR4.out,(fun h=>by cases h),fun _ g o e=>by
              cases e
              exact ⟨by omega,hgr.2,fun e2=>by have:=hOlt.out _ e2.symm;omega⟩⟩
             have HU2:Hid (InRow W9.heap.size (Value.slice aS S.length cS).ownBlock w4 (.slice (some ⟨gR,oR,none⟩) R.length cR) R):=⟨_,_,rfl,hcR,HIR4.out,(fun h=>by cases h),fun _ g o e=>by
              cases e
              exact ⟨by omega,hgr.2,fun e2=>by have:=hXlt.out _ e2.symm;omega⟩⟩
             have hll:=ringsTo_len (pr l) n m
             have HXL:Hid (∀ g,(Value.slice aS S.length cS).ownBlock=some g → g < (w4.alloc (.cells #[.slice (some ⟨gR,oR,none⟩) R.length cR] 43)).heap.size):=fun g e=>by
              have:=(HSr.out.own.lt g e).2
              simp
              omega
             clear hpf HR HW HPM HO4 HIR4 hgr hb9 HQ
             go_wp2_with (at_builtin;refine app_rowX rfl _ _ rfl rfl (HXr.out.keep (keep_below (bl_one _ _))) rfl (cells_of _ _ _) (HU1.out.keep (keep_below (bl_one _ _))) (HU2.out.keep (keep_below (bl_one _ _))) HXL.out (by omega) ?_)
             intro v5 w5 hX5 hg5
             have HX5:=Lib.hid hX5
             have HS5:=Lib.hid ((HSr.out.alloc (.cells #[.slice (some ⟨gR,oR,none⟩) R.length cR] 43)).other hg5 (fun g e e2=>HXr.out.sep g e2 e) (fun k e=>(HXr.out.lt k e).1))
             have HIR5:Hid (IntRow w5 (some ⟨gR,oR,none⟩) R):=by
              obtain ⟨ad9,cp9,e9,-,h9,-⟩:=(HU1.out.keep (keep_below (bl_one _ (.cells #[.slice (some ⟨gR,oR,none⟩) R.length cR] 43)))).grown (HU1.out.keep (keep_below (bl_one _ _))) hg5
              cases e9
              exact h9
             obtain ⟨a5,c5,hv5,-,-,-⟩:=hX5.rows
             subst hv5
             clear hX5 hg5 HU1 HU2 HXL HXr HSr
             go_wp2_with (at_builtin;refine app_ints_at rfl _ _ rfl rfl HS5.out rfl rfl HIR5.out (by omega) ?_)
             intro v6 w6 hO6 hg6 hl6
             have HX6:=Lib.hid (HX5.out.other hg6 hl6)
             have HO6:=Lib.hid hO6
             clear hO6 hg6 hl6 HX5 HS5 HIR5
             obtain ⟨a6,c6,hv6,-,-,-⟩:=HO6.out.slice
             subst hv6
             obtain ⟨m1,m2,m3,m4⟩:=wnum (i:=m) (by omega)
             go_wp2_with fail
             clear m1 m2 m3 m4
             refine ⟨⟨m + 1,hlt,by rw [Int.natCast_add];rfl,?_,?_⟩,by simp [intOf];omega⟩
             ·rw [HNW.out,← HRE.out]
              have h9:=HX6.out
              rw [show (ringsTo (pr l) n m ++ [R]).length=(ringsTo (pr l) n m).length + 1 by simp] at h9
              exact h9
             ·rw [HNW.out,← HRE.out,List.flatten_append,HSE.out];simpa using HO6.out
            ·rw [if_neg hpf] at hze
             subst hze
             have hin:=HW.out.inn b HW.out.hb
             have hpn:=HG.out.net b hin.1 hin.2.1 hin.2.2 z HW.out.hp
             have t1:(z < 0)=False:=eq_false (by omega)
             have HW2:=Lib.hid (HW.out.step HG.out.net hpf)
             have hmo:=HW.out.more HG.out.net hpf
             have HR2:Hid ((R ++ [z]) ++ loopF (pr l) (m:Int) (n + 1 - (R ++ [z]).length) z (nextF (pr l) b z)=ringF (pr l) n (m:Int)):=by
              rw [← HR.out,List.length_append,List.length_singleton,show n + 1 - R.length=(n + 1 - (R.length + 1)) + 1 by omega,loopF_step hpf,List.append_assoc]
              rfl
             have HPF:=Lib.hid hpf
             clear hin hpn hpf HR HW HPM
             go_wp2_with (at_builtin;refine app_ints rfl _ _ rfl rfl (HO4.out.alloc _) rfl (L:=[z]) rfl (intRow_new _ _ _) (fun h=>by cases h) (by simp;omega) ?_)
             intro v5 w5 hO5
             have HO5:=Lib.hid hO5
             obtain ⟨a5,c5,rfl,-,-,-⟩:=hO5.slice
             clear hO5 HO4 HIR4
             go_wp2_with fail
             refine ⟨⟨R ++ [z],z,_,b,q + 1,HW2.out,fun e=>absurd e HPF.out,by simp;exact HQ.out,fun h=>?_,HR2.out,HO5.out⟩,?_⟩
             ·rw [List.getElem_append_right (by have:=HQ.out;omega)]
              simp
             ·simp [vlen]
              omega
          ·have HSK:=Lib.hid (ringsTo_skip HCD.out)
           obtain ⟨m1,m2,m3,m4⟩:=wnum (i:=m) (by omega)
           go_wp2_with fail
           clear m1 m2 m3 m4
           refine ⟨⟨m + 1,hlt,by rw [Int.natCast_add];rfl,?_,?_⟩,by simp [intOf];omega⟩
           ·rw [HSK.out];exact HX.out
           ·rw [HSK.out,HSE.out];exact HS.out
       ·obtain rfl:m=n:=by omega
        have q1:((m:Int) < (m:Int))=False:=eq_false (by omega)
        have HBz:=Lib.hid (bl_trans HB2.out HS.out.hb)
        go_wp2_with fail
        go_ret3
        exact rings_ret HRR.out HX.out.rows HBz.out
 ·have HB:=Lib.hid hB
  have HRR:=Lib.hid (ringsR_arg hok)
  clear hok hB HD
  go_wp2_with fail
  go_ret3
  exact rings_ret HRR.out (rows_nil _) HB.out
end Go.Proofs.YtpjaefcmaiimlaaGreat
