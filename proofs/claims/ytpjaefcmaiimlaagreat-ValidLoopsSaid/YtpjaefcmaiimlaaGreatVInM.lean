/-
  Layer 10: whether a segment may be laid: the document's words and the program's (plain facts).
-/
import Derived.Test.YtpjaefcmaiimlaaGreatVFirsts
import Derived.Test.YtpjaefcmaiimlaaGreatVRightM
import Derived.Test.YtpjaefcmaiimlaaGreatVSameK
set_option linter.unusedVariables false
set_option linter.unusedSimpArgs false
set_option linter.deprecated false
namespace Go.Proofs.YtpjaefcmaiimlaaGreat

theorem midN_swap10 (p l:List Pt) (a b:Int):midN p l [b,a]=midN p l [a,b]:=by
 have e1:[b,a].all (knownB p)=[a,b].all (knownB p):=by
  simp only [List.all_cons,List.all_nil,Bool.and_true]
  exact Bool.and_comm _ _
 have e2:sumP p [b,a]=sumP p [a,b]:=by
  unfold sumP
  simp only [List.foldl_cons,List.foldl_nil]
  exact Pt.ext' (by dsimp only;omega) (by dsimp only;omega)
 unfold midN
 rw [e1,e2]
 rfl
theorem midW_swap10 (p l:List Pt) (a b:Int):midW p l ⟨b,a⟩=midW p l ⟨a,b⟩:=by
 unfold midW
 dsimp only
 rw [midN_swap10]
theorem badB_ba (a b:Pt) (t:Sg):badB ⟨b,a⟩ t=badB ⟨a,b⟩ t:=by unfold badB;dsimp only;rw [segs_ba]
theorem badB_comm10 (s t:Sg):badB s t=badB t s:=by unfold badB;rw [segs_cd]
def ownK (S:List Pt) (a b:Int) (k:Nat):Bool:=decide (pget S k=⟨a,b⟩) || decide (pget S k=⟨b,a⟩)
theorem ownK_iff {S:List Pt} {a b:Int} {k:Nat}:ownK S a b k=true ↔ pget S k=⟨a,b⟩ ∨ pget S k=⟨b,a⟩:=by
 unfold ownK;rw [Bool.or_eq_true,decide_eq_true_eq,decide_eq_true_eq]
theorem ownB_iff {l i:List Pt} {a b:Int}:ownB l i a b=true ↔ ∃ k,k < (l ++ i).length∧ownK (l ++ i) a b k=true:=by
 unfold ownB
 rw [Bool.or_eq_true,anyN_iff,anyN_iff]
 constructor
 ·rintro (⟨k,hk,h⟩ | ⟨k,hk,h⟩)
  ·exact ⟨k,hk,ownK_iff.2 (.inl (of_decide_eq_true h).symm)⟩
  ·exact ⟨k,hk,ownK_iff.2 (.inr (of_decide_eq_true h).symm)⟩
 ·rintro ⟨k,hk,h⟩
  rcases ownK_iff.1 h with h | h
  ·exact .inl ⟨k,hk,decide_eq_true h.symm⟩
  ·exact .inr ⟨k,hk,decide_eq_true h.symm⟩
/-- what the document looks at, two places of a right input given -/
def refIn (p l i:List Pt) (a b:Nat):Bool:=
 !(anyN (fun k=>insideB (pget p a) (pget p b) (pget p k)) p.length) && !(anyN (fun k=>!(ownK (l ++ i) a b k) && badB ⟨pget p a,pget p b⟩ (segF p (pget (l ++ i) k))) (l ++ i).length) && (anyN (ownK l a b) l.length || midW p l ⟨a,b⟩)
theorem refIn_is {p l i:List Pt} {a b:Nat} (hr:rightI p l i=true) (ha:a < p.length) (hb:b < p.length) (hab:a ≠ b):refIn p l i a b=insideF p l i a b:=by
 obtain ⟨hc,h8⟩:=right_iff10.1 hr
 have hz:=flTo_zero.1 h8
 have h2:twoB p (a:Int) (b:Int)=true:=by
  unfold twoB
  rw [decide_eq_false (by omega),decide_eq_false (by omega),decide_eq_false (by omega)];rfl
 unfold insideF
 rw [hr,h2,Bool.true_and,Bool.true_and]
 by_cases h:ownB l i a b=true
 ·rw [h,Bool.true_or]
  obtain ⟨k,hk,hs⟩:=ownB_iff.1 h
  have hs:=ownK_iff.1 hs
  have e1:anyN (fun k=>insideB (pget p a) (pget p b) (pget p k)) p.length=false:=anyN_no.2 fun q hq=>by
   have h3:coverF p (l ++ i) q k=false:=(fl2_zero (k:=4) (by decide)).1 (hz 3 (by omega)) q k hq hk
   unfold coverF at h3
   rcases hs with e | e <;> rw [e] at h3
   ·exact h3
   ·rw [inside_swap10] at h3;exact h3
  have e2:anyN (fun k=>!(ownK (l ++ i) a b k) && badB ⟨pget p a,pget p b⟩ (segF p (pget (l ++ i) k))) (l ++ i).length=false:=anyN_no.2 fun j hj=>by
   by_cases ho:ownK (l ++ i) a b j=true
   ·rw [ho];rfl
   ·have hjk:j ≠ k:=fun e=>ho (by rw [e];exact ownK_iff.2 hs)
    have h3:badB (segF p (pget (l ++ i) k)) (segF p (pget (l ++ i) j))=false:=by
     have hm:=(fl2_zero (k:=3) (f:=meetF p (l ++ i)) (n:=(l ++ i).length) (m:=(l ++ i).length) (by decide)).1 (hz 2 (by omega))
     rcases Nat.lt_or_gt_of_ne hjk with h4 | h4
     ·have:=hm j k hj hk
      unfold meetF at this
      rw [decide_eq_true h4,Bool.true_and,badB_comm10] at this
      exact this
     ·have:=hm k j hk hj
      unfold meetF at this
      rw [decide_eq_true h4,Bool.true_and] at this
      exact this
    have h4:badB ⟨pget p a,pget p b⟩ (segF p (pget (l ++ i) j))=false:=by
     rcases hs with e | e <;> rw [e] at h3
     ·exact h3
     ·rw [← badB_ba];exact h3
    rw [h4,Bool.and_false]
  have e3:(anyN (ownK l a b) l.length || midW p l ⟨a,b⟩)=true:=by
   by_cases hl:k < l.length
   ·rw [pget_left hl] at hs
    rw [anyN_yes hl (ownK_iff.2 hs),Bool.true_or]
   ·rw [pget_right (by omega)] at hs
    have hm:=(fl1_zero (k:=7) (f:=fun a=>!(midW p l (pget i a))) (n:=i.length) (by decide)).1 (hz 6 (by omega)) (k - l.length) (by rw [List.length_append] at hk;omega)
    have hm:midW p l (pget i (k - l.length))=true:=by simpa using hm
    have:midW p l ⟨a,b⟩=true:=by
     rcases hs with e | e <;> rw [e] at hm
     ·exact hm
     ·rw [midW_swap10] at hm;exact hm
    rw [this,Bool.or_true]
  unfold refIn
  rw [e1,e2,e3];rfl
 ·have hn:∀ k,k < (l ++ i).length → ownK (l ++ i) a b k=false:=fun k hk=>by
   cases e:ownK (l ++ i) a b k with
   | false=>rfl
   | true=>exact absurd (ownB_iff.2 ⟨k,hk,e⟩) h
  have hl:anyN (ownK l a b) l.length=false:=anyN_no.2 fun k hk=>by
   have:=hn k (by rw [List.length_append];omega)
   unfold ownK at this ⊢
   rwa [pget_left hk] at this
  rw [Bool.not_eq_true] at h
  rw [h,Bool.false_or]
  unfold refIn passB
  rw [hl,Bool.false_or]
  rw [anyN_congr (f:=fun k=>!(ownK (l ++ i) a b k) && badB ⟨pget p a,pget p b⟩ (segF p (pget (l ++ i) k))) (g:=fun k=>badB ⟨pget p a,pget p b⟩ (segF p (pget (l ++ i) k))) (n:=(l ++ i).length) (fun k hk=>by rw [hn k hk];rfl)]
  rw [Bool.and_comm (!(anyN (fun k=>insideB (pget p a) (pget p b) (pget p k)) p.length))]
  rfl
theorem inside_swapF {p l i:List Pt} (a b:Int):insideF p l i b a=insideF p l i a b:=by
 unfold insideF
 have e1:twoB p b a=twoB p a b:=by
  unfold twoB
  rw [Int.min_comm,Int.max_comm]
  congr 2
  exact decide_eq_decide.2 ⟨Eq.symm,Eq.symm⟩
 have e2:ownB l i b a=ownB l i a b:=by unfold ownB;exact Bool.or_comm _ _
 have e3:passB p (l ++ i) b.toNat a.toNat=passB p (l ++ i) a.toNat b.toNat:=by
  unfold passB
  rw [anyN_congr (g:=fun k=>badB ⟨pget p a.toNat,pget p b.toNat⟩ (segF p (pget (l ++ i) k))) (fun k _=>badB_ba _ _ _),anyN_congr (f:=fun k=>insideB (pget p b.toNat) (pget p a.toNat) (pget p k)) (g:=fun k=>insideB (pget p a.toNat) (pget p b.toNat) (pget p k)) (fun k _=>inside_swap10 _ _ _)]
 rw [e1,e2,e3,midW_swap10]
end Go.Proofs.YtpjaefcmaiimlaaGreat
