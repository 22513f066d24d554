/-
  Layer 9: points, segments, whether they may be; a point of a finer grid.
-/
import Derived.Test.YtpjaefcmaiimlaaGreatRMems
import Derived.Test.YtpjaefcmaiimlaaGreatMeetAll
import Derived.Test.YtpjaefcmaiimlaaGreatWMath
set_option linter.unusedVariables false
set_option linter.unusedSimpArgs false
set_option linter.deprecated false
namespace Go.Proofs.YtpjaefcmaiimlaaGreat
open Go.RowKit

theorem Var.put0 {W:World} {g:Nat} {a b:Value} (h:Var W g [a,b]) (a':Value):Var (W.setCell ⟨g,0,none⟩ a') g [a',b]:=by
 obtain ⟨h0,h1⟩:=h.two
 obtain ⟨f0,f1⟩:=h.free2
 exact var2 (by simpa using h.lt) (World.cell?_setCell_same _ _ _ h0) ((World.cell?_setCell_other _ _ _ _ (by intro e;injection e with e1 e2;omega)).trans h1) (by simpa using f0) (by simpa using f1)
theorem Var.put1 {W:World} {g:Nat} {a b:Value} (h:Var W g [a,b]) (b':Value):Var (W.setCell ⟨g,1,none⟩ b') g [a,b']:=by
 obtain ⟨h0,h1⟩:=h.two
 obtain ⟨f0,f1⟩:=h.free2
 exact var2 (by simpa using h.lt) ((World.cell?_setCell_other _ _ _ _ (by intro e;injection e with e1 e2;omega)).trans h0) (World.cell?_setCell_same _ _ _ h1) (by simpa using f0) (by simpa using f1)
def ptI (p:List Pt) (i:Int):Pt:=pget p i.toNat
def knownB (p:List Pt) (i:Int):Bool:=decide (0 ≤ i) && decide (i < (p.length:Int)) && fitB (ptI p i)
def okSeg9 (p:List Pt) (s:Pt):Bool:=knownB p s.x && knownB p s.y && !(decide (ptI p s.x=ptI p s.y))
def properL (p l:List Pt):Bool:=!(anyN (fun i=>!(okSeg9 p (pget l i))) l.length)
def endsOf (k:Int) (p l:List Pt):Nat → Pt × Pt:=fun i=>(scaleP k (ptI p (pget l i).x),scaleP k (ptI p (pget l i).y))
def fitK (k:Int) (p l:List Pt):Bool:=!(anyN (fun i=>!(fitB (endsOf k p l i).1 && fitB (endsOf k p l i).2)) l.length)
def whereZ (k:Int) (p l:List Pt) (q:Pt):Int:=whereN l.length (endsOf k p l) q
theorem known_iff {p:List Pt} {i:Int}:knownB p i=true ↔ 0 ≤ i∧i < (p.length:Int)∧fitB (ptI p i)=true:=by
 unfold knownB
 rw [Bool.and_eq_true,Bool.and_eq_true,decide_eq_true_eq,decide_eq_true_eq,and_assoc]
theorem ok9_iff {p:List Pt} {s:Pt}:okSeg9 p s=true ↔ knownB p s.x=true∧knownB p s.y=true∧ptI p s.x ≠ ptI p s.y:=by
 unfold okSeg9
 rw [Bool.and_eq_true,Bool.and_eq_true,and_assoc]
 simp
theorem proper_iff {p l:List Pt}:properL p l=true ↔ ∀ i,i < l.length → okSeg9 p (pget l i)=true:=by
 unfold properL
 rw [Bool.not_eq_true',anyN_no]
 simp
theorem fitK_iff {k:Int} {p l:List Pt}:fitK k p l=true ↔ ∀ i,i < l.length → fitB (endsOf k p l i).1=true∧fitB (endsOf k p l i).2=true:=by
 unfold fitK
 rw [Bool.not_eq_true',anyN_no]
 simp
theorem scale_w {p:Pt} (h:fitB p=true) {k:Int} (h0:0 ≤ k) (h3:k ≤ 3):IntKind.i64.wrap (k * p.x)=k * p.x∧IntKind.i64.wrap (k * p.y)=k * p.y:=by
 have:=fitB_iff.1 h
 unfold Pt.fits at this
 have c:k=0 ∨ k=1 ∨ k=2 ∨ k=3:=by omega
 rcases c with rfl | rfl | rfl | rfl <;> exact ⟨IntWalk.i64_in _ (by omega),IntWalk.i64_in _ (by omega)⟩

def atB (k:Int) (p l:List Pt) (q:Pt):Bool:=properL p l && fitK k p l && fitB q
def atN (k:Int) (p l:List Pt) (q:Pt):Int:=if atB k p l q then whereZ k p l q else 0
def atE (k:Int) (p l:List Pt) (q:Pt):Int:=if atB k p l q then 0 else 2
def sumP (p:List Pt) (is:List Int):Pt:=is.foldl (fun s i=>⟨s.x + (ptI p i).x,s.y + (ptI p i).y⟩) ⟨0,0⟩
def midN (p l:List Pt) (is:List Int):Int:=if is.all (knownB p) then atN is.length p l (sumP p is) else 0
def midE (p l:List Pt) (is:List Int):Int:=if is.all (knownB p) then atE is.length p l (sumP p is) else 2
theorem fitK_one {p l:List Pt} (h:properL p l=true):fitK 1 p l=true:=by
 rw [fitK_iff]
 intro i hi
 obtain ⟨h1,h2,-⟩:=ok9_iff.1 (proper_iff.1 h i hi)
 unfold endsOf
 dsimp only
 rw [scale_one,scale_one]
 exact ⟨(known_iff.1 h1).2.2,(known_iff.1 h2).2.2⟩
theorem sumP_snoc (p:List Pt) (is:List Int) (i:Int):sumP p (is ++ [i])=⟨(sumP p is).x + (ptI p i).x,(sumP p is).y + (ptI p i).y⟩:=by
 unfold sumP;rw [List.foldl_append];rfl
def BdP (n:Int) (s:Pt):Prop:=-(n * 4294967296) ≤ s.x∧s.x ≤ n * 4294967296 ∧ -(n * 4294967296) ≤ s.y∧s.y ≤ n * 4294967296

set_option maxHeartbeats 4000000 in
set_option maxRecDepth 100000 in
theorem known9_l (p:List Pt) (ap:Option Addr) (cp:Nat) (i:Int) (w:World) (hP:PtRow w ap p):Calls Tryz.prog 109 #[.slice ap p.length cp,.int .i64 i] w (Gives (.bool (knownB p i)) w):=by
 have HP:=hi hP
 clear hP
 go_enter Tryz.func109,Tryz.ntmps109
 by_cases h0:0 ≤ i
 ·have e0:(0 ≤ i)=True:=eq_true h0
  by_cases h1:i < (p.length:Int)
  ·have e1:(i < (p.length:Int))=True:=eq_true h1
   obtain ⟨a,rfl⟩:=Int.eq_ofNat_of_zero_le h0
   have hap:a < p.length:=by omega
   have e3:(a < p.length)=True:=eq_true hap
   obtain ⟨gp,op,rfl⟩:=HP.out.some (by omega)
   obtain ⟨q,hq⟩:∃ q,pget p a=q:=⟨_,rfl⟩
   obtain ⟨k5,k6⟩:=ptRow_at HP.out hap hq
   obtain ⟨r,hr⟩:∃ r,fitB q=r:=⟨_,rfl⟩
   have HF:=hi (fits1 w q 64 r hr)
   have HR:Hid (knownB p (a:Int)=r):=by
    unfold Hid
    unfold knownB ptI
    rw [Int.toNat_natCast,hq,hr,decide_eq_true h0,decide_eq_true h1]
    rfl
   clear hq hr h0 h1
   go_wp2_with fail
   (with_reducible refine HF.out.mono ?_);rintro e w2 ⟨rfl,hb2⟩
   have HB:=hi (bl_trans (bl_one w (.cells #[.int .i64 q.x,.int .i64 q.y] 64)) hb2)
   clear hb2 HF k5 k6
   go_wp2_with fail
   go_ret
   exact ⟨by rw [HR.out];rfl,HB.out⟩
  ·have e1:(i < (p.length:Int))=False:=eq_false h1
   have HN:Hid (knownB p i=false):=by
    unfold Hid knownB
    rw [decide_eq_false h1];simp
   clear h0 h1
   go_wp2_with fail
   go_ret
   exact ⟨by rw [HN.out];rfl,Below.refl _ _⟩
 ·have e0:(0 ≤ i)=False:=eq_false h0
  have HN:Hid (knownB p i=false):=by
   unfold Hid knownB
   rw [decide_eq_false h0];simp
  clear h0
  go_wp2_with fail
  go_ret
  exact ⟨by rw [HN.out];rfl,Below.refl _ _⟩
end Go.Proofs.YtpjaefcmaiimlaaGreat
