/-
  The plain mathematics of rings.Area.
-/
import Derived.Test.YtpjaefcmaiimlaaGreatRSegsAll
import Derived.Test.YtpjaefcmaiimlaaGreatGeoAll
import Derived.Deep.DeepCutAuto
set_option linter.unusedVariables false
set_option linter.unusedSimpArgs false
set_option linter.deprecated false
namespace Go.Proofs.YtpjaefcmaiimlaaGreat
open Go.RowKit

/-- indexes of places that fit, not too many -/
def okR (p:List Pt) (ring:List Int):Prop:=ring.length ≤ 1048576∧∀ i ∈ ring,0 ≤ i∧i < (p.length:Int)∧fitB (pget p i.toNat)=true
instance (p:List Pt) (ring:List Int):Decidable (okR p ring):=by unfold okR;exact inferInstance
end Go.Proofs.YtpjaefcmaiimlaaGreat

/-
  Contract of rings.Area.
-/
namespace Go.Proofs.YtpjaefcmaiimlaaGreat
open Go.RowKit

theorem PtRow.far2 {W:World} {l:List Pt} {g gS oS:Nat} (h:PtRow W (.some ⟨gS,oS,none⟩) l) (hne:g ≠ gS) (j:Nat) (u:Value):PtRow (W.setCell ⟨g,j,none⟩ u) (.some ⟨gS,oS,none⟩) l:=by
 intro i hi
 obtain ⟨g',o',e,h1,h2⟩:=h i hi
 cases e
 exact ⟨_,_,rfl,(World.cell?_setCell_other _ _ _ _ (by intro e;exact hne (congrArg Addr.block e))).trans h1,(World.cell?_setCell_other _ _ _ _ (by intro e;exact hne (congrArg Addr.block e))).trans h2⟩
end Go.Proofs.YtpjaefcmaiimlaaGreat
