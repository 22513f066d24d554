/-
  The law WithinTells.
-/
import Derived.Test.YtkidphekfnmhhaaWRef
import Derived.Test.YtkidphekfnmhhaaWKnown
namespace Go.Proofs.Ytkidphekfnmhhaa
open Go.RowKit

set_option maxHeartbeats 8000000 in
set_option maxRecDepth 100000 in
theorem wtells_l (w : World) (p : List Pt) (ap : Option Addr) (cp : Nat) (_ : p.length ≤ cp) (hP : PtRow w ap p) (_ : ap = none → cp = 0) (l : List Pt) (al : Option Addr) (cl : Nat) (_ : l.length ≤ cl) (hL : PtRow w al l) (_ : al = none → cl = 0) (q : Pt) :
    Calls Try.prog 3 #[.slice ap p.length cp, .slice al l.length cl, .agg #[.int .i64 q.x, .int .i64 q.y]] w (Gives (.bool true) w) := by
  have KN := Lib.hid (fun W => lawK_l W)
  have HP := Lib.hid hP
  have HL := Lib.hid hL
  clear hP hL
  go_enter Try.func3, Try.ntmps3
  go_upto_region 1 with (fail)
  have HV := Lib.hid (var2_new w (.int .i64 q.x) (.int .i64 q.y) 25 w.heap.size rfl)
  have HB := Lib.hid (bl_one w (.cells #[.int .i64 q.x, .int .i64 q.y] 25))
  generalize w.alloc (.cells #[.int .i64 q.x, .int .i64 q.y] 25) = W1 at *
  have HM := Lib.hid (many_l p.length l.length ap al cp cl W1)
  obtain ⟨r, hr⟩ : ∃ r, (decide (200 < p.length) || decide (200 < l.length)) = r := ⟨_, rfl⟩
  rw [hr] at HM
  have HR := Lib.hid hr
  clear hr
  go_wp2_with fail
  (with_reducible refine HM.out.mono ?_); rintro e w2 ⟨rfl, hb2⟩
  replace HV := Lib.hid (HV.out.below hb2)
  replace HB := Lib.hid (bl_trans HB.out hb2)
  clear hb2 HM
  cases r
  case true =>
    go_wp2_with fail
    (with_reducible refine (KN.out _).mono ?_); rintro e w3 ⟨rfl, hb2⟩
    replace HB := Lib.hid (bl_trans HB.out hb2)
    clear hb2
    go_wp2_with fail
    go_ret
    exact ⟨rfl, HB.out⟩
  case false =>
  have hll : l.length ≤ 10000 := by
    have := HR.out
    simp at this
    omega
  have HA := Lib.hid (at9_l p l q ap al cp cl w2 (HP.out.below HB.out) (HL.out.below HB.out) hll)
  have HA2 := Lib.hid (fun W (h : Below w2.heap.size w2 W) => refAt9_l p l q ap al cp cl W (HP.out.below (bl_trans HB.out h)) (HL.out.below (bl_trans HB.out h)) hll)
  clear hll HR
  generalize atN 1 p l q = n at *
  generalize atE 1 p l q = e at *
  obtain ⟨c0, c1⟩ := HV.out.two
  go_wp2_with fail
  (with_reducible refine HA.out.mono ?_); rintro e' w3 ⟨rfl, hb2⟩
  replace HA2 := Lib.hid (HA2.out _ hb2)
  replace HV := Lib.hid (HV.out.below hb2)
  replace HB := Lib.hid (bl_trans HB.out hb2)
  clear hb2 HA c0 c1
  obtain ⟨c0, c1⟩ := HV.out.two
  go_wp2_with fail
  (with_reducible refine HA2.out.mono ?_); rintro e' w4 ⟨rfl, hb2⟩
  replace HB := Lib.hid (bl_trans HB.out hb2)
  clear hb2 HA2 c0 c1 HV
  go_wp2_with fail
  (with_reducible refine (KN.out _).mono ?_); rintro e' w5 ⟨rfl, hb2⟩
  replace HB := Lib.hid (bl_trans HB.out hb2)
  clear hb2
  go_wp2_with fail
  go_ret
  exact ⟨rfl, HB.out⟩
end Go.Proofs.Ytkidphekfnmhhaa
