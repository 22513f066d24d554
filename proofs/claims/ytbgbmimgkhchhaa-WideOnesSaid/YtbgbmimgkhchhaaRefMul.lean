/-
  The document's Mul.
-/
import Derived.Test.YtbgbmimgkhchhaaRefTold2
import Derived.Test.YtbgbmimgkhchhaaRefLit
namespace Go.Proofs.Ytbgbmimgkhchhaa
open Go.RowKit

/-- the frame of Mul (and of Add): what is answered, and the number so far -/
structure MulS (w : World) (go : Nat) (x : Nv) (W : World) : Prop where
  nv : NVar W go x
  f0 : W.frozen? ⟨go, 0, none⟩ = false
  f1 : W.frozen? ⟨go, 1, none⟩ = false
  r : VarAt w.heap.size W w.heap.size
  lt : w.heap.size < go
  hb : Below w.heap.size w W
theorem MulS.below {w : World} {go : Nat} {x : Nv} {W W' : World} (h : MulS w go x W) (hb : Below W.heap.size W W') : MulS w go x W' :=
  ⟨h.nv.below hb, (hb.frozen (p := ⟨go, _, none⟩) h.nv.lt).trans h.f0, (hb.frozen (p := ⟨go, _, none⟩) h.nv.lt).trans h.f1, h.r.below hb, h.lt, bl_trans h.hb hb⟩
theorem MulS.put {w : World} {go : Nat} {x : Nv} {W : World} (h : MulS w go x W) (m : Bool) (ad : Option Addr) (n c : Nat) (z : Int) (hN : NumIs (.agg #[.bool m, .slice ad n c]) z W) :
    MulS w go ⟨m, ad, n, c, z⟩ ((W.setCell ⟨go, 0, none⟩ (.bool m)).setCell ⟨go, 1, none⟩ (.slice ad n c)) := by
  have hlt := h.lt
  have hE : EnvN w [(w.heap.size, (⟨false, 0, 0, 0, 0⟩ : Wd))] [] W := ⟨⟨fun p hp => by simp at hp; subst hp; exact h.r.a, h.hb⟩, fun p hp => by simp at hp⟩
  have hS := hE.store h.nv.c0 h.nv.c1 (by omega) (fun p hp => by simp at hp; subst hp; simp; omega) (fun p hp => by simp at hp) m ad n c z hN
  refine ⟨hS.v _ List.mem_cons_self, ?_, ?_, ⟨h.r.ge, hS.e.at5 _ List.mem_cons_self, ?_⟩, h.lt, hS.e.hb⟩
  · rw [World.frozen?_setCell, World.frozen?_setCell]; exact h.f0
  · rw [World.frozen?_setCell, World.frozen?_setCell]; exact h.f1
  · obtain ⟨f0, f1, f2, f3, f4⟩ := h.r.f
    constructor <;> (rw [World.frozen?_setCell, World.frozen?_setCell]; assumption)
def MulR (w : World) (go : Nat) (op : Int → Int → Int) (acc : Int) (l : List Wd) (iv : Value) (W : World) : Prop :=
  ∃ (i : Nat) (x : Nv), iv = .int .i64 i ∧ i ≤ l.length ∧ Hid (fres op acc l = fres op x.z (l.drop i) ∧ -M256 < x.z ∧ x.z < M256) ∧ MulS w go x W

theorem m256_big2 : M256 < BIG := by unfold M256 BIG; decide
theorem wv_big2 {m : Bool} {a b c d : Int} (h : In4 a b c d) : -BIG < WV m a b c d ∧ WV m a b c d < BIG := by
  have := wv_bounds (m := m) h
  have := m256_big2
  omega

set_option maxHeartbeats 4000000 in
set_option maxRecDepth 100000 in
theorem refMul_some (g o n cap : Nat) (l : List Wd) (hn : l.length = n) (hbig : n ≤ 200) (w : World) (hl : WidesAt w g o l) :
    Calls Try.prog 29 #[.slice (some ⟨g, o, none⟩) n cap] w (FoldP (fun x y => x * y) 1 l w) := by
  have HL := Lib.hid hl
  clear hl
  subst hn
  go_enter Try.func29, Try.ntmps29
  go_upto_region 2 with (first
    | (go_at_call 14; (with_reducible refine (small_num 1 (by omega) (by omega) _).mono ?_); rintro e w1 ⟨v, rfl, hN, hb1⟩
       obtain ⟨nm, nad, nn, nc, rfl⟩ := hN.shape
       have HN := Lib.hid hN
       clear hN))
  generalize hgo : w1.heap.size = go at *
  have HGO := Lib.hid hgo
  clear hgo
  refine wp_abs (fun W => MulS w go ⟨nm, nad, nn, nc, 1⟩ W) ?_ ?_
  · have eg := HGO.out
    subst eg
    have hs1 : w.heap.size < w1.heap.size := (by have := hb1.size; (try simp at this); omega)
    have hv := (var_new w.heap.size w (Nat.le_refl _) w.heap.size rfl 25).below (bl_trans hb1 (bl_one _ (.cells #[.bool nm, .slice nad nn nc] 28)))
    exact ⟨⟨by simp [go_sem], by simp [go_sem], HN.out.below (bl_one _ _)⟩, by simp [go_sem], by simp [go_sem], hv, hs1, bl_trans (bl_trans (bl_one _ _) hb1) (bl_one _ _)⟩
  clear HN HGO hb1
  intro W2 hS0
  have HS0 := Lib.hid hS0
  clear hS0
  go_wp2
  go_loopw [5] (fun iv W => MulR w go (fun x y => x * y) 1 l iv W) (fun iv _ => 201 - (intOf iv).toNat)
  case atStart => exact ⟨0, _, rfl, by omega, ⟨rfl, by dsimp only; unfold M256; omega, by dsimp only; unfold M256; omega⟩, HS0.out⟩
  case round =>
    obtain ⟨i, x, rfl, hi, HF, hS⟩ := hrel
    have HS := Lib.hid hS
    clear hS
    by_cases hlt : i < l.length
    · have b1 : decide ((i : Int) < (l.length : Int)) = true := by simp; omega
      go_upto_region 5 with (fail)
      obtain ⟨xm, xad, xn, xc, xz⟩ := x
      have hgl := (HL.out i hlt).1.lt
      have hel := (HL.out i hlt).1.below HS.out.hb hgl
      have hgl' : g < wr.heap.size := hel.lt
      obtain ⟨e0, e1, e2, e3, e4⟩ := hel
      have hok := (HL.out i hlt).2
      have HOK := Lib.hid hok
      clear hok
      have k0 := HS.out.nv.c0
      have k1 := HS.out.nv.c1
      have h0 := HS.out.f0
      have h1 := HS.out.f1
      dsimp only at k0 k1
      obtain ⟨y, hy⟩ : ∃ y, y = Wd.get l i := ⟨_, rfl⟩
      rw [← hy] at e0 e1 e2 e3 e4 HOK
      obtain ⟨ym, y0, y1, y2, y3⟩ := y
      dsimp only at e0 e1 e2 e3 e4
      have HO : Hid (In4 y0 y1 y2 y3) := HOK.out
      have hxr : -M256 < xz ∧ xz < M256 := HF.out.2
      have HBX : Hid (-BIG < xz ∧ xz < BIG) := by have := m256_big2; unfold Hid; omega
      have HXR := Lib.hid hxr
      clear hxr
      have HY := Lib.hid hy
      clear hy
      go_cut [21] (fun _ W => ∃ nm nad nn nc, MulS w go ⟨nm, nad, nn, nc, xz * WV ym y0 y1 y2 y3⟩ W)
      case first =>
        go_region_with (first
          | (go_at_call 11; (with_reducible refine (of_num ym y0 y1 y2 y3 HO.out _).mono ?_); rintro e w1 ⟨v1, rfl, hN1, hb1⟩
             have HN1 := Lib.hid hN1
             clear hN1
             have HS1 := Lib.hid (HS.out.below (bl_trans (bl_drew1 _) hb1))
             have k2 := HS1.out.nv.c0
             have k3 := HS1.out.nv.c1
             dsimp only at k2 k3
             have HX1 : Hid (NumIs (.agg #[.bool xm, .slice xad xn xc]) xz w1) := HS1.out.nv.hN)
          | (go_at_call 31; (with_reducible refine (times_num _ v1 xz _ w1 HX1.out HN1.out HBX.out (wv_big2 HO.out)).mono ?_); rintro e w2 ⟨v2, rfl, hN2, hb2⟩
             obtain ⟨nm, nad, nn, nc, rfl⟩ := hN2.shape
             have HN2 := Lib.hid hN2
             clear hN2
             have HS2 := Lib.hid (HS1.out.below hb2)
             have k4 := HS2.out.nv.c0
             have k5 := HS2.out.nv.c1
             have h4 := HS2.out.f0
             have h5 := HS2.out.f1
             dsimp only at k4 k5))
        all_goals
          go_wp2_with fail
          go_meet
          case rel => exact ⟨_, _, _, _, HS2.out.put _ _ _ _ _ HN2.out⟩
      case rest =>
        obtain ⟨nm, nad, nn, nc, hS⟩ := hcut
        clear HS k0 k1 h0 h1 e0 e1 e2 e3 e4
        have HS := Lib.hid hS
        have k0 := hS.nv.c0
        have k1 := hS.nv.c1
        dsimp only at k0 k1
        have HX2 : Hid (NumIs (.agg #[.bool nm, .slice nad nn nc]) (xz * WV ym y0 y1 y2 y3) wc) := hS.nv.hN
        clear hS
        obtain ⟨p, hp⟩ : ∃ p, p = xz * WV ym y0 y1 y2 y3 := ⟨_, rfl⟩
        rw [← hp] at HX2 HS
        have HP := Lib.hid hp
        clear hp
        go_upto_region 6 with (fail)
        go_cut [7] (fun okv W => ∃ ok : Bool, okv = .bool ok ∧ Hid ((ok = true ∧ -M256 < p ∧ p < M256) ∨ (ok = false ∧ (p ≤ -M256 ∨ M256 ≤ p))) ∧ MulS w go ⟨nm, nad, nn, nc, p⟩ W)
        case first =>
          go_wp2_with (first
            | (go_at_call 13; (with_reducible refine (wide_num _ p _ HX2.out).mono ?_); rintro e w1 ⟨rm, r0, r1, r2, r3, ok, hi', hk, rfl, hb1⟩
               have HS1 := Lib.hid (HS.out.below hb1)
               clear hi')
            | go_in)
          go_meet
          case rel =>
            refine ⟨ok, rfl, ?_, HS1.out.below (bl_one _ _)⟩
            rcases hk.out with ⟨h1, -, -, h2⟩ | ⟨h1, -, h2⟩
            · exact .inl ⟨h1, h2⟩
            · exact .inr ⟨h1, h2⟩
        case rest =>
          obtain ⟨ok, rfl, hok, hS⟩ := hcut
          clear HS k0 k1 HX2
          have HS := Lib.hid hS
          clear hS
          have hdrop : Hid (l.drop i = (⟨ym, y0, y1, y2, y3⟩ : Wd) :: l.drop (i + 1)) := by unfold Hid; rw [drop_get l i hlt, HY.out]
          cases ok
          · have hno : Hid (fres (fun x y => x * y) 1 l = none) := by
              unfold Hid
              rw [HF.out.1, hdrop.out]
              simp only [fres]
              have hpp := HP.out
              rcases hok.out with ⟨h, -⟩ | ⟨-, h⟩
              · cases h
              · rw [if_neg]
                rw [hpp] at h
                simp only [Wd.val]
                omega
            obtain ⟨-, ⟨v0, v1, v2, v3, v4⟩, ⟨f0, f1, f2, f3, f4⟩⟩ := HS.out.r
            simp only [Nat.zero_add] at v1 v2 v3 v4 f1 f2 f3 f4
            have hbw := Lib.hid HS.out.hb
            go_wp2
            refine bodyPost_ret (v := .tuple #[(.agg #[.bool false, .int .u64 0, .int .u64 0, .int .u64 0, .int .u64 0]), .int .i64 10]) (by simp [results, Try.results29, go_sem, v0, v1, v2, v3, v4]) rfl ?_
            refine ⟨false, 0, 0, 0, 0, 10, in4_zero, .inr ⟨rfl, ⟨rfl, rfl, rfl, rfl, rfl⟩, hno.out⟩, rfl, ?_⟩
            have hb := hbw.out
            repeat (first | (with_reducible exact Below.refl _ _) | (with_reducible refine bl_alloc ?_ _) | (with_reducible refine Below.drew ?_) | (with_reducible refine below_drewN' ?_ _) | ((with_reducible refine bl_set ?_ ?_ _); (rotate_left; (dsimp only; omega))))
            exact hb
          · have hr : Hid (-M256 < p ∧ p < M256) := by
              rcases hok.out with ⟨-, h⟩ | ⟨h, -⟩
              · exact h
              · cases h
            go_wp2
            go_roundw
            case rel =>
              refine ⟨i + 1, ⟨nm, nad, nn, nc, p⟩, by first | rfl | simp, by omega, ⟨?_, hr.out⟩, HS.out⟩
              rw [HF.out.1, hdrop.out]
              simp only [fres]
              have hpp := HP.out
              have hrr := hr.out
              rw [hpp] at hrr
              rw [if_pos (by simp only [Wd.val]; exact hrr), hpp]
              rfl
            case measure => simp [intOf] <;> omega
    · have ei : i = l.length := by omega
      have b1 : decide ((i : Int) < (l.length : Int)) = false := by simp; omega
      obtain ⟨xm, xad, xn, xc, xz⟩ := x
      have k0 := HS.out.nv.c0
      have k1 := HS.out.nv.c1
      dsimp only at k0 k1
      have HX2 : Hid (NumIs (.agg #[.bool xm, .slice xad xn xc]) xz wr) := HS.out.nv.hN
      have hf : Hid (fres (fun x y => x * y) 1 l = some xz ∧ -M256 < xz ∧ xz < M256) := by
        refine ⟨?_, HF.out.2⟩
        rw [HF.out.1, ei, List.drop_length]; rfl
      go_wp2_with fail
      refine (told_num _ xz _ HX2.out).mono ?_
      rintro e w1 ⟨rm, r0, r1, r2, r3, er, hi', hk, rfl, hb1⟩
      have HI := Lib.hid hi'
      clear hi'
      have HS1 := HS.out.below hb1
      obtain ⟨-, ⟨v0, v1, v2, v3, v4⟩, ⟨f0, f1, f2, f3, f4⟩⟩ := HS1.r
      simp only [Nat.zero_add] at v1 v2 v3 v4 f1 f2 f3 f4
      have hbw := Lib.hid HS1.hb
      clear HS1
      go_wp2
      refine bodyPost_ret (v := .tuple #[(.agg #[.bool rm, .int .u64 r0, .int .u64 r1, .int .u64 r2, .int .u64 r3]), .int .i64 er]) (by simp [results, Try.results29, go_sem, v0, v1, v2, v3, v4]) rfl ?_
      refine ⟨rm, r0, r1, r2, r3, er, HI.out, ?_, rfl, ?_⟩
      · rcases hk.out with ⟨h1, h2, h3, -⟩ | ⟨-, -, h⟩
        · exact .inl ⟨h1, by rw [hf.out.1, h2], h3⟩
        · have := hf.out.2; omega
      · have hb := hbw.out
        repeat (first | (with_reducible exact Below.refl _ _) | (with_reducible refine bl_alloc ?_ _) | (with_reducible refine Below.drew ?_) | (with_reducible refine below_drewN' ?_ _) | ((with_reducible refine bl_set ?_ ?_ _); (rotate_left; (dsimp only; omega))))
        exact hb
end Go.Proofs.Ytbgbmimgkhchhaa
