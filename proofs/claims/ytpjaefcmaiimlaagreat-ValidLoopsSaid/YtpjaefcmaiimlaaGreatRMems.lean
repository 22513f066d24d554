/-
  Layer 8: rows of numbers, of pairs of numbers, in memory; rows of the call's own.
-/
import Derived.Test.YtpjaefcmaiimlaaGreatRows
import Derived.Test.YtpjaefcmaiimlaaGreatGeoAll
import Derived.Test.YtpjaefcmaiimlaaGreatRefOf
import Derived.Test.YtpjaefcmaiimlaaGreatVars
import Derived.WalkKit
import Derived.WalkSpells
import Derived.WalkLawsBesides
import Derived.Lib.Hide
import Derived.OwnWalk
import Derived.Laws.OwnMore
import Derived.Maps.AppendAt
import Derived.Laws.AppendOwnNone
import Derived.Deep.RegionHeld
import Derived.Deep.QuietTactic
import Derived.BigQuiet
import Derived.Lib.MinMax
import Derived.Laws.ResultCell
import Derived.Deep.Cut
import Derived.Deep.DeepCutAuto
import Derived.Test.YtpjaefcmaiimlaaGreatRMaths
import Derived.Maps.OwnSet
import Derived.Maps.OwnOps
import Derived.DeepKeys4
set_option linter.unusedVariables false
set_option linter.unusedSimpArgs false
set_option linter.deprecated false
namespace Go.Proofs.YtpjaefcmaiimlaaGreat
open Go.RowKit

instance:Inhabited Pt:=⟨⟨0,0⟩⟩
theorem info_pair:(Tryz.prog.info? 115).map (fun i=>(i.zero,i.size,i.bytes))=some (some (.agg #[.int .i64 0,.int .i64 0]),2,16):=by kernel_rfl
theorem info_rows:(Tryz.prog.info? 43).map (fun i=>(i.zero,i.size,i.bytes))=some (some (.slice none 0 0),1,24):=by kernel_rfl
theorem add_plain (g o i:Nat):(⟨g,o,none⟩:Addr).add i=⟨g,o + i,none⟩:=by unfold Addr.add;split <;> simp_all
theorem wnum {i:Nat} (hi:i ≤ 100000):wrap64 (i:Int)=(i:Int)∧IntKind.i64.wrap (i:Int)=(i:Int)∧wrap64 ((i:Int) + 1)=(i:Int) + 1∧IntKind.i64.wrap ((i:Int) + 1)=(i:Int) + 1:=
 ⟨by unfold wrap64;omega,IntWalk.i64_in _ (by omega),by unfold wrap64;omega,IntWalk.i64_in _ (by omega)⟩
def vlen:Value → Nat
 | .slice _ n _=>n
 | _=>0

/-- numbers of a row, in memory -/
def IntRow (W:World) (ad:Option Addr) (L:List Int):Prop:=∀ i (h:i < L.length),∃ g o,ad=some ⟨g,o,none⟩∧W.cell? ⟨g,o + i,none⟩=some (.int .i64 L[i])
theorem IntRow.below {W W':World} {ad:Option Addr} {L:List Int} (h:IntRow W ad L) (hb:Below W.heap.size W W'):IntRow W' ad L:=by
 intro i hi
 obtain ⟨g,o,e,h1⟩:=h i hi
 exact ⟨g,o,e,(hb.cell (cell_lt h1)).trans h1⟩
theorem intRow_at {W:World} {g o:Nat} {L:List Int} (h:IntRow W (some ⟨g,o,none⟩) L) {i:Nat} (hi:i < L.length) {t:Int} (e:L[i]=t):W.cell? ⟨g,o + i,none⟩=some (.int .i64 t):=by
 obtain ⟨g',o',e1,h1⟩:=h i hi
 simp only [Option.some.injEq,Addr.mk.injEq,and_true] at e1
 obtain ⟨rfl,rfl⟩:=e1
 rw [h1,e]
theorem intRow_nil (W:World) (ad:Option Addr):IntRow W ad []:=fun _ h=>absurd h (Nat.not_lt_zero _)
theorem IntRow.some {W:World} {ad:Option Addr} {L:List Int} (h:IntRow W ad L) (h0:0 < L.length):∃ g o,ad=some ⟨g,o,none⟩:=by
 obtain ⟨g,o,e,-⟩:=h 0 h0
 exact ⟨g,o,e⟩
/-- behind the first k -/
theorem IntRow.drop {W:World} {ad:Option Addr} {L:List Int} (h:IntRow W ad L) (k:Nat) {ad':Option Addr} (e:∀ g o,ad=.some ⟨g,o,none⟩ → k < L.length → ad'=.some ⟨g,o + k,none⟩):IntRow W ad' (L.drop k):=by
 intro i hi
 rw [List.length_drop] at hi
 obtain ⟨g,o,e1,h1⟩:=h (k + i) (by omega)
 refine ⟨g,o + k,e g o e1 (by omega),?_⟩
 rw [Nat.add_assoc,h1,List.getElem_drop]
theorem IntRow.take {W:World} {ad:Option Addr} {L:List Int} (h:IntRow W ad L) (k:Nat):IntRow W ad (L.take k):=by
 intro i hi
 rw [List.length_take] at hi
 obtain ⟨g,o,e1,h1⟩:=h i (by omega)
 exact ⟨g,o,e1,by rw [h1,List.getElem_take]⟩
/-- a cell of another block is written -/
theorem IntRow.other {W:World} {ad:Option Addr} {L:List Int} (h:IntRow W ad L) {g j:Nat} (hg:∀ g' o,ad=.some ⟨g',o,none⟩ → g' ≠ g) (u:Value):IntRow (W.setCell ⟨g,j,none⟩ u) ad L:=by
 intro i hi
 obtain ⟨g',o,e,h1⟩:=h i hi
 exact ⟨g',o,e,(World.cell?_setCell_other _ _ _ _ (by intro e';exact hg g' o e (by simpa using (congrArg Addr.block e').symm))).trans h1⟩
/-- a slice of these numbers -/
def IsInts (W:World) (v:Value) (L:List Int):Prop:=∃ ad cap,v=.slice ad L.length cap∧L.length ≤ cap∧IntRow W ad L∧(ad=none → cap=0)
theorem IsInts.below {W W':World} {v:Value} {L:List Int} (h:IsInts W v L) (hb:Below W.heap.size W W'):IsInts W' v L:=
 let ⟨ad,cap,e,c,r,n⟩:=h
 ⟨ad,cap,e,c,r.below hb,n⟩
def iv (L:List Int):List Value:=L.map fun d=>.int .i64 d
theorem iv_len (L:List Int):(iv L).length=L.length * 1:=by simp [iv]
theorem iv_one (L:List Int):∀ u ∈ iv L,u.oneCell'=true:=by
 intro u hu
 simp [iv] at hu
 obtain ⟨d,-,rfl⟩:=hu
 rfl
theorem iv_cells {W:World} {g o:Nat} {L:List Int} (h:IntRow W (some ⟨g,o,none⟩) L):∀ j u,(iv L)[j]?=some u → W.cell? ((⟨g,o,none⟩:Addr).add j)=some u:=by
 intro j u hj
 rw [add_plain]
 unfold iv at hj
 rw [List.getElem?_map] at hj
 cases hx:L[j]? with
 | none=>rw [hx] at hj;simp at hj
 | some d=>
  rw [hx] at hj
  simp at hj
  subst hj
  obtain ⟨hl,e⟩:=List.getElem?_eq_some_iff.1 hx
  exact intRow_at h hl e
/-- a row of numbers, the call's own -/
structure Oi (W0:World) (v:Value) (L:List Int) (W:World):Prop where
 own:W.ownsRow W0.heap.size 3 1 v L.length (iv L)
 hb:Below W0.heap.size W0 W
 sz:W0.heap.size ≤ W.heap.size
theorem oi_nil (w:World):Oi w (.slice none 0 0) [] w:=⟨World.ownsRow_nil _ _ _ _,Below.refl _ _,Nat.le_refl _⟩
theorem Oi.alloc {W0 W:World} {v:Value} {L:List Int} (h:Oi W0 v L W) (o:Obj):Oi W0 v L (W.alloc o):=
 ⟨h.own.alloc o,h.hb.alloc h.sz o,by simp;have:=h.sz;omega⟩
theorem Oi.congr {W0 W:World} {v:Value} {L L':List Int} (h:Oi W0 v L W) (e:L=L'):Oi W0 v L' W:=e ▸ h
theorem Oi.drew {W0 W:World} {v:Value} {L:List Int} (h:Oi W0 v L W):Oi W0 v L W.drew:=⟨h.own,h.hb.drew,h.sz⟩
theorem Oi.more {W0 W W':World} {v v':Value} {L M:List Int} {n:Nat} (h:Oi W0 v L W) (hn:n=(L ++ M).length) (ho:W'.ownsRow W0.heap.size 3 1 v' n (iv L ++ iv M)) (hg:W.grownBy W' v.ownBlock):Oi W0 v' (L ++ M) W':=
 ⟨by subst hn;unfold iv at *;rw [List.map_append];exact ho,h.hb.grown hg h.sz (fun k e=>(h.own.lt k e).1),Nat.le_trans h.sz hg.size⟩
theorem Oi.below {W0 W W':World} {v:Value} {L:List Int} (h:Oi W0 v L W) (hb:Below W.heap.size W W'):Oi W0 v L W':=by
 refine ⟨⟨h.own.1,?_⟩,h.hb.trans (hb.mono h.sz),Nat.le_trans h.sz hb.size⟩
 rcases h.own.2 with h | ⟨g,cap,cur,rfl,hb0,hc,rest⟩
 ·exact .inl h
 ·exact .inr ⟨g,cap,cur,rfl,hb0,(hb.block g (Array.getElem?_eq_some_iff.1 hc).1).trans hc,rest⟩
/-- seen from an earlier world -/
theorem Oi.base {W0 W1 W:World} {v:Value} {L:List Int} (h:Oi W1 v L W) (hb:Below W0.heap.size W0 W1):Oi W0 v L W:=by
 refine ⟨⟨h.own.1,?_⟩,hb.trans (h.hb.mono hb.size),Nat.le_trans hb.size h.sz⟩
 rcases h.own.2 with h | ⟨g,cap,cur,rfl,hb0,hc,rest⟩
 ·exact .inl h
 ·exact .inr ⟨g,cap,cur,rfl,Nat.le_trans hb.size hb0,hc,rest⟩
theorem Oi.ints {W0 W:World} {v:Value} {L:List Int} (h:Oi W0 v L W):IsInts W v L:=by
 have ho:=h.own
 rcases ho.2 with ⟨rfl,hn⟩ | ⟨g,cap,cur,rfl,-,-,hcap,-⟩
 ·exact ⟨none,0,by rw [hn],by omega,fun i hi=>absurd hi (by omega),fun _=>rfl⟩
 ·refine ⟨_,cap,rfl,hcap,fun i hi=>⟨g,0,rfl,?_⟩,fun h=>by cases h⟩
  have hc:=ho.cells (g:=g) rfl
  have h2:=hc i (.int .i64 L[i]) (by unfold iv;simp [hi])
  rw [add_plain] at h2
  exact h2
/-- a number written into the row -/
theorem Oi.store {W0 W:World} {g n cap:Nat} {L:List Int} (h:Oi W0 (.slice (some ⟨g,0,none⟩) n cap) L W) (hn:n=L.length) (j:Nat) (x:Int):Oi W0 (.slice (some ⟨g,0,none⟩) n cap) (L.set j x) (W.setCell ⟨g,j,none⟩ (.int .i64 x)):=by
 subst hn
 have hs:=h.own.stored j (.int .i64 x)
 refine ⟨?_,h.hb.grown hs.2 h.sz (fun k e=>by cases e;exact (h.own.lt g rfl).1),Nat.le_trans h.sz hs.2.size⟩
 rw [List.length_set]
 unfold iv
 rw [List.map_set]
 exact hs.1
theorem Oi.frozen {W0 W:World} {g n cap:Nat} {L:List Int} (h:Oi W0 (.slice (some ⟨g,0,none⟩) n cap) L W) (hn:n=L.length) (j:Nat):W.frozen? ⟨g,j,none⟩=false:=by
 subst hn
 exact h.own.frozenAt j
theorem Oi.cell {W0 W:World} {g n cap:Nat} {L:List Int} (h:Oi W0 (.slice (some ⟨g,0,none⟩) n cap) L W) (hn:n=L.length) {j:Nat} (hj:j < L.length):W.cell? ⟨g,j,none⟩=some (.int .i64 L[j]):=by
 subst hn
 obtain ⟨ad,c,e,-,hr,-⟩:=h.ints
 cases e
 have:=intRow_at hr hj rfl
 rwa [Nat.zero_add] at this
theorem madeInts (n:Nat):(madeCells #[Value.int .i64 0] n).toList=iv (List.replicate n 0):=by
 unfold iv
 rw [List.map_replicate]
 exact toList_madeCells_one _ _
theorem oi_made {W0 W:World} {n b:Nat} (hb:b=W0.heap.size) (hown:W.ownsRow b 3 1 (.slice (some ⟨b,0,none⟩) n n) n (madeCells #[Value.int .i64 0] n).toList) (hg:W0.grownBy W none):Oi W0 (.slice (some ⟨b,0,none⟩) n n) (List.replicate n 0) W:=by
 subst hb
 refine ⟨?_,(Below.refl _ _).grown hg (Nat.le_refl _) (fun k h=>by cases h),hg.size⟩
 rw [List.length_replicate,← madeInts]
 exact hown
theorem Oi.slice {W0 W:World} {v:Value} {L:List Int} (h:Oi W0 v L W):∃ ad cap,v=.slice ad L.length cap∧L.length ≤ cap∧IntRow W ad L∧(ad=none → cap=0):=h.ints

/-- places of a row, in memory -/
def PtRow (W:World) (ad:Option Addr) (l:List Pt):Prop:=∀ i,i < l.length → ∃ g o,ad=some ⟨g,o,none⟩∧W.cell? ⟨g,o + i * 2,none⟩=some (.int .i64 (pget l i).x)∧W.cell? ⟨g,o + i * 2 + 1,none⟩=some (.int .i64 (pget l i).y)
theorem PtRow.below {W W':World} {ad:Option Addr} {l:List Pt} (h:PtRow W ad l) (hb:Below W.heap.size W W'):PtRow W' ad l:=by
 intro i hi
 obtain ⟨g,o,e,h1,h2⟩:=h i hi
 exact ⟨g,o,e,(hb.cell (cell_lt h1)).trans h1,(hb.cell (cell_lt h2)).trans h2⟩
theorem ptRow_at {W:World} {g o:Nat} {l:List Pt} (h:PtRow W (some ⟨g,o,none⟩) l) {i:Nat} (hi:i < l.length) {t:Pt} (e:pget l i=t):W.cell? ⟨g,o + i * 2,none⟩=some (.int .i64 t.x)∧W.cell? ⟨g,o + i * 2 + 1,none⟩=some (.int .i64 t.y):=by
 obtain ⟨g',o',e1,h1⟩:=h i hi
 simp only [Option.some.injEq,Addr.mk.injEq,and_true] at e1
 obtain ⟨rfl,rfl⟩:=e1
 rw [← e]
 exact h1
theorem ptRow_nil (W:World) (ad:Option Addr):PtRow W ad []:=fun _ h=>absurd h (Nat.not_lt_zero _)
theorem pget_drop (l:List Pt) (k i:Nat):pget (l.drop k) i=pget l (k + i):=by simp [pget]
theorem pget_take (l:List Pt) {k i:Nat} (h:i < k):pget (l.take k) i=pget l i:=by simp [pget,h]
/-- behind the first k -/
theorem PtRow.drop {W:World} {ad:Option Addr} {l:List Pt} (h:PtRow W ad l) (k:Nat) {ad':Option Addr} (e:∀ g o,ad=.some ⟨g,o,none⟩ → k < l.length → ad'=.some ⟨g,o + k * 2,none⟩):PtRow W ad' (l.drop k):=by
 intro i hi
 rw [List.length_drop] at hi
 obtain ⟨g,o,e1,h1,h2⟩:=h (k + i) (by omega)
 refine ⟨g,o + k * 2,e g o e1 (by omega),?_⟩
 rw [pget_drop,show o + k * 2 + i * 2=o + (k + i) * 2 by omega]
 exact ⟨h1,h2⟩
theorem PtRow.take {W:World} {ad:Option Addr} {l:List Pt} (h:PtRow W ad l) (k:Nat):PtRow W ad (l.take k):=by
 intro i hi
 rw [List.length_take] at hi
 obtain ⟨g,o,e1,h1,h2⟩:=h i (by omega)
 refine ⟨g,o,e1,?_⟩
 rw [pget_take _ (by omega)]
 exact ⟨h1,h2⟩
theorem PtRow.some {W:World} {ad:Option Addr} {l:List Pt} (h:PtRow W ad l) (h0:0 < l.length):∃ g o,ad=some ⟨g,o,none⟩:=by
 obtain ⟨g,o,e,-⟩:=h 0 h0
 exact ⟨g,o,e⟩
def pv (l:List Pt):List Value:=l.flatMap fun p=>[.int .i64 p.x,.int .i64 p.y]
theorem pv_len (l:List Pt):(pv l).length=l.length * 2:=by
 induction l with
 | nil=>rfl
 | cons s l ih=>unfold pv at *;rw [List.flatMap_cons,List.length_append,ih];simp;omega
theorem pv_one (l:List Pt):∀ u ∈ pv l,u.oneCell'=true:=by
 intro u hu
 simp [pv] at hu
 obtain ⟨d,-,rfl | rfl⟩:=hu <;> rfl
theorem pv_get:∀ (l:List Pt) (i:Nat),i < l.length → (pv l)[i * 2]?=some (.int .i64 (pget l i).x)∧(pv l)[i * 2 + 1]?=some (.int .i64 (pget l i).y)
 | p :: l,0,_=>⟨rfl,rfl⟩
 | p :: l,i + 1,h=>by
  have:=pv_get l i (by simpa using h)
  rw [show (i + 1) * 2=i * 2 + 1 + 1 by omega]
  exact this
theorem pv_cells {W:World} {g o:Nat} {l:List Pt} (h:PtRow W (some ⟨g,o,none⟩) l):∀ j u,(pv l)[j]?=some u → W.cell? ((⟨g,o,none⟩:Addr).add j)=some u:=by
 intro j u hj
 rw [add_plain]
 have hl:=(List.getElem?_eq_some_iff.1 hj).1
 rw [pv_len] at hl
 have hk:=pv_get l (j / 2) (by omega)
 have hc:=ptRow_at h (i:=j / 2) (by omega) rfl
 rcases Nat.mod_two_eq_zero_or_one j with e | e
 ·have e2:j / 2 * 2=j:=by omega
  rw [e2] at hk hc
  rw [hk.1] at hj
  cases hj
  exact hc.1
 ·have e2:j / 2 * 2 + 1=j:=by omega
  rw [Nat.add_assoc,e2] at hc
  rw [e2] at hk
  rw [hk.2] at hj
  cases hj
  exact hc.2
/-- a row of places, the call's own -/
structure Op (T:TypeId) (W0:World) (v:Value) (l:List Pt) (W:World):Prop where
 own:W.ownsRow W0.heap.size T 2 v l.length (pv l)
 hb:Below W0.heap.size W0 W
 sz:W0.heap.size ≤ W.heap.size
theorem op_nil (T:TypeId) (w:World):Op T w (.slice none 0 0) [] w:=⟨World.ownsRow_nil _ _ _ _,Below.refl _ _,Nat.le_refl _⟩
theorem Op.alloc {T:TypeId} {W0 W:World} {v:Value} {l:List Pt} (h:Op T W0 v l W) (o:Obj):Op T W0 v l (W.alloc o):=
 ⟨h.own.alloc o,h.hb.alloc h.sz o,by simp;have:=h.sz;omega⟩
theorem Op.drew {T:TypeId} {W0 W:World} {v:Value} {l:List Pt} (h:Op T W0 v l W):Op T W0 v l W.drew:=⟨h.own,h.hb.drew,h.sz⟩
theorem Op.more {T:TypeId} {W0 W W':World} {v v':Value} {l m:List Pt} {n:Nat} (h:Op T W0 v l W) (hn:n=(l ++ m).length) (ho:W'.ownsRow W0.heap.size T 2 v' n (pv l ++ pv m)) (hg:W.grownBy W' v.ownBlock):Op T W0 v' (l ++ m) W':=
 ⟨by subst hn;unfold pv at *;rw [List.flatMap_append];exact ho,h.hb.grown hg h.sz (fun k e=>(h.own.lt k e).1),Nat.le_trans h.sz hg.size⟩
theorem Op.below {T:TypeId} {W0 W W':World} {v:Value} {l:List Pt} (h:Op T W0 v l W) (hb:Below W.heap.size W W'):Op T W0 v l W':=by
 refine ⟨⟨h.own.1,?_⟩,h.hb.trans (hb.mono h.sz),Nat.le_trans h.sz hb.size⟩
 rcases h.own.2 with h | ⟨g,cap,cur,rfl,hb0,hc,rest⟩
 ·exact .inl h
 ·exact .inr ⟨g,cap,cur,rfl,hb0,(hb.block g (Array.getElem?_eq_some_iff.1 hc).1).trans hc,rest⟩
/-- seen from an earlier world -/
theorem Op.base {T:TypeId} {W0 W1 W:World} {v:Value} {L:List Pt} (h:Op T W1 v L W) (hb:Below W0.heap.size W0 W1):Op T W0 v L W:=by
 refine ⟨⟨h.own.1,?_⟩,hb.trans (h.hb.mono hb.size),Nat.le_trans hb.size h.sz⟩
 rcases h.own.2 with h | ⟨g,cap,cur,rfl,hb0,hc,rest⟩
 ·exact .inl h
 ·exact .inr ⟨g,cap,cur,rfl,Nat.le_trans hb.size hb0,hc,rest⟩
theorem Op.pts {T:TypeId} {W0 W:World} {v:Value} {l:List Pt} (h:Op T W0 v l W):∃ ad cap,v=.slice ad l.length cap∧l.length ≤ cap∧PtRow W ad l∧(ad=none → cap=0):=by
 have ho:=h.own
 rcases ho.2 with ⟨rfl,hn⟩ | ⟨g,cap,cur,rfl,-,-,hcap,-⟩
 ·exact ⟨none,0,by rw [hn],by omega,fun i hi=>absurd hi (by omega),fun _=>rfl⟩
 ·refine ⟨_,cap,rfl,hcap,fun i hi=>⟨g,0,rfl,?_⟩,fun h=>by cases h⟩
  have c:=ho.cells (g:=g) rfl
  have p:=pv_get l i hi
  have c0:=c _ _ p.1
  have c1:=c _ _ p.2
  rw [add_plain] at c0 c1
  exact ⟨c0,c1⟩
theorem Op.slice {T:TypeId} {W0 W:World} {v:Value} {l:List Pt} (h:Op T W0 v l W):∃ ad cap,v=.slice ad l.length cap∧l.length ≤ cap∧PtRow W ad l∧(ad=none → cap=0):=h.pts
theorem intRow_new (W:World) (x:Int) (t:TypeId):IntRow (W.alloc (.cells #[.int .i64 x] t)) (.some ⟨W.heap.size,0,none⟩) [x]:=by
 intro i hi
 obtain rfl:i=0:=by simpa using hi
 exact ⟨_,_,rfl,by simp [go_sem]⟩
/-- append to a row of the call's own, whatever is appended: nil, empty or not -/
theorem app_ints_wp {o:Oper} {a:Act} {K:Act → World → Prop} {Q:Exit → Act → World → Prop} {w W:World} {D L:List Int} {v:Value} {m c:Nat} {ao:Option Addr} (s x:Operand)
  (ho:o.op=.call { callee:=.builtin .append,args:=#[s,x],argTypes:=#[43,43] }) (hs:a.eval s=v) (hO:Oi w v D W) (hx:a.eval x=.slice ao m c) (hm:m=L.length) (hL:IntRow W ao L) (hn:ao=none → c=0)
  (hlen:D.length + L.length ≤ 1000000) (h:∀ v' W',Oi w v' (D ++ L) W' → K (a.put o.dst v') W'):o.wp Tryz.prog a W K Q:=by
 obtain ⟨e0,hi0,hz0,hz1,hz2⟩:=info_parts info_int
 subst hm
 cases ao with
 | some ad=>
  rcases L with _ | ⟨y,ys⟩
  ·refine wp_append_own W s x 43 ho w.heap.size 3 e0 (.int .i64 0) 1 8 Tryz.underlying43 hi0 hz0 hz1 hz2 rfl (by decide) v _ _ hs hO.own ad 0 c [] hx rfl (fun j u h=>by simp at h) (fun u h=>by simp at h) (by unfold maxLen;omega) (by omega) hO.sz fun v' W' ho hg _=>h v' W' ?_
   exact hO.more (by simp) ho hg
  ·obtain ⟨g,o',e⟩:=hL.some (Nat.succ_pos _)
   cases e
   refine wp_append_own W s x 43 ho w.heap.size 3 e0 (.int .i64 0) 1 8 Tryz.underlying43 hi0 hz0 hz1 hz2 rfl (by decide) v _ _ hs hO.own _ _ c (iv (y :: ys)) hx (iv_len _) (iv_cells hL) (iv_one _) (by unfold maxLen;omega) (by omega) hO.sz fun v' W' ho hg _=>h v' W' ?_
   exact hO.more (by simp) ho hg
 | none=>
  obtain rfl:=hn rfl
  rcases L with _ | ⟨y,ys⟩
  ·have hrun:=run_append_owned_none (P:=Tryz.prog) (w:=W) w.heap.size 43 o.type 3 e0 1 Tryz.underlying43 hi0 v _ _ hO.own
   have h':=h v W (by rw [List.append_nil];exact hO)
   unfold Oper.wp
   simp only [List.length_nil] at hx
   simp [execOp,ho,resolve,invoke,builtin,hs,hx,hrun,Result.andThen]
   exact h'
  ·obtain ⟨g,o',e⟩:=hL.some (Nat.succ_pos _)
   cases e
theorem app_ints {ops:Array Oper} {rest:List Oper} {o:Oper} {a:Act} {Q:Exit → Act → World → Prop} {w W:World} {D L:List Int} {v:Value} {m c:Nat} {ao:Option Addr} (hgd:o.guard=none) (s x:Operand)
  (ho:o.op=.call { callee:=.builtin .append,args:=#[s,x],argTypes:=#[43,43] }) (hs:a.eval s=v) (hO:Oi w v D W) (hx:a.eval x=.slice ao m c) (hm:m=L.length) (hL:IntRow W ao L) (hn:ao=none → c=0)
  (hlen:D.length + L.length ≤ 1000000) (h:∀ v' W',Oi w v' (D ++ L) W' → wpList Tryz.prog ops Q rest (a.put o.dst v') W'):wpList Tryz.prog ops Q (o :: rest) a W:=
 wpList_plain hgd fun _ hK=>app_ints_wp s x ho hs hO hx hm hL hn hlen fun v' W' hO'=>hK _ _ (h v' W' hO')

/-- append to a row of the call's own, whatever is appended: nil, empty or not -/
theorem app_pts_wp {o:Oper} {a:Act} {K:Act → World → Prop} {Q:Exit → Act → World → Prop} {T TS:TypeId} {w W:World} {D L:List Pt} {v:Value} {m c:Nat} {ao:Option Addr} (hu:Tryz.prog.underlying TS=some (.slice T)) (hi:(Tryz.prog.info? T).map (fun i=>(i.zero,i.size,i.bytes))=some (some (.agg #[.int .i64 0,.int .i64 0]),2,16)) (s x:Operand)
  (ho:o.op=.call { callee:=.builtin .append,args:=#[s,x],argTypes:=#[TS,TS] }) (hs:a.eval s=v) (hO:Op T w v D W) (hx:a.eval x=.slice ao m c) (hm:m=L.length) (hL:PtRow W ao L) (hn:ao=none → c=0)
  (hlen:D.length + L.length ≤ 1000000) (h:∀ v' W',Op T w v' (D ++ L) W' → K (a.put o.dst v') W'):o.wp Tryz.prog a W K Q:=by
 obtain ⟨e0,hi0,hz0,hz1,hz2⟩:=info_parts hi
 subst hm
 cases ao with
 | some ad=>
  rcases L with _ | ⟨y,ys⟩
  ·refine wp_append_own W s x TS ho w.heap.size T e0 (.agg #[.int .i64 0,.int .i64 0]) 2 16 hu hi0 hz0 hz1 hz2 rfl (by decide) v _ _ hs hO.own ad 0 c [] hx rfl (fun j u h=>by simp at h) (fun u h=>by simp at h) (by unfold maxLen;omega) (by omega) hO.sz fun v' W' ho hg _=>h v' W' ?_
   exact hO.more (by simp) ho hg
  ·obtain ⟨g,o',e⟩:=hL.some (Nat.succ_pos _)
   cases e
   refine wp_append_own W s x TS ho w.heap.size T e0 (.agg #[.int .i64 0,.int .i64 0]) 2 16 hu hi0 hz0 hz1 hz2 rfl (by decide) v _ _ hs hO.own _ _ c (pv (y :: ys)) hx (pv_len _) (pv_cells hL) (pv_one _) (by unfold maxLen;omega) (by omega) hO.sz fun v' W' ho hg _=>h v' W' ?_
   exact hO.more (by simp) ho hg
 | none=>
  obtain rfl:=hn rfl
  rcases L with _ | ⟨y,ys⟩
  ·have hrun:=run_append_owned_none (P:=Tryz.prog) (w:=W) w.heap.size TS o.type T e0 2 hu hi0 v _ _ hO.own
   have h':=h v W (by rw [List.append_nil];exact hO)
   unfold Oper.wp
   simp only [List.length_nil] at hx
   simp [execOp,ho,resolve,invoke,builtin,hs,hx,hrun,Result.andThen]
   exact h'
  ·obtain ⟨g,o',e⟩:=hL.some (Nat.succ_pos _)
   cases e
theorem app_pts {ops:Array Oper} {rest:List Oper} {o:Oper} {a:Act} {Q:Exit → Act → World → Prop} {T TS:TypeId} {w W:World} {D L:List Pt} {v:Value} {m c:Nat} {ao:Option Addr} (hgd:o.guard=none) (hu:Tryz.prog.underlying TS=some (.slice T)) (hi:(Tryz.prog.info? T).map (fun i=>(i.zero,i.size,i.bytes))=some (some (.agg #[.int .i64 0,.int .i64 0]),2,16)) (s x:Operand)
  (ho:o.op=.call { callee:=.builtin .append,args:=#[s,x],argTypes:=#[TS,TS] }) (hs:a.eval s=v) (hO:Op T w v D W) (hx:a.eval x=.slice ao m c) (hm:m=L.length) (hL:PtRow W ao L) (hn:ao=none → c=0)
  (hlen:D.length + L.length ≤ 1000000) (h:∀ v' W',Op T w v' (D ++ L) W' → wpList Tryz.prog ops Q rest (a.put o.dst v') W'):wpList Tryz.prog ops Q (o :: rest) a W:=
 wpList_plain hgd fun _ hK=>app_pts_wp hu hi s x ho hs hO hx hm hL hn hlen fun v' W' hO'=>hK _ _ (h v' W' hO')

/-- a pair written into the row -/
theorem pv_set:∀ (l:List Pt) (j:Nat) (q:Pt),j < l.length → ((pv l).set (j * 2) (.int .i64 q.x)).set (j * 2 + 1) (.int .i64 q.y)=pv (l.set j q)
 | p :: l,0,q,_=>rfl
 | p :: l,j + 1,q,h=>by
  have:=pv_set l j q (by simpa using h)
  rw [show (j + 1) * 2=j * 2 + 1 + 1 by omega]
  simp only [pv,List.flatMap_cons,List.cons_append,List.nil_append,List.set_cons_succ] at this ⊢
  rw [this]
theorem Op.store {T:TypeId} {W0 W:World} {g n cap:Nat} {l:List Pt} (h:Op T W0 (.slice (some ⟨g,0,none⟩) n cap) l W) (hn:n=l.length) (j:Nat) (hj:j < l.length) (q:Pt) :
  Op T W0 (.slice (some ⟨g,0,none⟩) n cap) (l.set j q) ((W.setCell ⟨g,j * 2,none⟩ (.int .i64 q.x)).setCell ⟨g,j * 2 + 1,none⟩ (.int .i64 q.y)):=by
 subst hn
 have hs:=h.own.stored (j * 2) (.int .i64 q.x)
 have hs2:=hs.1.stored (j * 2 + 1) (.int .i64 q.y)
 have hg:=hs.2.trans hs2.2
 refine ⟨?_,h.hb.grown hg h.sz (fun k e=>by cases e;exact (h.own.lt g rfl).1),Nat.le_trans h.sz hg.size⟩
 rw [List.length_set,← pv_set l j q hj]
 exact hs2.1
theorem Op.frozen {T:TypeId} {W0 W:World} {g n cap:Nat} {l:List Pt} (h:Op T W0 (.slice (some ⟨g,0,none⟩) n cap) l W) (hn:n=l.length) (j:Nat):W.frozen? ⟨g,j,none⟩=false:=by
 subst hn
 exact h.own.frozenAt j
theorem Op.cell {T:TypeId} {W0 W:World} {g n cap:Nat} {l:List Pt} (h:Op T W0 (.slice (some ⟨g,0,none⟩) n cap) l W) (hn:n=l.length) {j:Nat} (hj:j < l.length):W.cell? ⟨g,j * 2,none⟩=some (.int .i64 (pget l j).x)∧W.cell? ⟨g,j * 2 + 1,none⟩=some (.int .i64 (pget l j).y):=by
 subst hn
 obtain ⟨ad,c,e,-,hr,-⟩:=h.pts
 cases e
 have:=ptRow_at hr hj rfl
 rwa [Nat.zero_add] at this
theorem pv_zero (n:Nat):pv (List.replicate n ⟨0,0⟩)=List.replicate (n * 2) (.int .i64 0):=by
 induction n with
 | zero=>rfl
 | succ n ih=>
  rw [show (n + 1) * 2=n * 2 + 1 + 1 by omega,List.replicate_succ,List.replicate_succ,List.replicate_succ,← ih]
  rfl
theorem made2 (n:Nat):(madeCells #[Value.int .i64 0,Value.int .i64 0] n).toList=List.replicate n (.int .i64 0):=by
 apply List.ext_getElem
 ·simp [size_madeCells]
 intro i h1 h2
 simp only [madeCells,Array.getElem_toList,Array.getElem_map,Array.getElem_range,List.getElem_replicate]
 rcases Nat.mod_two_eq_zero_or_one i with e | e
 ·show (#[Value.int .i64 0,Value.int .i64 0])[i % 2]! = _
  rw [e];rfl
 ·show (#[Value.int .i64 0,Value.int .i64 0])[i % 2]! = _
  rw [e];rfl
theorem madePts (n:Nat):(madeCells #[Value.int .i64 0,Value.int .i64 0] (n * 2)).toList=pv (List.replicate n ⟨0,0⟩):=by rw [made2,pv_zero]
theorem op_made {T:TypeId} {W0 W:World} {n b:Nat} (hb:b=W0.heap.size) (hown:W.ownsRow b T 2 (.slice (some ⟨b,0,none⟩) n n) n (madeCells #[Value.int .i64 0,Value.int .i64 0] (n * 2)).toList) (hg:W0.grownBy W none):Op T W0 (.slice (some ⟨b,0,none⟩) n n) (List.replicate n ⟨0,0⟩) W:=by
 subst hb
 refine ⟨?_,(Below.refl _ _).grown hg (Nat.le_refl _) (fun k h=>by cases h),hg.size⟩
 rw [List.length_replicate,← madePts]
 exact hown
end Go.Proofs.YtpjaefcmaiimlaaGreat

/-
  Contract of rings.Degrees.
-/
namespace Go.Proofs.YtpjaefcmaiimlaaGreat
open Go.RowKit

theorem nb1_le (s:Pt) (p:Int):(nb1 s p).length ≤ 2:=by unfold nb1;split <;> split <;> simp
theorem deg_le:∀ (l:List Pt) (p:Int),deg l p ≤ 2 * l.length
 | [],p=>by simp [deg,nbs]
 | s :: l,p=>by
  have:=deg_le l p
  have:=nb1_le s p
  unfold deg at *
  rw [nbs_cons,List.length_append,List.length_cons]
  omega
theorem take_snoc (l:List Pt) {k:Nat} (h:k < l.length):l.take (k + 1)=l.take k ++ [pget l k]:=by
 rw [List.take_succ_eq_append_getElem h]
 simp [pget,h]
theorem pget_mem {l:List Pt} {k:Nat} (h:k < l.length):pget l k ∈ l:=by
 unfold pget
 simp [h]
def DegP (n:Int) (l:List Pt) (w:World) (e:Ending) (w':World):Prop:=
 (okL n l∧∃ v,e=.returned (.tuple #[v,.int .i64 0])∧Oi w v (degs n.toNat l) w') ∨ (¬ okL n l∧e=.returned (.tuple #[.slice none 0 0,.int .i64 2])∧Below w.heap.size w w')
set_option maxHeartbeats 8000000 in
set_option maxRecDepth 100000 in
theorem degrees_l (n:Int) (l:List Pt) (ad:Option Addr) (cap:Nat) (w:World) (hP:PtRow w ad l) (hn:n ≤ 10000 ∨ 1048576 < n) (hlen:l.length ≤ 10000) :
  Calls Tryz.prog 52 #[.int .i64 n,.slice ad l.length cap] w (DegP n l w):=by
 obtain ⟨e0,hi0,hz0,hz1,hz2⟩:=info_parts info_int
 have HP0:=Lib.hid hP
 clear hP
 go_enter Tryz.func52,Tryz.ntmps52
 by_cases h0:n < 0
 ·have b0:(n < 0)=True:=eq_true h0
  have hNo:Hid (¬ okL n l):=fun h=>by have:=h.1;omega
  clear hn h0
  go_wp2_with fail
  go_ret2
  exact .inr ⟨hNo.out,rfl,Below.refl _ _⟩
 have b0:(n < 0)=False:=eq_false h0
 by_cases h1:1048576 < n
 ·have b1:(1048576 < n)=True:=eq_true h1
  have hNo:Hid (¬ okL n l):=fun h=>by have:=h.2.1;omega
  clear hn h0 h1
  go_wp2_with fail
  go_ret2
  exact .inr ⟨hNo.out,rfl,Below.refl _ _⟩
 obtain ⟨m,rfl⟩:=Int.eq_ofNat_of_zero_le (by omega:0 ≤ n)
 have b1:(1048576 < (m:Int))=False:=eq_false h1
 have hm:m ≤ 10000:=by omega
 clear hn h0 h1
 go_wp2_with (at_make;refine wpList_make_full _ rfl _ _ 43 rfl w.heap.size 3 e0 (.int .i64 0) 1 Tryz.underlying43 hi0 hz0 hz1 _ _ _ _ m rfl rfl rfl rfl ?b2 ?b3 (by simp) ?_)
 case b2=>rw [hz2];omega
 case b3=>unfold maxLen;omega
 intro w0 hown0 hgrow0
 have HO0:=Lib.hid (oi_made rfl hown0 hgrow0)
 clear hown0 hgrow0 b0 b1
 obtain ⟨g3,hg3⟩:∃ g,w.heap.size=g:=⟨_,rfl⟩
 rw [hg3] at HO0 ⊢
 have hG3:=Lib.hid hg3
 clear hg3
 go_wp2_with fail
 go_loopw [19] (fun iv W=>∃ k:Nat,k ≤ l.length∧iv=.int .i64 k∧(∀ s ∈ l.take k,okS (m:Int) s)∧Oi w (.slice (some ⟨g3,0,none⟩) m m) (degs m (l.take k)) W) (fun iv _=>l.length - (intOf iv).toNat)
 case atStart=>exact ⟨0,Nat.zero_le _,rfl,fun s hs=>by simp at hs,by rw [List.take_zero,degs_nil];exact HO0.out⟩
 case round=>
  obtain ⟨k,hk,rfl,hS,hO⟩:=hrel
  have HO:=Lib.hid hO
  have HS:=Lib.hid hS
  clear hO hS HO0
  by_cases hlt:k < l.length
  ·have b2:((k:Int) < (l.length:Int))=True:=eq_true (by omega)
   have d2:(k < l.length)=True:=eq_true hlt
   have c2:((0:Int) ≤ (k:Int))=True:=eq_true (by omega)
   obtain ⟨g,o,rfl⟩:=HP0.out.some (by omega)
   obtain ⟨s,hs⟩:∃ s,pget l k=s:=⟨_,rfl⟩
   have HSK:=Lib.hid hs
   obtain ⟨k0,k1⟩:=ptRow_at (HP0.out.below HO.out.hb) hlt hs
   clear hs
   by_cases hok:okS (m:Int) s
   ·have hoo:=hok
    unfold okS at hok
    obtain ⟨a,ha⟩:=Int.eq_ofNat_of_zero_le hok.1
    obtain ⟨b,hb⟩:=Int.eq_ofNat_of_zero_le hok.2.1
    have hA:=Lib.hid ha
    have hB:=Lib.hid hb
    rw [ha] at k0
    rw [hb] at k1
    have hab:a ≠ b:=by omega
    have ham:a < m:=by omega
    have hbm:b < m:=by omega
    have HSO:=Lib.hid hoo
    clear hok hoo ha hb
    obtain ⟨q1,hq1⟩:∃ z,min (a:Int) (b:Int)=z:=⟨_,rfl⟩
    obtain ⟨q2,hq2⟩:∃ z,max (a:Int) (b:Int)=z:=⟨_,rfl⟩
    have b3:(q1 < 0)=False:=eq_false (by omega)
    have b4:((m:Int) ≤ q2)=False:=eq_false (by omega)
    have b5:((a:Int)=(b:Int))=False:=eq_false (by omega)
    have b5':(a=b)=False:=eq_false hab
    go_upto_region 7 with (fail)
    have HV:=Lib.hid (var2_new wr (.int .i64 (a:Int)) (.int .i64 (b:Int)) 59 wr.heap.size rfl)
    have HO1:=Lib.hid (HO.out.alloc (.cells #[.int .i64 (a:Int),.int .i64 (b:Int)] 59))
    have hgn:g3 < wr.heap.size:=(HO.out.own.lt g3 rfl).2
    generalize wr.alloc (.cells #[.int .i64 (a:Int),.int .i64 (b:Int)] 59)=W2 at *
    generalize wr.heap.size=g8 at *
    obtain ⟨v0,v1⟩:=HV.out.two
    clear k0 k1 HO
    go_upto_region 9 with (fail)
    have hdl:(degs m (l.take k)).length=m:=degs_len _ _
    have f1:=HO1.out.frozen hdl.symm a
    have k2:=HO1.out.cell hdl.symm (j:=a) (by omega)
    rw [degs_at] at k2
    have hd1:=deg_le (l.take k) (a:Int)
    have hd2:=deg_le (l.take k) (b:Int)
    rw [List.length_take] at hd1 hd2
    obtain ⟨e1,he1⟩:∃ e,deg (l.take k) (a:Int)=e:=⟨_,rfl⟩
    obtain ⟨e2,he2⟩:∃ e,deg (l.take k) (b:Int)=e:=⟨_,rfl⟩
    rw [he1] at k2 hd1
    rw [he2] at hd2
    have d3:(a < m)=True:=eq_true ham
    have d4:(b < m)=True:=eq_true hbm
    have c3:((0:Int) ≤ (a:Int))=True:=eq_true (by omega)
    have c4:((a:Int) < (m:Int))=True:=eq_true (by omega)
    have c5:((0:Int) ≤ (b:Int))=True:=eq_true (by omega)
    have c6:((b:Int) < (m:Int))=True:=eq_true (by omega)
    have HO2:=Lib.hid (HO1.out.store hdl.symm a ((e1:Int) + 1))
    have HST:Hid (((degs m (l.take k)).set a ((e1:Int) + 1)).set b ((e2:Int) + 1)=degs m (l.take (k + 1))):=by
     rw [take_snoc l hlt,← he1,← he2,HSK.out]
     exact degs_snoc hA.out hB.out hab ham hbm
    have HGE:Hid (∀ h:b < ((degs m (l.take k)).set a ((e1:Int) + 1)).length,((degs m (l.take k)).set a ((e1:Int) + 1))[b]=(e2:Int)):=by
     intro h
     rw [List.getElem_set_ne (by omega),degs_at,he2]
    have hs2:((degs m (l.take k)).set a ((e1:Int) + 1)).length=m:=by rw [List.length_set,hdl]
    generalize (degs m (l.take k)).set a ((e1:Int) + 1)=D2 at *
    clear hdl he1 he2
    obtain ⟨n1,n2,n3,n4⟩:=wnum (i:=e1) (by omega)
    go_upto_region 10 with (fail)
    clear n1 n2 n3 n4 f1 k2
    replace HV:=Lib.hid (HV.out.far (p:=⟨g3,a,none⟩) (by dsimp only;omega) (.int .i64 ((e1:Int) + 1)))
    generalize W2.setCell ⟨g3,a,none⟩ (.int .i64 ((e1:Int) + 1))=W3 at *
    clear v0 v1 HO1
    obtain ⟨v0,v1⟩:=HV.out.two
    have f1:=HO2.out.frozen hs2.symm b
    have k2:=HO2.out.cell hs2.symm (j:=b) (by omega)
    rw [HGE.out (by omega)] at k2
    have HO3:=Lib.hid (HO2.out.store hs2.symm b ((e2:Int) + 1))
    rw [HST.out] at HO3
    clear HST HGE hs2 HO2
    obtain ⟨n1,n2,n3,n4⟩:=wnum (i:=e2) (by omega)
    obtain ⟨m1,m2,m3,m4⟩:=wnum (i:=k) (by omega)
    go_wp2_with fail
    clear n1 n2 n3 n4 m1 m2 m3 m4
    refine ⟨⟨k + 1,hlt,by rw [Int.natCast_add];rfl,fun t ht=>?_,HO3.out⟩,by simp [intOf];omega⟩
    rw [take_snoc l hlt,HSK.out] at ht
    rcases List.mem_append.1 ht with h | h
    ·exact HS.out t h
    ·simp at h
     rw [h]
     exact HSO.out
   ·have hNo:Hid (¬ okL (m:Int) l):=fun h=>hok (HSK.out ▸ h.2.2 _ (pget_mem hlt))
    obtain ⟨x,hx⟩:∃ x,s.x=x:=⟨_,rfl⟩
    obtain ⟨y,hy⟩:∃ y,s.y=y:=⟨_,rfl⟩
    unfold okS at hok
    rw [hx,hy] at hok
    rw [hx] at k0
    rw [hy] at k1
    obtain ⟨q1,hq1⟩:∃ z,min x y=z:=⟨_,rfl⟩
    obtain ⟨q2,hq2⟩:∃ z,max x y=z:=⟨_,rfl⟩
    have hB0:=Lib.hid (bl_trans HO.out.hb (bl_one wr (.cells #[.int .i64 x,.int .i64 y] 59)))
    clear hx hy
    go_upto_region 7 with (fail)
    have HV:=Lib.hid (var2_new wr (.int .i64 x) (.int .i64 y) 59 wr.heap.size rfl)
    generalize wr.alloc (.cells #[.int .i64 x,.int .i64 y] 59)=W2 at *
    generalize wr.heap.size=g8 at *
    obtain ⟨v0,v1⟩:=HV.out.two
    clear k0 k1 HO
    by_cases h3:q1 < 0
    ·have b3:(q1 < 0)=True:=eq_true h3
     clear h3 hok
     go_wp2_with fail
     go_ret2
     exact .inr ⟨hNo.out,rfl,hB0.out⟩
    ·have b3:(q1 < 0)=False:=eq_false h3
     by_cases h4:(m:Int) ≤ q2
     ·have b4:((m:Int) ≤ q2)=True:=eq_true h4
      clear h3 h4 hok
      go_wp2_with fail
      go_ret2
      exact .inr ⟨hNo.out,rfl,hB0.out⟩
     ·have b4:((m:Int) ≤ q2)=False:=eq_false h4
      obtain rfl:x=y:=by omega
      clear h3 h4 hok
      go_wp2_with fail
      go_ret2
      exact .inr ⟨hNo.out,rfl,hB0.out⟩
  ·obtain rfl:k=l.length:=by omega
   have b2:((l.length:Int) < (l.length:Int))=False:=eq_false (by omega)
   have hOk:Hid (okL (m:Int) l):=⟨by omega,by omega,by have:=HS.out;rwa [List.take_length] at this⟩
   rw [List.take_length] at HO
   go_wp2_with fail
   go_ret2
   refine .inl ⟨hOk.out,_,rfl,?_⟩
   rw [Int.toNat_natCast]
   exact HO.out
end Go.Proofs.YtpjaefcmaiimlaaGreat

/-
  slices.IndexFunc over numbers and over segments; the functions that it asks.
-/
namespace Go.Proofs.YtpjaefcmaiimlaaGreat
open Go.RowKit

/-- 'neither no nor two' -/
theorem fork_l (x:Int) (w:World):Calls Tryz.prog 57 #[.int .i64 x] w (Gives (.bool (decide (x ≠ 0) && decide (x ≠ 2))) w):=by
 obtain ⟨r,hr⟩:∃ r,(decide (x ≠ 0) && decide (x ≠ 2))=r:=⟨_,rfl⟩
 rw [hr]
 have HR:=Lib.hid hr
 clear hr
 go_enter Tryz.func57,Tryz.ntmps57
 by_cases h0:x=0
 ·subst h0
  go_wp2_with fail
  go_ret
  exact ⟨by rw [← HR.out];rfl,Below.refl _ _⟩
 ·have b0:(x=0)=False:=eq_false h0
  have b0':(x != 0)=true:=bne_iff_ne.2 h0
  have b0'':(x == 0)=false:=beq_eq_false_iff_ne.2 h0
  by_cases h2:x=2
  ·subst h2
   clear h0 b0 b0' b0''
   go_wp2_with fail
   go_ret
   exact ⟨by rw [← HR.out];rfl,Below.refl _ _⟩
  ·have c0:(x=2)=False:=eq_false h2
   have c0':(x != 2)=true:=bne_iff_ne.2 h2
   have c0'':(x == 2)=false:=beq_eq_false_iff_ne.2 h2
   obtain rfl:r=true:=by rw [← HR.out];simp [h0,h2]
   clear h0 h2
   go_wp2_with fail
   go_ret
   exact ⟨rfl,Below.refl _ _⟩

set_option maxHeartbeats 8000000 in
set_option maxRecDepth 100000 in
theorem indexFuncS_l (f:FuncId) (caps:Array Value) (hcf:∀ args w,(callFunc f args).run Tryz.prog w=.ok (.enter f args) w) (l:List Pt) (ad:Option Addr) (cap:Nat) (q:Nat → Bool) (Inv:Nat → World → Prop) (hI:∀ k W,Inv k W → PtRow W ad l)
  (hcall:∀ k W,k < l.length → Inv k W → Calls Tryz.prog f (#[.agg #[.int .i64 (pget l k).x,.int .i64 (pget l k).y]] ++ caps) W fun e W'=>e=.returned (.bool (q k))∧Inv (k + 1) W') (hlen:l.length ≤ 100000) (w:World) (h0:Inv 0 w) :
  Calls Tryz.prog 46 #[.slice ad l.length cap,.func (.func f) #[] caps] w fun e W=>e=.returned (.int .i64 (firstN q l.length))∧∃ k,Inv k W:=by
 have HI:=Lib.hid hI
 have HC:=Lib.hid hcall
 have H0:=Lib.hid h0
 clear hI hcall h0
 go_enter Tryz.func46,Tryz.ntmps46
 go_wp2_with fail
 go_loopw [8] (fun iv W=>∃ k:Nat,k ≤ l.length∧iv=.int .i64 k∧(∀ i,i < k → q i=false)∧Inv k W) (fun iv _=>l.length - (intOf iv).toNat)
 case atStart=>exact ⟨0,Nat.zero_le _,rfl,fun i hi=>absurd hi (Nat.not_lt_zero _),H0.out⟩
 case round=>
  obtain ⟨k,hk,rfl,hq,hV⟩:=hrel
  have HQ:=Lib.hid hq
  have HV:=Lib.hid hV
  clear hq hV H0
  by_cases hlt:k < l.length
  ·have b2:((k:Int) < (l.length:Int))=True:=eq_true (by omega)
   have d2:(k < l.length)=True:=eq_true hlt
   have c2:((0:Int) ≤ (k:Int))=True:=eq_true (by omega)
   have HR:=Lib.hid (HI.out k wr HV.out)
   obtain ⟨g,o,rfl⟩:=HR.out.some (by omega)
   obtain ⟨s,hs⟩:∃ s,pget l k=s:=⟨_,rfl⟩
   obtain ⟨k0,k1⟩:=ptRow_at HR.out hlt hs
   have HCL:=Lib.hid (HC.out k wr hlt HV.out)
   rw [hs] at HCL
   obtain ⟨r,hr⟩:∃ r,q k=r:=⟨_,rfl⟩
   rw [hr] at HCL
   have HQK:=Lib.hid hr
   clear hr hs
   go_wp2_with fail
   (with_reducible refine HCL.out.mono ?_);rintro e w1 ⟨rfl,hV1⟩
   have HV1:=Lib.hid hV1
   clear hV1 HV HCL k0 k1
   cases r
   ·obtain ⟨m1,m2,m3,m4⟩:=wnum (i:=k) (by omega)
    go_wp2_with fail
    clear m1 m2 m3 m4
    refine ⟨⟨k + 1,hlt,by rw [Int.natCast_add];rfl,fun i hi=>?_,HV1.out⟩,by simp [intOf];omega⟩
    rcases Nat.lt_or_ge i k with h | h
    ·exact HQ.out i h
    ·obtain rfl:i=k:=by omega
     exact HQK.out
   ·go_wp2_with fail
    go_ret
    exact ⟨by rw [firstN_at hlt HQK.out HQ.out];rfl,k + 1,HV1.out⟩
  ·obtain rfl:k=l.length:=by omega
   have b2:((l.length:Int) < (l.length:Int))=False:=eq_false (by omega)
   go_wp2_with fail
   go_ret
   exact ⟨by rw [firstN_no HQ.out];rfl,_,HV.out⟩

set_option maxHeartbeats 8000000 in
set_option maxRecDepth 100000 in
theorem indexFuncI_l (f:FuncId) (caps:Array Value) (hcf:∀ args w,(callFunc f args).run Tryz.prog w=.ok (.enter f args) w) (l:List Int) (ad:Option Addr) (cap:Nat) (q:Nat → Bool) (Inv:Nat → World → Prop) (hI:∀ k W,Inv k W → IntRow W ad l)
  (hcall:∀ k W,k < l.length → Inv k W → Calls Tryz.prog f (#[.int .i64 (l.getD k 0)] ++ caps) W fun e W'=>e=.returned (.bool (q k))∧Inv (k + 1) W') (hlen:l.length ≤ 100000) (w:World) (h0:Inv 0 w) :
  Calls Tryz.prog 56 #[.slice ad l.length cap,.func (.func f) #[] caps] w fun e W=>e=.returned (.int .i64 (firstN q l.length))∧∃ k,Inv k W:=by
 have HI:=Lib.hid hI
 have HC:=Lib.hid hcall
 have H0:=Lib.hid h0
 clear hI hcall h0
 go_enter Tryz.func56,Tryz.ntmps56
 go_wp2_with fail
 go_loopw [8] (fun iv W=>∃ k:Nat,k ≤ l.length∧iv=.int .i64 k∧(∀ i,i < k → q i=false)∧Inv k W) (fun iv _=>l.length - (intOf iv).toNat)
 case atStart=>exact ⟨0,Nat.zero_le _,rfl,fun i hi=>absurd hi (Nat.not_lt_zero _),H0.out⟩
 case round=>
  obtain ⟨k,hk,rfl,hq,hV⟩:=hrel
  have HQ:=Lib.hid hq
  have HV:=Lib.hid hV
  clear hq hV H0
  by_cases hlt:k < l.length
  ·have b2:((k:Int) < (l.length:Int))=True:=eq_true (by omega)
   have d2:(k < l.length)=True:=eq_true hlt
   have c2:((0:Int) ≤ (k:Int))=True:=eq_true (by omega)
   have HR:=Lib.hid (HI.out k wr HV.out)
   obtain ⟨g,o,rfl⟩:=HR.out.some (by omega)
   obtain ⟨s,hs⟩:∃ s,l.getD k 0=s:=⟨_,rfl⟩
   have k0:=intRow_at HR.out hlt (t:=s) (by rw [← hs];simp [hlt])
   have HCL:=Lib.hid (HC.out k wr hlt HV.out)
   rw [hs] at HCL
   obtain ⟨r,hr⟩:∃ r,q k=r:=⟨_,rfl⟩
   rw [hr] at HCL
   have HQK:=Lib.hid hr
   clear hr hs
   go_wp2_with fail
   (with_reducible refine HCL.out.mono ?_);rintro e w1 ⟨rfl,hV1⟩
   have HV1:=Lib.hid hV1
   clear hV1 HV HCL k0
   cases r
   ·obtain ⟨m1,m2,m3,m4⟩:=wnum (i:=k) (by omega)
    go_wp2_with fail
    clear m1 m2 m3 m4
    refine ⟨⟨k + 1,hlt,by rw [Int.natCast_add];rfl,fun i hi=>?_,HV1.out⟩,by simp [intOf];omega⟩
    rcases Nat.lt_or_ge i k with h | h
    ·exact HQ.out i h
    ·obtain rfl:i=k:=by omega
     exact HQK.out
   ·go_wp2_with fail
    go_ret
    exact ⟨by rw [firstN_at hlt HQK.out HQ.out];rfl,k + 1,HV1.out⟩
  ·obtain rfl:k=l.length:=by omega
   have b2:((l.length:Int) < (l.length:Int))=False:=eq_false (by omega)
   go_wp2_with fail
   go_ret
   exact ⟨by rw [firstN_no HQ.out];rfl,_,HV.out⟩
end Go.Proofs.YtpjaefcmaiimlaaGreat

/-
  Contract of rings.again: a map of the ends that have occurred.
-/
namespace Go.Proofs.YtpjaefcmaiimlaaGreat
open Go.RowKit Go.Maps

theorem laidOut8:laidOutB Tryz.prog=true:=by kernel_rfl
theorem row_seg:(59:TypeId) < Tryz.prog.types.size:=of_decide_eq_true (by kernel_rfl)
theorem wide_seg:(match Tryz.prog.underlying 59 with | some (.array _ _) | some (.struct _)=>true | _=>false)=true:=by rw [Tryz.underlying59]
set_option maxRecDepth 100000 in
theorem law_seg:Keyed Tryz.prog 59:=Keyed.of_law (deep_law_laid laidOut8 (m:=2) (by omega) row_seg (by kernel_rfl) wide_seg)
theorem key_seg:Tryz.prog.keyType 59=true:=by kernel_rfl
theorem zero_unit (w:World):(zeroValue 112).run Tryz.prog w=.ok (.agg #[]) w:=by kernel_rfl
def kl (a b:Int):Lit:=.string (keyBytes [.int .i64 a,.int .i64 b])
def i64 (a:Int):Prop:=-9223372036854775808 ≤ a∧a ≤ 9223372036854775807
theorem kl_is {a b:Int} (ha:i64 a) (hb:i64 b):keyOf Tryz.prog 59 (.agg #[.int .i64 a,.int .i64 b])=some (kl a b):=by
 have w1:(Lit.int .i64 a).wf=true:=WalkArith.wf_i64 (by unfold i64 at ha;omega)
 have w2:(Lit.int .i64 b).wf=true:=WalkArith.wf_i64 (by unfold i64 at hb;omega)
 have k3:Tryz.prog.cellsOf 3=1:=by kernel_rfl
 have k36:Tryz.prog.cellsOf 59=2:=by kernel_rfl
 obtain ⟨n,hn⟩:∃ n,Tryz.prog.types.size + 1=n + 2:=⟨Tryz.prog.types.size - 1,by have:(59:Nat) < Tryz.prog.types.size:=row_seg;omega⟩
 have hf:(Value.agg #[.int .i64 a,.int .i64 b]).formed Tryz.prog 59=true:=by simp [Value.formed,Tryz.underlying59,k36]
 unfold keyOf
 rw [Tryz.underlying59,key_seg,hf,hn]
 simp [Program.keyLits,Tryz.underlying59,Tryz.underlying3,k3,k36,w1,w2,kl,Value.cells]
theorem kl_inj {a b c d:Int} (ha:i64 a) (hb:i64 b) (hc:i64 c) (hd:i64 d) (h:kl a b=kl c d):a=c∧b=d:=by
 have:=law_seg.inj (kl_is ha hb) (h ▸ kl_is hc hd)
 simpa using this
theorem kl_key {a b:Int} (ha:i64 a) (hb:i64 b):WideAt.IsKeyLit (kl a b):=law_seg.key (kl_is ha hb)
set_option maxHeartbeats 8000000 in
set_option maxRecDepth 100000 in
theorem again1_l (x y q1 q2:Int) (h1:min x y=q1) (h2:max x y=q2) (hx:i64 x) (hy:i64 y) (gm b n:Nat) (D:DataW Unit) (hn:n ≤ 100000) (W:World) (hc:W.cell? ⟨gm,0,none⟩=some (.map (some b))) (hown:W.ownsMap Tryz.prog 59 (unitElem (H:=Unit)) b n D) :
  Calls Tryz.prog 88 #[.agg #[.int .i64 x,.int .i64 y],.pointer (some ⟨gm,0,none⟩)] W fun e W'=>e=.returned (.bool (Maps.has D (kl q1 q2)))∧W'.ownsMap Tryz.prog 59 (unitElem (H:=Unit)) b (n + 1) (D.put (kl q1 q2) (.agg []))∧W.grownBy W' (some b):=by
 have HO:=Lib.hid hown
 have HC:=Lib.hid hc
 have HK:=Lib.hid (kl_is (a:=q1) (b:=q2) (by unfold i64 at *;omega) (by unfold i64 at *;omega))
 clear hown hc hx hy
 go_enter Tryz.func88,Tryz.ntmps88
 go_upto_region 1 with (fail)
 have HV:=Lib.hid (var2_new W (.int .i64 x) (.int .i64 y) 59 W.heap.size rfl)
 have HO1:=Lib.hid (HO.out.alloc (.cells #[.int .i64 x,.int .i64 y] 59))
 have HC1:=Lib.hid (((bl_one W (.cells #[.int .i64 x,.int .i64 y] 59)).cell (cell_lt HC.out)).trans HC.out)
 have HG:=Lib.hid (World.grownBy_alloc W (.cells #[.int .i64 x,.int .i64 y] 59) (some b))
 generalize W.alloc (.cells #[.int .i64 x,.int .i64 y] 59)=W1 at *
 generalize W.heap.size=g2 at *
 obtain ⟨v0,v1⟩:=HV.out.two
 go_upto_region 2 with (fail)
 have HV2:=Lib.hid (var2_new W1 (.int .i64 q1) (.int .i64 q2) 59 W1.heap.size rfl)
 have HO2:=Lib.hid (HO1.out.alloc (.cells #[.int .i64 q1,.int .i64 q2] 59))
 have HC2:=Lib.hid (((bl_one W1 (.cells #[.int .i64 q1,.int .i64 q2] 59)).cell (cell_lt HC1.out)).trans HC1.out)
 have HG2:=Lib.hid (HG.out.trans (World.grownBy_alloc W1 (.cells #[.int .i64 q1,.int .i64 q2] 59) (some b)))
 clear HO HO1 HC HC1 HG HV v0 v1
 generalize W1.alloc (.cells #[.int .i64 q1,.int .i64 q2] 59)=W2 at *
 generalize W1.heap.size=g4 at *
 obtain ⟨v0,v1⟩:=HV2.out.two
 have c0:=HC2.out
 go_upto_region 3 with ((at_lookup;refine wpList_lookup_own_unit _ rfl _ _ 111 rfl 59 112 law_seg Tryz.underlying111 (zero_unit _) b n D rfl HO2.out _ _ rfl HK.out ?_))
 have HO3:=Lib.hid (HO2.out.alloc (.cells #[] 112))
 have HV3:=Lib.hid (HV2.out.below (bl_one W2 (.cells #[] 112)))
 have HC3:=Lib.hid (((bl_one W2 (.cells #[] 112)).cell (cell_lt HC2.out)).trans HC2.out)
 have HG3:=Lib.hid (HG2.out.trans (World.grownBy_alloc W2 (.cells #[] 112) (some b)))
 clear HO2 HV2 HC2 HG2 v0 v1 c0
 generalize W2.alloc (.cells #[] 112)=W3 at *
 generalize W2.heap.size=g5 at *
 obtain ⟨v0,v1⟩:=HV3.out.two
 have c0:=HC3.out
 obtain ⟨r,hr⟩:∃ r,Maps.has D (kl q1 q2)=r:=⟨_,rfl⟩
 rw [hr]
 have HR:=Lib.hid hr
 clear hr
 go_wp2_with (at_mapUpdate;refine wpList_mapUpdate_own _ rfl _ _ _ 111 rfl 59 112 law_seg Tryz.underlying111 (unitElem (H:=Unit)) b n D rfl HO3.out (by unfold maxLen;omega) _ _ _ rfl rfl HK.out _ [] unitElem_mk ?_)
 intro w4 hown4 hgrow4
 have HO4:=Lib.hid hown4
 have HG4:=Lib.hid (HG3.out.trans hgrow4)
 clear hown4 hgrow4
 go_wp2_with fail
 go_ret
 exact ⟨by rw [HR.out];rfl,HO4.out,HG4.out⟩
/-- what has been seen -/
structure Seen (w:World) (l:List Pt) (ad:Option Addr) (gm b:Nat) (k:Nat) (W:World):Prop where
 row:PtRow W ad l
 cell:W.cell? ⟨gm,0,none⟩=some (.map (some b))
 map:∃ D:DataW Unit,W.ownsMap Tryz.prog 59 (unitElem (H:=Unit)) b k D∧∀ x y,i64 x → i64 y → Maps.has D (kl x y)=(l.take k).any fun t=>decide (norm t=⟨x,y⟩)
 hb:Below w.heap.size w W
 hbb:w.heap.size ≤ b
 hgm:gm ≠ b
 had:0 < l.length → ∀ g o,ad=some ⟨g,o,none⟩ → g < w.heap.size
theorem PtRow.turned {W W':World} {ad:Option Addr} {l:List Pt} {b:Nat} (h:PtRow W ad l) (hg:W.grownBy W' (.some b)) (hne:∀ g o,ad=.some ⟨g,o,none⟩ → g ≠ b):PtRow W' ad l:=by
 intro i hi
 obtain ⟨g,o,e,h1,h2⟩:=h i hi
 have key:W'.heap[g]?=W.heap[g]?:=hg.block g (cell_lt h1) (fun e'=>hne g o e (by simpa using e'))
 refine ⟨g,o,e,?_,?_⟩
 ·rw [← h1];unfold World.cell?;rw [key]
 ·rw [← h2];unfold World.cell?;rw [key]
theorem bel_turned {w W W':World} {b:Nat} (h:Below w.heap.size w W) (hg:W.grownBy W' (some b)) (hs:w.heap.size ≤ W.heap.size) (hb:w.heap.size ≤ b):Below w.heap.size w W':=
 h.grown hg hs (fun k e=>by cases e;exact hb)
theorem Seen.start {w:World} {l:List Pt} {ad:Option Addr} (hP:PtRow w ad l) (W:World) (hW:W=(w.alloc (.map #[] 0)).alloc (.cells #[.map (some w.heap.size)] 111)):Seen w l ad (w.heap.size + 1) w.heap.size 0 W:=by
 subst hW
 have hb:=bl_alloc (bl_one w (.map #[] 0)) (.cells #[.map (some w.heap.size)] 111)
 refine ⟨hP.below hb,by simp [go_sem],⟨.map [],(World.ownsMap_made _ _ _ _).alloc _,fun x y _ _=>rfl⟩,hb,Nat.le_refl _,by omega,fun h0 g o e=>?_⟩
 obtain ⟨g',o',e',h1,-⟩:=hP 0 h0
 rw [e'] at e
 cases e
 exact cell_lt h1
theorem seen_step {l:List Pt} {k:Nat} (hk:k < l.length) (hw:∀ s ∈ l,i64 s.x∧i64 s.y) {D:DataW Unit} (hD:IsMap D) (h:∀ x y,i64 x → i64 y → Maps.has D (kl x y)=(l.take k).any fun t=>decide (norm t=⟨x,y⟩)) :
  ∀ x y,i64 x → i64 y → Maps.has (D.put (kl (norm (pget l k)).x (norm (pget l k)).y) (.agg [])) (kl x y)=(l.take (k + 1)).any fun t=>decide (norm t=⟨x,y⟩):=by
 intro x y hx hy
 have hs:=hw _ (pget_mem hk)
 have h1:i64 (norm (pget l k)).x:=by unfold norm i64 at *;dsimp only;omega
 have h2:i64 (norm (pget l k)).y:=by unfold norm i64 at *;dsimp only;omega
 rw [take_snoc l hk,List.any_append,← h x y hx hy]
 by_cases e:kl x y=kl (norm (pget l k)).x (norm (pget l k)).y
 ·rw [e,has_put_same hD (kl_key h1 h2)]
  obtain ⟨e1,e2⟩:=kl_inj hx hy h1 h2 e
  subst e1 e2
  simp
 ·rw [has_put_other e]
  have:decide (norm (pget l k)=⟨x,y⟩)=false:=decide_eq_false (fun e'=>e (by rw [e']))
  simp [this]
theorem Seen.ask {w:World} {l:List Pt} {ad:Option Addr} {gm b k:Nat} {W:World} (h:Seen w l ad gm b k W) (hk:k < l.length) (hlen:l.length ≤ 10000) (hw:∀ s ∈ l,i64 s.x∧i64 s.y) :
  Calls Tryz.prog 88 (#[.agg #[.int .i64 (pget l k).x,.int .i64 (pget l k).y]] ++ #[.pointer (some ⟨gm,0,none⟩)]) W fun e W'=>e=.returned (.bool (seenB l k))∧Seen w l ad gm b (k + 1) W':=by
 obtain ⟨D,hown,hD⟩:=h.map
 have hs:=hw _ (pget_mem hk)
 have hM:IsMap D:=by
  obtain ⟨es,c,-,-,-,e⟩:=hown
  exact ⟨_,e⟩
 refine (again1_l (pget l k).x (pget l k).y (norm (pget l k)).x (norm (pget l k)).y rfl rfl hs.1 hs.2 gm b k D (by omega) W h.cell hown).mono ?_
 rintro e W' ⟨rfl,h1,h2⟩
 have hgl:=cell_lt h.cell
 have hne:∀ g o,ad=some ⟨g,o,none⟩ → g ≠ b:=fun g o e=>by
  have:=h.had (by omega) g o e
  have:=h.hbb
  omega
 refine ⟨?_,h.row.turned h2 hne,?_,⟨_,h1,seen_step hk hw hM hD⟩,bel_turned h.hb h2 h.hb.size h.hbb,h.hbb,h.hgm,h.had⟩
 ·rw [hD _ _ (by unfold norm i64 at *;dsimp only;omega) (by unfold norm i64 at *;dsimp only;omega)]
  rfl
 ·have key:W'.heap[gm]?=W.heap[gm]?:=h2.block gm hgl (fun e=>h.hgm (by simpa using e))
  rw [← h.cell]
  unfold World.cell?
  rw [key]
set_option maxHeartbeats 8000000 in
set_option maxRecDepth 100000 in
theorem again_l (l:List Pt) (ad:Option Addr) (cap:Nat) (w:World) (hP:PtRow w ad l) (hlen:l.length ≤ 10000) (hw:∀ s ∈ l,i64 s.x∧i64 s.y) :
  Calls Tryz.prog 55 #[.slice ad l.length cap] w (Gives (.int .i64 (againF l)) w):=by
 have HS:=Lib.hid (Seen.start hP _ rfl)
 have HQ:=Lib.hid (fun W h=>indexFuncS_l 88 #[.pointer (some ⟨w.heap.size + 1,0,none⟩)] (fun _ _=>rfl) l ad cap (seenB l) (Seen w l ad (w.heap.size + 1) w.heap.size) (fun _ _ h=>h.row) (fun k W hk h=>h.ask hk hlen hw) (by omega) W h)
 clear hP hw
 have hmm:=@run_makeMap Tryz.prog
 go_enter Tryz.func55,Tryz.ntmps55
 go_upto_region 2 with (fail)
 have HQ2:=Lib.hid (HQ.out _ HS.out)
 generalize (w.alloc (.map #[] 0)).alloc (.cells #[.map (some w.heap.size)] 111)=W1 at *
 clear HQ HS hmm
 go_wp2_with fail
 (with_reducible refine HQ2.out.mono ?_);rintro e w1 ⟨rfl,k,hS⟩
 have HB:=Lib.hid hS.hb
 clear hS HQ2
 go_wp2_with fail
 go_ret
 exact ⟨rfl,HB.out⟩
end Go.Proofs.YtpjaefcmaiimlaaGreat

/-
  Contracts of rings.neighbours and of the function value that it calls.
-/
namespace Go.Proofs.YtpjaefcmaiimlaaGreat
open Go.RowKit

theorem grown_drew {W W':World} {r:Option Nat} (h:W.grownBy W' r):W.grownBy W'.drew r:=⟨h.os,h.tape,h.output,h.size,h.block⟩
theorem post_none {P:Program} {fn:Func} {R:Ending → World → Prop} {a:Act} {w:World} (hr:fn.results=#[]) (hd:a.defers=[]) (hR:R (.returned (.tuple #[])) w):bodyPost P fn R .normal a w:=
 bodyPost_end (by simp [results,hr]) hd hR
set_option maxHeartbeats 8000000 in
set_option maxRecDepth 100000 in
theorem join_l (w0:World) (K:List Pt) (g gp n a:Nat) (q:Int) (hK:K.length=n) (ha:a < n) (hn:n ≤ 10000) (W:World) (hc:W.cell? ⟨gp,0,none⟩=some (.slice (some ⟨g,0,none⟩) n n)) (hO:Op 115 w0 (.slice (some ⟨g,0,none⟩) n n) K W) :
  Calls Tryz.prog 90 #[.int .i64 (a:Int),.int .i64 q,.pointer (some ⟨gp,0,none⟩)] W fun e W'=>e=.returned (.tuple #[])∧Op 115 w0 (.slice (some ⟨g,0,none⟩) n n) (K.set a ⟨(pget K a).y,q⟩) W'∧W.grownBy W' (some g):=by
 subst hK
 have HO:=Lib.hid hO
 have c0:=hc
 obtain ⟨k0,k1⟩:=hO.cell rfl (j:=a) (by omega)
 have f0:=hO.frozen rfl (a * 2)
 have f1:=hO.frozen rfl (a * 2 + 1)
 have HS:=Lib.hid (hO.store rfl a (by omega) ⟨(pget K a).y,q⟩)
 have c3:((0:Int) ≤ (a:Int))=True:=eq_true (by omega)
 have c4:((a:Int) < (K.length:Int))=True:=eq_true (by omega)
 have d4:(a < K.length)=True:=eq_true ha
 obtain ⟨y,hy⟩:∃ y,(pget K a).y=y:=⟨_,rfl⟩
 obtain ⟨x,hx⟩:∃ y,(pget K a).x=y:=⟨_,rfl⟩
 rw [hy] at k1 HS ⊢
 rw [hx] at k0
 clear hO hc
 go_enter Tryz.func90,Tryz.ntmps90
 have HG:Hid (W.grownBy ((W.setCell ⟨g,a * 2,none⟩ (.int .i64 y)).setCell ⟨g,a * 2 + 1,none⟩ (.int .i64 q)) (some g)):=by
  have hs:=HO.out.own.stored (a * 2) (.int .i64 y)
  exact hs.2.trans (hs.1.stored (a * 2 + 1) (.int .i64 q)).2
 go_region
 exact post_none rfl rfl ⟨rfl,HS.out.drew,grown_drew HG.out⟩
theorem prs_get {n:Nat} {l:List Pt} {a:Nat} (h:a < n):pget (prs n l) a=pr l (a:Int):=by simp [pget,prs,h]
theorem pget_set_ne {l:List Pt} {a b:Nat} {q:Pt} (h:a ≠ b):pget (l.set a q) b=pget l b:=by unfold pget;simp [List.getD_eq_getElem?_getD,List.getElem?_set_ne h]
theorem cell_turned {W W':World} {g b o:Nat} (hg:W.grownBy W' (some g)) {v:Value} (h:W.cell? ⟨b,o,none⟩=some v) (hne:b ≠ g):W'.cell? ⟨b,o,none⟩=some v:=by
 have key:W'.heap[b]?=W.heap[b]?:=hg.block b (cell_lt h) (fun e=>hne (by simpa using e))
 rw [← h];unfold World.cell?;rw [key]
theorem Var.turned {W W':World} {g b:Nat} {vs:List Value} (h:Var W b vs) (hg:W.grownBy W' (some g)) (hne:b ≠ g):Var W' b vs:=by
 have key:W'.heap[b]?=W.heap[b]?:=hg.block b h.lt (fun e=>hne (by simpa using e))
 refine ⟨Nat.lt_of_lt_of_le h.lt hg.size,fun i hi=>?_,fun i hi=>?_⟩
 ·rw [← h.cells i hi];unfold World.cell?;rw [key]
 ·rw [← h.free i hi];unfold World.frozen?;rw [key]
set_option maxHeartbeats 8000000 in
set_option maxRecDepth 100000 in
theorem neighbours_l (n:Nat) (l:List Pt) (ad:Option Addr) (cap:Nat) (w:World) (hP:PtRow w ad l) (hok:okL (n:Int) l) (hn:n ≤ 10000) (hlen:l.length ≤ 10000) :
  Calls Tryz.prog 59 #[.int .i64 (n:Int),.slice ad l.length cap] w fun e w'=>∃ v,e=.returned v∧Op 115 w v (prs n l) w':=by
 obtain ⟨e0,hi0,hz0,hz1,hz2⟩:=info_parts info_pair
 have HP0:=Lib.hid hP
 have HOK:=Lib.hid hok
 clear hP hok
 go_enter Tryz.func59,Tryz.ntmps59
 go_wp2_with (at_make;refine wpList_make_full _ rfl _ _ 86 rfl w.heap.size 115 e0 (.agg #[.int .i64 0,.int .i64 0]) 2 Tryz.underlying86 hi0 hz0 hz1 _ _ _ _ n rfl rfl rfl rfl ?b2 ?b3 (by simp) ?_)
 case b2=>rw [hz2];omega
 case b3=>unfold maxLen;omega
 intro w0 hown0 hgrow0
 have HO0:=Lib.hid (op_made rfl hown0 hgrow0)
 clear hown0 hgrow0
 obtain ⟨g3,hg3⟩:∃ g,w.heap.size=g:=⟨_,rfl⟩
 rw [hg3] at HO0 ⊢
 have hG3:=Lib.hid hg3
 have hlt3:g3 < w0.heap.size:=(HO0.out.own.lt g3 rfl).2
 clear hg3
 go_upto_region 2 with (fail)
 have HO1:=Lib.hid (HO0.out.alloc (.cells #[.slice (some ⟨g3,0,none⟩) n n] 86))
 have HC1:=Lib.hid (show (w0.alloc (.cells #[.slice (some ⟨g3,0,none⟩) n n] 86)).cell? ⟨w0.heap.size,0,none⟩=some (.slice (some ⟨g3,0,none⟩) n n) from by simp [go_sem])
 generalize w0.alloc (.cells #[.slice (some ⟨g3,0,none⟩) n n] 86)=W1 at *
 generalize w0.heap.size=gp at *
 have hgp:gp ≠ g3:=by omega
 clear HO0
 go_wp2_with fail
 go_loopw [14] (fun iv W=>∃ k:Nat,k ≤ l.length∧iv=.int .i64 k∧Op 115 w (.slice (some ⟨g3,0,none⟩) n n) (prs n (l.take k)) W∧W.cell? ⟨gp,0,none⟩=some (.slice (some ⟨g3,0,none⟩) n n)) (fun iv _=>l.length - (intOf iv).toNat)
 case atStart=>exact ⟨0,Nat.zero_le _,rfl,by rw [List.take_zero,prs_nil];exact HO1.out,HC1.out⟩
 case round=>
  obtain ⟨k,hk,rfl,hO,hC⟩:=hrel
  have HO:=Lib.hid hO
  have HC:=Lib.hid hC
  clear hO hC HO1 HC1
  by_cases hlt:k < l.length
  ·have b2:((k:Int) < (l.length:Int))=True:=eq_true (by omega)
   have d2:(k < l.length)=True:=eq_true hlt
   have c2:((0:Int) ≤ (k:Int))=True:=eq_true (by omega)
   obtain ⟨g,o,rfl⟩:=HP0.out.some (by omega)
   obtain ⟨s,hs⟩:∃ s,pget l k=s:=⟨_,rfl⟩
   have HSK:=Lib.hid hs
   obtain ⟨k0,k1⟩:=ptRow_at (HP0.out.below HO.out.hb) hlt hs
   have hok:=HOK.out.2.2 _ (pget_mem hlt)
   rw [hs] at hok
   clear hs
   unfold okS at hok
   obtain ⟨a,ha⟩:=Int.eq_ofNat_of_zero_le hok.1
   obtain ⟨b,hb⟩:=Int.eq_ofNat_of_zero_le hok.2.1
   have hA:=Lib.hid ha
   have hB:=Lib.hid hb
   rw [ha] at k0
   rw [hb] at k1
   have hab:a ≠ b:=by omega
   have ham:a < n:=by omega
   have hbm:b < n:=by omega
   have HST:Hid (((prs n (l.take k)).set a ⟨(pget (prs n (l.take k)) a).y,(b:Int)⟩).set b ⟨(pget ((prs n (l.take k)).set a ⟨(pget (prs n (l.take k)) a).y,(b:Int)⟩) b).y,(a:Int)⟩=prs n (l.take (k + 1))):=by
    rw [take_snoc l hlt,HSK.out,pget_set_ne hab,prs_get ham,prs_get hbm]
    exact prs_snoc ha hb hab ham hbm
   clear hok ha hb
   go_upto_region 6 with (fail)
   have HV:=Lib.hid (var2_new wr (.int .i64 (a:Int)) (.int .i64 (b:Int)) 59 wr.heap.size rfl)
   have HO1:=Lib.hid (HO.out.alloc (.cells #[.int .i64 (a:Int),.int .i64 (b:Int)] 59))
   have HC1:=Lib.hid (((bl_one wr (.cells #[.int .i64 (a:Int),.int .i64 (b:Int)] 59)).cell (cell_lt HC.out)).trans HC.out)
   have hgn:g3 < wr.heap.size:=(HO.out.own.lt g3 rfl).2
   generalize wr.alloc (.cells #[.int .i64 (a:Int),.int .i64 (b:Int)] 59)=W2 at *
   generalize wr.heap.size=g8 at *
   obtain ⟨v0,v1⟩:=HV.out.two
   clear k0 k1 HO HC
   have HJ:=Lib.hid (join_l w (prs n (l.take k)) g3 gp n a (b:Int) (prs_len _ _) ham hn W2 HC1.out HO1.out)
   have hk2:((prs n (l.take k)).set a ⟨(pget (prs n (l.take k)) a).y,(b:Int)⟩).length=n:=by rw [List.length_set,prs_len]
   generalize prs n (l.take k)=K1 at *
   generalize K1.set a ⟨(pget K1 a).y,(b:Int)⟩=K2 at *
   go_wp2_with fail
   (with_reducible refine HJ.out.mono ?_);rintro e w2 ⟨rfl,hO2,hG2⟩
   have HO2:=Lib.hid hO2
   replace HV:=Lib.hid (HV.out.turned hG2 (by omega))
   have HC2:=Lib.hid (cell_turned hG2 HC1.out hgp)
   clear hO2 hG2 HJ HO1 HC1 v0 v1
   obtain ⟨v0,v1⟩:=HV.out.two
   have HJ:=Lib.hid (join_l w K2 g3 gp n b (a:Int) hk2 hbm hn w2 HC2.out HO2.out)
   rw [HST.out] at HJ
   clear HST
   go_wp2_with fail
   (with_reducible refine HJ.out.mono ?_);rintro e w3 ⟨rfl,hO3,hG3⟩
   have HO3:=Lib.hid hO3
   have HC3:=Lib.hid (cell_turned hG3 HC2.out hgp)
   clear hO3 hG3 HJ HC2 HO2 v0 v1 HV
   obtain ⟨m1,m2,m3,m4⟩:=wnum (i:=k) (by omega)
   go_wp2_with fail
   clear m1 m2 m3 m4
   exact ⟨⟨k + 1,hlt,by rw [Int.natCast_add];rfl,HO3.out,HC3.out⟩,by simp [intOf];omega⟩
  ·obtain rfl:k=l.length:=by omega
   have b2:((l.length:Int) < (l.length:Int))=False:=eq_false (by omega)
   rw [List.take_length] at HO
   have c0:=HC.out
   go_wp2_with fail
   go_ret
   exact ⟨_,rfl,HO.out⟩
end Go.Proofs.YtpjaefcmaiimlaaGreat
