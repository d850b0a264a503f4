import PyProof.Rows.All
import Wide.All
import OpenK.AllK
import Wide.FinOn
import PyProof.EqAt
import PyProof.EqKinds
import PyProof.TupleCall
import HandS.ForMost
import HandS.Walk
import HandS.Zip
import HandS.TupAny
import HandS.SortInts
import HandS.Deep
import HandS.RaiseMore
import KE.KTupSum
import KE.KMathGC
import PyProof.ReprRoads
import HandS.Style
import HandS.Ends
import PySem.Challenge.RW_shuffledcuts_k08_whole_runs_by_walks
set_option Elab.async false
set_option linter.all false
set_option maxRecDepth 100000
set_option maxHeartbeats 4000000
namespace DS
open PySem PySem.Spec PyProof.Rows L2

/-! ### values without a heap -/
/-- the state of the draws: the dict that begun makes -/
structure MS where
  left : Int
  seed : Int
  cells : List Int
  spot : Int
abbrev G := List MS
inductive D where
  | py (p : PyData) | gm (i : Nat) | fn (n : Nat) | dc (kvs : List (List Int × PyData)) | sc (ns : List Int)
inductive Ob where
  | lst (xs : List PyData) | dct (kvs : List (List Int × PyData))
inductive Slot where
  | un | v (d : D) | own (o : Ob)
abbrev Sto := List Slot
abbrev ED := Sto → G → Option (D × G)
abbrev AD := Sto → G → Option (List D × G)
abbrev OD := Sto → G → Option (Ob × G)
abbrev BD := Sto → G → Option (Bool × G)
inductive Out where
  | nx (s : Sto) | rt (d : D) | bk (s : Sto) | ct (s : Sto)
abbrev SD := Sto → G → Option (Out × G)
abbrev FD := List D → G → Option (D × G)

/-! ### how they lie in a heap: F the part that never changes any more, ms the places of the draws' dicts -/
structure Wd where
  F : Hp
  ms : List Addr
mutual
inductive Rp (K : PySem.W.Frag) (F : Hp) : V → PyData → Prop
  | non : Rp K F .non .none
  | bl (b : Bool) : Rp K F (.bl b) (.bool b)
  | int (i : Int) : Rp K F (.int i) (.int i)
  | str (x : Str) : Rp K F (.str x) (.str x)
  | lst {a : Addr} {xs : List V} {ds : List PyData} : F a = some (.lst xs) → RpAll K F xs ds → Rp K F (.ref a) (.list ds)
  | tup {a : Addr} {xs : List V} {ds : List PyData} : SqT K F a xs → RpAll K F xs ds → Rp K F (.ref a) (.tuple ds)
inductive RpAll (K : PySem.W.Frag) (F : Hp) : List V → List PyData → Prop
  | nil : RpAll K F [] []
  | cons {v : V} {vs : List V} {d : PyData} {ds : List PyData} : Rp K F v d → RpAll K F vs ds → RpAll K F (v :: vs) (d :: ds)
end
theorem sqt_mono {K : PySem.W.Frag} {H H' : Hp} {a : Addr} {xs : List V} (e : Same H H') (h : SqT K H a xs) : SqT K H' a xs := by
  rcases h with (h | ⟨o, h⟩) | h
  · exact .inl (.inl (e _ _ h))
  · exact .inl (.inr ⟨o, e _ _ h⟩)
  · exact .inr h
mutual
theorem Rp.mono {K : PySem.W.Frag} {F F' : Hp} (e : Same F F') : ∀ (d : PyData) (v : V), Rp K F v d → Rp K F' v d
  | .none, _, h => by cases h; exact .non
  | .bool b, _, h => by cases h; exact .bl _
  | .int i, _, h => by cases h; exact .int _
  | .str x, _, h => by cases h; exact .str _
  | .list ds, _, h => by
    cases h with
    | lst h1 h2 => exact .lst (e _ _ h1) (RpAll.mono e ds _ h2)
  | .tuple ds, _, h => by
    cases h with
    | tup h1 h2 => exact .tup (sqt_mono e h1) (RpAll.mono e ds _ h2)
  | .dict _, _, h => by cases h
theorem RpAll.mono {K : PySem.W.Frag} {F F' : Hp} (e : Same F F') : ∀ (ds : List PyData) (vs : List V), RpAll K F vs ds → RpAll K F' vs ds
  | [], _, h => by cases h; exact .nil
  | d :: ds, _, h => by
    cases h with
    | cons h1 h2 => exact .cons (Rp.mono e d _ h1) (RpAll.mono e ds _ h2)
end
mutual
theorem Rp.dp {K : PySem.W.Frag} {F : Hp} : ∀ (d : PyData) (v : V), Rp K F v d → Dp K F v d
  | .none, _, h => by cases h; exact .non
  | .bool b, _, h => by cases h; exact .bl _
  | .int i, _, h => by cases h; exact .int _
  | .str x, _, h => by cases h; exact .str _
  | .list ds, _, h => by
    cases h with
    | lst h1 h2 => exact .lst (SqL.of h1) (RpAll.dp ds _ h2)
  | .tuple ds, _, h => by
    cases h with
    | tup h1 h2 => exact .tup h1 (RpAll.dp ds _ h2)
  | .dict _, _, h => by cases h
theorem RpAll.dp {K : PySem.W.Frag} {F : Hp} : ∀ (ds : List PyData) (vs : List V), RpAll K F vs ds → DpAll K F vs ds
  | [], _, h => by cases h; exact .nil
  | d :: ds, _, h => by
    cases h with
    | cons h1 h2 => exact .cons (Rp.dp d _ h1) (RpAll.dp ds _ h2)
end
section
variable {K : PySem.W.Frag} {F : Hp}
theorem RpAll.length : ∀ {vs : List V} {ds : List PyData}, RpAll K F vs ds → vs.length = ds.length
  | _, _, .nil => rfl
  | _, _, .cons _ t => congrArg Nat.succ t.length
theorem RpAll.append : ∀ {vs ws : List V} {ds es : List PyData}, RpAll K F vs ds → RpAll K F ws es → RpAll K F (vs ++ ws) (ds ++ es)
  | _, _, _, _, .nil, h => h
  | _, _, _, _, .cons r t, h => .cons r (t.append h)
theorem RpAll.take : ∀ {vs : List V} {ds : List PyData} (n : Nat), RpAll K F vs ds → RpAll K F (vs.take n) (ds.take n)
  | _, _, 0, _ => .nil
  | _, _, _ + 1, .nil => .nil
  | _, _, n + 1, .cons r t => .cons r (t.take n)
theorem RpAll.drop : ∀ {vs : List V} {ds : List PyData} (n : Nat), RpAll K F vs ds → RpAll K F (vs.drop n) (ds.drop n)
  | _, _, 0, h => h
  | _, _, _ + 1, .nil => .nil
  | _, _, n + 1, .cons _ t => t.drop n
theorem RpAll.get : ∀ {vs : List V} {ds : List PyData} {i : Nat} {d : PyData}, RpAll K F vs ds → ds[i]? = some d → ∃ v, vs[i]? = some v ∧ Rp K F v d
  | _, _, _, _, .nil, e => by simp at e
  | _, _, 0, _, .cons r _, e => by simp at e; subst e; exact ⟨_, rfl, r⟩
  | _, _, i + 1, d, .cons _ t, e => by
    obtain ⟨v, h1, h2⟩ := t.get (i := i) (d := d) (by simpa using e)
    exact ⟨v, by simpa using h1, h2⟩
theorem RpAll.getV : ∀ {vs : List V} {ds : List PyData} {i : Nat} {v : V}, RpAll K F vs ds → vs[i]? = some v → ∃ d, ds[i]? = some d ∧ Rp K F v d
  | _, _, _, _, .nil, e => by simp at e
  | _, _, 0, _, .cons r _, e => by simp at e; subst e; exact ⟨_, rfl, r⟩
  | _, _, i + 1, d, .cons _ t, e => by
    obtain ⟨v, h1, h2⟩ := t.getV (i := i) (v := d) (by simpa using e)
    exact ⟨v, by simpa using h1, h2⟩
theorem RpAll.reverse : ∀ {vs : List V} {ds : List PyData}, RpAll K F vs ds → RpAll K F vs.reverse ds.reverse
  | _, _, .nil => .nil
  | _, _, .cons r t => by
    rw [List.reverse_cons, List.reverse_cons]
    exact t.reverse.append (.cons r .nil)
/-- ints -/
theorem RpAll.ints : ∀ {ns : List Int}, RpAll K F (ns.map V.int) (ns.map PyData.int)
  | [] => .nil
  | n :: ns => .cons (.int n) (RpAll.ints (ns := ns))
theorem RpAll.ints_eq : ∀ {ns : List Int} {vs : List V}, RpAll K F vs (ns.map PyData.int) → vs = ns.map V.int
  | [], _, h => by cases h; rfl
  | n :: ns, _, h => by
    cases h with
    | cons r t =>
      cases r
      rw [t.ints_eq]
      rfl
theorem RpAll.bools_eq : ∀ {ns : List Bool} {vs : List V}, RpAll K F vs (ns.map PyData.bool) → vs = ns.map V.bl
  | [], _, h => by cases h; rfl
  | n :: ns, _, h => by
    cases h with
    | cons r t =>
      cases r
      rw [t.bools_eq]
      rfl
end

/-- a dict whose keys are tuples of ints -/
def dkvs (kvs : List (List Int × PyData)) (vs : List V) : List (List Key × V) := (kvs.map fun p => p.1.map fun i => (Sum.inl i : Key)).zip vs
section
variable (K : PySem.W.Frag) (fa : Nat → Option Addr)
def RpD (W : Wd) : D → V → Prop
  | .py p, v => Rp K W.F v p
  | .gm i, v => ∃ a, W.ms[i]? = some a ∧ v = .ref a
  | .fn n, v => ∃ a, fa n = some a ∧ v = .ref a
  | .dc kvs, v => ∃ a vs, v = .ref a ∧ W.F a = some (.dT (dkvs kvs vs)) ∧ RpAll K W.F vs (kvs.map (·.2))
  | .sc ns, v => ∃ a, v = .ref a ∧ SqL K W.F a (ns.map V.int)
inductive RpDs (W : Wd) : List D → List V → Prop
  | nil : RpDs W [] []
  | cons {d : D} {v : V} {ds : List D} {vs : List V} : RpD K fa W d v → RpDs W ds vs → RpDs W (d :: ds) (v :: vs)
/-- a draws' dict at a -/
def MAt (F H : Hp) (a : Addr) (m : MS) : Prop :=
  F a = none ∧ ∃ c, H a = some (.dK [(.inr "left", .int m.left), (.inr "seed", .int m.seed), (.inr "cells", .ref c), (.inr "spot", .int m.spot)]) ∧ F c = some (.lst (m.cells.map V.int))
structure GOk (W : Wd) (g : G) (H : Hp) : Prop where
  fro : Same W.F H
  len : W.ms.length = g.length
  nd : W.ms.Nodup
  at' : ∀ (i : Nat) (a : Addr) (m : MS), W.ms[i]? = some a → g[i]? = some m → MAt W.F H a m
def ObAt (F H : Hp) (a : Addr) : Ob → Prop
  | .lst xs => ∃ vs, H a = some (.lst vs) ∧ RpAll K F vs xs
  | .dct kvs => ∃ vs, H a = some (.dT (dkvs kvs vs)) ∧ RpAll K F vs (kvs.map (·.2))
def SlotOk (W : Wd) (H : Hp) (x : Option (Option V)) : Slot → Prop
  | .un => True
  | .v d => ∃ v, x = some (some v) ∧ RpD K fa W d v
  | .own o => ∃ a, x = some (some (.ref a)) ∧ W.F a = none ∧ a ∉ W.ms ∧ ObAt K W.F H a o
structure SR (W : Wd) (g : G) (s : Sto) (σ : L2.St) (H : Hp) : Prop where
  gok : GOk W g H
  sl : ∀ (i : Nat) (x : Slot), s[i]? = some x → SlotOk K fa W H σ[i]? x
  inj : ∀ (i j : Nat) (o o' : Ob) (a : Addr), s[i]? = some (Slot.own o) → s[j]? = some (Slot.own o') → σ[i]? = some (some (V.ref a)) → σ[j]? = some (some (V.ref a)) → i = j
  len : s.length = σ.length
end
/-- what stays: the frozen part, the draws' places, and each other object that is tracked -/
structure Step (W : Wd) (H : Hp) (W' : Wd) (H' : Hp) : Prop where
  f : Same W.F W'.F
  ms : ∃ l, W'.ms = W.ms ++ l
  own : ∀ a o, H a = some o → W.F a = none → a ∉ W.ms → W'.F a = none ∧ a ∉ W'.ms ∧ H' a = some o
  th : ∀ a, H' a = none → H a = none
section
variable {K : PySem.W.Frag} {fa : Nat → Option Addr} {W W1 W2 W' : Wd} {H H1 H2 H' : Hp} {g g' : G} {s : Sto} {σ : L2.St} {v : V} {d : D}
theorem Step.refl (W : Wd) (H : Hp) : Step W H W H := ⟨Same.refl _, ⟨[], by simp⟩, fun a o h1 h2 h3 => ⟨h2, h3, h1⟩, fun _ h => h⟩
theorem Step.trans (a : Step W H W1 H1) (b : Step W1 H1 W2 H2) : Step W H W2 H2 := by
  obtain ⟨l, e⟩ := a.ms
  obtain ⟨l2, e2⟩ := b.ms
  refine ⟨a.f.trans b.f, ⟨l ++ l2, by rw [e2, e, List.append_assoc]⟩, fun c o h1 h2 h3 => ?_, fun c h => a.th c (b.th c h)⟩
  obtain ⟨q1, q2, q3⟩ := a.own c o h1 h2 h3
  exact b.own c o q3 q1 q2
theorem Step.msAt (a : Step W H W1 H1) {i : Nat} {c : Addr} (h : W.ms[i]? = some c) : W1.ms[i]? = some c := by
  obtain ⟨l, e⟩ := a.ms
  rw [e, List.getElem?_append_left (List.getElem?_eq_some_iff.mp h).1]
  exact h
theorem RpD.step (a : Step W H W1 H1) : ∀ {d : D} {v : V}, RpD K fa W d v → RpD K fa W1 d v
  | .py p, _, h => Rp.mono a.f _ _ h
  | .gm i, _, ⟨c, h1, h2⟩ => ⟨c, a.msAt h1, h2⟩
  | .fn n, _, h => h
  | .dc kvs, _, ⟨c, vs, h1, h2, h3⟩ => ⟨c, vs, h1, a.f _ _ h2, RpAll.mono a.f _ _ h3⟩
  | .sc ns, _, ⟨c, h1, h2⟩ => ⟨c, h1, a.f.seq h2⟩
theorem RpDs.step (a : Step W H W1 H1) : ∀ {ds : List D} {vs : List V}, RpDs K fa W ds vs → RpDs K fa W1 ds vs
  | _, _, .nil => .nil
  | _, _, .cons r t => .cons (r.step a) (RpDs.step a t)
theorem RpDs.length : ∀ {ds : List D} {vs : List V}, RpDs K fa W ds vs → vs.length = ds.length
  | _, _, .nil => rfl
  | _, _, .cons _ t => congrArg Nat.succ (RpDs.length t)
theorem ObAt.step {a : Addr} {o : Ob} (e : Same W.F W1.F) (q : ∀ u, H a = some u → H1 a = some u) (h : ObAt K W.F H a o) : ObAt K W1.F H1 a o := by
  cases o with
  | lst xs =>
    obtain ⟨vs, h1, h2⟩ := h
    exact ⟨vs, q _ h1, RpAll.mono e _ _ h2⟩
  | dct kvs =>
    obtain ⟨vs, h1, h2⟩ := h
    exact ⟨vs, q _ h1, RpAll.mono e _ _ h2⟩
theorem ObAt.some {a : Addr} {o : Ob} (h : ObAt K W.F H a o) : ∃ u, H a = some u := by
  cases o with
  | lst xs => obtain ⟨vs, h1, _⟩ := h; exact ⟨_, h1⟩
  | dct kvs => obtain ⟨vs, h1, _⟩ := h; exact ⟨_, h1⟩
theorem SlotOk.step {x : Option (Option V)} {y : Slot} (a : Step W H W1 H1) (h : SlotOk K fa W H x y) : SlotOk K fa W1 H1 x y := by
  cases y with
  | un => trivial
  | v d => obtain ⟨v, h1, h2⟩ := h; exact ⟨v, h1, h2.step a⟩
  | own o =>
    obtain ⟨c, h1, h2, h3, h4⟩ := h
    obtain ⟨u, hu⟩ := h4.some
    obtain ⟨q1, q2, q3⟩ := a.own c u hu h2 h3
    exact ⟨c, h1, q1, q2, h4.step a.f fun u' hu' => by rw [hu] at hu'; cases hu'; exact q3⟩
theorem SR.step (r : SR K fa W g s σ H) (a : Step W H W1 H1) (q : GOk W1 g' H1) : SR K fa W1 g' s σ H1 :=
  ⟨q, fun i x h => (r.sl i x h).step a, r.inj, r.len⟩
/-- new objects: the frozen part grows by an object -/
theorem Step.laid {p : Addr} {o : HO} (hp : H p = none) (hF : Same W.F H) (hm : p ∉ W.ms) : Step W H ⟨upd W.F p o, W.ms⟩ (upd H p o) := by
  have fp : W.F p = none := by
    cases e : W.F p with
    | none => rfl
    | some u => rw [hF _ _ e] at hp; cases hp
  refine ⟨fun b u e => ?_, ⟨[], by simp⟩, fun a u h1 h2 h3 => ?_, fun a h => ?_⟩
  · show upd W.F p o b = some u
    rw [upd_ne (ne_of_none e fp)]; exact e
  · have na : a ≠ p := ne_of_none h1 hp
    exact ⟨by show upd W.F p o a = none; rw [upd_ne na]; exact h2, h3, by rw [upd_ne na]; exact h1⟩
  · by_cases e : a = p
    · subst e; exact hp
    · rw [upd_ne e] at h; exact h
theorem same_upd2 {F H : Hp} {p : Addr} {o : HO} (h : Same F H) : Same (upd F p o) (upd H p o) := fun b u e => by
  by_cases q : b = p
  · subst q; rw [upd_same] at e ⊢; exact e
  · rw [upd_ne q] at e ⊢; exact h b u e
theorem same_new {H : Hp} {p : Addr} {o : HO} (h : H p = none) : Same H (upd H p o) := fun b u q => by rw [upd_ne (ne_of_none q h)]; exact q
theorem GOk.fresh (q : GOk W g H) {p : Addr} (hp : H p = none) : W.F p = none ∧ p ∉ W.ms := by
  refine ⟨?_, fun hm => ?_⟩
  · cases e : W.F p with
    | none => rfl
    | some u => rw [q.fro _ _ e] at hp; cases hp
  · obtain ⟨i, hi, e⟩ := List.mem_iff_getElem.mp hm
    have h1 : W.ms[i]? = some p := by rw [List.getElem?_eq_getElem hi, e]
    have h2 : i < g.length := by rw [← q.len]; exact hi
    obtain ⟨_, c, h3, _⟩ := q.at' i p g[i] h1 (List.getElem?_eq_getElem h2)
    rw [hp] at h3; cases h3
theorem MAt.mono {F F' H H' : Hp} {a : Addr} {m : MS} (h : MAt F H a m) (e : Same F F') (q : ∀ u, H a = some u → H' a = some u) (n : F' a = none) : MAt F' H' a m := by
  obtain ⟨_, c, h1, h2⟩ := h
  exact ⟨n, c, q _ h1, e _ _ h2⟩
/-- .. with a new frozen object -/
theorem GOk.laid (q : GOk W g H) {p : Addr} {o : HO} (hp : H p = none) : GOk ⟨upd W.F p o, W.ms⟩ g (upd H p o) := by
  obtain ⟨f1, f2⟩ := q.fresh hp
  refine ⟨same_upd2 q.fro, q.len, q.nd, fun i a m h1 h2 => ?_⟩
  have h3 := q.at' i a m h1 h2
  have na : a ≠ p := fun e => by subst e; exact f2 (List.mem_of_getElem? h1)
  exact h3.mono (same_new f1) (fun u e => by rw [upd_ne na]; exact e) (by show upd W.F p o a = none; rw [upd_ne na]; exact h3.1)
/-- .. with a new object that may still change -/
theorem GOk.loose (q : GOk W g H) {p : Addr} {o : HO} (hp : H p = none) : GOk W g (upd H p o) := by
  obtain ⟨f1, f2⟩ := q.fresh hp
  refine ⟨fun b u e => by rw [upd_ne (ne_of_none e f1)]; exact q.fro b u e, q.len, q.nd, fun i a m h1 h2 => ?_⟩
  have h3 := q.at' i a m h1 h2
  have na : a ≠ p := fun e => by subst e; exact f2 (List.mem_of_getElem? h1)
  exact h3.mono (Same.refl _) (fun u e => by rw [upd_ne na]; exact e) h3.1
theorem Step.loose {p : Addr} {o : HO} (hp : H p = none) : Step W H W (upd H p o) := by
  refine ⟨Same.refl _, ⟨[], by simp⟩, fun a u h1 h2 h3 => ⟨h2, h3, by rw [upd_ne (ne_of_none h1 hp)]; exact h1⟩, fun a h => ?_⟩
  by_cases e : a = p
  · subst e; exact hp
  · rw [upd_ne e] at h; exact h
end
end DS

namespace DS
open PySem PySem.Spec PyProof.Rows L2

/-! ### readings that speak of plain functions -/
section
variable (K : PySem.W.Frag) (fa : Nat → Option Addr)
def tD (f : ED) : TE := fun σ H Q => ∃ W g s d g', SR K fa W g s σ H ∧ f s g = some (d, g') ∧ ∀ W' H' v, Step W H W' H' → GOk W' g' H' → RpD K fa W' d v → Q v H'
def tAs (f : AD) : TA := fun σ H Q => ∃ W g s ds g', SR K fa W g s σ H ∧ f s g = some (ds, g') ∧ ∀ W' H' vs, Step W H W' H' → GOk W' g' H' → RpDs K fa W' ds vs → Q vs H'
/-- a new object -/
def tO (f : OD) : TE := fun σ H Q => ∃ W g s o g', SR K fa W g s σ H ∧ f s g = some (o, g') ∧ ∀ W' H' a, Step W H W' H' → GOk W' g' H' → W'.F a = none → a ∉ W'.ms → H a = none → ObAt K W'.F H' a o → Q (.ref a) H'
def tBo (f : BD) : TT := fun σ H Q => ∃ W g s b g', SR K fa W g s σ H ∧ f s g = some (b, g') ∧ ∀ W' H', Step W H W' H' → GOk W' g' H' → Q b H'
/-- by values -/
def rB (f : D → D → Option D) : R2 := fun x y H Q => ∃ W g dx dy d, GOk W g H ∧ RpD K fa W dx x ∧ RpD K fa W dy y ∧ f dx dy = some d ∧ ∀ W' H' v, Step W H W' H' → GOk W' g H' → RpD K fa W' d v → Q v H'
def rU1 (f : D → Option D) : V → Hp → VK → Prop := fun x H Q => ∃ W g dx d, GOk W g H ∧ RpD K fa W dx x ∧ f dx = some d ∧ ∀ W' H' v, Step W H W' H' → GOk W' g H' → RpD K fa W' d v → Q v H'
def rC (f : List D → Option D) : List V → Hp → VK → Prop := fun xs H Q => ∃ W g ds d, GOk W g H ∧ RpDs K fa W ds xs ∧ f ds = some d ∧ ∀ W' H' v, Step W H W' H' → GOk W' g H' → RpD K fa W' d v → Q v H'
/-- .. that make a new object -/
def rCO (f : List D → Option Ob) : List V → Hp → VK → Prop := fun xs H Q => ∃ W g ds o, GOk W g H ∧ RpDs K fa W ds xs ∧ f ds = some o ∧ ∀ W' H' a, Step W H W' H' → GOk W' g H' → W'.F a = none → a ∉ W'.ms → H a = none → ObAt K W'.F H' a o → Q (.ref a) H'
end
theorem PE.wk {X : Cx} {e : Expr} {t t' : TE} (h : PE X e t) (k : ∀ σ H Q, t' σ H Q → t σ H Q) : PE X e t' := ⟨fun pins s σ H Q I w => h.run pins s σ H Q I (k σ H Q w)⟩
theorem PT.wk {X : Cx} {e : Expr} {t t' : TT} (h : PT X e t) (k : ∀ σ H Q, t' σ H Q → t σ H Q) : PT X e t' := ⟨fun pins s σ H Q I w => h.run pins s σ H Q I (k σ H Q w)⟩
theorem PW.wk {X : Cx} {e : Expr} {t t' : TT} (h : PW X e t) (k : ∀ σ H Q, t' σ H Q → t σ H Q) : PW X e t' := ⟨fun wh pins s σ H Q I w => h.run wh pins s σ H Q I (k σ H Q w)⟩
theorem PA.wk {X : Cx} {es : List Expr} {t t' : TA} (h : PA X es t) (k : ∀ σ H Q, t' σ H Q → t σ H Q) : PA X es t' := ⟨fun pos pins s σ H Q I w => h.run pos pins s σ H Q I (k σ H Q w)⟩
theorem PS.wk {X : Cx} {st : Stmt} {t t' : TS} (h : PS X st t) (k : ∀ D σ H, t' D σ H → t D σ H) : PS X st t' := ⟨fun pins s σ H D I w => h.run pins s σ H D I (k D σ H w)⟩
theorem PSs.wk {X : Cx} {st : List Stmt} {t t' : TS} (h : PSs X st t) (k : ∀ D σ H, t' D σ H → t D σ H) : PSs X st t' := ⟨fun pins s σ H D I w => h.run pins s σ H D I (k D σ H w)⟩

/-! ### the plain functions -/
def eVar (i : Nat) : ED := fun s g => match s[i]? with
  | some (.v d) => some (d, g)
  | _ => none
def eC (p : PyData) : ED := fun _ g => some (.py p, g)
def eBin (f : D → D → Option D) (a b : ED) : ED := fun s g => (a s g).bind fun x => (b s x.2).bind fun y => (f x.1 y.1).bind fun d => some (d, y.2)
def eUn (f : D → Option D) (a : ED) : ED := fun s g => (a s g).bind fun x => (f x.1).bind fun d => some (d, x.2)
def aNil : AD := fun _ g => some ([], g)
def aCons (a : ED) (r : AD) : AD := fun s g => (a s g).bind fun x => (r s x.2).bind fun y => some (x.1 :: y.1, y.2)
def eCall (f : List D → Option D) (a : AD) : ED := fun s g => (a s g).bind fun x => (f x.1).bind fun d => some (d, x.2)
def eCallO (f : List D → Option Ob) (a : AD) : OD := fun s g => (a s g).bind fun x => (f x.1).bind fun d => some (d, x.2)
/-- a def of the text -/
def eFn (f : FD) (a : AD) : ED := fun s g => (a s g).bind fun x => f x.1 x.2
def pys : List D → Option (List PyData)
  | [] => some []
  | .py p :: r => (pys r).map (p :: ·)
  | _ :: _ => none
def lim : Nat := 1000000
def eTup (a : AD) : ED := fun s g => (a s g).bind fun x => (pys x.1).bind fun ps => if ps.length ≤ lim then some (.py (.tuple ps), x.2) else none
def oLst (a : AD) : OD := fun s g => (a s g).bind fun x => (pys x.1).bind fun ps => if ps.length ≤ lim then some (.lst ps, x.2) else none
/-- a new object that nobody changes -/
def eO (f : OD) : ED := fun s g => (f s g).bind fun x => match x.1 with
  | .lst xs => some (.py (.list xs), x.2)
  | .dct kvs => some (.dc kvs, x.2)
def eIf (c : BD) (a b : ED) : ED := fun s g => (c s g).bind fun x => if x.1 = true then a s x.2 else b s x.2
def oIf (c : BD) (a b : OD) : OD := fun s g => (c s g).bind fun x => if x.1 = true then a s x.2 else b s x.2
/-- tests -/
def dB : D → Option Bool
  | .py (.bool b) => some b
  | _ => none
def bVal (a : ED) : BD := fun s g => (a s g).bind fun x => (dB x.1).bind fun b => some (b, x.2)
def dTru : D → Option Bool
  | .py .none => some false
  | .py (.bool b) => some b
  | .py (.int i) => some (i != 0)
  | .py (.str y) => if y.length ≤ lim then some ((y.length : Int) != 0) else none
  | .py (.list xs) => some (!xs.isEmpty)
  | .py (.tuple xs) => some (!xs.isEmpty)
  | _ => none
def bTru (a : ED) : BD := fun s g => (a s g).bind fun x => (dTru x.1).bind fun b => some (b, x.2)
def bAnd (a b : BD) : BD := fun s g => (a s g).bind fun x => if x.1 = true then b s x.2 else some (false, x.2)
def bOr (a b : BD) : BD := fun s g => (a s g).bind fun x => if x.1 = true then some (true, x.2) else b s x.2
def bNot (a : BD) : BD := fun s g => (a s g).bind fun x => some (!x.1, x.2)
def eB (b : BD) : ED := fun s g => (b s g).bind fun x => some (.py (.bool x.1), x.2)
/-- a and b as a value, a a bool -/
def eAnd (a b : ED) : ED := fun s g => (a s g).bind fun x => (dB x.1).bind fun c => if c = true then b s x.2 else some (.py (.bool false), x.2)
def eOr (a b : ED) : ED := fun s g => (a s g).bind fun x => (dB x.1).bind fun c => if c = true then some (.py (.bool true), x.2) else b s x.2
def eNot (a : ED) : ED := fun s g => (a s g).bind fun x => (dB x.1).bind fun c => some (.py (.bool (!c)), x.2)

theorem lim_ok {n : Nat} (h : n ≤ lim) : n ≤ sizeLine := Nat.le_trans h (by rw [sizeLine_eq]; decide)
section
variable {K : PySem.W.Frag} {fa : Nat → Option Addr} {σ : L2.St} {H : Hp} {Q : VK}
theorem pys_rp {W : Wd} : ∀ {ds : List D} {vs : List V} {ps : List PyData}, RpDs K fa W ds vs → pys ds = some ps → RpAll K W.F vs ps
  | [], _, _, .nil, e => by cases e; exact .nil
  | .py p :: ds, _, ps, .cons r t, e => by
    simp only [pys, Option.map_eq_some_iff] at e
    obtain ⟨l, e1, rfl⟩ := e
    exact .cons r (pys_rp t e1)
  | .gm _ :: _, _, _, _, e => by simp [pys] at e
  | .fn _ :: _, _, _, _, e => by simp [pys] at e
  | .dc _ :: _, _, _, _, e => by simp [pys] at e
  | .sc _ :: _, _, _, _, e => by simp [pys] at e
theorem wk_op {f : D → D → Option D} {a b : ED} (h : tD K fa (eBin f a b) σ H Q) : tOp (rB K fa f) (tD K fa a) (tD K fa b) σ H Q := by
  obtain ⟨W, g, s, d, g', r, e, q⟩ := h
  simp only [eBin, Option.bind_eq_some_iff, Option.some.injEq, Prod.mk.injEq] at e
  obtain ⟨⟨x, g1⟩, e1, ⟨y, g2⟩, e2, z, e3, rfl, rfl⟩ := e
  refine ⟨W, g, s, x, g1, r, e1, fun W1 H1 v1 s1 o1 p1 => ?_⟩
  refine ⟨W1, g1, s, y, g2, r.step s1 o1, e2, fun W2 H2 v2 s2 o2 p2 => ?_⟩
  exact ⟨W2, g2, x, y, z, o2, p1.step s2, p2, e3, fun W3 H3 v3 s3 o3 p3 => q W3 H3 v3 ((s1.trans s2).trans s3) o3 p3⟩
theorem wk_un {f : D → Option D} {a : ED} (h : tD K fa (eUn f a) σ H Q) : tUn (rU1 K fa f) (tD K fa a) σ H Q := by
  obtain ⟨W, g, s, d, g', r, e, q⟩ := h
  simp only [eUn, Option.bind_eq_some_iff, Option.some.injEq, Prod.mk.injEq] at e
  obtain ⟨⟨x, g1⟩, e1, z, e3, rfl, rfl⟩ := e
  refine ⟨W, g, s, x, g1, r, e1, fun W1 H1 v1 s1 o1 p1 => ?_⟩
  exact ⟨W1, g1, x, z, o1, p1, e3, fun W3 H3 v3 s3 o3 p3 => q W3 H3 v3 (s1.trans s3) o3 p3⟩
theorem wk_nil {Q : List V → Hp → Prop} (h : tAs K fa aNil σ H Q) : tNil σ H Q := by
  obtain ⟨W, g, s, d, g', r, e, q⟩ := h
  simp only [aNil, Option.some.injEq, Prod.mk.injEq] at e
  obtain ⟨rfl, rfl⟩ := e
  exact q W H [] (Step.refl _ _) r.gok .nil
theorem wk_cons {a : ED} {t : AD} {Q : List V → Hp → Prop} (h : tAs K fa (aCons a t) σ H Q) : tCons (tD K fa a) (tAs K fa t) σ H Q := by
  obtain ⟨W, g, s, d, g', r, e, q⟩ := h
  simp only [aCons, Option.bind_eq_some_iff, Option.some.injEq, Prod.mk.injEq] at e
  obtain ⟨⟨x, g1⟩, e1, ⟨y, g2⟩, e2, rfl, rfl⟩ := e
  refine ⟨W, g, s, x, g1, r, e1, fun W1 H1 v1 s1 o1 p1 => ?_⟩
  refine ⟨W1, g1, s, y, g2, r.step s1 o1, e2, fun W2 H2 v2 s2 o2 p2 => ?_⟩
  exact q W2 H2 (v1 :: v2) (s1.trans s2) o2 (.cons (p1.step s2) p2)
theorem wk_call {f : List D → Option D} {a : AD} (h : tD K fa (eCall f a) σ H Q) : tCB (rC K fa f) (tAs K fa a) σ H Q := by
  obtain ⟨W, g, s, d, g', r, e, q⟩ := h
  simp only [eCall, Option.bind_eq_some_iff, Option.some.injEq, Prod.mk.injEq] at e
  obtain ⟨⟨x, g1⟩, e1, z, e3, rfl, rfl⟩ := e
  refine ⟨W, g, s, x, g1, r, e1, fun W1 H1 v1 s1 o1 p1 => ?_⟩
  exact ⟨W1, g1, x, z, o1, p1, e3, fun W3 H3 v3 s3 o3 p3 => q W3 H3 v3 (s1.trans s3) o3 p3⟩
theorem wk_callO {f : List D → Option Ob} {a : AD} (h : tO K fa (eCallO f a) σ H Q) : tCB (rCO K fa f) (tAs K fa a) σ H Q := by
  obtain ⟨W, g, s, d, g', r, e, q⟩ := h
  simp only [eCallO, Option.bind_eq_some_iff, Option.some.injEq, Prod.mk.injEq] at e
  obtain ⟨⟨x, g1⟩, e1, z, e3, rfl, rfl⟩ := e
  refine ⟨W, g, s, x, g1, r, e1, fun W1 H1 v1 s1 o1 p1 => ?_⟩
  exact ⟨W1, g1, x, z, o1, p1, e3, fun W3 H3 v3 s3 o3 p3 p4 p5 p6 => q W3 H3 v3 (s1.trans s3) o3 p3 p4 (s1.th _ p5) p6⟩
/-- a new object, frozen -/
theorem wk_O {f : OD} (h : tD K fa (eO f) σ H Q) : tO K fa f σ H Q := by
  obtain ⟨W, g, s, d, g', r, e, q⟩ := h
  simp only [eO, Option.bind_eq_some_iff] at e
  obtain ⟨⟨o, g1⟩, e1, e2⟩ := e
  refine ⟨W, g, s, o, g1, r, e1, fun W1 H1 a s1 o1 n1 n2 n3 ob => ?_⟩
  have key : ∀ u, H1 a = some u → Step W H ⟨upd W1.F a u, W1.ms⟩ H1 ∧ GOk ⟨upd W1.F a u, W1.ms⟩ g1 H1 := fun u hu => by
    refine ⟨⟨fun b w hb => ?_, s1.ms, fun b w h1 h2 h3 => ?_, s1.th⟩, ⟨fun b w hb => ?_, o1.len, o1.nd, fun i b m h1 h2 => ?_⟩⟩
    · exact same_new n1 b w (s1.f b w hb)
    · obtain ⟨q1, q2, q3⟩ := s1.own b w h1 h2 h3
      have nb : b ≠ a := fun z => by subst z; rw [n3] at h1; cases h1
      exact ⟨by show upd W1.F a u b = none; rw [upd_ne nb]; exact q1, q2, q3⟩
    · by_cases z : b = a
      · subst z
        have hb' : upd W1.F b u b = some w := hb
        rw [upd_same] at hb'
        cases hb'
        exact hu
      · have hb' : upd W1.F a u b = some w := hb
        rw [upd_ne z] at hb'
        exact o1.fro b w hb'
    · have h3 := o1.at' i b m h1 h2
      have nb : b ≠ a := fun z => by subst z; exact n2 (List.mem_of_getElem? h1)
      exact h3.mono (same_new n1) (fun _ z => z) (by show upd W1.F a u b = none; rw [upd_ne nb]; exact h3.1)
  cases o with
  | lst xs =>
    obtain ⟨vs, h1, h2⟩ := ob
    simp only [Option.some.injEq, Prod.mk.injEq] at e2
    obtain ⟨rfl, rfl⟩ := e2
    obtain ⟨k1, k2⟩ := key _ h1
    exact q _ H1 (.ref a) k1 k2 (.lst (show upd W1.F a _ a = _ from upd_same) (RpAll.mono (same_new n1) _ _ h2))
  | dct kvs =>
    obtain ⟨vs, h1, h2⟩ := ob
    simp only [Option.some.injEq, Prod.mk.injEq] at e2
    obtain ⟨rfl, rfl⟩ := e2
    obtain ⟨k1, k2⟩ := key _ h1
    exact q _ H1 (.ref a) k1 k2 ⟨a, vs, rfl, upd_same, RpAll.mono (same_new n1) _ _ h2⟩
end

section
variable {X : Cx} {fa : Nat → Option Addr} {a b c e : Expr} {es : List Expr} {pos : Pos} {x : Str}
abbrev EE (X : Cx) (fa : Nat → Option Addr) (e : Expr) (f : ED) : Prop := PE X e (tD X.K fa f)
abbrev EA (X : Cx) (fa : Nat → Option Addr) (es : List Expr) (f : AD) : Prop := PA X es (tAs X.K fa f)
abbrev EO (X : Cx) (fa : Nat → Option Addr) (e : Expr) (f : OD) : Prop := PE X e (tO X.K fa f)
abbrev ET (X : Cx) (fa : Nat → Option Addr) (e : Expr) (f : BD) : Prop := PT X e (tBo X.K fa f)
abbrev EW (X : Cx) (fa : Nat → Option Addr) (e : Expr) (f : BD) : Prop := PW X e (tBo X.K fa f)

theorem ev_of (i : Nat) (h : PE X e (tVar i)) : EE X fa e (eVar i) := PE.wk h fun σ H Q h => by
  obtain ⟨W, g, s, d, g', r, e, q⟩ := h
  unfold eVar at e
  split at e
  · rename_i d' hs
    cases e
    obtain ⟨v, h1, h2⟩ := r.sl _ _ hs
    exact ⟨v, h1, q W H v (Step.refl _ _) r.gok h2⟩
  · cases e
/-- the name in slot i -/
theorem ev (i : Nat) {x : Str} {pos : Pos} (hN : X.N[i]? = some x := by rfl) (hv : Vis X.env.scope x := by first | exact Or.inl rfl | exact Or.inr (Or.inl rfl) | exact Or.inr (Or.inr rfl)) (hd : (x == ("__debug__" : Str)) = false := by decide)
    (hcd : (x == ("__classdict__" : Str)) = false := by decide) : EE X fa (.Name x pos) (eVar i) := ev_of i (pe_var hN hv hd hcd)
theorem ec_of {v : V} {p : PyData} (h : PE X e (tC v)) (hp : ∀ F, Rp X.K F v p) : EE X fa e (eC p) := PE.wk h fun σ H Q h => by
  obtain ⟨W, g, s, d, g', r, e, q⟩ := h
  cases e
  exact q W H v (Step.refl _ _) r.gok (hp _)
theorem ec_int {i : Int} {j pos} : EE X fa (.Constant (.int i) j pos) (eC (.int i)) := ec_of pe_int fun _ => .int _
theorem ec_bl {i : Bool} {j pos} : EE X fa (.Constant (.bool i) j pos) (eC (.bool i)) := ec_of pe_bl fun _ => .bl _
theorem ec_non {j pos} : EE X fa (.Constant .none j pos) (eC .none) := ec_of pe_non fun _ => .non
theorem ec_str {i : Str} {j pos} : EE X fa (.Constant (.str i) j pos) (eC (.str i)) := ec_of pe_str fun _ => .str _
theorem ec_gint {i : Int} {t : Tok} {x : Str} {pos : Pos} (hm : X.mg x = some (.int i t)) (hg : Gl X x := by rfl) (hd : (x == ("__debug__" : Str)) = false := by decide) : EE X fa (.Name x pos) (eC (.int i)) :=
  ec_of (v := .int i) (pe_glob hg hm ⟨t, rfl⟩ hd) fun _ => .int _
theorem ee_op {op : Operator} {f : D → D → Option D} {fa1 fb1 : ED} (ho : OpR X (binaryOp op) (rB X.K fa f)) (ha : EE X fa a fa1) (hb : EE X fa b fb1) : EE X fa (.BinOp a op b pos) (eBin f fa1 fb1) :=
  PE.wk (pe_op ho ha hb) fun _ _ _ h => wk_op h
theorem ee_cmp {op : CmpOp} {f : D → D → Option D} {fa1 fb1 : ED} (ho : OpR X (compareOp op) (rB X.K fa f)) (ha : EE X fa a fa1) (hb : EE X fa b fb1) (hm : behindInMarks op b = false := by rfl) : EE X fa (.Compare a [op] [b] pos) (eBin f fa1 fb1) :=
  PE.wk (pe_cmpR ho ha hb hm) fun _ _ _ h => wk_op h
theorem ee_un {op : UnaryOp} {f : D → Option D} {fa1 : ED} (ho : UnR X (unaryOp op) (rU1 X.K fa f)) (ha : EE X fa a fa1) : EE X fa (.UnaryOp op a pos) (eUn f fa1) :=
  PE.wk (pe_un ho ha) fun _ _ _ h => wk_un h
theorem ea_nil : EA X fa [] aNil := PA.wk pa_nil fun _ _ _ h => wk_nil h
theorem ea_cons {f : ED} {t : AD} (ha : EE X fa e f) (hr : EA X fa es t) (hs : starEach (e :: es) X.env = (false, eval e X.env) :: starEach es X.env := by rfl) : EA X fa (e :: es) (aCons f t) :=
  PA.wk (pa_cons ha hr hs) fun _ _ _ h => wk_cons h
theorem ee_tup {t : AD} {x1} (h : EA X fa es t) : EE X fa (.Tuple es x1 pos) (eTup t) := PE.wk (pe_tup h) fun σ H Q h => by
  obtain ⟨W, g, s, d, g', r, e, q⟩ := h
  simp only [eTup, Option.bind_eq_some_iff] at e
  obtain ⟨⟨ds, g1⟩, e1, ps, e2, e3⟩ := e
  split at e3
  · rename_i hl
    cases e3
    refine ⟨W, g, s, ds, g1, r, e1, fun W1 H1 vs s1 o1 p1 => ?_⟩
    have rp := pys_rp p1 e2
    have hlen := rp.length
    refine ⟨by rw [hlen]; exact lim_ok hl, fun p hp => ?_⟩
    obtain ⟨f1, f2⟩ := o1.fresh hp
    exact q _ _ (.ref p) (s1.trans (Step.laid hp o1.fro f2)) (o1.laid hp) (.tup (SqT.of (show upd W1.F p _ p = _ from upd_same)) (RpAll.mono (same_new f1) _ _ rp))
  · cases e3
theorem eo_lst {t : AD} (h : EA X fa es t) : EO X fa (.List es pos) (oLst t) := PE.wk (pe_lst h) fun σ H Q h => by
  obtain ⟨W, g, s, d, g', r, e, q⟩ := h
  simp only [oLst, Option.bind_eq_some_iff] at e
  obtain ⟨⟨ds, g1⟩, e1, ps, e2, e3⟩ := e
  split at e3
  · rename_i hl
    cases e3
    refine ⟨W, g, s, ds, g1, r, e1, fun W1 H1 vs s1 o1 p1 => ?_⟩
    have rp := pys_rp p1 e2
    have hlen := rp.length
    refine ⟨by rw [hlen]; exact lim_ok hl, fun p hp => ?_⟩
    obtain ⟨f1, f2⟩ := o1.fresh hp
    exact q W1 _ p (s1.trans (Step.loose hp)) (o1.loose hp) f1 f2 (s1.th _ hp) ⟨vs, upd_same, rp⟩
  · cases e3
theorem ee_o {f : OD} (h : EO X fa e f) : EE X fa e (eO f) := PE.wk h fun _ _ _ h => wk_O h
theorem dB_rp {K : PySem.W.Frag} {W : Wd} {d : D} {v : V} {b : Bool} (e : dB d = some b) (p : RpD K fa W d v) : v = .bl b := by
  unfold dB at e
  split at e
  · cases e; cases p; rfl
  · cases e
/-- tests -/
theorem et_val {f : ED} (h : EE X fa e f) (he : ∀ whole, isTrue e X.env whole = (do let v ← whole; standAt e.pos; holding [v] (truthy v)) := by intro _; rfl) : ET X fa e (bVal f) := PT.wk (pt_val h he) fun σ H Q h => by
  obtain ⟨W, g, s, b, g', r, e, q⟩ := h
  simp only [bVal, Option.bind_eq_some_iff, Option.some.injEq, Prod.mk.injEq] at e
  obtain ⟨⟨x, g1⟩, e1, c, e2, rfl, rfl⟩ := e
  refine ⟨W, g, s, x, g1, r, e1, fun W1 H1 v s1 o1 p1 => ?_⟩
  exact ⟨_, dB_rp e2 p1, q W1 H1 s1 o1⟩
theorem tru_rp {K : PySem.W.Frag} {W : Wd} {H : Hp} {d : D} {v : V} {b : Bool} (hf : Same W.F H) (p : RpD K fa W d v) (e : dTru d = some b) : TruV K v H b := by
  unfold dTru at e
  split at e
  · cases e; cases p; rfl
  · cases e; cases p; rfl
  · cases e; cases p; rfl
  · split at e
    · cases e; cases p; exact ⟨lim_ok (by assumption), rfl⟩
    · cases e
  · cases e
    cases p with
    | lst h1 h2 =>
      refine .inl ⟨_, SqL.of (hf _ _ h1), ?_⟩
      cases h2 <;> rfl
  · cases e
    cases p with
    | tup h1 h2 =>
      refine .inr (.inl ⟨_, sqt_mono hf h1, ?_⟩)
      cases h2 <;> rfl
  · cases e
theorem et_tru {f : ED} (h : EE X fa e f) (he : ∀ whole, isTrue e X.env whole = (do let v ← whole; standAt e.pos; holding [v] (truthy v)) := by intro _; rfl) : ET X fa e (bTru f) := PT.wk (pt_truth h he) fun σ H Q h => by
  obtain ⟨W, g, s, b, g', r, e, q⟩ := h
  simp only [bTru, Option.bind_eq_some_iff, Option.some.injEq, Prod.mk.injEq] at e
  obtain ⟨⟨x, g1⟩, e1, c, e2, rfl, rfl⟩ := e
  refine ⟨W, g, s, x, g1, r, e1, fun W1 H1 v s1 o1 p1 => ?_⟩
  exact ⟨_, tru_rp o1.fro p1 e2, q W1 H1 s1 o1⟩
theorem et_cmp {op : CmpOp} {f : D → D → Option D} {fa1 fb1 : ED} (ho : OpR X (compareOp op) (rB X.K fa f)) (ha : EE X fa a fa1) (hb : EE X fa b fb1) (hm : behindInMarks op b = false := by rfl) : ET X fa (.Compare a [op] [b] pos) (bVal (eBin f fa1 fb1)) :=
  PT.wk (pt_cmpR ho ha hb hm) fun σ H Q h => by
    obtain ⟨W, g, s, b, g', r, e, q⟩ := h
    simp only [bVal, Option.bind_eq_some_iff, Option.some.injEq, Prod.mk.injEq] at e
    obtain ⟨⟨x, g1⟩, e1, c, e2, rfl, rfl⟩ := e
    refine wk_op ⟨W, g, s, x, g1, r, e1, fun W1 H1 v s1 o1 p1 => ?_⟩
    exact ⟨_, dB_rp e2 p1, q W1 H1 s1 o1⟩
theorem et_not {f : BD} (h : ET X fa a f) : ET X fa (.UnaryOp .Not a pos) (bNot f) := PT.wk (pt_not h) fun σ H Q h => by
  obtain ⟨W, g, s, b, g', r, e, q⟩ := h
  simp only [bNot, Option.bind_eq_some_iff, Option.some.injEq, Prod.mk.injEq] at e
  obtain ⟨⟨x, g1⟩, e1, rfl, rfl⟩ := e
  exact ⟨W, g, s, x, g1, r, e1, fun W1 H1 s1 o1 => q W1 H1 s1 o1⟩
theorem et_w {f : BD} (h : EW X fa e f) : ET X fa e f := h.pt
theorem ew_and1 {f : BD} (h : ET X fa a f) : EW X fa (.BoolOp .And [a] pos) f := pw_and1 h
theorem ew_or1 {f : BD} (h : ET X fa a f) : EW X fa (.BoolOp .Or [a] pos) f := pw_or1 h
theorem ew_and {f h : BD} (ha : ET X fa a f) (hb : EW X fa (.BoolOp .And (b :: es) pos) h) : EW X fa (.BoolOp .And (a :: b :: es) pos) (bAnd f h) := PW.wk (pw_and ha hb) fun σ H Q h => by
  obtain ⟨W, g, s, b, g', r, e, q⟩ := h
  simp only [bAnd, Option.bind_eq_some_iff] at e
  obtain ⟨⟨x, g1⟩, e1, e2⟩ := e
  refine ⟨W, g, s, x, g1, r, e1, fun W1 H1 s1 o1 => ?_⟩
  cases x with
  | true => exact ⟨W1, g1, s, b, g', r.step s1 o1, e2, fun W2 H2 s2 o2 => q W2 H2 (s1.trans s2) o2⟩
  | false => cases e2; exact q W1 H1 s1 o1
theorem ew_or {f h : BD} (ha : ET X fa a f) (hb : EW X fa (.BoolOp .Or (b :: es) pos) h) : EW X fa (.BoolOp .Or (a :: b :: es) pos) (bOr f h) := PW.wk (pw_or ha hb) fun σ H Q h => by
  obtain ⟨W, g, s, b, g', r, e, q⟩ := h
  simp only [bOr, Option.bind_eq_some_iff] at e
  obtain ⟨⟨x, g1⟩, e1, e2⟩ := e
  refine ⟨W, g, s, x, g1, r, e1, fun W1 H1 s1 o1 => ?_⟩
  cases x with
  | true => cases e2; exact q W1 H1 s1 o1
  | false => exact ⟨W1, g1, s, b, g', r.step s1 o1, e2, fun W2 H2 s2 o2 => q W2 H2 (s1.trans s2) o2⟩
theorem ee_if {f : BD} {h k : ED} (hc : ET X fa c f) (ha : EE X fa a h) (hb : EE X fa b k) : EE X fa (.IfExp c a b pos) (eIf f h k) := PE.wk (pe_ifExp hc ha hb) fun σ H Q h => by
  obtain ⟨W, g, s, d, g', r, e, q⟩ := h
  simp only [eIf, Option.bind_eq_some_iff] at e
  obtain ⟨⟨x, g1⟩, e1, e2⟩ := e
  refine ⟨W, g, s, x, g1, r, e1, fun W1 H1 s1 o1 => ?_⟩
  cases x with
  | true => exact ⟨W1, g1, s, d, g', r.step s1 o1, e2, fun W2 H2 v2 s2 o2 => q W2 H2 v2 (s1.trans s2) o2⟩
  | false => exact ⟨W1, g1, s, d, g', r.step s1 o1, e2, fun W2 H2 v2 s2 o2 => q W2 H2 v2 (s1.trans s2) o2⟩
theorem eo_if {f : BD} {h k : OD} (hc : ET X fa c f) (ha : EO X fa a h) (hb : EO X fa b k) : EO X fa (.IfExp c a b pos) (oIf f h k) := PE.wk (pe_ifExp hc ha hb) fun σ H Q h => by
  obtain ⟨W, g, s, d, g', r, e, q⟩ := h
  simp only [oIf, Option.bind_eq_some_iff] at e
  obtain ⟨⟨x, g1⟩, e1, e2⟩ := e
  refine ⟨W, g, s, x, g1, r, e1, fun W1 H1 s1 o1 => ?_⟩
  cases x with
  | true => exact ⟨W1, g1, s, d, g', r.step s1 o1, e2, fun W2 H2 v2 s2 o2 n1 n2 n3 => q W2 H2 v2 (s1.trans s2) o2 n1 n2 (s1.th _ n3)⟩
  | false => exact ⟨W1, g1, s, d, g', r.step s1 o1, e2, fun W2 H2 v2 s2 o2 n1 n2 n3 => q W2 H2 v2 (s1.trans s2) o2 n1 n2 (s1.th _ n3)⟩
/-- and, or, not as values -/
theorem ee_one {op : BoolOp} {f : ED} (h : EE X fa a f) : EE X fa (.BoolOp op [a] pos) f := pe_one h
theorem ee_and {f h : ED} (ha : EE X fa a f) (hb : EE X fa (.BoolOp .And (b :: es) pos) h) : EE X fa (.BoolOp .And (a :: b :: es) pos) (eAnd f h) := PE.wk (pe_and ha hb) fun σ H Q h => by
  obtain ⟨W, g, s, b, g', r, e, q⟩ := h
  simp only [eAnd, Option.bind_eq_some_iff] at e
  obtain ⟨⟨x, g1⟩, e1, c, ec, e2⟩ := e
  refine ⟨W, g, s, x, g1, r, e1, fun W1 H1 v s1 o1 p1 => ?_⟩
  refine ⟨_, dB_rp ec p1, ?_⟩
  cases c with
  | true => exact ⟨W1, g1, s, b, g', r.step s1 o1, e2, fun W2 H2 v2 s2 o2 => q W2 H2 v2 (s1.trans s2) o2⟩
  | false => cases e2; exact q W1 H1 _ s1 o1 (Rp.bl _)
theorem ee_or {f h : ED} (ha : EE X fa a f) (hb : EE X fa (.BoolOp .Or (b :: es) pos) h) : EE X fa (.BoolOp .Or (a :: b :: es) pos) (eOr f h) := PE.wk (pe_or ha hb) fun σ H Q h => by
  obtain ⟨W, g, s, b, g', r, e, q⟩ := h
  simp only [eOr, Option.bind_eq_some_iff] at e
  obtain ⟨⟨x, g1⟩, e1, c, ec, e2⟩ := e
  refine ⟨W, g, s, x, g1, r, e1, fun W1 H1 v s1 o1 p1 => ?_⟩
  refine ⟨_, dB_rp ec p1, ?_⟩
  cases c with
  | false => exact ⟨W1, g1, s, b, g', r.step s1 o1, e2, fun W2 H2 v2 s2 o2 => q W2 H2 v2 (s1.trans s2) o2⟩
  | true => cases e2; exact q W1 H1 _ s1 o1 (Rp.bl _)
theorem ee_not {f : ED} (h : EE X fa a f) : EE X fa (.UnaryOp .Not a pos) (eNot f) := PE.wk (pe_not h) fun σ H Q h => by
  obtain ⟨W, g, s, b, g', r, e, q⟩ := h
  simp only [eNot, Option.bind_eq_some_iff, Option.some.injEq, Prod.mk.injEq] at e
  obtain ⟨⟨x, g1⟩, e1, c, ec, rfl, rfl⟩ := e
  refine ⟨W, g, s, x, g1, r, e1, fun W1 H1 v s1 o1 p1 => ?_⟩
  exact ⟨_, dB_rp ec p1, q W1 H1 _ s1 o1 (Rp.bl _)⟩
/-- built-in functions and types by values -/
theorem ee_callB {id : String} {f : List D → Option D} {t : AD} (hc : CallR X (.builtin id) (rC X.K fa f)) (hm : X.mg x = none) (hv : bootBuiltins x = some (.builtin id)) (ha : EA X fa (e :: es) t) (hg : Gl X x := by rfl) (hn : x ≠ "__name__" := by decide) (hdb : (x == ("__debug__" : Str)) = false := by decide)
    (he : starEach (e :: es) X.env = (false, eval e X.env) :: starEach es X.env := by rfl) {p pos : Pos} (hpl : (backTo pos (starEach es X.env)).any (·.1) = false := by rfl) : EE X fa (.Call (.Name x p) (e :: es) [] pos) (eCall f t) :=
  PE.wk (pe_callB hc hg hm hv ha hn hdb he hpl) fun _ _ _ h => wk_call h
theorem ee_callT {T : String} {f : List D → Option D} {t : AD} (hc : CallR X (.type T) (rC X.K fa f)) (hm : X.mg x = none) (hv : bootBuiltins x = some (.type T)) (ha : EA X fa (e :: es) t) (hg : Gl X x := by rfl) (hn : x ≠ "__name__" := by decide) (hdb : (x == ("__debug__" : Str)) = false := by decide)
    (he : starEach (e :: es) X.env = (false, eval e X.env) :: starEach es X.env := by rfl) {p pos : Pos} (hpl : (backTo pos (starEach es X.env)).any (·.1) = false := by rfl) : EE X fa (.Call (.Name x p) (e :: es) [] pos) (eCall f t) :=
  PE.wk (pe_callTy hc hg hm hv ha hn hdb he hpl) fun _ _ _ h => wk_call h
theorem eo_callB {id : String} {f : List D → Option Ob} {t : AD} (hc : CallR X (.builtin id) (rCO X.K fa f)) (hm : X.mg x = none) (hv : bootBuiltins x = some (.builtin id)) (ha : EA X fa (e :: es) t) (hg : Gl X x := by rfl) (hn : x ≠ "__name__" := by decide) (hdb : (x == ("__debug__" : Str)) = false := by decide)
    (he : starEach (e :: es) X.env = (false, eval e X.env) :: starEach es X.env := by rfl) {p pos : Pos} (hpl : (backTo pos (starEach es X.env)).any (·.1) = false := by rfl) : EO X fa (.Call (.Name x p) (e :: es) [] pos) (eCallO f t) :=
  PE.wk (pe_callB hc hg hm hv ha hn hdb he hpl) fun _ _ _ h => wk_callO h
theorem eo_callT {T : String} {f : List D → Option Ob} {t : AD} (hc : CallR X (.type T) (rCO X.K fa f)) (hm : X.mg x = none) (hv : bootBuiltins x = some (.type T)) (ha : EA X fa (e :: es) t) (hg : Gl X x := by rfl) (hn : x ≠ "__name__" := by decide) (hdb : (x == ("__debug__" : Str)) = false := by decide)
    (he : starEach (e :: es) X.env = (false, eval e X.env) :: starEach es X.env := by rfl) {p pos : Pos} (hpl : (backTo pos (starEach es X.env)).any (·.1) = false := by rfl) : EO X fa (.Call (.Name x p) (e :: es) [] pos) (eCallO f t) :=
  PE.wk (pe_callTy hc hg hm hv ha hn hdb he hpl) fun _ _ _ h => wk_callO h
theorem ee_ix {f : D → D → Option D} {fa1 fb1 : ED} (hr : IxR X (rB X.K fa f)) (ha : EE X fa a fa1) (hb : EE X fa b fb1) (hs : PlainIx b := by exact fun _ _ => rfl) : EE X fa (.Subscript a b pos) (eBin f fa1 fb1) :=
  PE.wk (pe_ix hr ha hb hs) fun _ _ _ h => wk_op h
end
end DS

namespace DS
open PySem PySem.Spec PyProof.Rows L2
section
variable {K : PySem.W.Frag} {fa : Nat → Option Addr} {W : Wd} {g : G} {H : Hp} {Q : VK}
theorem fin_tup {ds : List PyData} {vs : List V} (o : GOk W g H) (q : ∀ W' H' v, Step W H W' H' → GOk W' g H' → RpD K fa W' (.py (.tuple ds)) v → Q v H') (r : RpAll K W.F vs ds) (p : Addr) (hp : H p = none) : Q (.ref p) (upd H p (.tup vs)) := by
  obtain ⟨f1, f2⟩ := o.fresh hp
  exact q _ _ (.ref p) (Step.laid hp o.fro f2) (o.laid hp) (.tup (SqT.of (show upd W.F p _ p = _ from upd_same)) (RpAll.mono (same_new f1) _ _ r))
theorem fin_lst {ds : List PyData} {vs : List V} (o : GOk W g H) (q : ∀ W' H' v, Step W H W' H' → GOk W' g H' → RpD K fa W' (.py (.list ds)) v → Q v H') (r : RpAll K W.F vs ds) (p : Addr) (hp : H p = none) : Q (.ref p) (upd H p (.lst vs)) := by
  obtain ⟨f1, f2⟩ := o.fresh hp
  exact q _ _ (.ref p) (Step.laid hp o.fro f2) (o.laid hp) (.lst (show upd W.F p _ p = _ from upd_same) (RpAll.mono (same_new f1) _ _ r))
theorem fin_own {ds : List PyData} {vs : List V} (o : GOk W g H) (q : ∀ W' H' a, Step W H W' H' → GOk W' g H' → W'.F a = none → a ∉ W'.ms → H a = none → ObAt K W'.F H' a (.lst ds) → Q (.ref a) H') (r : RpAll K W.F vs ds) (p : Addr) (hp : H p = none) : Q (.ref p) (upd H p (.lst vs)) := by
  obtain ⟨f1, f2⟩ := o.fresh hp
  exact q _ _ p (Step.loose hp) (o.loose hp) f1 f2 hp ⟨vs, upd_same, r⟩
theorem nil_iff {F : Hp} {vs : List V} {ds : List PyData} (r : RpAll K F vs ds) : vs = [] ↔ ds = [] := by
  cases r with
  | nil => exact ⟨fun _ => rfl, fun _ => rfl⟩
  | cons => exact ⟨fun h => (List.cons_ne_nil _ _ h).elim, fun h => (List.cons_ne_nil _ _ h).elim⟩
end

def small64 (i : Int) : Bool := Nat.blt i.natAbs 18446744073709551616
theorem small64_iff {i : Int} : small64 i = true ↔ -(2 ^ 64) < i ∧ i < 2 ^ 64 := by
  unfold small64
  rw [Nat.blt_eq]
  omega
def dAdd : D → D → Option D
  | .py (.int i), .py (.int j) => some (.py (.int (i + j)))
  | .py (.tuple a), .py (.tuple b) => if a.length + b.length ≤ lim then some (.py (.tuple (a ++ b))) else none
  | .py (.list a), .py (.list b) => if a.length + b.length ≤ lim then some (.py (.list (a ++ b))) else none
  | .py (.str a), .py (.str b) => if a.length + b.length ≤ lim then some (.py (.str (a ++ b))) else none
  | _, _ => none
def dSub : D → D → Option D
  | .py (.int i), .py (.int j) => some (.py (.int (i - j)))
  | _, _ => none
def dMul : D → D → Option D
  | .py (.int i), .py (.int j) => if small64 i || small64 j then some (.py (.int (i * j))) else none
  | .py (.list a), .py (.int k) => if decide (0 ≤ k) && decide (k ≤ 1000) && decide (a.length ≤ 1000) then some (.py (.list (List.replicate k.toNat a).flatten)) else none
  | _, _ => none
def dMod : D → D → Option D
  | .py (.int i), .py (.int j) => if 0 < j then some (.py (.int (i % j))) else none
  | _, _ => none
def dFdiv : D → D → Option D
  | .py (.int i), .py (.int j) => if 0 < j ∧ j < 1073741824 then some (.py (.int (i / j))) else none
  | _, _ => none
def dPow : D → D → Option D
  | .py (.int i), .py (.int j) => if decide (0 ≤ j) && decide (j ≤ 64) && small64 i then some (.py (.int (i ^ j.toNat))) else none
  | _, _ => none
def dNeg : D → Option D
  | .py (.int i) => some (.py (.int (-i)))
  | _ => none
def dOrd (f : Int → Int → Bool) : D → D → Option D
  | .py (.int i), .py (.int j) => some (.py (.bool (f i j)))
  | _, _ => none
abbrev dLt := dOrd fun i j => decide (i < j)
abbrev dLe := dOrd fun i j => decide (i ≤ j)
abbrev dGt := dOrd fun i j => decide (i > j)
abbrev dGe := dOrd fun i j => decide (i ≥ j)
def scD : PyData → PyData → Bool
  | .none, .none | .none, .int _ | .int _, .none | .none, .bool _ | .bool _, .none | .none, .str _ | .str _, .none | .int _, .int _ | .bool _, .bool _ | .str _, .str _ => true
  | _, _ => false
def dEq : D → D → Option D
  | .py a, .py b => match scD a b with
    | true => some (.py (.bool (PyData.eqv a b)))
    | false => if SeqAt.shaped a && SeqAt.shaped b then some (.py (.bool (PyData.eqv a b))) else none
  | _, _ => none
def dNe : D → D → Option D
  | .py a, .py b => match scD a b with
    | true => some (.py (.bool (!PyData.eqv a b)))
    | false => if SeqAt.shaped a && SeqAt.shaped b then some (.py (.bool (!PyData.eqv a b))) else none
  | _, _ => none
/-- x in a list or a tuple -/
def dIn : D → D → Option D
  | .py a, .py (.list ds) => if SeqAt.shaped a && SeqAt.shaped (.list ds) then some (.py (.bool (ds.any fun z => PyData.eqv z a))) else none
  | .py (.int i), .py (.tuple ds) => if ds.all (fun z => match z with | .int _ => true | _ => false) then some (.py (.bool (ds.any fun z => PyData.eqv z (.int i)))) else none
  | _, _ => none
def dNotIn : D → D → Option D
  | .py a, .py (.list ds) => if SeqAt.shaped a && SeqAt.shaped (.list ds) then some (.py (.bool (!ds.any fun z => PyData.eqv z a))) else none
  | .py (.int i), .py (.tuple ds) => if ds.all (fun z => match z with | .int _ => true | _ => false) then some (.py (.bool (!ds.any fun z => PyData.eqv z (.int i)))) else none
  | _, _ => none
def isNon : PyData → Bool
  | .none => true
  | _ => false
def dIsN : D → D → Option D
  | .py a, .py .none => some (.py (.bool (isNon a)))
  | _, _ => none
def dNotN : D → D → Option D
  | .py a, .py .none => some (.py (.bool (!isNon a)))
  | _, _ => none
/-- items by an index, slices -/
def dIx : D → D → Option D
  | .py (.list ds), .py (.int i) => (atI ds i).map .py
  | .py (.tuple ds), .py (.int i) => (atI ds i).map .py
  | _, _ => none
def cutD {α : Type} (xs : List α) (lo hi : Option Int) : List α := (xs.drop (HT.sIx xs.length 0 lo)).take (HT.sIx xs.length xs.length hi - HT.sIx xs.length 0 lo)
def dSl (lo hi : Option Int) : D → Option D
  | .py (.list ds) => some (.py (.list (cutD ds lo hi)))
  | .py (.tuple ds) => some (.py (.tuple (cutD ds lo hi)))
  | .sc ns => some (.py (.list ((cutD ns lo hi).map PyData.int)))
  | _ => none
section
variable {X : Cx} {fa : Nat → Option Addr}
theorem od_add : OpR X (binaryOp .Add) (rB X.K fa dAdd) := by
  intro pins s σ H x y v u Q I rx ry ⟨W, g, dx, dy, d, o, px, py, e, q⟩
  unfold dAdd at e
  split at e
  · cases e; cases px; cases py
    exact op_add pins s σ H _ _ v u Q I rx ry ⟨_, _, rfl, rfl, q W H _ (Step.refl _ _) o (Rp.int _)⟩
  · split at e
    · rename_i hl
      cases e
      cases px with
      | tup h1 h2 =>
        cases py with
        | tup h3 h4 =>
          refine op_catA pins s σ H _ _ v u Q I rx ry ⟨_, _, _, _, rfl, rfl, sqt_mono o.fro h1, sqt_mono o.fro h3, ?_, fun z => ?_, fun _ z => ?_, fun _ _ p hp => fin_tup o q (h2.append h4) p hp⟩
          · rw [h2.length, h4.length]; exact lim_ok hl
          · have z' := (nil_iff h2).mp z
            subst z'
            exact q W H _ (Step.refl _ _) o (Rp.tup h3 h4)
          · have z' := (nil_iff h4).mp z
            subst z'
            refine q W H _ (Step.refl _ _) o ?_
            rw [List.append_nil]
            exact Rp.tup h1 h2
    · cases e
  · split at e
    · rename_i hl
      cases e
      cases px with
      | lst h1 h2 =>
        cases py with
        | lst h3 h4 =>
          refine op_cat pins s σ H _ _ v u Q I rx ry ⟨_, _, _, _, rfl, rfl, o.fro _ _ h1, o.fro _ _ h3, ?_, fun p hp => fin_lst o q (h2.append h4) p hp⟩
          rw [h2.length, h4.length]; exact lim_ok hl
    · cases e
  · split at e
    · rename_i hl
      cases e; cases px; cases py
      exact op_add_str pins s σ H _ _ v u Q I rx ry ⟨_, _, rfl, rfl, lim_ok hl, q W H _ (Step.refl _ _) o (Rp.str _)⟩
    · cases e
  · cases e
theorem od_sub : OpR X (binaryOp .Sub) (rB X.K fa dSub) := by
  intro pins s σ H x y v u Q I rx ry ⟨W, g, dx, dy, d, o, px, py, e, q⟩
  unfold dSub at e
  split at e
  · cases e; cases px; cases py
    exact op_sub pins s σ H _ _ v u Q I rx ry ⟨_, _, rfl, rfl, q W H _ (Step.refl _ _) o (Rp.int _)⟩
  · cases e
theorem od_mul : OpR X (binaryOp .Mult) (rB X.K fa dMul) := by
  intro pins s σ H x y v u Q I rx ry ⟨W, g, dx, dy, d, o, px, py, e, q⟩
  unfold dMul at e
  split at e
  · split at e
    · rename_i hl
      cases e; cases px; cases py
      refine op_mul pins s σ H _ _ v u Q I rx ry ⟨_, _, rfl, rfl, ?_, q W H _ (Step.refl _ _) o (Rp.int _)⟩
      simp only [Bool.or_eq_true, small64_iff] at hl
      exact hl
    · cases e
  · split at e
    · rename_i hl
      simp only [Bool.and_eq_true, decide_eq_true_eq] at hl
      obtain ⟨⟨h0, h1'⟩, h2'⟩ := hl
      cases e; cases py
      cases px with
      | lst h1 h2 =>
        refine op_rep pins s σ H _ _ v u Q I rx ry ⟨_, _, _, rfl, rfl, o.fro _ _ h1, by omega, by omega, ?_, fun p hp => fin_lst o q ?_ p hp⟩
        · rw [h2.length, sizeLine_eq]
          rename_i a k _ _
          have : a.length * k.toNat ≤ 1000 * 1000 := Nat.mul_le_mul h2' (by omega)
          omega
        · rename_i a k _ _
          clear h1' h0 q
          generalize k.toNat = n
          induction n with
          | zero => exact .nil
          | succ n ih =>
            rw [List.replicate_succ, List.replicate_succ, List.flatten_cons, List.flatten_cons]
            exact h2.append ih
    · cases e
  · cases e
theorem od_mod : OpR X (binaryOp .Mod) (rB X.K fa dMod) := by
  intro pins s σ H x y v u Q I rx ry ⟨W, g, dx, dy, d, o, px, py, e, q⟩
  unfold dMod at e
  split at e
  · split at e
    · rename_i hl
      cases e; cases px; cases py
      exact op_mod pins s σ H _ _ v u Q I rx ry ⟨_, _, rfl, rfl, hl, q W H _ (Step.refl _ _) o (Rp.int _)⟩
    · cases e
  · cases e
theorem od_fdiv : OpR X (binaryOp .FloorDiv) (rB X.K fa dFdiv) := by
  intro pins s σ H x y v u Q I rx ry ⟨W, g, dx, dy, d, o, px, py, e, q⟩
  unfold dFdiv at e
  split at e
  · split at e
    · rename_i hl
      cases e; cases px; cases py
      exact op_fdiv pins s σ H _ _ v u Q I rx ry ⟨_, _, rfl, rfl, hl, q W H _ (Step.refl _ _) o (Rp.int _)⟩
    · cases e
  · cases e
theorem od_pow : OpR X (binaryOp .Pow) (rB X.K fa dPow) := by
  intro pins s σ H x y v u Q I rx ry ⟨W, g, dx, dy, d, o, px, py, e, q⟩
  unfold dPow at e
  split at e
  · split at e
    · rename_i hl
      simp only [small64_iff, Bool.and_eq_true, decide_eq_true_eq] at hl
      cases e; cases px; cases py
      exact op_pow pins s σ H _ _ v u Q I rx ry ⟨_, _, rfl, rfl, ⟨hl.1.1, by omega, by omega⟩, q W H _ (Step.refl _ _) o (Rp.int _)⟩
    · cases e
  · cases e
theorem od_ifdiv : OpR X (inplaceOp .FloorDiv) (rB X.K fa dFdiv) := by
  intro pins s σ H x y v u Q I rx ry ⟨W, g, dx, dy, d, o, px, py, e, q⟩
  unfold dFdiv at e
  split at e
  · split at e
    · rename_i hl
      cases e; cases px; cases py
      exact iop_fdiv pins s σ H _ _ v u Q I rx ry ⟨_, _, rfl, rfl, hl, q W H _ (Step.refl _ _) o (Rp.int _)⟩
    · cases e
  · cases e
def dIadd : D → D → Option D
  | .py (.int i), .py (.int j) => some (.py (.int (i + j)))
  | _, _ => none
theorem od_iadd : OpR X (inplaceOp .Add) (rB X.K fa dIadd) := by
  intro pins s σ H x y v u Q I rx ry ⟨W, g, dx, dy, d, o, px, py, e, q⟩
  unfold dIadd at e
  split at e
  · cases e; cases px; cases py
    exact iop_add pins s σ H _ _ v u Q I rx ry ⟨_, _, rfl, rfl, q W H _ (Step.refl _ _) o (Rp.int _)⟩
  · cases e
theorem od_neg : UnR X (unaryOp .USub) (rU1 X.K fa dNeg) := by
  intro pins s σ H x v Q I rx ⟨W, g, dx, d, o, px, e, q⟩
  unfold dNeg at e
  split at e
  · cases e; cases px
    exact un_neg pins s σ H _ v Q I rx ⟨_, rfl, q W H _ (Step.refl _ _) o (Rp.int _)⟩
  · cases e
theorem od_ord {op : CmpOp} {f : Int → Int → Bool} (h : OpR X (compareOp op) (rI0 fun i j => .bl (f i j))) : OpR X (compareOp op) (rB X.K fa (dOrd f)) := by
  intro pins s σ H x y v u Q I rx ry ⟨W, g, dx, dy, d, o, px, py, e, q⟩
  unfold dOrd at e
  split at e
  · cases e; cases px; cases py
    exact h pins s σ H _ _ v u Q I rx ry ⟨_, _, rfl, rfl, q W H _ (Step.refl _ _) o (Rp.bl _)⟩
  · cases e
theorem od_lt : OpR X (compareOp .Lt) (rB X.K fa dLt) := od_ord op_lt
theorem od_le : OpR X (compareOp .LtE) (rB X.K fa dLe) := od_ord op_le
theorem od_gt : OpR X (compareOp .Gt) (rB X.K fa dGt) := od_ord op_gt
theorem od_ge : OpR X (compareOp .GtE) (rB X.K fa dGe) := od_ord op_ge
/-- scalars -/
theorem sc_rp {K : PySem.W.Frag} {F : Hp} {a b : PyData} {x y : V} (h : scD a b = true) (p : Rp K F x a) (q : Rp K F y b) : scal x y = true ∧ decide (x = y) = PyData.eqv a b := by
  unfold scD at h
  split at h <;> first | (cases h; done) | (cases p; cases q; refine ⟨rfl, ?_⟩; simp [PyData.eqv, Bool.beq_eq_decide_eq])
theorem od_eq (hu : X.A.units + 64 < cLine) : OpR X (compareOp .Eq) (rB X.K fa dEq) := by
  intro pins s σ H x y v u Q I rx ry ⟨W, g, dx, dy, d, o, px, py, e, q⟩
  unfold dEq at e
  split at e
  · split at e
    · rename_i hs
      cases e
      obtain ⟨h1, h2⟩ := sc_rp hs px py
      refine op_eq pins s σ H _ _ v u Q I rx ry ⟨h1, ?_⟩
      rw [h2]
      exact q W H _ (Step.refl _ _) o (Rp.bl _)
    · split at e
      · rename_i hs
        simp only [Bool.and_eq_true] at hs
        cases e
        exact op_eqD hu pins s σ H _ _ v u Q I rx ry ⟨_, _, Rp.dp _ _ (Rp.mono o.fro _ _ px), Rp.dp _ _ (Rp.mono o.fro _ _ py), hs.1, hs.2, q W H _ (Step.refl _ _) o (Rp.bl _)⟩
      · cases e
  · cases e
theorem od_ne (hu : X.A.units + 64 < cLine) : OpR X (compareOp .NotEq) (rB X.K fa dNe) := by
  intro pins s σ H x y v u Q I rx ry ⟨W, g, dx, dy, d, o, px, py, e, q⟩
  unfold dNe at e
  split at e
  · split at e
    · rename_i hs
      cases e
      obtain ⟨h1, h2⟩ := sc_rp hs px py
      refine op_ne pins s σ H _ _ v u Q I rx ry ⟨h1, ?_⟩
      rw [h2]
      exact q W H _ (Step.refl _ _) o (Rp.bl _)
    · split at e
      · rename_i hs
        simp only [Bool.and_eq_true] at hs
        cases e
        exact op_neD hu pins s σ H _ _ v u Q I rx ry ⟨_, _, Rp.dp _ _ (Rp.mono o.fro _ _ px), Rp.dp _ _ (Rp.mono o.fro _ _ py), hs.1, hs.2, q W H _ (Step.refl _ _) o (Rp.bl _)⟩
      · cases e
  · cases e
theorem flat_ints {K : PySem.W.Frag} {F : Hp} : ∀ {ds : List PyData} {vs : List V}, RpAll K F vs ds → (ds.all fun z => match z with | .int _ => true | _ => false) = true → ∃ ns : List Int, ds = ns.map PyData.int ∧ vs = ns.map V.int
  | _, _, .nil, _ => ⟨[], rfl, rfl⟩
  | d :: ds, v :: vs, .cons r t, h => by
    simp only [List.all_cons, Bool.and_eq_true] at h
    obtain ⟨ns, h1, h2⟩ := flat_ints t h.2
    have h' := h.1
    split at h'
    · cases r
      exact ⟨_ :: ns, by rw [h1]; rfl, by rw [h2]; rfl⟩
    · cases h'
theorem in_ints (i : Int) : ∀ ns : List Int, inV (.int i) (ns.map V.int) = (ns.map PyData.int).any fun z => PyData.eqv z (.int i)
  | [] => rfl
  | n :: ns => by
    have ih := in_ints i ns
    unfold inV at ih ⊢
    rw [List.map_cons, List.map_cons, List.any_cons, List.any_cons, ih]
    rfl
theorem flat_int (ns : List Int) : (ns.map V.int).all flatV = true := by
  rw [List.all_eq_true]
  intro x hx
  obtain ⟨n, _, rfl⟩ := List.mem_map.mp hx
  rfl
theorem od_in (hu : X.A.units + 65 < cLine) : OpR X (compareOp .In) (rB X.K fa dIn) := by
  intro pins s σ H x y v u Q I rx ry ⟨W, g, dx, dy, d, o, px, py, e, q⟩
  unfold dIn at e
  split at e
  · split at e
    · rename_i hs
      simp only [Bool.and_eq_true] at hs
      cases e
      exact op_inD hu pins s σ H _ _ v u Q I rx ry ⟨_, _, Rp.dp _ _ (Rp.mono o.fro _ _ px), Rp.dp _ _ (Rp.mono o.fro _ _ py), hs.1, hs.2, q W H _ (Step.refl _ _) o (Rp.bl _)⟩
    · cases e
  · split at e
    · rename_i hs
      cases e; cases px
      cases py with
      | tup h1 h2 =>
        obtain ⟨ns, rfl, rfl⟩ := flat_ints h2 hs
        refine op_in_seq pins s σ H _ _ v u Q I rx ry ⟨_, _, rfl, .inr (sqt_mono o.fro h1), rfl, flat_int ns, ?_⟩
        have := q W H _ (Step.refl _ _) o (Rp.bl _)
        rw [← in_ints] at this
        exact this
    · cases e
  · cases e
theorem od_notIn (hu : X.A.units + 65 < cLine) : OpR X (compareOp .NotIn) (rB X.K fa dNotIn) := by
  intro pins s σ H x y v u Q I rx ry ⟨W, g, dx, dy, d, o, px, py, e, q⟩
  unfold dNotIn at e
  split at e
  · split at e
    · rename_i hs
      simp only [Bool.and_eq_true] at hs
      cases e
      exact op_notInD hu pins s σ H _ _ v u Q I rx ry ⟨_, _, Rp.dp _ _ (Rp.mono o.fro _ _ px), Rp.dp _ _ (Rp.mono o.fro _ _ py), hs.1, hs.2, q W H _ (Step.refl _ _) o (Rp.bl _)⟩
    · cases e
  · split at e
    · rename_i hs
      cases e; cases px
      cases py with
      | tup h1 h2 =>
        obtain ⟨ns, rfl, rfl⟩ := flat_ints h2 hs
        refine op_notIn_seq pins s σ H _ _ v u Q I rx ry ⟨_, _, rfl, .inr (sqt_mono o.fro h1), rfl, flat_int ns, ?_⟩
        have := q W H _ (Step.refl _ _) o (Rp.bl _)
        rw [← in_ints] at this
        exact this
    · cases e
  · cases e
theorem non_rp {K : PySem.W.Frag} {F : Hp} {a : PyData} {x : V} (p : Rp K F x a) : decide (x = .non) = isNon a := by
  cases p <;> simp [isNon]
theorem od_isN : OpR X (compareOp .Is) (rB X.K fa dIsN) := by
  intro pins s σ H x y v u Q I rx ry ⟨W, g, dx, dy, d, o, px, py, e, q⟩
  unfold dIsN at e
  split at e
  · cases e; cases py
    refine op_isN pins s σ H _ _ v u Q I rx ry ⟨rfl, ?_⟩
    rw [non_rp px]
    exact q W H _ (Step.refl _ _) o (Rp.bl _)
  · cases e
theorem od_notN : OpR X (compareOp .IsNot) (rB X.K fa dNotN) := by
  intro pins s σ H x y v u Q I rx ry ⟨W, g, dx, dy, d, o, px, py, e, q⟩
  unfold dNotN at e
  split at e
  · rename_i a
    cases e; cases py
    refine op_notN pins s σ H _ _ v u Q I rx ry ⟨rfl, ?_⟩
    rw [non_rp px]
    exact q W H _ (Step.refl _ _) o (Rp.bl _)
  · cases e
theorem atI_rp {K : PySem.W.Frag} {F : Hp} {vs : List V} {ds : List PyData} {i : Int} {d : PyData} (r : RpAll K F vs ds) (h : atI ds i = some d) : ∃ v, atI vs i = some v ∧ Rp K F v d := by
  unfold atI at h ⊢
  rw [r.length]
  cases e : ixN ds.length i with
  | none => rw [e] at h; cases h
  | some j =>
    rw [e] at h
    exact r.get h
theorem od_ix : IxR X (rB X.K fa dIx) := by
  intro va sl pins s σ H x y v u Q I rx ry ⟨W, g, dx, dy, d, o, px, py, e, q⟩ hsub
  unfold dIx at e
  split at e
  · simp only [Option.map_eq_some_iff] at e
    obtain ⟨z, e1, rfl⟩ := e
    cases py
    cases px with
    | lst h1 h2 =>
      obtain ⟨w, h3, h4⟩ := atI_rp h2 e1
      exact ix_list va sl pins s σ H _ _ v u Q I rx ry ⟨_, _, _, _, rfl, rfl, SqL.of (o.fro _ _ h1), h3, q W H _ (Step.refl _ _) o h4⟩ hsub
  · simp only [Option.map_eq_some_iff] at e
    obtain ⟨z, e1, rfl⟩ := e
    cases py
    cases px with
    | tup h1 h2 =>
      obtain ⟨w, h3, h4⟩ := atI_rp h2 e1
      exact ix_tup va sl pins s σ H _ _ v u Q I rx ry ⟨_, _, _, _, rfl, rfl, sqt_mono o.fro h1, h3, q W H _ (Step.refl _ _) o h4⟩ hsub
  · cases e
/-- slices -/
def rS1 (K : PySem.W.Frag) (fa : Nat → Option Addr) (f : Option Int → Option Int → D → Option D) : V → Option Int → Option Int → Hp → VK → Prop := fun x lo hi H Q => ∃ W g dx d, GOk W g H ∧ RpD K fa W dx x ∧ f lo hi dx = some d ∧ ∀ W' H' v, Step W H W' H' → GOk W' g H' → RpD K fa W' d v → Q v H'
theorem od_sl : SlR X (rS1 X.K fa dSl) := by
  intro pins s σ H x v vl vu lo hi sl Q I rx hs pl pu ⟨W, g, dx, d, o, px, e, q⟩
  unfold dSl at e
  split at e
  · cases e
    cases px with
    | lst h1 h2 =>
      refine sl_list pins s σ H _ v vl vu lo hi sl Q I rx hs pl pu ⟨_, _, rfl, SqL.of (o.fro _ _ h1), fun p hp => fin_lst o q ?_ p hp⟩
      unfold cutV cutD
      rw [h2.length]
      exact (h2.drop _).take _
  · cases e
    cases px with
    | tup h1 h2 =>
      refine sl_tupA pins s σ H _ v vl vu lo hi sl Q I rx hs pl pu ⟨_, _, rfl, sqt_mono o.fro h1, fun z => ?_, fun _ p hp => fin_tup o q ?_ p hp⟩
      · refine q W H _ (Step.refl _ _) o ?_
        unfold cutD
        rw [h2.length] at z
        rw [z.1, z.2, List.drop_zero, Nat.sub_zero, List.take_length]
        exact Rp.tup h1 h2
      · unfold cutV cutD
        rw [h2.length]
        exact (h2.drop _).take _
  · cases e
    obtain ⟨a, rfl, h1⟩ := px
    refine sl_list pins s σ H _ v vl vu lo hi sl Q I rx hs pl pu ⟨a, _, rfl, o.fro.seq h1, fun p hp => fin_lst o q ?_ p hp⟩
    unfold cutV cutD
    rw [List.length_map, ← List.map_drop, ← List.map_take]
    exact RpAll.ints
  · cases e
abbrev PD := Sto → G → Option (Option Int × G)
def tPd (K : PySem.W.Frag) (fa : Nat → Option Addr) (f : PD) : TO := fun σ H Q => ∃ W g s d g', SR K fa W g s σ H ∧ f s g = some (d, g') ∧ ∀ W' H', Step W H W' H' → GOk W' g' H' → Q d H'
def pNone : PD := fun _ g => some (none, g)
def dI : D → Option Int
  | .py (.int i) => some i
  | _ => none
def pSome (a : ED) : PD := fun s g => (a s g).bind fun x => (dI x.1).bind fun i => some (some i, x.2)
def eSl (a : ED) (lo hi : PD) : ED := fun s g => (a s g).bind fun x => (lo s x.2).bind fun l => (hi s l.2).bind fun h => (dSl l.1 h.1 x.1).bind fun d => some (d, h.2)
theorem PO.wk {e : Option Expr} {t t' : TO} (h : PO X e t) (k : ∀ σ H Q, t' σ H Q → t σ H Q) : PO X e t' := ⟨fun pins s σ H Q I w => h.run pins s σ H Q I (k σ H Q w)⟩
theorem po_n : PO X none (tPd X.K fa pNone) := PO.wk po_none fun σ H Q h => by
  obtain ⟨W, g, s, d, g', r, e, q⟩ := h
  cases e
  exact q W H (Step.refl _ _) r.gok
theorem dI_rp {K : PySem.W.Frag} {W : Wd} {d : D} {v : V} {i : Int} (e : dI d = some i) (p : RpD K fa W d v) : v = .int i := by
  unfold dI at e
  split at e
  · cases e; cases p; rfl
  · cases e
theorem po_s {a : Expr} {f : ED} (h : EE X fa a f) : PO X (some a) (tPd X.K fa (pSome f)) := PO.wk (po_some h) fun σ H Q h => by
  obtain ⟨W, g, s, d, g', r, e, q⟩ := h
  simp only [pSome, Option.bind_eq_some_iff, Option.some.injEq, Prod.mk.injEq] at e
  obtain ⟨⟨x, g1⟩, e1, i, e2, rfl, rfl⟩ := e
  exact ⟨W, g, s, x, g1, r, e1, fun W1 H1 v s1 o1 p1 => ⟨i, dI_rp e2 p1, q W1 H1 s1 o1⟩⟩
theorem ee_sl {e : Expr} {lo hi : Option Expr} {f : ED} {l h : PD} {p2 pos : Pos} (he : EE X fa e f) (hl : PO X lo (tPd X.K fa l)) (hh : PO X hi (tPd X.K fa h)) : EE X fa (.Subscript e (.Slice lo hi none p2) pos) (eSl f l h) :=
  PE.wk (pe_slice od_sl he hl hh) fun σ H Q h => by
    obtain ⟨W, g, s, d, g', r, e, q⟩ := h
    simp only [eSl, Option.bind_eq_some_iff, Option.some.injEq, Prod.mk.injEq] at e
    obtain ⟨⟨x, g1⟩, e1, ⟨a, g2⟩, e2, ⟨b, g3⟩, e3, z, e4, rfl, rfl⟩ := e
    refine ⟨W, g, s, x, g1, r, e1, fun W1 H1 v s1 o1 p1 => ?_⟩
    refine ⟨W1, g1, s, a, g2, r.step s1 o1, e2, fun W2 H2 s2 o2 => ?_⟩
    refine ⟨W2, g2, s, b, g3, (r.step s1 o1).step s2 o2, e3, fun W3 H3 s3 o3 => ?_⟩
    exact ⟨W3, g3, x, z, o3, (p1.step s2).step s3, e4, fun W4 H4 v4 s4 o4 p4 => q W4 H4 v4 (((s1.trans s2).trans s3).trans s4) o4 p4⟩
end
end DS

namespace DS
open PySem PySem.Spec PyProof.Rows L2

/-! ### sorting, as a plain function -/
section
variable {α : Type} (le : α → α → Bool)
def ins (x : α) : List α → List α
  | [] => [x]
  | y :: r => if le x y = true then x :: y :: r else y :: ins x r
def isort : List α → List α
  | [] => []
  | x :: r => ins le x (isort r)
theorem ins_perm (x : α) : ∀ l : List α, (ins le x l).Perm (x :: l)
  | [] => .refl _
  | y :: r => by
    unfold ins
    split
    · exact .refl _
    · exact ((ins_perm x r).cons y).trans (.swap x y r)
theorem isort_perm : ∀ l : List α, (isort le l).Perm l
  | [] => .refl _
  | x :: r => (ins_perm le x _).trans ((isort_perm r).cons x)
variable {le}
theorem ins_srt (tr : ∀ a b c, le a b = true → le b c = true → le a c = true) (to : ∀ a b, le a b = true ∨ le b a = true) (x : α) : ∀ l : List α, l.Pairwise (fun a b => le a b = true) → (ins le x l).Pairwise (fun a b => le a b = true)
  | [], _ => List.pairwise_singleton _ _
  | y :: r, h => by
    obtain ⟨h1, h2⟩ := List.pairwise_cons.mp h
    unfold ins
    split
    · rename_i e
      refine List.pairwise_cons.mpr ⟨fun z hz => ?_, h⟩
      rcases List.mem_cons.mp hz with rfl | hz
      · exact e
      · exact tr _ _ _ e (h1 z hz)
    · rename_i e
      refine List.pairwise_cons.mpr ⟨fun z hz => ?_, ins_srt tr to x r h2⟩
      rcases List.mem_cons.mp ((ins_perm le x r).mem_iff.mp hz) with rfl | hz
      · exact (to z y).resolve_left e
      · exact h1 z hz
theorem isort_srt (tr : ∀ a b c, le a b = true → le b c = true → le a c = true) (to : ∀ a b, le a b = true ∨ le b a = true) : ∀ l : List α, (isort le l).Pairwise (fun a b => le a b = true)
  | [] => .nil
  | x :: r => ins_srt tr to x _ (isort_srt tr to r)
theorem isort_only (tr : ∀ a b c, le a b = true → le b c = true → le a c = true) (to : ∀ a b, le a b = true ∨ le b a = true) (an : ∀ a b, le a b = true → le b a = true → a = b) {l m : List α} (hp : m.Perm l) (hs : m.Pairwise (fun a b => le a b = true)) : m = isort le l :=
  List.Perm.eq_of_pairwise (fun a b _ _ => an a b) hs (isort_srt tr to l) (hp.trans (isort_perm le l).symm)
end
def leI (a b : Int) : Bool := decide (a ≤ b)
def ltL : List Int → List Int → Bool
  | [], [] => false
  | [], _ :: _ => true
  | _ :: _, [] => false
  | x :: xs, y :: ys => if x = y then ltL xs ys else decide (x < y)
def leL (a b : List Int) : Bool := !ltL b a
theorem ltL_irr : ∀ a : List Int, ltL a a = false
  | [] => rfl
  | x :: xs => by unfold ltL; rw [if_pos rfl]; exact ltL_irr xs
theorem ltL_tri : ∀ a b : List Int, ltL a b = false → ltL b a = false → a = b
  | [], [], _, _ => rfl
  | [], _ :: _, h, _ => by cases h
  | _ :: _, [], _, h => by cases h
  | x :: xs, y :: ys, h1, h2 => by
    unfold ltL at h1 h2
    by_cases e : x = y
    · subst e
      rw [if_pos rfl] at h1 h2
      rw [ltL_tri xs ys h1 h2]
    · rw [if_neg e] at h1
      rw [if_neg (Ne.symm e)] at h2
      have a := of_decide_eq_false h1
      have b := of_decide_eq_false h2
      omega
theorem ltL_asym : ∀ a b : List Int, ltL a b = true → ltL b a = false
  | [], [], h => by cases h
  | [], _ :: _, _ => rfl
  | _ :: _, [], h => by cases h
  | x :: xs, y :: ys, h => by
    unfold ltL at h ⊢
    by_cases e : x = y
    · subst e
      rw [if_pos rfl] at h ⊢
      exact ltL_asym xs ys h
    · rw [if_neg e] at h
      rw [if_neg (Ne.symm e)]
      have a := of_decide_eq_true h
      exact decide_eq_false (by omega)
theorem ltL_trans : ∀ a b c : List Int, ltL a b = true → ltL b c = true → ltL a c = true
  | [], [], _, h, _ => by cases h
  | _ :: _, [], _, h, _ => by cases h
  | [], _ :: _, [], _, h => by cases h
  | [], _ :: _, _ :: _, _, _ => rfl
  | _ :: _, _ :: _, [], _, h => by cases h
  | x :: xs, y :: ys, z :: zs, h1, h2 => by
    unfold ltL at h1 h2 ⊢
    by_cases e : x = y
    · subst e
      rw [if_pos rfl] at h1
      by_cases e2 : x = z
      · subst e2
        rw [if_pos rfl] at h2 ⊢
        exact ltL_trans xs ys zs h1 h2
      · rw [if_neg e2] at h2 ⊢
        exact h2
    · rw [if_neg e] at h1
      have a := of_decide_eq_true h1
      by_cases e2 : y = z
      · subst e2
        rw [if_neg e]
        exact h1
      · rw [if_neg e2] at h2
        have b := of_decide_eq_true h2
        rw [if_neg (by omega)]
        exact decide_eq_true (by omega)
theorem leL_an (a b : List Int) (h1 : leL a b = true) (h2 : leL b a = true) : a = b := by
  unfold leL at h1 h2
  exact ltL_tri a b (by simpa using h2) (by simpa using h1)
theorem leL_to (a b : List Int) : leL a b = true ∨ leL b a = true := by
  unfold leL
  cases e : ltL a b with
  | false => exact .inr rfl
  | true => exact .inl (by rw [ltL_asym a b e]; rfl)
theorem leL_tr (a b c : List Int) (h1 : leL a b = true) (h2 : leL b c = true) : leL a c = true := by
  unfold leL at h1 h2 ⊢
  have h1' : ltL b a = false := by simpa using h1
  have h2' : ltL c b = false := by simpa using h2
  cases e : ltL c a with
  | false => rfl
  | true =>
    cases e2 : ltL a b with
    | true => rw [ltL_trans c a b e e2] at h2'; cases h2'
    | false =>
      have := ltL_tri a b e2 h1'
      subst this
      rw [e] at h2'; cases h2'
theorem leI_an (a b : Int) (h1 : leI a b = true) (h2 : leI b a = true) : a = b := by
  have := of_decide_eq_true h1; have := of_decide_eq_true h2; omega
theorem leI_to (a b : Int) : leI a b = true ∨ leI b a = true := by
  unfold leI; simp only [decide_eq_true_eq]; omega
theorem leI_tr (a b c : Int) (h1 : leI a b = true) (h2 : leI b c = true) : leI a c = true := by
  have := of_decide_eq_true h1; have := of_decide_eq_true h2; exact decide_eq_true (by omega)

/-! ### data that are ints, tuples of ints -/
def intsP : List PyData → Option (List Int)
  | [] => some []
  | .int i :: r => (intsP r).map (i :: ·)
  | _ :: _ => none
def tupP : PyData → Option (List Int)
  | .tuple ds => intsP ds
  | _ => none
def tupsP : List PyData → Option (List (List Int))
  | [] => some []
  | d :: r => (tupP d).bind fun x => (tupsP r).map (x :: ·)
theorem intsP_eq : ∀ {ds : List PyData} {ns : List Int}, intsP ds = some ns → ds = ns.map PyData.int
  | [], _, h => by cases h; rfl
  | .int i :: r, ns, h => by
    simp only [intsP, Option.map_eq_some_iff] at h
    obtain ⟨l, e, rfl⟩ := h
    rw [intsP_eq e]; rfl
  | .none :: _, _, h => by cases h
  | .bool _ :: _, _, h => by cases h
  | .str _ :: _, _, h => by cases h
  | .list _ :: _, _, h => by cases h
  | .tuple _ :: _, _, h => by cases h
  | .dict _ :: _, _, h => by cases h
theorem intsP_map : ∀ ns : List Int, intsP (ns.map PyData.int) = some ns
  | [] => rfl
  | n :: ns => by
    show (intsP (ns.map PyData.int)).map (n :: ·) = _
    rw [intsP_map ns]; rfl
abbrev tI (ns : List Int) : PyData := .tuple (ns.map PyData.int)
theorem tupP_eq {d : PyData} {ns : List Int} (h : tupP d = some ns) : d = tI ns := by
  unfold tupP at h
  split at h
  · rw [intsP_eq h]
  · cases h
theorem tupP_map (ns : List Int) : tupP (tI ns) = some ns := intsP_map ns
theorem tupsP_eq : ∀ {ds : List PyData} {ns : List (List Int)}, tupsP ds = some ns → ds = ns.map tI
  | [], _, h => by cases h; rfl
  | d :: r, ns, h => by
    simp only [tupsP, Option.bind_eq_some_iff, Option.map_eq_some_iff] at h
    obtain ⟨x, e1, l, e2, rfl⟩ := h
    rw [tupsP_eq e2, tupP_eq e1]; rfl
theorem tupsP_map : ∀ ns : List (List Int), tupsP (ns.map tI) = some ns
  | [] => rfl
  | n :: ns => by
    show (tupP (tI n)).bind (fun x => (tupsP (ns.map tI)).map (x :: ·)) = _
    rw [tupP_map, tupsP_map ns]; rfl

/-! ### built-in functions by values -/
def dLen : List D → Option D
  | [.py (.list ds)] => some (.py (.int ds.length))
  | [.py (.tuple ds)] => some (.py (.int ds.length))
  | [.sc ns] => some (.py (.int ns.length))
  | _ => none
def dSum : List D → Option D
  | [.py (.list ds)] => (intsP ds).map fun ns => .py (.int ns.sum)
  | [.py (.tuple ds)] => (intsP ds).map fun ns => .py (.int ns.sum)
  | _ => none
def dInt : List D → Option D
  | [.py (.int i)] => some (.py (.int i))
  | _ => none
def dAbs : List D → Option D
  | [.py (.int i)] => some (.py (.int (if i < 0 then -i else i)))
  | _ => none
def dMax : List D → Option D
  | [.py (.int i), .py (.int j)] => some (.py (.int (if j > i then j else i)))
  | _ => none
def dMin : List D → Option D
  | [.py (.int i), .py (.int j)] => some (.py (.int (if j < i then j else i)))
  | _ => none
def boolsP : List PyData → Option (List Bool)
  | [] => some []
  | .bool i :: r => (boolsP r).map (i :: ·)
  | _ :: _ => none
def dAll : List D → Option D
  | [.py (.list ds)] => (boolsP ds).map fun bs => .py (.bool (bs.all id))
  | _ => none
def dTuple : List D → Option D
  | [.py (.list ds)] => some (.py (.tuple ds))
  | [.py (.tuple ds)] => some (.py (.tuple ds))
  | _ => none
def oList : List D → Option Ob
  | [.py (.list ds)] => some (.lst ds)
  | [.py (.tuple ds)] => some (.lst ds)
  | _ => none
def oSorted : List D → Option Ob
  | [.py (.list ds)] => match intsP ds with
    | some ns => some (.lst ((isort leI ns).map PyData.int))
    | none => match tupsP ds with
      | some nss => if nss.all (fun ns => !ns.isEmpty) || decide (nss.length < 2) then some (.lst ((isort leL nss).map tI)) else none
      | none => none
  | _ => none
def facN : Nat → Nat
  | 0 => 1
  | n + 1 => facN n * (n + 1)
def dFact : List D → Option D
  | [.py (.int i)] => if 0 ≤ i ∧ i ≤ 20000 then some (.py (.int (facN i.toNat : Nat))) else none
  | _ => none
mutual
/-- a bound of repr's length -/
def rsz : PyData → Nat
  | .none => 4
  | .bool _ => 5
  | .int i => i.natAbs.log2 + 3
  | .str x => 10 * x.length + 2
  | .list xs => rszs xs + 3
  | .tuple xs => rszs xs + 3
  | .dict _ => 0
def rszs : List PyData → Nat
  | [] => 0
  | x :: xs => rsz x + 2 + rszs xs
end
mutual
def rok : PyData → Bool
  | .none => true
  | .bool _ => true
  | .int i => decide (i.natAbs.log2 < 1920)
  | .str _ => false
  | .list xs => roks xs
  | .tuple xs => roks xs
  | .dict _ => false
def roks : List PyData → Bool
  | [] => true
  | x :: xs => rok x && roks xs
end
def dRepr : List D → Option D
  | [.py d] => if rok d && decide (rsz d ≤ lim) && decide (d.depth ≤ 64) then some (.py (.str d.shown)) else none
  | _ => none
theorem rds1 {K : PySem.W.Frag} {fa : Nat → Option Addr} {W : Wd} {d : D} {vs : List V} (h : RpDs K fa W [d] vs) : ∃ v, vs = [v] ∧ RpD K fa W d v := by
  cases h with
  | cons r t => cases t; exact ⟨_, rfl, r⟩
theorem rds2 {K : PySem.W.Frag} {fa : Nat → Option Addr} {W : Wd} {d e : D} {vs : List V} (h : RpDs K fa W [d, e] vs) : ∃ v u, vs = [v, u] ∧ RpD K fa W d v ∧ RpD K fa W e u := by
  cases h with
  | cons r t =>
    obtain ⟨u, rfl, q⟩ := rds1 t
    exact ⟨_, _, rfl, r, q⟩
theorem boolsP_eq : ∀ {ds : List PyData} {ns : List Bool}, boolsP ds = some ns → ds = ns.map PyData.bool
  | [], _, h => by cases h; rfl
  | .bool i :: r, ns, h => by
    simp only [boolsP, Option.map_eq_some_iff] at h
    obtain ⟨l, e, rfl⟩ := h
    rw [boolsP_eq e]; rfl
  | .none :: _, _, h => by cases h
  | .int _ :: _, _, h => by cases h
  | .str _ :: _, _, h => by cases h
  | .list _ :: _, _, h => by cases h
  | .tuple _ :: _, _, h => by cases h
  | .dict _ :: _, _, h => by cases h
section
variable {X : Cx} {fa : Nat → Option Addr}
theorem cd_len : CallR X (.builtin "len") (rC X.K fa dLen) := by
  intro pins s σ H xs us Q I r ⟨W, g, ds, d, o, p, e, q⟩
  unfold dLen at e
  split at e
  · cases e
    obtain ⟨v, rfl, pv⟩ := rds1 p
    cases pv with
    | lst h1 h2 =>
      have := q W H (.int _) (Step.refl _ _) o (Rp.int _)
      rw [← h2.length] at this
      exact call_len_seq pins s σ H _ us Q I r ⟨_, _, rfl, .inl (SqL.of (o.fro _ _ h1)), this⟩
  · cases e
    obtain ⟨v, rfl, pv⟩ := rds1 p
    cases pv with
    | tup h1 h2 =>
      have := q W H (.int _) (Step.refl _ _) o (Rp.int _)
      rw [← h2.length] at this
      exact call_len_seq pins s σ H _ us Q I r ⟨_, _, rfl, .inr (sqt_mono o.fro h1), this⟩
  · cases e
    obtain ⟨v, rfl, a, rfl, h1⟩ := rds1 p
    refine call_len_seq pins s σ H _ us Q I r ⟨_, _, rfl, .inl (o.fro.seq h1), ?_⟩
    rw [List.length_map]
    exact q W H (.int _) (Step.refl _ _) o (Rp.int _)
  · cases e
theorem sum_tup {pins : List (Addr × Obj)} {s : Shared} {σ : L2.St} {H : Hp} {Q : VK} {a : Addr} {us : List Value} {ns : List Int} (hc : X.calm = true) (I : Inv X pins σ H s) (r : Vals [.ref a] us) (h : SqT X.K H a (ns.map V.int)) (q : Q (.int ns.sum) H) :
    wpAny (model X.prog X.w) X.A (call (.builtin "sum") us) (EP X pins σ Q) X.xe s := by
  obtain ⟨its, rv, ht, hz⟩ := I.tuple h
  rw [Vals.ref1 r]
  obtain ⟨xs, hx⟩ := rv.ints.allInts.items
  have hn : numsOf (intItems xs).toList = ns := by rw [← hx]; exact rv.ints.numsOf
  rw [nums_intItems] at hn
  have ht' : s.heap.IsTuple a (intItems xs) := by
    obtain ⟨ob, h1, h2, n, h3⟩ := ht
    exact ⟨ob, h1, h2, n, by rw [h3, ← hx]⟩
  refine PySem.W.ktm_sumG (I.ok.hd hc) ht' fun h' tk t' hk => ?_
  rw [preSum_eq, List.take_of_length_le (by simp), hn]
  exact ⟨.int _, H, I.kept hk, ⟨_, rfl⟩, q⟩
theorem cd_sum (hc : X.calm = true) : CallR X (.builtin "sum") (rC X.K fa dSum) := by
  intro pins s σ H xs us Q I r ⟨W, g, ds, d, o, p, e, q⟩
  unfold dSum at e
  split at e
  · simp only [Option.map_eq_some_iff] at e
    obtain ⟨ns, e1, rfl⟩ := e
    obtain ⟨v, rfl, pv⟩ := rds1 p
    cases pv with
    | lst h1 h2 =>
      rw [intsP_eq e1] at h2
      rw [h2.ints_eq] at h1
      exact cr_sum hc pins s σ H _ us Q I r ⟨_, ns, rfl, SqL.of (o.fro _ _ h1), q W H _ (Step.refl _ _) o (Rp.int _)⟩
  · simp only [Option.map_eq_some_iff] at e
    obtain ⟨ns, e1, rfl⟩ := e
    obtain ⟨v, rfl, pv⟩ := rds1 p
    cases pv with
    | tup h1 h2 =>
      rw [intsP_eq e1] at h2
      rw [h2.ints_eq] at h1
      exact sum_tup hc I r (sqt_mono o.fro h1) (q W H _ (Step.refl _ _) o (Rp.int _))
  · cases e
theorem cd_int : CallR X (.type "int") (rC X.K fa dInt) := by
  intro pins s σ H xs us Q I r ⟨W, g, ds, d, o, p, e, q⟩
  unfold dInt at e
  split at e
  · cases e
    obtain ⟨v, rfl, pv⟩ := rds1 p
    cases pv
    exact call_int1 pins s σ H _ us Q I r (.inl ⟨_, rfl, q W H _ (Step.refl _ _) o (Rp.int _)⟩)
  · cases e
theorem cd_abs : CallR X (.builtin "abs") (rC X.K fa dAbs) := by
  intro pins s σ H xs us Q I r ⟨W, g, ds, d, o, p, e, q⟩
  unfold dAbs at e
  split at e
  · cases e
    obtain ⟨v, rfl, pv⟩ := rds1 p
    cases pv
    exact call_abs pins s σ H _ us Q I r ⟨_, rfl, q W H _ (Step.refl _ _) o (Rp.int _)⟩
  · cases e
theorem cd_max (hc : X.calm = true) : CallR X (.builtin "max") (rC X.K fa dMax) := by
  intro pins s σ H xs us Q I r ⟨W, g, ds, d, o, p, e, q⟩
  unfold dMax at e
  split at e
  · cases e
    obtain ⟨v, u, rfl, pv, pu⟩ := rds2 p
    cases pv; cases pu
    exact call_max2 hc pins s σ H _ us Q I r ⟨_, _, rfl, q W H _ (Step.refl _ _) o (Rp.int _)⟩
  · cases e
theorem cd_min (hc : X.calm = true) : CallR X (.builtin "min") (rC X.K fa dMin) := by
  intro pins s σ H xs us Q I r ⟨W, g, ds, d, o, p, e, q⟩
  unfold dMin at e
  split at e
  · cases e
    obtain ⟨v, u, rfl, pv, pu⟩ := rds2 p
    cases pv; cases pu
    exact call_min2 hc pins s σ H _ us Q I r ⟨_, _, rfl, q W H _ (Step.refl _ _) o (Rp.int _)⟩
  · cases e
theorem cd_all (hc : X.calm = true) : CallR X (.builtin "all") (rC X.K fa dAll) := by
  intro pins s σ H xs us Q I r ⟨W, g, ds, d, o, p, e, q⟩
  unfold dAll at e
  split at e
  · simp only [Option.map_eq_some_iff] at e
    obtain ⟨ns, e1, rfl⟩ := e
    obtain ⟨v, rfl, pv⟩ := rds1 p
    cases pv with
    | lst h1 h2 =>
      rw [boolsP_eq e1] at h2
      rw [h2.bools_eq] at h1
      exact cr_all hc pins s σ H _ us Q I r ⟨_, ns, rfl, SqL.of (o.fro _ _ h1), q W H _ (Step.refl _ _) o (Rp.bl _)⟩
  · cases e
theorem cd_tuple : CallR X (.type "tuple") (rC X.K fa dTuple) := by
  intro pins s σ H xs us Q I r ⟨W, g, ds, d, o, p, e, q⟩
  unfold dTuple at e
  split at e
  · cases e
    obtain ⟨v, rfl, pv⟩ := rds1 p
    cases pv with
    | lst h1 h2 => exact call_tuple_of pins s σ H _ us Q I r ⟨_, _, rfl, .inl ⟨SqL.of (o.fro _ _ h1), fun l hl => fin_tup o q h2 l hl⟩⟩
  · cases e
    obtain ⟨v, rfl, pv⟩ := rds1 p
    cases pv with
    | tup h1 h2 => exact call_tuple_of pins s σ H _ us Q I r ⟨_, _, rfl, .inr ⟨sqt_mono o.fro h1, q W H _ (Step.refl _ _) o (Rp.tup h1 h2)⟩⟩
  · cases e
theorem co_list : CallR X (.type "list") (rCO X.K fa oList) := by
  intro pins s σ H xs us Q I r ⟨W, g, ds, d, o, p, e, q⟩
  unfold oList at e
  split at e
  · cases e
    obtain ⟨v, rfl, pv⟩ := rds1 p
    cases pv with
    | lst h1 h2 => exact call_list_of pins s σ H _ us Q I r ⟨_, _, rfl, .inl (SqL.of (o.fro _ _ h1)), fun l hl => fin_own o q h2 l hl⟩
  · cases e
    obtain ⟨v, rfl, pv⟩ := rds1 p
    cases pv with
    | tup h1 h2 => exact call_list_of pins s σ H _ us Q I r ⟨_, _, rfl, .inr (sqt_mono o.fro h1), fun l hl => fin_own o q h2 l hl⟩
  · cases e
theorem facN_eq : ∀ n, Builtin.Math.factorialNat n = facN n
  | 0 => by rfl
  | n + 1 => by rw [PySem.W.mc_fac_succ, facN_eq n]; rfl
theorem cd_fact : CallR X (.builtin "math.factorial") (rC X.K fa dFact) := by
  intro pins s σ H xs us Q I r ⟨W, g, ds, d, o, p, e, q⟩
  unfold dFact at e
  split at e
  · split at e
    · rename_i hl
      cases e
      obtain ⟨v, rfl, pv⟩ := rds1 p
      cases pv
      obtain ⟨u, rfl, t, rfl⟩ := vals1 r
      refine PySem.W.mc_factorial hl.1 hl.2 fun _ => ?_
      rw [facN_eq]
      exact ⟨.int _, H, I.tok _, ⟨_, rfl⟩, q W H _ (Step.refl _ _) o (Rp.int _)⟩
    · cases e
  · cases e
end
end DS

namespace DS
open PySem PySem.Spec PyProof.Rows L2

/-! ### sorted tuples of ints -/
def IsIT (h : Heap) (v : Value) (ns : List Int) : Prop := ∃ (a : Addr) (o : Obj) (xs : Array Value) (n : Nat), v = .ref a ∧ h.get? a = some o ∧ o.cls = .type "tuple" ∧ o.data = .seq xs n ∧ IntsAre xs.toList ns
theorem IsIT.keeps {h h' : Heap} {v : Value} {ns : List Int} (p : IsIT h v ns) (k : ∀ b o, h.get? b = some o → o.cls = .type "tuple" → h'.get? b = some o) : IsIT h' v ns := by
  obtain ⟨a, o, xs, n, e, ho, hc, hd⟩ := p
  exact ⟨a, o, xs, n, e, k _ _ ho hc, hc, hd⟩
/-- the ints of the tuple that v stands for -/
def tkey (h : Heap) (v : Value) : List Int := match v with
  | .ref a => match h.get? a with
    | some o => match o.data with
      | .seq xs _ => xs.toList.map SrtO.iv
      | _ => []
    | none => []
  | _ => []
theorem IsIT.key {h : Heap} {v : Value} {ns : List Int} (p : IsIT h v ns) : tkey h v = ns := by
  obtain ⟨a, o, xs, n, e, ho, hc, hd, hi⟩ := p
  subst e
  unfold tkey
  simp only [ho, hd]
  exact SrtO.iv_ints hi
section
variable {prog : Program} {w : World} {A : Around} {E : Value → Shared → Prop} {s : Shared} {Q : Bool → Shared → Prop}
theorem lex_any {b fin : Bool} : ∀ {xs ys : List Value} {ns ms : List Int} (i : Nat), IntsAre xs ns → IntsAre ys ms → fin = decide (xs.length < ys.length) → Q (ltL ns ms) s → PySem.W.KatLex prog w A b fin Q (xs.zip ys) i s
  | _, _, _, _, i, .nil, .nil, e, h => PySem.W.kat_nil (by rw [e]; exact h)
  | _, _, _, _, i, .nil, .cons _ _ _, e, h => PySem.W.kat_nil (by rw [e]; exact h)
  | _, _, _, _, i, .cons _ _ _, .nil, e, h => PySem.W.kat_nil (by rw [e]; exact h)
  | _, _, _, _, i, .cons x t r, .cons y u q, e, h => by
    refine PySem.W.kat_cons (SeqAt.EqAt.int_int x t y u prog w _ _ ?_)
    refine PySem.W.kat_go (fun e1 => ?_) (fun e1 => ?_)
    · have ex : x = y := by simpa using e1
      refine PySem.W.kat_yes (lex_any (i + 1) r q (by rw [e, List.length_cons, List.length_cons]; simp) ?_)
      unfold ltL at h
      rw [if_pos ex] at h
      exact h
    · have ex : ¬ x = y := by simpa using e1
      refine PySem.W.kat_no (TS.oneLt_ints _ ?_)
      unfold ltL at h
      rw [if_neg ex] at h
      exact h
theorem swo_tk (h : Heap) : SrtO.Swo fun v u => ltL (tkey h v) (tkey h u) := by
  refine ⟨fun x y e => ltL_asym _ _ e, fun x y z h1 h2 => ?_⟩
  have q := leL_tr (tkey h x) (tkey h y) (tkey h z) (by unfold leL; rw [h1]; rfl) (by unfold leL; rw [h2]; rfl)
  unfold leL at q
  simpa using q
theorem tk_cmp {h0 : Heap} {vs : List Value} (hp : ∀ v ∈ vs, IsIT s.heap v (tkey h0 v)) : SrtO.Cmp prog w A s (tuples' true) (fun p => p.1 ∈ vs) (SrtO.lt2 fun v u => ltL (tkey h0 v) (tkey h0 u)) := by
  intro p q hm hm'
  have h1 := hp _ hm
  have h2 := hp _ hm'
  show wpAny (model prog w) A (keyLt' (tuples' true) p.1 q.1) (fun r s' => s' = s ∧ r = ltL (tkey h0 p.1) (tkey h0 q.1)) (fun _ _ => False) s
  generalize tkey h0 p.1 = x at h1 ⊢
  generalize tkey h0 q.1 = y at h2 ⊢
  obtain ⟨a, o, xs, n, e, ho, hc, hd, hi⟩ := h1
  obtain ⟨a', o', xs', n', e', ho', hc', hd', hi'⟩ := h2
  rw [e, e']
  refine PySem.W.kat_lt ho hd ho' hd' ?_
  exact lex_any 0 hi hi' (by simp) ⟨rfl, rfl⟩
theorem tk_firsts {h : Heap} : ∀ {vs : List Value}, (∀ v ∈ vs, ∃ ns, IsIT h v ns ∧ ns ≠ []) → ∃ fs : List Value, PySem.W.KatTups h vs fs ∧ fs.length = vs.length ∧ ∀ f ∈ fs, ∃ x t, f = Value.int x t
  | [], _ => ⟨[], PySem.W.KatTups.nil, rfl, fun _ hm => by simp at hm⟩
  | v :: vs, hp => by
    obtain ⟨fs, h1, h2, h3⟩ := tk_firsts (vs := vs) fun v' hm => hp v' (List.mem_cons_of_mem _ hm)
    obtain ⟨ns, ⟨a, o, xs, n, e, ho, hc, hd, hi⟩, hne⟩ := hp v List.mem_cons_self
    subst e
    obtain ⟨x, t, hx⟩ : ∃ x t, xs[0]? = some (Value.int x t) := by
      rw [← Array.getElem?_toList]
      generalize xs.toList = l at hi
      cases hi with
      | nil => exact absurd rfl hne
      | cons x t r => exact ⟨x, t, rfl⟩
    refine ⟨.int x t :: fs, PySem.W.KatTups.cons ho hc hd hx h1, by rw [List.length_cons, List.length_cons, h2], fun f hm => ?_⟩
    rcases List.mem_cons.mp hm with rfl | hm
    · exact ⟨x, t, rfl⟩
    · exact h3 f hm
theorem tk_sortable {a : Addr} {h0 : Heap} {vs : List Value} (hz : 0 < vs.length) (hp : ∀ v ∈ vs, IsIT s.heap v (tkey h0 v) ∧ tkey h0 v ≠ []) (ha : ∀ o, s.heap.get? a = some o → o.cls ≠ .type "tuple") : SrtO.SortableO prog w A s a vs fun v u => ltL (tkey h0 v) (tkey h0 u) := by
  intro h' keep
  have hp' : ∀ v ∈ vs, IsIT h' v (tkey h0 v) := fun v hm => (hp v hm).1.keeps fun b o e c => keep b o (fun z => by subst z; exact ha o e c) e
  obtain ⟨fs, h1, h2, h3⟩ := tk_firsts fun v hm => ⟨_, hp' v hm, (hp v hm).2⟩
  refine ⟨tuples' true, fun Q E hq => ?_, tk_cmp hp'⟩
  refine PySem.W.kat_kind (T := .type "int") h1 (by omega) (fun f hm => ?_) (by rfl) ?_
  · obtain ⟨x, t, rfl⟩ := h3 f hm
    exact PySem.W.Looks.now
  · have e : (Value.type "int" != Value.type "tuple") = true := by first | decide +kernel | rfl | decide
    rw [e]
    exact hq
end
section
variable {X : Cx} {fa : Nat → Option Addr}
/-- the Value of a tracked tuple of ints -/
theorem it_of {pins : List (Addr × Obj)} {s : Shared} {σ : L2.St} {H : Hp} {x : V} {u : Value} {ns : List Int} {F : Hp} (I : Inv X pins σ H s) (hF : Same F H) (r : RelV x u) (p : Rp X.K F x (tI ns)) : IsIT s.heap u ns := by
  cases p with
  | tup h1 h2 =>
    rw [h2.ints_eq] at h1
    cases r
    obtain ⟨its, rv, ⟨o, ho, hc, n, hd⟩, _⟩ := I.tuple (sqt_mono hF h1)
    exact ⟨_, o, its.toArray, n, rfl, ho, hc, hd, rv.ints⟩
theorem it_all {pins : List (Addr × Obj)} {s : Shared} {σ : L2.St} {H : Hp} {F : Hp} (I : Inv X pins σ H s) (hF : Same F H) : ∀ {xs : List V} {us : List Value} {nss : List (List Int)}, Vals xs us → RpAll X.K F xs (nss.map tI) →
    us.map (tkey s.heap) = nss ∧ (∀ u ∈ us, IsIT s.heap u (tkey s.heap u) ∧ tkey s.heap u ∈ nss ∧ Rp X.K F (backV u) (tI (tkey s.heap u))) ∧ xs = us.map backV ∧ ∀ u ∈ us, ∃ a, u = Value.ref a
  | _, _, [], .nil, _ => ⟨rfl, fun u h => absurd h (by simp), rfl, fun u h => absurd h (by simp)⟩
  | _, _, ns :: nss, .nil, h => by cases h
  | _, _, [], .cons r t, h => by cases h
  | x :: xs, u :: us, ns :: nss, .cons r t, h => by
    cases h with
    | cons p q =>
      have k := it_of I hF r p
      obtain ⟨h1, h2, h3, h4⟩ := it_all I hF t q
      have ku : tkey s.heap u = ns := k.key
      have kb : x = backV u := by
        cases p with
        | tup _ _ => cases r; rfl
      refine ⟨by rw [List.map_cons, h1, ku], fun v hv => ?_, by rw [List.map_cons, ← h3, ← kb], fun v hv => ?_⟩
      · rcases List.mem_cons.mp hv with e | hv
        · subst e
          rw [ku, ← kb]
          exact ⟨k, List.mem_cons_self, p⟩
        · obtain ⟨a, b, c⟩ := h2 v hv
          exact ⟨a, List.mem_cons_of_mem _ b, c⟩
      · rcases List.mem_cons.mp hv with e | hv
        · subst e
          cases p with
          | tup _ _ => cases r; exact ⟨_, rfl⟩
        · exact h4 v hv
theorem rp_map {K : PySem.W.Frag} {F : Hp} {f : Value → List Int} : ∀ {us : List Value}, (∀ u ∈ us, Rp K F (backV u) (tI (f u))) → RpAll K F (us.map backV) ((us.map f).map tI)
  | [], _ => .nil
  | u :: us, h => .cons (h u List.mem_cons_self) (rp_map fun v hv => h v (List.mem_cons_of_mem _ hv))
theorem co_sorted : CallR X (.builtin "sorted") (rCO X.K fa oSorted) := by
  intro pins s σ H xs us Q I r ⟨W, g, ds, d, o, p, e, q⟩
  unfold oSorted at e
  split at e
  · obtain ⟨v, rfl, pv⟩ := rds1 p
    cases pv with
    | lst h1 h2 =>
      split at e
      · rename_i ns hns
        cases e
        rw [intsP_eq hns] at h2
        rw [h2.ints_eq] at h1
        refine cr_sortedI pins s σ H _ us Q I r ⟨_, ns, rfl, SqL.of (o.fro _ _ h1), fun ns' l hp hs hl => ?_⟩
        have hs' : ns'.Pairwise (fun a b => leI a b = true) := hs.imp fun h => decide_eq_true h
        rw [isort_only leI_tr leI_to leI_an hp hs']
        exact fin_own o q RpAll.ints l hl
      · split at e
        · rename_i nss hn
          split at e
          · rename_i hc
            cases e
            rw [tupsP_eq hn] at h2
            obtain ⟨its, rv, hl, hz⟩ := I.list (SqL.of (o.fro _ _ h1))
            rw [Vals.ref1 r]
            obtain ⟨k1, k2, k3, k4⟩ := it_all I o.fro rv h2
            refine SrtO.sorted_ord (swo_tk s.heap) hl.isList (by rw [← rv.length]; exact hz) (fun hlen h₁ a ha kk => ?_) fun out hs hb => ?_
            · have ne : ∀ u ∈ its, tkey s.heap u ≠ [] := fun u hu => by
                simp only [Bool.or_eq_true, decide_eq_true_eq] at hc
                rcases hc with hc | hc
                · have := List.all_eq_true.mp hc _ (k2 u hu).2.1
                  intro z
                  rw [z] at this
                  cases this
                · rw [← k1, List.length_map] at hc
                  omega
              refine tk_sortable (s := { s with heap := h₁ }) (by omega) (fun u hu => ⟨(k2 u hu).1.keeps fun b ob e _ => (kk b ob e).2, ne u hu⟩) fun ob e => ?_
              have e' : some ob = some (seqObj "list" its.toArray 0) := e.symm.trans ha
              cases e'
              intro c
              exact absurd (Value.type.inj c) (by decide)
            · have mem : ∀ u ∈ out, u ∈ its := fun u hu => hb.perm.mem_iff.mp hu
              have h4 : ∀ u ∈ out, ∃ a, u = Value.ref a := fun u hu => k4 u (mem u hu)
              have hp2 : (out.map (tkey s.heap)).Perm nss := by
                rw [← k1]
                exact hb.perm.map _
              have hs2 : (out.map (tkey s.heap)).Pairwise (fun a b => leL a b = true) := List.pairwise_map.mpr (hs.imp fun {x y} h => by
                have h' : ltL (tkey s.heap y) (tkey s.heap x) = false := h
                unfold leL; rw [h']; rfl)
              have e2 := isort_only leL_tr leL_to leL_an hp2 hs2
              obtain ⟨ep, he'⟩ := sortedAll_at s.heap its out.toArray
              have hlen : (out.map backV).length ≤ sizeLine := by
                rw [List.length_map, hb.perm.length_eq, ← rv.length]
                exact hz
              have rp : RpAll X.K W.F (out.map backV) ((isort leL nss).map tI) := by
                rw [← e2]
                exact rp_map fun u hu => (k2 u (mem u hu)).2.2
              exact ⟨.ref _, upd H (s.heap.objs.size + 1) (.lst (out.map backV)), I.laid (t' := s.toks) (fun _ _ => sortedAll_old) (Nat.le_succ _) ⟨hlen, out, ep, vals_back h4, he'⟩, rfl, fin_own o q rp _ (I.hok.fresh (Nat.le_succ _))⟩
          · cases e
        · cases e
  · cases e
end
end DS

namespace DS
open PySem PySem.Spec PyProof.Rows L2

/-! ### repr -/
theorem list_le (ts : List Str) : (listText ts).length ≤ piled ts + 2 := by
  cases ts with
  | nil =>
    show ((("[" : String) : Str) ++ (("]" : String) : Str)).length ≤ _
    rw [strLen_append]
    show 1 + 1 ≤ _
    omega
  | cons t r =>
    have h := textFrom_length_pos r 1 (("[" : Str) ++ (if (0 : Nat) > 0 then ", " else "" : String) ++ t) (Nat.succ_pos 0)
    have e : ((("[" : Str) ++ (if (0 : Nat) > 0 then ", " else "" : String) ++ t)).length = 1 + t.length := by
      rw [strLen_append, strLen_append]
      rfl
    show (textFrom 1 (("[" : Str) ++ (if (0 : Nat) > 0 then ", " else "" : String) ++ t) r ++ (("]" : String) : Str)).length ≤ _
    rw [strLen_append, h, e, piled_cons]
    show 1 + t.length + piled r + 1 ≤ _
    omega
theorem tup_le (ts : List Str) : (tupleText ts).length ≤ piled ts + 3 := by
  unfold tupleText
  rw [strLen_append, strLen_append]
  have e3 : (((if ts.length == 1 then ",)" else ")" : String) : Str)).length ≤ 2 := by split <;> decide
  have e1 : ((("(" : String) : Str)).length = 1 := rfl
  by_cases h : ts = []
  · subst h
    have e4 : (Str.join ", " []).length = 0 := rfl
    omega
  · have := join_length_add ts h
    omega
mutual
theorem shown_le : ∀ d : PyData, rok d = true → d.shown.length ≤ rsz d
  | .none, _ => by show ((("None" : String)) : Str).length ≤ 4; decide
  | .bool b, _ => by cases b <;> (show ((_ : String) : Str).length ≤ 5; decide)
  | .int i, h => by
    show (Str.ofString (toString i)).length ≤ i.natAbs.log2 + 3
    rw [PySem.ofString_length]
    have := int_text_length_le (a := i) (k := i.natAbs.log2 + 1) (Nat.succ_pos _) (Nat.lt_succ_self _)
    omega
  | .str x, h => by cases h
  | .list xs, h => by
    have q := shownAll_le xs (by simpa [rok] using h)
    have := list_le (PyData.shownAll xs)
    simp only [PyData.shown, rsz]
    omega
  | .tuple xs, h => by
    have q := shownAll_le xs (by simpa [rok] using h)
    have := tup_le (PyData.shownAll xs)
    simp only [PyData.shown, rsz]
    omega
  | .dict _, h => by cases h
theorem shownAll_le : ∀ ds : List PyData, roks ds = true → piled (PyData.shownAll ds) ≤ rszs ds
  | [], _ => Nat.le_refl _
  | d :: ds, h => by
    simp only [roks, Bool.and_eq_true] at h
    have h1 := shown_le d h.1
    have h2 := shownAll_le ds h.2
    simp only [PyData.shownAll, rszs, piled_cons]
    omega
end
mutual
theorem rok_show : ∀ d : PyData, rok d = true → d.showable = true ∧ d.hasDict = false
  | .none, _ => ⟨rfl, rfl⟩
  | .bool b, _ => ⟨rfl, rfl⟩
  | .int i, h => ⟨by simpa [rok, PyData.showable] using h, rfl⟩
  | .str x, h => by cases h
  | .list xs, h => by
    have q := roks_show xs (by simpa [rok] using h)
    simpa [PyData.showable, PyData.hasDict] using q
  | .tuple xs, h => by
    have q := roks_show xs (by simpa [rok] using h)
    simpa [PyData.showable, PyData.hasDict] using q
  | .dict _, h => by cases h
theorem roks_show : ∀ ds : List PyData, roks ds = true → PyData.showableAll ds = true ∧ PyData.hasDictAll ds = false
  | [], _ => ⟨rfl, rfl⟩
  | d :: ds, h => by
    simp only [roks, Bool.and_eq_true] at h
    have h1 := rok_show d h.1
    have h2 := roks_show ds h.2
    simp only [PyData.showableAll, PyData.hasDictAll, h1.1, h1.2, h2.1, h2.2]
    exact ⟨rfl, rfl⟩
end
section
variable {X : Cx} {fa : Nat → Option Addr}
theorem cd_repr (hg : X.A.guards = some []) (hu : X.A.units + 100 < cLine) : CallR X (.builtin "repr") (rC X.K fa dRepr) := by
  intro pins s σ H xs us Q I r ⟨W, g, ds, d, o, p, e, q⟩
  unfold dRepr at e
  split at e
  · split at e
    · rename_i dd hc
      simp only [Bool.and_eq_true, decide_eq_true_eq] at hc
      obtain ⟨⟨h1, h2⟩, h3⟩ := hc
      cases e
      obtain ⟨v, rfl, pv⟩ := rds1 p
      have hs := rok_show dd h1
      have hl : dd.shown.length ≤ sizeLine := Nat.le_trans (shown_le dd h1) (lim_ok h2)
      have ref : ∀ a : Addr, v = .ref a → wpAny (model X.prog X.w) X.A (call (.builtin "repr") us) (EP X pins σ Q) X.xe s := fun a ea => by
        subst ea
        rw [Vals.ref1 r]
        obtain ⟨as, rd⟩ := Dp.reads I dd (.ref a) (.ref a) (Rp.dp _ _ (Rp.mono o.fro _ _ pv)) rfl
        refine repr_of_reads' rd hs.1 (fun z => by rw [hs.2] at z; cases z) hg (by omega) (fun _ _ z => z) (fun h' u tk hk => ?_) hl
        exact ⟨.str _, H, I.kept hk, ⟨_, rfl⟩, q W H _ (Step.refl _ _) o (Rp.str _)⟩
      cases pv with
      | non =>
        obtain ⟨u, rfl, ru⟩ := vals1 r
        cases ru
        exact PySem.P.repr_of_none ⟨.str _, H, I.tok _, ⟨_, rfl⟩, q W H _ (Step.refl _ _) o (Rp.str _)⟩
      | bl b =>
        obtain ⟨u, rfl, ru⟩ := vals1 r
        cases ru
        refine PySem.P.repr_of_bool ⟨.str _, H, I.tok _, ⟨_, rfl⟩, q W H _ (Step.refl _ _) o ?_⟩
        show Rp X.K W.F _ (.str (PyData.shown (.bool b)))
        simp only [PyData.shown]
        exact Rp.str _
      | int i =>
        obtain ⟨u, rfl, t, rfl⟩ := vals1 r
        have hz : i.natAbs.log2 < 1920 := by simpa [rok] using h1
        exact PySem.P.repr_of_int hz ⟨.str _, H, I.tok _, ⟨_, rfl⟩, q W H _ (Step.refl _ _) o (Rp.str _)⟩
      | str x => cases h1
      | lst h4 h5 => exact ref _ rfl
      | tup h4 h5 => exact ref _ rfl
    · cases e
  · cases e
end
end DS

namespace DS
open PySem PySem.Spec PyProof.Rows L2

/-! ### statements -/
section
variable (K : PySem.W.Frag) (fa : Nat → Option Addr)
/-- the state within a def that was entered at W0, H0 -/
structure SB (W0 : Wd) (H0 : Hp) (W : Wd) (g : G) (s : Sto) (σ : L2.St) (H : Hp) : Prop where
  sr : SR K fa W g s σ H
  st : Step W0 H0 W H
  nw : ∀ (i : Nat) (o : Ob) (a : Addr), s[i]? = some (Slot.own o) → σ[i]? = some (some (V.ref a)) → H0 a = none
def PostS (W0 : Wd) (H0 : Hp) (g' : G) (D : Ends) : Out → Prop
  | .nx s' => ∀ W' σ' H', SB K fa W0 H0 W' g' s' σ' H' → D.nx σ' H'
  | .bk s' => ∀ W' σ' H', SB K fa W0 H0 W' g' s' σ' H' → D.bk σ' H'
  | .ct s' => ∀ W' σ' H', SB K fa W0 H0 W' g' s' σ' H' → D.ct σ' H'
  | .rt d => ∀ W' H' v, Step W0 H0 W' H' → GOk W' g' H' → RpD K fa W' d v → D.rt v H'
def tS (f : SD) : TS := fun D σ H => ∃ W0 H0 W g s o g', SB K fa W0 H0 W g s σ H ∧ f s g = some (o, g') ∧ PostS K fa W0 H0 g' D o
/-- an expression that goes into a slot: a value, or a new object -/
abbrev MD := Sto → G → Option (Slot × G)
def tM (f : MD) : TE := fun σ H Q => ∃ W g s x g', SR K fa W g s σ H ∧ f s g = some (x, g') ∧ ∀ W' H' v, Step W H W' H' → GOk W' g' H' → SlotOk K fa W' H' (some (some v)) x → (∀ a, (∃ o, x = .own o) → v = .ref a → H a = none) → Q v H'
end
def mV (f : ED) : MD := fun s g => (f s g).bind fun x => some (.v x.1, x.2)
def mO (f : OD) : MD := fun s g => (f s g).bind fun x => some (.own x.1, x.2)
section
variable {K : PySem.W.Frag} {fa : Nat → Option Addr} {W0 W W1 W' : Wd} {H0 H H1 H' : Hp} {g g1 g' : G} {s : Sto} {σ : L2.St}
theorem SB.step (b : SB K fa W0 H0 W g s σ H) (a : Step W H W1 H1) (q : GOk W1 g1 H1) : SB K fa W0 H0 W1 g1 s σ H1 := ⟨b.sr.step a q, b.st.trans a, b.nw⟩
theorem SlotOk.val {x : Option (Option V)} {o : Ob} (h : SlotOk K fa W H x (.own o)) : ∃ a, x = some (some (.ref a)) ∧ W.F a = none ∧ a ∉ W.ms ∧ ObAt K W.F H a o := h
/-- a slot stored -/
theorem SB.put (b : SB K fa W0 H0 W g s σ H) {i : Nat} {v : V} {x : Slot} (h : SlotOk K fa W H (some (some v)) x)
    (hf : ∀ a, (∃ o, x = .own o) → v = .ref a → H0 a = none ∧ ∀ (j : Nat) (o' : Ob), s[j]? = some (Slot.own o') → σ[j]? ≠ some (some (V.ref a))) : SB K fa W0 H0 W g (s.set i x) (σ.set i (some v)) H := by
  have hl : s.length = σ.length := b.sr.len
  have look : ∀ (j : Nat) (y : Slot), (s.set i x)[j]? = some y → (j = i ∧ i < s.length ∧ y = x ∧ (σ.set i (some v))[j]? = some (some v)) ∨ (j ≠ i ∧ s[j]? = some y ∧ (σ.set i (some v))[j]? = σ[j]?) := fun j y e => by
    by_cases q : j = i
    · subst q
      have hlt : j < s.length := by
        have := (List.getElem?_eq_some_iff.mp e).1
        rwa [List.length_set] at this
      rw [List.getElem?_set_self hlt] at e
      cases e
      exact .inl ⟨rfl, hlt, rfl, List.getElem?_set_self (by rw [← hl]; exact hlt)⟩
    · rw [List.getElem?_set_ne (Ne.symm q)] at e
      exact .inr ⟨q, e, List.getElem?_set_ne (Ne.symm q)⟩
  refine ⟨⟨b.sr.gok, fun j y e => ?_, fun j k o o' a e1 e2 e3 e4 => ?_, by rw [List.length_set, List.length_set]; exact hl⟩, b.st, fun j o a e1 e2 => ?_⟩
  · rcases look j y e with ⟨rfl, _, rfl, e'⟩ | ⟨_, e', e''⟩
    · rw [e']; exact h
    · rw [e'']; exact b.sr.sl j y e'
  · rcases look j _ e1 with ⟨q1, _, x1, v1⟩ | ⟨q1, x1, v1⟩ <;> rcases look k _ e2 with ⟨q2, _, x2, v2⟩ | ⟨q2, x2, v2⟩
    · exact q1.trans q2.symm
    · rw [v1] at e3
      cases e3
      rw [v2] at e4
      exact absurd e4 ((hf a ⟨o, x1.symm⟩ rfl).2 k o' x2)
    · rw [v2] at e4
      cases e4
      rw [v1] at e3
      exact absurd e3 ((hf a ⟨o', x2.symm⟩ rfl).2 j o x1)
    · rw [v1] at e3
      rw [v2] at e4
      exact b.sr.inj j k o o' a x1 x2 e3 e4
  · rcases look j _ e1 with ⟨q1, _, x1, v1⟩ | ⟨q1, x1, v1⟩
    · rw [v1] at e2
      cases e2
      exact (hf a ⟨o, x1.symm⟩ rfl).1
    · rw [v1] at e2
      exact b.nw j o a x1 e2
theorem SB.putV (b : SB K fa W0 H0 W g s σ H) {i : Nat} {v : V} {d : D} (h : RpD K fa W d v) : SB K fa W0 H0 W g (s.set i (.v d)) (σ.set i (some v)) H :=
  b.put ⟨v, rfl, h⟩ fun a e => by obtain ⟨o, e⟩ := e; cases e
/-- what was made behind b, into a slot -/
theorem SB.putN (b : SB K fa W0 H0 W g s σ H) (a : Step W H W1 H1) (q : GOk W1 g1 H1) {i : Nat} {v : V} {x : Slot} (h : SlotOk K fa W1 H1 (some (some v)) x) (hf : ∀ a, (∃ o, x = .own o) → v = .ref a → H a = none) :
    SB K fa W0 H0 W1 g1 (s.set i x) (σ.set i (some v)) H1 :=
  (b.step a q).put h fun c e1 e2 => ⟨b.st.th _ (hf c e1 e2), fun j o' e3 e4 => by
    obtain ⟨d, h1, h2, h3, h4⟩ := b.sr.sl j _ e3
    rw [e4] at h1
    cases h1
    obtain ⟨u, hu⟩ := h4.some
    rw [hf c e1 e2] at hu
    cases hu⟩
/-- the object of a slot changes -/
theorem SB.mut (b : SB K fa W0 H0 W g s σ H) {i : Nat} {o o' : Ob} {a : Addr} {u : HO} (h1 : s[i]? = some (.own o)) (h2 : σ[i]? = some (some (.ref a))) (h : ObAt K W.F (upd H a u) a o') : SB K fa W0 H0 W g (s.set i (.own o')) σ (upd H a u) := by
  obtain ⟨c, e1, e2, e3, e4⟩ := b.sr.sl i _ h1
  rw [h2] at e1
  cases e1
  have h0 := b.nw i o a h1 h2
  have hi : i < s.length := (List.getElem?_eq_some_iff.mp h1).1
  have look : ∀ (j : Nat) (y : Slot), (s.set i (.own o'))[j]? = some y → (j = i ∧ y = .own o') ∨ (j ≠ i ∧ s[j]? = some y) := fun j y e => by
    by_cases q : j = i
    · subst q
      rw [List.getElem?_set_self hi] at e
      cases e
      exact .inl ⟨rfl, rfl⟩
    · rw [List.getElem?_set_ne (Ne.symm q)] at e
      exact .inr ⟨q, e⟩
  have go := b.sr.gok
  refine ⟨⟨⟨fun c x q => ?_, go.len, go.nd, fun j c m q1 q2 => ?_⟩, fun j y e => ?_, fun j k p p' c q1 q2 q3 q4 => ?_, by rw [List.length_set]; exact b.sr.len⟩, ⟨b.st.f, b.st.ms, fun c x q1 q2 q3 => ?_, fun c q => ?_⟩, fun j p c q1 q2 => ?_⟩
  · rw [upd_ne (ne_of_none q e2)]
    exact go.fro c x q
  · have h3 := go.at' j c m q1 q2
    have nc : c ≠ a := fun z => by subst z; exact e3 (List.mem_of_getElem? q1)
    exact h3.mono (Same.refl _) (fun x q => by rw [upd_ne nc]; exact q) h3.1
  · rcases look j y e with ⟨rfl, rfl⟩ | ⟨q, e'⟩
    · exact ⟨a, h2, e2, e3, h⟩
    · have ok := b.sr.sl j y e'
      cases y with
      | un => trivial
      | v d => exact ok
      | own p =>
        obtain ⟨c, k1, k2, k3, k4⟩ := ok
        have nc : c ≠ a := fun z => by
          subst z
          exact q (b.sr.inj j i p o c e' h1 k1 h2)
        exact ⟨c, k1, k2, k3, k4.step (Same.refl _) fun x z => by rw [upd_ne nc]; exact z⟩
  · rcases look j _ q1 with ⟨rfl, _⟩ | ⟨n1, q1'⟩ <;> rcases look k _ q2 with ⟨rfl, _⟩ | ⟨n2, q2'⟩
    · rfl
    · exact b.sr.inj _ _ _ _ c h1 q2' q3 q4
    · exact b.sr.inj _ _ _ _ c q1' h1 q3 q4
    · exact b.sr.inj _ _ _ _ c q1' q2' q3 q4
  · obtain ⟨k1, k2, k3⟩ := b.st.own c x q1 q2 q3
    have nc : c ≠ a := fun z => by subst z; rw [h0] at q1; cases q1
    exact ⟨k1, k2, by rw [upd_ne nc]; exact k3⟩
  · by_cases z : c = a
    · subst z; exact h0
    · rw [upd_ne z] at q
      exact b.st.th c q
  · rcases look j _ q1 with ⟨rfl, _⟩ | ⟨_, q1'⟩
    · rw [h2] at q2
      cases q2
      exact h0
    · exact b.nw j p c q1' q2
/-- an own object is told for good -/
def obD : Ob → D
  | .lst xs => .py (.list xs)
  | .dct kvs => .dc kvs
def frz (i : Nat) (s : Sto) : Sto := match s[i]? with
  | some (.own o) => s.set i (.v (obD o))
  | _ => s
theorem SB.frz (b : SB K fa W0 H0 W g s σ H) (i : Nat) : ∃ W', SB K fa W0 H0 W' g (frz i s) σ H := by
  unfold DS.frz
  split
  · rename_i o h1
    obtain ⟨a, h2, e2, e3, e4⟩ := b.sr.sl i _ h1
    have h0 := b.nw i o a h1 h2
    have hi : i < s.length := (List.getElem?_eq_some_iff.mp h1).1
    obtain ⟨u, hu⟩ := e4.some
    have go := b.sr.gok
    have look : ∀ (j : Nat) (y : Slot), (s.set i (.v (obD o)))[j]? = some y → (j = i ∧ y = .v (obD o)) ∨ (j ≠ i ∧ s[j]? = some y) := fun j y e => by
      by_cases q : j = i
      · subst q
        rw [List.getElem?_set_self hi] at e
        cases e
        exact .inl ⟨rfl, rfl⟩
      · rw [List.getElem?_set_ne (Ne.symm q)] at e
        exact .inr ⟨q, e⟩
    have fo : ∀ (j : Nat) (p : Ob), (s.set i (.v (obD o)))[j]? = some (.own p) → j ≠ i ∧ s[j]? = some (.own p) := fun j p e => by
      rcases look j _ e with ⟨_, z⟩ | z
      · cases z
      · exact z
    have sm : Same W.F (upd W.F a u) := same_new e2
    refine ⟨⟨upd W.F a u, W.ms⟩, ⟨⟨fun c x q => ?_, go.len, go.nd, fun j c m q1 q2 => ?_⟩, fun j y e => ?_, fun j k p p' c q1 q2 q3 q4 => b.sr.inj _ _ _ _ c (fo j p q1).2 (fo k p' q2).2 q3 q4, by rw [List.length_set]; exact b.sr.len⟩, ⟨b.st.f.trans sm, b.st.ms, fun c x q1 q2 q3 => ?_, b.st.th⟩, fun j p c q1 q2 => b.nw j p c (fo j p q1).2 q2⟩
    · by_cases z : c = a
      · subst z
        have q' : upd W.F c u c = some x := q
        rw [upd_same] at q'
        cases q'
        exact hu
      · have q' : upd W.F a u c = some x := q
        rw [upd_ne z] at q'
        exact go.fro c x q'
    · have h3 := go.at' j c m q1 q2
      have nc : c ≠ a := fun z => by subst z; exact e3 (List.mem_of_getElem? q1)
      exact h3.mono sm (fun _ q => q) (by show upd W.F a u c = none; rw [upd_ne nc]; exact h3.1)
    · rcases look j y e with ⟨rfl, rfl⟩ | ⟨q, e'⟩
      · refine ⟨.ref a, h2, ?_⟩
        cases o with
        | lst xs =>
          obtain ⟨vs, k1, k2⟩ := e4
          rw [hu] at k1
          cases k1
          exact .lst (show upd W.F a _ a = _ from upd_same) (RpAll.mono sm _ _ k2)
        | dct kvs =>
          obtain ⟨vs, k1, k2⟩ := e4
          rw [hu] at k1
          cases k1
          exact ⟨a, vs, rfl, upd_same, RpAll.mono sm _ _ k2⟩
      · have ok := b.sr.sl j y e'
        cases y with
        | un => trivial
        | v d =>
          obtain ⟨v, k1, k2⟩ := ok
          refine ⟨v, k1, ?_⟩
          cases d with
          | py p => exact Rp.mono sm _ _ k2
          | gm n => exact k2
          | fn n => exact k2
          | dc kvs =>
            obtain ⟨c, vs, l1, l2, l3⟩ := k2
            exact ⟨c, vs, l1, sm _ _ l2, RpAll.mono sm _ _ l3⟩
          | sc ns =>
            obtain ⟨c, l1, l2⟩ := k2
            exact ⟨c, l1, sm.seq l2⟩
        | own p =>
          obtain ⟨c, k1, k2, k3, k4⟩ := ok
          have nc : c ≠ a := fun z => by
            subst z
            exact q (b.sr.inj j i p o c e' h1 k1 h2)
          exact ⟨c, k1, by show upd W.F a u c = none; rw [upd_ne nc]; exact k2, k3, k4.step sm fun _ z => z⟩
    · obtain ⟨k1, k2, k3⟩ := b.st.own c x q1 q2 q3
      have nc : c ≠ a := fun z => by subst z; rw [h0] at q1; cases q1
      exact ⟨by show upd W.F a u c = none; rw [upd_ne nc]; exact k1, k2, k3⟩
  · exact ⟨W, b⟩
end

/-! ### the statements' functions -/
def sSet (i : Nat) (m : MD) : SD := fun s g => (m s g).bind fun x => some (.nx (s.set i x.1), x.2)
def sPar2 (i j : Nat) (m n : MD) : SD := fun s g => (m s g).bind fun x => (n s x.2).bind fun y => some (.nx ((s.set i x.1).set j y.1), y.2)
def sPar3 (i j k : Nat) (m n l : MD) : SD := fun s g => (m s g).bind fun x => (n s x.2).bind fun y => (l s y.2).bind fun z => some (.nx (((s.set i x.1).set j y.1).set k z.1), z.2)
def sAug (i : Nat) (f : D → D → Option D) (e : ED) : SD := fun s g => match s[i]? with
  | some (.v x) => (e s g).bind fun y => (f x y.1).bind fun z => some (.nx (s.set i (.v z)), y.2)
  | _ => none
def sApp (i : Nat) (e : ED) : SD := fun s g => match s[i]? with
  | some (.own (.lst xs)) => (e s g).bind fun y => match y.1 with
    | .py p => if xs.length < lim then some (.nx (s.set i (.own (.lst (xs ++ [p])))), y.2) else none
    | _ => none
  | _ => none
def sExt (i : Nat) (e : ED) : SD := fun s g => match s[i]? with
  | some (.own (.lst xs)) => (e s g).bind fun y => match y.1 with
    | .py (.list ps) => if xs.length + ps.length ≤ lim then some (.nx (s.set i (.own (.lst (xs ++ ps)))), y.2) else none
    | _ => none
  | _ => none
def sIf (c : BD) (a b : SD) : SD := fun s g => (c s g).bind fun x => if x.1 = true then a s x.2 else b s x.2
def sRet (e : ED) : SD := fun s g => (e s g).bind fun x => some (.rt x.1, x.2)
def sPass : SD := fun s g => some (.nx s, g)
def sBk : SD := fun s g => some (.bk s, g)
def sCt : SD := fun s g => some (.ct s, g)
def sSeq (a b : SD) : SD := fun s g => (a s g).bind fun x => match x.1 with
  | .nx s' => b s' x.2
  | o => some (o, x.2)
def sFrz (i : Nat) (a : SD) : SD := fun s g => a (frz i s) g
section
variable {X : Cx} {fa : Nat → Option Addr} {a b c e : Expr} {es : List Expr} {pos : Pos} {x : Str} {st : Stmt} {sts : List Stmt}
abbrev ES (X : Cx) (fa : Nat → Option Addr) (st : Stmt) (f : SD) : Prop := PS X st (tS X.K fa f)
abbrev EB (X : Cx) (fa : Nat → Option Addr) (st : List Stmt) (f : SD) : Prop := PSs X st (tS X.K fa f)
abbrev EM (X : Cx) (fa : Nat → Option Addr) (e : Expr) (f : MD) : Prop := PE X e (tM X.K fa f)
theorem em_v {f : ED} (h : EE X fa e f) : EM X fa e (mV f) := PE.wk h fun σ H Q h => by
  obtain ⟨W, g, s, d, g', r, e, q⟩ := h
  simp only [mV, Option.bind_eq_some_iff, Option.some.injEq, Prod.mk.injEq] at e
  obtain ⟨⟨x, g1⟩, e1, rfl, rfl⟩ := e
  exact ⟨W, g, s, x, g1, r, e1, fun W1 H1 v s1 o1 p1 => q W1 H1 v s1 o1 ⟨v, rfl, p1⟩ fun a z => by obtain ⟨o, z⟩ := z; cases z⟩
theorem em_o {f : OD} (h : EO X fa e f) : EM X fa e (mO f) := PE.wk h fun σ H Q h => by
  obtain ⟨W, g, s, d, g', r, e, q⟩ := h
  simp only [mO, Option.bind_eq_some_iff, Option.some.injEq, Prod.mk.injEq] at e
  obtain ⟨⟨x, g1⟩, e1, rfl, rfl⟩ := e
  exact ⟨W, g, s, x, g1, r, e1, fun W1 H1 a s1 o1 n1 n2 n3 ob => q W1 H1 (.ref a) s1 o1 ⟨a, rfl, n1, n2, ob⟩ fun c _ z => by cases z; exact n3⟩
theorem wk_set {i : Nat} {m : MD} {D : Ends} {σ : L2.St} {H : Hp} (h : tS X.K fa (sSet i m) D σ H) : tAsg (tM X.K fa m) (gName i) D σ H := by
  obtain ⟨W0, H0, W, g, s, o, g', bb, e, q⟩ := h
  simp only [sSet, Option.bind_eq_some_iff, Option.some.injEq, Prod.mk.injEq] at e
  obtain ⟨⟨y, g1⟩, e1, rfl, rfl⟩ := e
  exact ⟨W, g, s, y, g1, bb.sr, e1, fun W1 H1 v s1 o1 ok hf => q W1 _ H1 (bb.putN s1 o1 ok hf)⟩
theorem es_set {i : Nat} {m : MD} {pos' : Pos} (hN : X.N.Nodup) (hi : X.N[i]? = some x) (hx : Loc X.env.scope x) (he : EM X fa e m) (hs : swapsWith e (some (.Name x pos')) pos.line X.env = pure false := by rfl)
    (hf : X.fn x = true ∨ X.env.scope.names.lookup x = some .local := by first | exact .inl rfl | exact .inr rfl | assumption) : ES X fa (.Assign [.Name x pos'] e pos) (sSet i m) :=
  PS.wk (ps_set hN hi hx he hs hf) fun _ _ _ h => wk_set h
theorem es_par2 {i j : Nat} {y : Str} {m n : MD} {px py pt : Pos} {kt k2 pt2} (hc : X.calm = true) (hN : X.N.Nodup) (hi : X.N[i]? = some x) (hj : X.N[j]? = some y) (hij : i ≠ j)
    (hx : X.env.scope.names.lookup x = some .local) (hy : X.env.scope.names.lookup y = some .local) (ha : EM X fa a m) (hb : EM X fa b n)
    (hw : swappedStores [.Tuple [.Name x px, .Name y py] kt pt] (.Tuple [a, b] k2 pt2) X.env = pure (some [x, y]))
    (hs : swapsWithSole [.Tuple [.Name x px, .Name y py] kt pt] (.Tuple [a, b] k2 pt2) pos.line X.env = pure false := by rfl)
    (h1 : starEach (a :: [b]) X.env = (false, eval a X.env) :: starEach [b] X.env := by rfl) (h2 : starEach (b :: []) X.env = (false, eval b X.env) :: starEach [] X.env := by rfl) :
    ES X fa (.Assign [.Tuple [.Name x px, .Name y py] kt pt] (.Tuple [a, b] k2 pt2) pos) (sPar2 i j m n) :=
  PS.wk (ps_par hc hN hi hj hij hx hy (pa_cons ha (pa_cons hb pa_nil h2) h1) hw hs) fun D σ H h => by
    obtain ⟨W0, H0, W, g, s, o, g', bb, e, q⟩ := h
    simp only [sPar2, Option.bind_eq_some_iff, Option.some.injEq, Prod.mk.injEq] at e
    obtain ⟨⟨y1, g1⟩, e1, ⟨y2, g2⟩, e2, rfl, rfl⟩ := e
    refine ⟨W, g, s, y1, g1, bb.sr, e1, fun W1 H1 v s1 o1 ok hf => ?_⟩
    refine ⟨W1, g1, s, y2, g2, bb.sr.step s1 o1, e2, fun W2 H2 u s2 o2 ok2 hf2 => ?_⟩
    refine ⟨v, u, rfl, q W2 _ H2 ?_⟩
    have b1 := bb.putN (i := i) s1 o1 ok hf
    exact b1.putN s2 o2 ok2 hf2
theorem es_par3 {i j l : Nat} {y z : Str} {m n k : MD} {px py pz pt : Pos} {kt k2 pt2} (hc : X.calm = true) (hN : X.N.Nodup) (hi : X.N[i]? = some x) (hj : X.N[j]? = some y) (hl : X.N[l]? = some z) (hij : i ≠ j) (hil : i ≠ l) (hjl : j ≠ l)
    (hx : X.env.scope.names.lookup x = some .local) (hy : X.env.scope.names.lookup y = some .local) (hz : X.env.scope.names.lookup z = some .local) (ha : EM X fa a m) (hb : EM X fa b n) (hcc : EM X fa c k)
    (hw : swappedStores [.Tuple [.Name x px, .Name y py, .Name z pz] kt pt] (.Tuple [a, b, c] k2 pt2) X.env = pure (some [x, y, z]))
    (hs : swapsWithSole [.Tuple [.Name x px, .Name y py, .Name z pz] kt pt] (.Tuple [a, b, c] k2 pt2) pos.line X.env = pure false := by rfl)
    (h0 : starEach (a :: [b, c]) X.env = (false, eval a X.env) :: starEach [b, c] X.env := by rfl) (h1 : starEach (b :: [c]) X.env = (false, eval b X.env) :: starEach [c] X.env := by rfl) (h2 : starEach (c :: []) X.env = (false, eval c X.env) :: starEach [] X.env := by rfl) :
    ES X fa (.Assign [.Tuple [.Name x px, .Name y py, .Name z pz] kt pt] (.Tuple [a, b, c] k2 pt2) pos) (sPar3 i j l m n k) :=
  PS.wk (ps_par3 hc hN hi hj hl hij hil hjl hx hy hz (pa_cons ha (pa_cons hb (pa_cons hcc pa_nil h2) h1) h0) hw hs) fun D σ H h => by
    obtain ⟨W0, H0, W, g, s, o, g', bb, e, q⟩ := h
    simp only [sPar3, Option.bind_eq_some_iff, Option.some.injEq, Prod.mk.injEq] at e
    obtain ⟨⟨y1, g1⟩, e1, ⟨y2, g2⟩, e2, ⟨y3, g3⟩, e3, rfl, rfl⟩ := e
    refine ⟨W, g, s, y1, g1, bb.sr, e1, fun W1 H1 v s1 o1 ok hf => ?_⟩
    refine ⟨W1, g1, s, y2, g2, bb.sr.step s1 o1, e2, fun W2 H2 u s2 o2 ok2 hf2 => ?_⟩
    refine ⟨W2, g2, s, y3, g3, (bb.sr.step s1 o1).step s2 o2, e3, fun W3 H3 w s3 o3 ok3 hf3 => ?_⟩
    refine ⟨v, u, w, rfl, q W3 _ H3 ?_⟩
    have b1 := bb.putN (i := i) s1 o1 ok hf
    have b2 := b1.putN (i := j) s2 o2 ok2 hf2
    exact b2.putN s3 o3 ok3 hf3
theorem es_aug {i : Nat} {op : Operator} {f : D → D → Option D} {h : ED} {pos' : Pos} (hN : X.N.Nodup) (hi : X.N[i]? = some x) (hx : Loc X.env.scope x) (ho : OpR X (inplaceOp op) (rB X.K fa f)) (he : EE X fa e h)
    (hf : X.fn x = true ∨ X.env.scope.names.lookup x = some .local := by first | exact .inl rfl | exact .inr rfl | assumption) : ES X fa (.AugAssign (.Name x pos') op e pos) (sAug i f h) :=
  PS.wk (ps_aug (ti := rB X.K fa f) hN hi hx he ho hf) fun D σ H h => by
    obtain ⟨W0, H0, W, g, s, o, g', bb, e, q⟩ := h
    unfold sAug at e
    split at e
    · rename_i x hx
      simp only [Option.bind_eq_some_iff, Option.some.injEq, Prod.mk.injEq] at e
      obtain ⟨⟨y, g1⟩, e1, z, e2, rfl, rfl⟩ := e
      obtain ⟨v, h1, h2⟩ := bb.sr.sl _ _ hx
      refine ⟨v, h1, W, g, s, y, g1, bb.sr, e1, fun W1 H1 u s1 o1 p1 => ?_⟩
      refine ⟨W1, g1, x, y, z, o1, h2.step s1, p1, e2, fun W2 H2 w s2 o2 p2 => ?_⟩
      exact q W2 _ H2 ((bb.step (s1.trans s2) o2).putV p2)
    · cases e
theorem es_ret {f : ED} (he : EE X fa e f) : ES X fa (.Return (some e) pos) (sRet f) := PS.wk (ps_ret he) fun D σ H h => by
  obtain ⟨W0, H0, W, g, s, o, g', bb, e, q⟩ := h
  simp only [sRet, Option.bind_eq_some_iff, Option.some.injEq, Prod.mk.injEq] at e
  obtain ⟨⟨y, g1⟩, e1, rfl, rfl⟩ := e
  exact ⟨W, g, s, y, g1, bb.sr, e1, fun W1 H1 v s1 o1 p1 => q W1 H1 v (bb.st.trans s1) o1 p1⟩
theorem es_pass : ES X fa (.Pass pos) sPass := PS.wk ps_pass fun D σ H h => by
  obtain ⟨W0, H0, W, g, s, o, g', bb, e, q⟩ := h
  cases e
  exact q W σ H bb
theorem es_break : ES X fa (.Break pos) sBk := PS.wk ps_break fun D σ H h => by
  obtain ⟨W0, H0, W, g, s, o, g', bb, e, q⟩ := h
  cases e
  exact q W σ H bb
theorem es_cont : ES X fa (.Continue pos) sCt := PS.wk ps_continue fun D σ H h => by
  obtain ⟨W0, H0, W, g, s, o, g', bb, e, q⟩ := h
  cases e
  exact q W σ H bb
theorem es_doc {x j pos pos'} : ES X fa (.Expr (.Constant (.str x) j pos) pos') sPass := PS.wk ps_doc fun D σ H h => by
  obtain ⟨W0, H0, W, g, s, o, g', bb, e, q⟩ := h
  cases e
  exact q W σ H bb
theorem es_if {sa sb : List Stmt} {f : BD} {h k : SD} (hc : ET X fa c f) (ha : EB X fa sa h) (hb : EB X fa sb k) : ES X fa (.If c sa sb pos) (sIf f h k) := PS.wk (ps_if hc ha hb) fun D σ H h => by
  obtain ⟨W0, H0, W, g, s, o, g', bb, e, q⟩ := h
  simp only [sIf, Option.bind_eq_some_iff] at e
  obtain ⟨⟨y, g1⟩, e1, e2⟩ := e
  refine ⟨W, g, s, y, g1, bb.sr, e1, fun W1 H1 s1 o1 => ?_⟩
  cases y with
  | true => exact ⟨W0, H0, W1, g1, s, o, g', bb.step s1 o1, e2, q⟩
  | false => exact ⟨W0, H0, W1, g1, s, o, g', bb.step s1 o1, e2, q⟩
theorem eb_nil : EB X fa [] sPass := PSs.wk pss_nil fun D σ H h => by
  obtain ⟨W0, H0, W, g, s, o, g', bb, e, q⟩ := h
  cases e
  exact q W σ H bb
theorem eb_one {f : SD} (h : ES X fa st f) : EB X fa [st] f := pss_one h
theorem eb_cons {f h : SD} (h1 : ES X fa st f) (h2 : EB X fa sts h) : EB X fa (st :: sts) (sSeq f h) := PSs.wk (pss_cons h1 h2) fun D σ H h => by
  obtain ⟨W0, H0, W, g, s, o, g', bb, e, q⟩ := h
  simp only [sSeq, Option.bind_eq_some_iff] at e
  obtain ⟨⟨y, g1⟩, e1, e2⟩ := e
  refine ⟨W0, H0, W, g, s, y, g1, bb, e1, ?_⟩
  cases y with
  | nx s' => exact fun W1 σ1 H1 b1 => ⟨W0, H0, W1, g1, s', o, g', b1, e2, q⟩
  | rt d => cases e2; exact q
  | bk s' => cases e2; exact q
  | ct s' => cases e2; exact q
theorem es_frz {f : SD} (i : Nat) (h : ES X fa st f) : ES X fa st (sFrz i f) := PS.wk h fun D σ H h => by
  obtain ⟨W0, H0, W, g, s, o, g', bb, e, q⟩ := h
  obtain ⟨W1, b1⟩ := bb.frz i
  exact ⟨W0, H0, W1, g, _, o, g', b1, e, q⟩
theorem es_app {i : Nat} {f : ED} {l : Expr} {apos cpos : Pos} (hl : PE X l (tVar i)) (he : EE X fa e f) (hs : starEach (e :: []) X.env = (false, eval e X.env) :: starEach [] X.env := by rfl)
    (hb : ∀ t, PE X (.Call (.Attribute l "append" apos) [e] [] cpos) t → PS X (.Expr (.Call (.Attribute l "append" apos) [e] [] cpos) pos) (tDrop t) := by exact fun _ h => ps_expr h)
    (hp : ∀ t u, PE X l t → PA X [e] u → PE X (.Call (.Attribute l "append" apos) [e] [] cpos) (tBM X.K "list" rAppend t u) := by exact fun _ _ h k => pe_bm PySem.F.plainAttrs_list PySem.F.slot_list_append PySem.F.type_list_append mt_append h k) :
    ES X fa (.Expr (.Call (.Attribute l "append" apos) [e] [] cpos) pos) (sApp i f) :=
  PS.wk (hb _ (hp _ _ hl (pa_cons he pa_nil hs))) fun D σ H h => by
    obtain ⟨W0, H0, W, g, s, o, g', bb, e, q⟩ := h
    unfold sApp at e
    split at e
    · rename_i xs hx
      simp only [Option.bind_eq_some_iff] at e
      obtain ⟨⟨y, g1⟩, e1, e2⟩ := e
      split at e2
      · rename_i p hp
        split at e2
        · rename_i hl
          cases e2
          obtain ⟨a, h1, h2, h3, vs, h4, h5⟩ := bb.sr.sl _ _ hx
          refine ⟨.ref a, h1, .inl ⟨rfl, _, .inl (.inl h4)⟩, W, g, s, y, g1, bb.sr, e1, fun W1 H1 u s1 o1 p1 => ?_⟩
          have hy : y = .py p := hp
          subst hy
          obtain ⟨k1, k2, k3⟩ := s1.own a _ h4 h2 h3
          refine ⟨a, vs, u, rfl, rfl, k3, by rw [h5.length]; exact Nat.lt_of_lt_of_le hl (lim_ok (Nat.le_refl _)), ?_⟩
          have b1 := bb.step s1 o1
          exact q W1 σ _ (b1.mut hx h1 ⟨vs ++ [u], upd_same, (RpAll.mono s1.f _ _ h5).append (.cons p1 .nil)⟩)
        · cases e2
      · cases e2
    · cases e
theorem es_ext {i : Nat} {f : ED} {l : Expr} {apos cpos : Pos} (hl : PE X l (tVar i)) (he : EE X fa e f) (hs : starEach (e :: []) X.env = (false, eval e X.env) :: starEach [] X.env := by rfl)
    (hb : ∀ t, PE X (.Call (.Attribute l "extend" apos) [e] [] cpos) t → PS X (.Expr (.Call (.Attribute l "extend" apos) [e] [] cpos) pos) (tDrop t) := by exact fun _ h => ps_expr h)
    (hp : ∀ t u, PE X l t → PA X [e] u → PE X (.Call (.Attribute l "extend" apos) [e] [] cpos) (tBM X.K "list" rExtend t u) := by exact fun _ _ h k => pe_bm PySem.F.plainAttrs_list PySem.F.slot_list_extend PySem.F.type_list_extend mt_extend h k) :
    ES X fa (.Expr (.Call (.Attribute l "extend" apos) [e] [] cpos) pos) (sExt i f) :=
  PS.wk (hb _ (hp _ _ hl (pa_cons he pa_nil hs))) fun D σ H h => by
    obtain ⟨W0, H0, W, g, s, o, g', bb, e, q⟩ := h
    unfold sExt at e
    split at e
    · rename_i xs hx
      simp only [Option.bind_eq_some_iff] at e
      obtain ⟨⟨y, g1⟩, e1, e2⟩ := e
      split at e2
      · rename_i p hp
        split at e2
        · rename_i hl
          cases e2
          obtain ⟨a, h1, h2, h3, vs, h4, h5⟩ := bb.sr.sl _ _ hx
          refine ⟨.ref a, h1, .inl ⟨rfl, _, .inl (.inl h4)⟩, W, g, s, y, g1, bb.sr, e1, fun W1 H1 u s1 o1 p1 => ?_⟩
          have hy : y = .py (.list p) := hp
          subst hy
          obtain ⟨k1, k2, k3⟩ := s1.own a _ h4 h2 h3
          have b1 := bb.step s1 o1
          cases p1 with
          | lst l1 l2 =>
            refine ⟨a, _, vs, _, rfl, rfl, k3, o1.fro _ _ l1, by rw [h5.length, l2.length]; exact lim_ok hl, ?_⟩
            exact q W1 σ _ (b1.mut hx h1 ⟨vs ++ _, upd_same, (RpAll.mono s1.f _ _ h5).append l2⟩)
        · cases e2
      · cases e2
    · cases e
end
end DS

namespace DS
open PySem PySem.Spec PyProof.Rows L2

/-! ### what is walked -/
abbrev LD := Sto → G → Option (List PyData × G)
structure Wlk (K : PySem.W.Frag) (W : Wd) (J : It) (xs : List PyData) : Prop where
  ex : ∃ (P : Hp → Prop) (Y : Nat → Hp → V → Hp → Prop), Walk J xs.length P Y ∧ (∀ H, Same W.F H → P H) ∧
    ∀ (i : Nat) (d : PyData) (W1 : Wd) (g : G) (H : Hp) (x : V) (H' : Hp), xs[i]? = some d → Y i H x H' → Same W.F W1.F → GOk W1 g H → ∃ W2, Step W1 H W2 H' ∧ GOk W2 g H' ∧ Rp K W2.F x d
def tIt (K : PySem.W.Frag) (fa : Nat → Option Addr) (f : LD) : TI := fun σ H R => ∃ W g s xs g', SR K fa W g s σ H ∧ f s g = some (xs, g') ∧ ∀ W' H' J, Step W H W' H' → GOk W' g' H' → Wlk K W' J xs → R J H'
abbrev EI (X : Cx) (fa : Nat → Option Addr) (tg iter : Expr) (f : LD) : Prop := PI X tg iter (tIt X.K fa f)
theorem PI.wk {X : Cx} {tg iter : Expr} {t t' : TI} (h : PI X tg iter t) (k : ∀ σ H R, t' σ H R → t σ H R) : PI X tg iter t' := ⟨fun pins s σ H R I w => h.run pins s σ H R I (k σ H R w)⟩
theorem PI.or {X : Cx} {tg iter : Expr} {t t' : TI} (h : PI X tg iter t) (h' : PI X tg iter t') : PI X tg iter (fun σ H R => t σ H R ∨ t' σ H R) := ⟨fun pins s σ H R I w => w.elim (h.run pins s σ H R I) (h'.run pins s σ H R I)⟩
def seqP : D → Option (List PyData)
  | .py (.list xs) => some xs
  | .py (.tuple xs) => some xs
  | _ => none
def iSeq (e : ED) : LD := fun s g => (e s g).bind fun x => (seqP x.1).bind fun xs => some (xs, x.2)
def rngP (lo : Int) (n : Nat) : List PyData := (List.range n).map fun (k : Nat) => PyData.int (lo + (k : Int))
def b62 (i : Int) : Bool := Nat.blt i.natAbs 4611686018427387904
theorem b62_iff {i : Int} (h : b62 i = true) : -(2 ^ 62) ≤ i ∧ i < 2 ^ 62 := by
  unfold b62 at h
  rw [Nat.blt_eq] at h
  omega
def rng1 : List D → Option (List PyData)
  | [.py (.int n)] => if b62 n then some (rngP 0 n.toNat) else none
  | _ => none
def rng2 : List D → Option (List PyData)
  | [.py (.int a), .py (.int b)] => if b62 a && b62 b then some (rngP a (b - a).toNat) else none
  | _ => none
def zipP : List D → Option (List PyData)
  | [.py (.list xs), .py (.list ys)] => some ((xs.zip ys).map fun p => .tuple [p.1, p.2])
  | [.py (.tuple xs), .py (.tuple ys)] => some ((xs.zip ys).map fun p => .tuple [p.1, p.2])
  | _ => none
def iArgs (f : List D → Option (List PyData)) (a : AD) : LD := fun s g => (a s g).bind fun x => (f x.1).bind fun xs => some (xs, x.2)
section
variable {X : Cx} {fa : Nat → Option Addr} {tg a b e : Expr} {p pos : Pos}
theorem wlk_list {K : PySem.W.Frag} {W : Wd} {c : Addr} {vs : List V} {xs : List PyData} (h1 : W.F c = some (.lst vs)) (h2 : RpAll K W.F vs xs) : Wlk K W (Itl K c) xs := by
  refine ⟨_, _, by rw [← h2.length]; exact walk_list, fun H hs => SqL.of (hs _ _ h1), fun i d W1 g H x H' e1 e2 e3 e4 => ?_⟩
  obtain ⟨rfl, e2⟩ := e2
  obtain ⟨v, k1, k2⟩ := h2.get e1
  rw [e2] at k1
  cases k1
  exact ⟨W1, Step.refl _ _, e4, Rp.mono e3 _ _ k2⟩
theorem wlk_tup {K : PySem.W.Frag} {W : Wd} {c : Addr} {vs : List V} {xs : List PyData} (h1 : SqT K W.F c vs) (h2 : RpAll K W.F vs xs) : Wlk K W (Itt K c) xs := by
  refine ⟨_, _, by rw [← h2.length]; exact walk_tup, fun H hs => sqt_mono hs h1, fun i d W1 g H x H' e1 e2 e3 e4 => ?_⟩
  obtain ⟨rfl, e2⟩ := e2
  obtain ⟨v, k1, k2⟩ := h2.get e1
  rw [e2] at k1
  cases k1
  exact ⟨W1, Step.refl _ _, e4, Rp.mono e3 _ _ k2⟩
theorem wlk_rng {K : PySem.W.Frag} {W : Wd} {lo : Int} {n : Nat} : Wlk K W (Itr lo n) (rngP lo n) := by
  refine ⟨_, _, by rw [show (rngP lo n).length = n by simp [rngP]]; exact walk_range, fun H hs => trivial, fun i d W1 g H x H' e1 e2 e3 e4 => ?_⟩
  obtain ⟨rfl, rfl⟩ := e2
  unfold rngP at e1
  rw [List.getElem?_map] at e1
  by_cases hi : i < n
  · rw [List.getElem?_range hi] at e1
    cases e1
    exact ⟨W1, Step.refl _ _, e4, Rp.int _⟩
  · rw [List.getElem?_eq_none (by simpa using hi)] at e1
    cases e1
theorem pair_new {K : PySem.W.Frag} {W1 : Wd} {g : G} {H : Hp} {T : Addr} {x y : V} {d e : PyData} (o : GOk W1 g H) (hT : H T = none) (rx : Rp K W1.F x d) (ry : Rp K W1.F y e) :
    ∃ W2, Step W1 H W2 (upd H T (.tup [x, y])) ∧ GOk W2 g (upd H T (.tup [x, y])) ∧ Rp K W2.F (.ref T) (.tuple [d, e]) := by
  obtain ⟨f1, f2⟩ := o.fresh hT
  exact ⟨_, Step.laid hT o.fro f2, o.laid hT, .tup (SqT.of (show upd W1.F T _ T = _ from upd_same)) (RpAll.mono (same_new f1) _ _ (.cons rx (.cons ry .nil)))⟩
theorem zip_get {α β : Type} : ∀ (xs : List α) (ys : List β) (i : Nat) (p : α × β), (xs.zip ys)[i]? = some p → xs[i]? = some p.1 ∧ ys[i]? = some p.2 := fun xs ys i p h => by
  rw [List.getElem?_zip_eq_some] at h
  exact h
theorem wlk_zipT {K : PySem.W.Frag} {W : Wd} {c d : Addr} {vs us : List V} {xs ys : List PyData} (h1 : SqT K W.F c vs) (h2 : RpAll K W.F vs xs) (h3 : SqT K W.F d us) (h4 : RpAll K W.F us ys) : Wlk K W (RZ.ItzT K c d) ((xs.zip ys).map fun p => .tuple [p.1, p.2]) := by
  have hl : ((xs.zip ys).map fun p => PyData.tuple [p.1, p.2]).length = min vs.length us.length := by rw [List.length_map, List.length_zip, h2.length, h4.length]
  refine ⟨fun H => SqT K H c vs ∧ SqT K H d us, YPair (fun i => vs[i]?) (fun i => us[i]?), ⟨fun i H hi q => ?_, fun H q => ?_, fun i H v H' _ q y => ?_⟩, fun H hs => ⟨sqt_mono hs h1, sqt_mono hs h3⟩, fun i dd W1 g H x H' e1 e2 e3 e4 => ?_⟩
  · rw [hl] at hi
    have i1 : i < vs.length := by omega
    have i2 : i < us.length := by omega
    exact ⟨vs, us, vs[i], us[i], q.1, q.2, by simp [i1], by simp [i2]⟩
  · rw [hl]
    exact ⟨vs, us, q.1, q.2, by omega⟩
  · obtain ⟨T, x, z, k1, k2, k3, k4, k5⟩ := y
    exact ⟨T, x, z, k1, k2, k3, k4 vs q.1, k5 us q.2⟩
  · obtain ⟨T, x1, x2, rfl, hT, rfl, v1, v2⟩ := e2
    rw [List.getElem?_map, Option.map_eq_some_iff] at e1
    obtain ⟨⟨d1, d2⟩, z1, rfl⟩ := e1
    obtain ⟨g1, g2⟩ := zip_get _ _ _ _ z1
    obtain ⟨w1, k1, k2⟩ := h2.get g1
    obtain ⟨w2, k3, k4⟩ := h4.get g2
    have v1' : vs[i]? = some x1 := v1
    have v2' : us[i]? = some x2 := v2
    rw [v1'] at k1
    rw [v2'] at k3
    cases k1; cases k3
    exact pair_new e4 hT (Rp.mono e3 _ _ k2) (Rp.mono e3 _ _ k4)
theorem wlk_zipL {K : PySem.W.Frag} {W : Wd} {c d : Addr} {vs us : List V} {xs ys : List PyData} (h1 : W.F c = some (.lst vs)) (h2 : RpAll K W.F vs xs) (h3 : W.F d = some (.lst us)) (h4 : RpAll K W.F us ys) : Wlk K W (Itz K c d) ((xs.zip ys).map fun p => .tuple [p.1, p.2]) := by
  have hl : ((xs.zip ys).map fun p => PyData.tuple [p.1, p.2]).length = min vs.length us.length := by rw [List.length_map, List.length_zip, h2.length, h4.length]
  refine ⟨fun H => SqL K H c vs ∧ SqL K H d us, YPair (fun i => vs[i]?) (fun i => us[i]?), by rw [hl]; exact walk_zip rfl, fun H hs => ⟨SqL.of (hs _ _ h1), SqL.of (hs _ _ h3)⟩, fun i dd W1 g H x H' e1 e2 e3 e4 => ?_⟩
  obtain ⟨T, x1, x2, rfl, hT, rfl, v1, v2⟩ := e2
  rw [List.getElem?_map, Option.map_eq_some_iff] at e1
  obtain ⟨⟨d1, d2⟩, z1, rfl⟩ := e1
  obtain ⟨g1, g2⟩ := zip_get _ _ _ _ z1
  obtain ⟨w1, k1, k2⟩ := h2.get g1
  obtain ⟨w2, k3, k4⟩ := h4.get g2
  have v1' : vs[i]? = some x1 := v1
  have v2' : us[i]? = some x2 := v2
  rw [v1'] at k1
  rw [v2'] at k3
  cases k1; cases k3
  exact pair_new e4 hT (Rp.mono e3 _ _ k2) (Rp.mono e3 _ _ k4)
theorem ei_seq {f : ED} (h : EE X fa e f) : EI X fa tg e (iSeq f) := PI.wk (PI.or (pi_list (tg := tg) h) (pi_tup (tg := tg) h)) fun σ H R h => by
  obtain ⟨W, g, s, xs, g', r, e, q⟩ := h
  simp only [iSeq, Option.bind_eq_some_iff, Option.some.injEq, Prod.mk.injEq] at e
  obtain ⟨⟨x, g1⟩, e1, ys, e2, rfl, rfl⟩ := e
  unfold seqP at e2
  split at e2
  · rename_i zs hz
    cases e2
    refine .inl ⟨W, g, s, x, g1, r, e1, fun W1 H1 v s1 o1 p1 => ?_⟩
    have hx : x = .py (.list ys) := hz
    subst hx
    cases p1 with
    | lst h1 h2 => exact ⟨_, rfl, ⟨_, SqL.of (o1.fro _ _ h1)⟩, q W1 H1 _ s1 o1 (wlk_list h1 h2)⟩
  · rename_i zs hz
    cases e2
    refine .inr ⟨W, g, s, x, g1, r, e1, fun W1 H1 v s1 o1 p1 => ?_⟩
    have hx : x = .py (.tuple ys) := hz
    subst hx
    cases p1 with
    | tup h1 h2 => exact ⟨_, rfl, ⟨_, sqt_mono o1.fro h1⟩, q W1 H1 _ s1 o1 (wlk_tup h1 h2)⟩
  · cases e2
theorem ei_rng1 {t : AD} (hm : X.mg "range" = none) (ha : EA X fa [a] t) (hg : Gl X "range" := by rfl) (hs : starEach [a] X.env = [(false, eval a X.env)] := by rfl) : EI X fa tg (.Call (.Name "range" p) [a] [] pos) (iArgs rng1 t) :=
  PI.wk (pi_range1 hg hm ha hs) fun σ H R h => by
    obtain ⟨W, g, s, xs, g', r, e, q⟩ := h
    simp only [iArgs, Option.bind_eq_some_iff, Option.some.injEq, Prod.mk.injEq] at e
    obtain ⟨⟨x, g1⟩, e1, ys, e2, rfl, rfl⟩ := e
    replace e2 : rng1 x = some ys := e2
    unfold rng1 at e2
    split at e2
    · split at e2
      · rename_i n hb
        cases e2
        replace hb := b62_iff hb
        refine ⟨W, g, s, _, g1, r, e1, fun W1 H1 vs s1 o1 p1 => ?_⟩
        obtain ⟨v, rfl, pv⟩ := rds1 p1
        cases pv
        exact ⟨_, rfl, hb.1, hb.2, q W1 H1 _ s1 o1 wlk_rng⟩
      · cases e2
    · cases e2
theorem ei_rng2 {t : AD} (hm : X.mg "range" = none) (ha : EA X fa [a, b] t) (hg : Gl X "range" := by rfl) (hs : starEach [a, b] X.env = [(false, eval a X.env), (false, eval b X.env)] := by rfl) (hs2 : starEach [b] X.env = [(false, eval b X.env)] := by rfl) :
    EI X fa tg (.Call (.Name "range" p) [a, b] [] pos) (iArgs rng2 t) :=
  PI.wk (pi_range2 hg hm ha hs hs2) fun σ H R h => by
    obtain ⟨W, g, s, xs, g', r, e, q⟩ := h
    simp only [iArgs, Option.bind_eq_some_iff, Option.some.injEq, Prod.mk.injEq] at e
    obtain ⟨⟨x, g1⟩, e1, ys, e2, rfl, rfl⟩ := e
    replace e2 : rng2 x = some ys := e2
    unfold rng2 at e2
    split at e2
    · split at e2
      · rename_i n m hb
        cases e2
        rw [Bool.and_eq_true] at hb
        replace hb := And.intro (b62_iff hb.1) (b62_iff hb.2)
        refine ⟨W, g, s, _, g1, r, e1, fun W1 H1 vs s1 o1 p1 => ?_⟩
        obtain ⟨v, u, rfl, pv, pu⟩ := rds2 p1
        cases pv; cases pu
        exact ⟨_, _, rfl, ⟨hb.1.1, hb.1.2, hb.2.1, hb.2.2⟩, q W1 H1 _ s1 o1 wlk_rng⟩
      · cases e2
    · cases e2
theorem ei_zip {t : AD} {tpos : Pos} {elts : List Expr} {kk : Nat} (hm : X.mg "zip" = none) (ha : EA X fa [a, b] t) (hg : Gl X "zip" := by rfl) (hs : starEach [a, b] X.env = (false, eval a X.env) :: starEach [b] X.env := by rfl) (hpl : (backTo pos (starEach [b] X.env)).any (·.1) = false := by rfl) :
    EI X fa (.Tuple elts kk tpos) (.Call (.Name "zip" p) [a, b] [] pos) (iArgs zipP t) :=
  PI.wk (RZ.pi_zipA hg hm ha hs hpl) fun σ H R h => by
    obtain ⟨W, g, s, xs, g', r, e, q⟩ := h
    simp only [iArgs, Option.bind_eq_some_iff, Option.some.injEq, Prod.mk.injEq] at e
    obtain ⟨⟨x, g1⟩, e1, ys, e2, rfl, rfl⟩ := e
    replace e2 : zipP x = some ys := e2
    unfold zipP at e2
    split at e2
    · cases e2
      refine ⟨W, g, s, _, g1, r, e1, fun W1 H1 vs s1 o1 p1 => ?_⟩
      obtain ⟨v, u, rfl, pv, pu⟩ := rds2 p1
      cases pv with
      | lst h1 h2 =>
        cases pu with
        | lst h3 h4 => exact ⟨_, _, _, _, rfl, .inl ⟨SqL.of (o1.fro _ _ h1), SqL.of (o1.fro _ _ h3), q W1 H1 _ s1 o1 (wlk_zipL h1 h2 h3 h4)⟩⟩
    · cases e2
      refine ⟨W, g, s, _, g1, r, e1, fun W1 H1 vs s1 o1 p1 => ?_⟩
      obtain ⟨v, u, rfl, pv, pu⟩ := rds2 p1
      cases pv with
      | tup h1 h2 =>
        cases pu with
        | tup h3 h4 => exact ⟨_, _, _, _, rfl, .inr ⟨sqt_mono o1.fro h1, sqt_mono o1.fro h3, q W1 H1 _ s1 o1 (wlk_zipT h1 h2 h3 h4)⟩⟩
    · cases e2
end

/-! ### targets -/
/-- values stored into slots of is, one after another -/
inductive Sets (K : PySem.W.Frag) (F : Hp) : List Nat → Sto → L2.St → Sto → L2.St → Prop
  | nil {s : Sto} {σ : L2.St} : Sets K F [] s σ s σ
  | cons {i : Nat} {is : List Nat} {v : V} {d : PyData} {s s' : Sto} {σ σ' : L2.St} : Rp K F v d → Sets K F is (s.set i (.v (.py d))) (σ.set i (some v)) s' σ' → Sets K F (i :: is) s σ s' σ'
abbrev GD := PyData → Sto → Option Sto
def bAll : List Nat → List PyData → Sto → Option Sto
  | [], [], s => some s
  | i :: is, d :: ds, s => bAll is ds (s.set i (.v (.py d)))
  | _, _, _ => none
def bName (i : Nat) : GD := fun d s => some (s.set i (.v (.py d)))
def bTup (is : List Nat) : GD := fun d s => match d with
  | .tuple ds => bAll is ds s
  | _ => none
def tG (K : PySem.W.Frag) (is : List Nat) (b : GD) : TG := fun v σ H Q => ∃ F s d s', Same F H ∧ Rp K F v d ∧ b d s = some s' ∧ ∀ σ', Sets K F is s σ s' σ' → Q σ' H
abbrev EG (X : Cx) (tg : Expr) (is : List Nat) (b : GD) : Prop := PG X tg (tG X.K is b)
theorem PG.wk {X : Cx} {tg : Expr} {t t' : TG} (h : PG X tg t) (k : ∀ v σ H R, t' v σ H R → t v σ H R) : PG X tg t' := ⟨fun pins s σ H v u Q I r w => h.run pins s σ H v u Q I r (k v σ H Q w)⟩
theorem PGs.wk {X : Cx} {tg : List Expr} {t t' : TGs} (h : PGs X tg t) (k : ∀ v σ H R, t' v σ H R → t v σ H R) : PGs X tg t' := ⟨fun pins s σ H v u Q I r w => h.run pins s σ H v u Q I r (k v σ H Q w)⟩
section
variable {X : Cx} {pos : Pos} {x : Str}
theorem eg_name {i : Nat} (hN : X.N.Nodup) (hi : X.N[i]? = some x) (hx : Loc X.env.scope x) (hf : X.fn x = true ∨ X.env.scope.names.lookup x = some .local := by first | exact .inl rfl | exact .inr rfl | assumption) : EG X (.Name x pos) [i] (bName i) :=
  PG.wk (pg_name hN hi hx hf) fun v σ H R h => by
    obtain ⟨F, s, d, s', hs, r, e, q⟩ := h
    cases e
    exact q _ (.cons r .nil)
def gNames : List Nat → TGs
  | [] => gNil
  | i :: is => gCons (gName i) (gNames is)
theorem gNames_of {K : PySem.W.Frag} {F H : Hp} {Q : L2.St → Hp → Prop} : ∀ {is : List Nat} {vs : List V} {ds : List PyData} {s s' : Sto} {σ : L2.St}, RpAll K F vs ds → bAll is ds s = some s' → (∀ σ', Sets K F is s σ s' σ' → Q σ' H) → gNames is vs σ H Q
  | [], _, _, s, s', σ, .nil, e, q => by
    cases e
    exact ⟨rfl, q _ .nil⟩
  | [], _, _, s, s', σ, .cons _ _, e, q => by cases e
  | i :: is, _, _, s, s', σ, .nil, e, q => by cases e
  | i :: is, v :: vs, d :: ds, s, s', σ, .cons r t, e, q => ⟨v, vs, rfl, gNames_of (is := is) t e fun σ' h => q σ' (.cons r h)⟩
theorem bAll_len : ∀ {is : List Nat} {ds : List PyData} {s s' : Sto}, bAll is ds s = some s' → ds.length = is.length
  | [], [], _, _, _ => rfl
  | [], _ :: _, _, _, e => by cases e
  | _ :: _, [], _, _, e => by cases e
  | i :: is, d :: ds, s, s', e => congrArg Nat.succ (bAll_len (is := is) e)
theorem eg_tup {es : List Expr} {k : Nat} {is : List Nat} (hc : X.calm = true) (h : PGs X es (gNames is)) (hn : (assignEach es X.env).length = is.length := by rfl) (hst : (assignEach es X.env).findIdx? (·.1) = none := by rfl) : EG X (.Tuple es k pos) is (bTup is) :=
  PG.wk (pg_tup hc h hn hst) fun v σ H R h => by
    obtain ⟨F, s, d, s', hs, r, e, q⟩ := h
    unfold bTup at e
    split at e
    · cases r with
      | tup h1 h2 => exact ⟨_, _, rfl, sqt_mono hs h1, by rw [h2.length]; exact bAll_len e, gNames_of h2 e q⟩
    · cases e
end
section
variable {K : PySem.W.Frag} {fa : Nat → Option Addr} {W0 W : Wd} {H0 H : Hp} {g : G}
theorem SB.sets : ∀ {is : List Nat} {s s' : Sto} {σ σ' : L2.St}, Sets K W.F is s σ s' σ' → SB K fa W0 H0 W g s σ H → SB K fa W0 H0 W g s' σ' H
  | _, _, _, _, _, .nil, b => b
  | _, _, _, _, _, .cons r t, b => SB.sets t (b.putV (d := .py _) r)
theorem SR.sb {s : Sto} {σ : L2.St} (r : SR K fa W g s σ H) : SB K fa ⟨fun _ => none, []⟩ (fun _ => none) W g s σ H :=
  ⟨r, ⟨fun a o e => (nomatch e), ⟨W.ms, rfl⟩, fun a o e => (nomatch e), fun a _ => rfl⟩, fun _ _ _ _ _ => rfl⟩
theorem SR.sets {is : List Nat} {s s' : Sto} {σ σ' : L2.St} (h : Sets K W.F is s σ s' σ') (r : SR K fa W g s σ H) : SR K fa W g s' σ' H := (SB.sets h r.sb).sr
theorem wipe_set {σ : L2.St} {i : Nat} {x : Option V} : ∀ {vs : List Nat}, i ∈ vs → wipe (σ.set i x) vs = wipe σ vs
  | v :: vs, h => by
    unfold wipe
    by_cases e : i ∈ vs
    · rw [wipe_set e]
    · have hv : i = v := (List.mem_cons.mp h).resolve_right e
      subst hv
      have key : ∀ ws : List Nat, i ∉ ws → wipe (σ.set i x) ws = (wipe σ ws).set i x := fun ws => by
        induction ws with
        | nil => intro _; rfl
        | cons w ws ih =>
          intro hn
          have h1 : i ≠ w := fun z => hn (by rw [z]; exact List.mem_cons_self)
          unfold wipe
          rw [ih fun z => hn (List.mem_cons_of_mem _ z), List.set_comm _ _ h1]
      rw [key vs e, List.set_set]
theorem Sets.wipe {F : Hp} : ∀ {is : List Nat} {s s' : Sto} {σ σ' : L2.St} {vs : List Nat}, Sets K F is s σ s' σ' → (∀ i ∈ is, i ∈ vs) → L2.wipe σ' vs = L2.wipe σ vs
  | _, _, _, _, _, _, .nil, _ => rfl
  | _, _, _, _, _, _, .cons r t, h => (Sets.wipe t fun j hj => h j (List.mem_cons_of_mem _ hj)).trans (wipe_set (h _ List.mem_cons_self))
end
end DS

namespace DS
open PySem PySem.Spec PyProof.Rows L2

/-! ### for -/
def forL (b : GD) (body : SD) : List PyData → SD
  | [], s, g => some (.nx s, g)
  | x :: xs, s, g => (b x s).bind fun s1 => (body s1 g).bind fun y => match y.1 with
    | .nx s2 => forL b body xs s2 y.2
    | .ct s2 => forL b body xs s2 y.2
    | .bk s2 => some (.nx s2, y.2)
    | .rt d => some (.rt d, y.2)
def sFor (it : LD) (b : GD) (body : SD) : SD := fun s g => (it s g).bind fun x => forL b body x.1 s x.2
section
variable {X : Cx} {fa : Nat → Option Addr} {tg iter : Expr} {sts : List Stmt} {pos : Pos}
theorem Step.rebase {W0 W1 W : Wd} {H0 H1 H : Hp} (a : Step W0 H0 W1 H1) (b : Step ⟨W1.F, W0.ms⟩ H0 W H) : Step W0 H0 W H :=
  ⟨a.f.trans b.f, b.ms, fun c o h1 h2 h3 => b.own c o h1 (a.own c o h1 h2 h3).1 h3, b.th⟩
theorem Step.inbase {W0 W1 W : Wd} {H0 H1 H : Hp} (a : Step W0 H0 W1 H1) (f : Same W1.F W.F) (b : Step W0 H0 W H) : Step ⟨W1.F, W0.ms⟩ H0 W H :=
  ⟨f, b.ms, fun c o h1 h2 h3 => by
    have k : W0.F c = none := by
      cases e : W0.F c with
      | none => rfl
      | some u =>
        have h2' : W1.F c = none := h2
        rw [a.f _ _ e] at h2'
        cases h2'
    exact b.own c o h1 k h3, b.th⟩
theorem SB.rebase {K : PySem.W.Frag} {W0 W1 W : Wd} {H0 H1 H : Hp} {g : G} {s : Sto} {σ : L2.St} (a : Step W0 H0 W1 H1) (b : SB K fa ⟨W1.F, W0.ms⟩ H0 W g s σ H) : SB K fa W0 H0 W g s σ H := ⟨b.sr, a.rebase b.st, b.nw⟩
theorem SB.inbase {K : PySem.W.Frag} {W0 W1 W : Wd} {H0 H1 H : Hp} {g : G} {s : Sto} {σ : L2.St} (a : Step W0 H0 W1 H1) (f : Same W1.F W.F) (b : SB K fa W0 H0 W g s σ H) : SB K fa ⟨W1.F, W0.ms⟩ H0 W g s σ H := ⟨b.sr, a.inbase f b.st, b.nw⟩
theorem drop_at {α : Type} {xs : List α} {i : Nat} (h : i < xs.length) : ∃ x, xs[i]? = some x ∧ xs.drop i = x :: xs.drop (i + 1) := ⟨xs[i], List.getElem?_eq_getElem h, List.drop_eq_getElem_cons h⟩
theorem es_for {is : List Nat} {f : LD} {b : GD} {h : SD} (hp : PassesOwn (model X.prog X.w) X.A X.env X.xe) (hc : X.calm = true) (hi : EI X fa tg iter f) (hg : EG X tg is b) (hb : EB X fa sts h)
    (hs : ∀ x, foldedSetIterable iter X.env x = pure x := by intro _; rfl) : ES X fa (.For tg iter sts [] pos) (sFor f b h) := PS.wk (ps_for hp hc hi hg hb hs) fun D σ H hh => by
  obtain ⟨W0, H0, W, g, s, o, g', bb, e, q⟩ := hh
  simp only [sFor, Option.bind_eq_some_iff] at e
  obtain ⟨⟨xs, g1⟩, e1, e2⟩ := e
  refine ⟨W, g, s, xs, g1, bb.sr, e1, fun W1 H1 J s1 o1 wk => ?_⟩
  obtain ⟨P, Y, w, hP, hY⟩ := wk.ex
  have b1 := bb.step s1 o1
  have a := b1.st
  refine for_it w (fun i σ' H' => ∃ W2 g2 s2, SB X.K fa ⟨W1.F, W0.ms⟩ H0 W2 g2 s2 σ' H' ∧ forL b h (xs.drop i) s2 g2 = some (o, g')) ⟨W1, g1, s, b1.inbase a (Same.refl _), e2⟩ (fun i σ' H' _ hh => ?_) (fun i x σ' H' H2 hi hh hy => ?_) (fun σ' H' hh => ?_)
  · obtain ⟨W2, g2, s2, b2, _⟩ := hh
    exact hP H' fun a u z => b2.sr.gok.fro a u (b2.st.f a u z)
  · obtain ⟨W2, g2, s2, b2, e3⟩ := hh
    obtain ⟨d, k1, k2⟩ := drop_at hi
    rw [k2] at e3
    simp only [forL, Option.bind_eq_some_iff] at e3
    obtain ⟨s3, e4, ⟨y, g3⟩, e5, e6⟩ := e3
    obtain ⟨W3, t3, o3, r3⟩ := hY i d W2 g2 H' x H2 k1 hy b2.st.f b2.sr.gok
    have b3 := b2.step t3 o3
    refine ⟨W3.F, s2, d, s3, o3.fro, r3, e4, fun σ3 ss => ?_⟩
    refine ⟨_, H0, W3, g2, s3, y, g3, SB.sets ss b3, e5, ?_⟩
    cases y with
    | nx s4 => exact fun W4 σ4 H4 b4 => ⟨W4, g3, s4, b4, e6⟩
    | ct s4 => exact fun W4 σ4 H4 b4 => ⟨W4, g3, s4, b4, e6⟩
    | bk s4 =>
      cases e6
      exact fun W4 σ4 H4 b4 => q W4 σ4 H4 (b4.rebase a)
    | rt r =>
      cases e6
      exact fun W4 H4 v b4 => q W4 H4 v (a.rebase b4)
  · obtain ⟨W2, g2, s2, b2, e3⟩ := hh
    rw [List.drop_of_length_le (Nat.le_refl _)] at e3
    cases e3
    exact q W2 σ' H' (b2.rebase a)
end

/-! ### comprehensions -/
def wipeS : Sto → List Nat → Sto
  | s, [] => s
  | s, v :: vs => (wipeS s vs).set v .un
def compL (b : GD) (t : BD) (e : ED) (s : Sto) : List PyData → G → Option (List PyData × G)
  | [], g => some ([], g)
  | x :: xs, g => (b x s).bind fun s1 => (t s1 g).bind fun c => if c.1 = true then (e s1 c.2).bind fun d => match d.1 with
      | .py p => (compL b t e s xs d.2).bind fun r => some (p :: r.1, r.2)
      | _ => none
    else compL b t e s xs c.2
def bYes : BD := fun _ g => some (true, g)
def oComp (it : LD) (b : GD) (t : BD) (e : ED) (vs : List Nat) : OD := fun s g => (it s g).bind fun x => if x.1.length ≤ lim then (compL b t e (wipeS s vs) x.1 x.2).bind fun r => some (.lst r.1, r.2) else none
/-- two clauses -/
def comp2L (b : GD) (t : BD) (it1 : LD) (vs1 : List Nat) (b1 : GD) (t1 : BD) (e : ED) (s : Sto) : List PyData → G → Option (List PyData × G)
  | [], g => some ([], g)
  | x :: xs, g => (b x s).bind fun s1 => (t s1 g).bind fun c => if c.1 = true then (it1 s1 c.2).bind fun y => (compL b1 t1 e (wipeS s1 vs1) y.1 y.2).bind fun r => (comp2L b t it1 vs1 b1 t1 e s xs r.2).bind fun q => some (r.1 ++ q.1, q.2)
    else comp2L b t it1 vs1 b1 t1 e s xs c.2
def oComp2 (it : LD) (b : GD) (t : BD) (it1 : LD) (vs1 : List Nat) (b1 : GD) (t1 : BD) (e : ED) (vs : List Nat) : OD := fun s g => (it s g).bind fun x => (comp2L b t it1 vs1 b1 t1 e (wipeS s vs) x.1 x.2).bind fun r => if r.1.length ≤ lim then some (.lst r.1, r.2) else none
section
variable {K : PySem.W.Frag} {fa : Nat → Option Addr} {W : Wd} {H : Hp} {g : G}
theorem wipeS_len (s : Sto) : ∀ vs : List Nat, (wipeS s vs).length = s.length
  | [] => rfl
  | v :: vs => by unfold wipeS; rw [List.length_set, wipeS_len s vs]
theorem wipeS_get {s : Sto} {i : Nat} {x : Slot} : ∀ {vs : List Nat}, (wipeS s vs)[i]? = some x → x = .un ∨ (s[i]? = some x ∧ i ∉ vs)
  | [], h => .inr ⟨h, by simp⟩
  | v :: vs, h => by
    unfold wipeS at h
    by_cases hi : v = i
    · subst hi
      by_cases hv : v < (wipeS s vs).length
      · rw [List.getElem?_set_self hv] at h; cases h; exact .inl rfl
      · rw [List.getElem?_eq_none (by simpa using hv)] at h; cases h
    · rw [List.getElem?_set_ne hi] at h
      rcases wipeS_get h with z | ⟨z1, z2⟩
      · exact .inl z
      · exact .inr ⟨z1, by simp only [List.mem_cons, not_or]; exact ⟨fun e => hi e.symm, z2⟩⟩
theorem SR.wipe {s : Sto} {σ : L2.St} (r : SR K fa W g s σ H) (vs : List Nat) : SR K fa W g (wipeS s vs) (L2.wipe σ vs) H := by
  have look : ∀ (i : Nat) (x : Slot), (wipeS s vs)[i]? = some x → x = .un ∨ (s[i]? = some x ∧ (L2.wipe σ vs)[i]? = σ[i]?) := fun i x h => by
    rcases wipeS_get h with z | ⟨z1, z2⟩
    · exact .inl z
    · exact .inr ⟨z1, wipe_out z2⟩
  refine ⟨r.gok, fun i x h => ?_, fun i j o o' a h1 h2 h3 h4 => ?_, by rw [wipeS_len, wipe_length]; exact r.len⟩
  · rcases look i x h with rfl | ⟨h1, h2⟩
    · trivial
    · rw [h2]; exact r.sl i x h1
  · rcases look i _ h1 with z | ⟨k1, k2⟩
    · cases z
    · rcases look j _ h2 with z | ⟨l1, l2⟩
      · cases z
      · rw [k2] at h3; rw [l2] at h4
        exact r.inj i j o o' a k1 l1 h3 h4
/-- the list that grows: what is so at each turn -/
structure Gr (K : PySem.W.Frag) (Wb : Wd) (Hb : Hp) (D : Addr) (W : Wd) (g : G) (acc : List PyData) (H : Hp) : Prop where
  st : Step Wb Hb W H
  ok : GOk W g H
  fn : W.F D = none
  mn : D ∉ W.ms
  at' : ∃ vs, H D = some (.lst vs) ∧ RpAll K W.F vs acc
theorem Gr.step {Wb W' : Wd} {Hb H' : Hp} {D : Addr} {acc : List PyData} {g' : G} (r : Gr K Wb Hb D W g acc H) (a : Step W H W' H') (o : GOk W' g' H') : Gr K Wb Hb D W' g' acc H' := by
  obtain ⟨vs, h1, h2⟩ := r.at'
  obtain ⟨k1, k2, k3⟩ := a.own D _ h1 r.fn r.mn
  exact ⟨r.st.trans a, o, k1, k2, vs, k3, RpAll.mono a.f _ _ h2⟩
theorem Gr.push {Wb : Wd} {Hb : Hp} {D : Addr} {acc : List PyData} {v : V} {p : PyData} (r : Gr K Wb Hb D W g acc H) (hb : Hb D = none) (rp : Rp K W.F v p) : ∃ vs, H D = some (.lst vs) ∧ vs.length = acc.length ∧ Gr K Wb Hb D W g (acc ++ [p]) (upd H D (.lst (vs ++ [v]))) := by
  obtain ⟨vs, h1, h2⟩ := r.at'
  refine ⟨vs, h1, h2.length, ⟨r.st.f, r.st.ms, fun a o q1 q2 q3 => ?_, fun a q => ?_⟩, ⟨fun b u e => ?_, r.ok.len, r.ok.nd, fun i a m q1 q2 => ?_⟩, r.fn, r.mn, vs ++ [v], upd_same, h2.append (.cons rp .nil)⟩
  · obtain ⟨k1, k2, k3⟩ := r.st.own a o q1 q2 q3
    have na : a ≠ D := fun z => by subst z; rw [hb] at q1; cases q1
    exact ⟨k1, k2, by rw [upd_ne na]; exact k3⟩
  · by_cases z : a = D
    · subst z; exact hb
    · rw [upd_ne z] at q; exact r.st.th a q
  · rw [upd_ne (ne_of_none e r.fn)]; exact r.ok.fro b u e
  · have h3 := r.ok.at' i a m q1 q2
    have na : a ≠ D := fun z => by subst z; exact r.mn (List.mem_of_getElem? q1)
    exact h3.mono (Same.refl _) (fun u e => by rw [upd_ne na]; exact e) h3.1
theorem SR.free {D : Addr} {s : Sto} {σ : L2.St} (r : SR K fa W g s σ H) (hD : H D = none) : ∀ (i : Nat) (o : Ob), s[i]? = some (Slot.own o) → σ[i]? ≠ some (some (V.ref D)) := fun i o h e => by
  obtain ⟨c, k1, k2, k3, k4⟩ := r.sl i _ h
  rw [e] at k1
  cases k1
  obtain ⟨u, hu⟩ := k4.some
  rw [hD] at hu
  cases hu
/-- slots that know nothing of the growing list stay -/
theorem SR.pushed {Wb : Wd} {Hb : Hp} {D : Addr} {acc : List PyData} {s : Sto} {σ : L2.St} {u u' : HO} (r : SR K fa W g s σ H) (gr : Gr K Wb Hb D W g acc (upd H D u')) (hD : H D = some u) (hs : ∀ (i : Nat) (o : Ob), s[i]? = some (Slot.own o) → σ[i]? ≠ some (some (V.ref D)) := by assumption) : SR K fa W g s σ (upd H D u') := by
  refine ⟨gr.ok, fun i x h => ?_, r.inj, r.len⟩
  have ok := r.sl i x h
  cases x with
  | un => trivial
  | v d => exact ok
  | own o =>
    obtain ⟨c, k1, k2, k3, k4⟩ := ok
    have nc : c ≠ D := fun z => by subst z; exact hs i o h k1
    exact ⟨c, k1, k2, k3, k4.step (Same.refl _) fun x z => by rw [upd_ne nc]; exact z⟩
theorem Gr.start {Wb : Wd} {Hb : Hp} {D : Addr} (o : GOk Wb g Hb) (hD : Hb D = none) : Gr K Wb Hb D Wb g [] (upd Hb D (.lst [])) := by
  obtain ⟨f1, f2⟩ := o.fresh hD
  exact ⟨Step.loose hD, o.loose hD, f1, f2, [], upd_same, .nil⟩
end
theorem compL_len (b : GD) (t : BD) (e : ED) (s : Sto) : ∀ (xs : List PyData) (g : G) (r : List PyData) (g' : G), compL b t e s xs g = some (r, g') → r.length ≤ xs.length
  | [], g, r, g', h => by cases h; exact Nat.le_refl _
  | x :: xs, g, r, g', h => by
    simp only [compL, Option.bind_eq_some_iff] at h
    obtain ⟨s1, _, c, _, h⟩ := h
    split at h
    · simp only [Option.bind_eq_some_iff] at h
      obtain ⟨d, _, h⟩ := h
      split at h
      · simp only [Option.bind_eq_some_iff, Option.some.injEq, Prod.mk.injEq] at h
        obtain ⟨⟨r', g2⟩, h1, rfl, rfl⟩ := h
        have := compL_len b t e s xs _ _ _ h1
        simp only [List.length_cons]
        omega
      · cases h
    · have := compL_len b t e s xs _ _ _ h
      simp only [List.length_cons]
      omega
section
variable {X : Cx} {fa : Nat → Option Addr} {tg iter elt : Expr} {ifs : List Expr} {scope : Scope} {own : List (Str × Nat)} {pos : Pos}
abbrev ETs (X : Cx) (fa : Nat → Option Addr) (ifs : List Expr) (f : BD) : Prop := PTs X ifs (tBo X.K fa f)
theorem ets_nil : ETs X fa [] bYes := ⟨fun pins s σ H Q I h => pts_nil.run pins s σ H Q I (by
  obtain ⟨W, g, s, b, g', r, e, q⟩ := h
  cases e
  exact q W H (Step.refl _ _) r.gok)⟩
theorem ets_one {c : Expr} {f : BD} (h : ET X fa c f) : ETs X fa [c] f := pts_one h
/-- one turn of the growing list -/
theorem lc_turn {K : PySem.W.Frag} {Wb : Wd} {Hb : Hp} {D : Addr} (hb : Hb D = none) {b : GD} {t : BD} {e : ED} {is vs : List Nat} {s0 : Sto} {σ0 : L2.St} (hv : ∀ i ∈ is, i ∈ vs) {x : V} {d : PyData} {xs : List PyData} {W : Wd} {g : G} {acc rest : List PyData} {gf : G} {H : Hp} {Nx : Hp → Prop}
    (w0 : L2.wipe σ0 vs = σ0) (r1 : SR K fa W g s0 σ0 H) (hs : ∀ (i : Nat) (o : Ob), s0[i]? = some (Slot.own o) → σ0[i]? ≠ some (some (V.ref D))) (gr : Gr K Wb Hb D W g acc H) (rx : Rp K W.F x d) (e0 : compL b t e s0 (d :: xs) g = some (rest, gf)) (hl : acc.length < sizeLine)
    (hn : ∀ W' g' acc' rest' H', Gr K Wb Hb D W' g' acc' H' → Same W.F W'.F → SR K fa W' g' s0 σ0 H' → compL b t e s0 xs g' = some (rest', gf) → acc' ++ rest' = acc ++ rest → acc'.length ≤ acc.length + 1 → Nx H') :
    tG K is b x σ0 H fun σ2 H2 => L2.wipe σ2 vs = σ0 ∧ tBo K fa t σ2 H2 fun c H3 => if c = true then tD K fa e σ2 H3 fun y H4 => ∃ ac, H4 D = some (.lst ac) ∧ ac.length < sizeLine ∧ Nx (upd H4 D (.lst (ac ++ [y]))) else Nx H3 := by
  simp only [compL, Option.bind_eq_some_iff] at e0
  obtain ⟨s1, e1, ⟨c, g1⟩, e2, e3⟩ := e0
  refine ⟨W.F, s0, d, s1, gr.ok.fro, rx, e1, fun σ2 ss => ⟨(ss.wipe hv).trans w0, ?_⟩⟩
  have r2 := SR.sets ss r1
  refine ⟨W, g, s1, c, g1, r2, e2, fun W1 H1 t1 o1 => ?_⟩
  have gr1 := gr.step t1 o1
  cases c with
  | true =>
    rw [if_pos rfl] at e3
    simp only [Option.bind_eq_some_iff] at e3
    obtain ⟨⟨z, g2⟩, e4, e5⟩ := e3
    refine L2.iteT ?_
    refine ⟨W1, g1, s1, z, g2, r2.step t1 o1, e4, fun W2 H2 v t2 o2 p2 => ?_⟩
    have gr2 := gr1.step t2 o2
    split at e5
    · rename_i p hp
      have hz : z = .py p := hp
      subst hz
      simp only [Option.bind_eq_some_iff, Option.some.injEq, Prod.mk.injEq] at e5
      obtain ⟨⟨r', g3⟩, e6, rfl, rfl⟩ := e5
      obtain ⟨ac, k1, k2, k3⟩ := gr2.push hb p2
      exact ⟨ac, k1, by rw [k2]; exact hl, hn _ _ _ _ _ k3 (t1.f.trans t2.f) (((r1.step t1 o1).step t2 o2).pushed k3 k1) e6 (by simp) (by simp)⟩
    · cases e5
  | false =>
    rw [if_neg Bool.false_ne_true] at e3
    exact L2.iteF (hn _ _ _ _ _ gr1 t1.f (r1.step t1 o1) e3 rfl (Nat.le_succ _))
theorem Sets.own_free {K : PySem.W.Frag} {F : Hp} {Dl : Addr} : ∀ {is : List Nat} {s s' : Sto} {σ σ' : L2.St}, Sets K F is s σ s' σ' → (∀ (i : Nat) (o : Ob), s[i]? = some (Slot.own o) → σ[i]? ≠ some (some (V.ref Dl))) → ∀ (i : Nat) (o : Ob), s'[i]? = some (Slot.own o) → σ'[i]? ≠ some (some (V.ref Dl))
  | _, _, _, _, _, .nil, h => h
  | _, _, _, _, _, .cons (i := k) r t, h => Sets.own_free t fun i o e => by
    by_cases z : i = k
    · subst z
      rw [List.getElem?_set_self (by
        have := (List.getElem?_eq_some_iff.mp e).1
        rwa [List.length_set] at this)] at e
      cases e
    · rw [List.getElem?_set_ne (Ne.symm z)] at e ⊢
      exact h i o e
theorem wipe_idem {σ : L2.St} : ∀ vs : List Nat, (∀ i, i ∈ vs → (L2.wipe σ vs)[i]? = some none ∨ (L2.wipe σ vs)[i]? = none)
  | [], i, h => by cases h
  | v :: vs, i, h => by
    unfold L2.wipe
    by_cases e : i = v
    · subst e
      by_cases hv : i < (L2.wipe σ vs).length
      · exact .inl (List.getElem?_set_self hv)
      · exact .inr (List.getElem?_eq_none (by rw [List.length_set]; omega))
    · rw [List.getElem?_set_ne (Ne.symm e)]
      exact wipe_idem vs i ((List.mem_cons.mp h).resolve_left e)
theorem wipe_same {τ : L2.St} : ∀ vs : List Nat, (∀ i, i ∈ vs → τ[i]? = some none ∨ τ[i]? = none) → L2.wipe τ vs = τ
  | [], _ => rfl
  | v :: vs, h => by
    unfold L2.wipe
    rw [wipe_same vs fun i hi => h i (List.mem_cons_of_mem _ hi)]
    apply List.ext_getElem?
    intro i
    by_cases e : i = v
    · subst e
      rcases h i List.mem_cons_self with z | z
      · rw [z, List.getElem?_set_self (List.getElem?_eq_some_iff.mp z).1]
      · rw [z]
        exact List.getElem?_eq_none (by rw [List.length_set]; exact List.getElem?_eq_none_iff.mp z)
    · rw [List.getElem?_set_ne (Ne.symm e)]
theorem wipe_twice (σ : L2.St) (vs : List Nat) : L2.wipe (L2.wipe σ vs) vs = L2.wipe σ vs := wipe_same vs (wipe_idem vs)
theorem wk_lc {K : PySem.W.Frag} {it : LD} {b : GD} {t : BD} {e : ED} {is vs : List Nat} (hv : ∀ i ∈ is, i ∈ vs) {σ : L2.St} {H : Hp} {Q : VK} (h : tO K fa (oComp it b t e vs) σ H Q) : tLc (tIt K fa it) (tG K is b) (tBo K fa t) (tD K fa e) vs σ H Q := by
  obtain ⟨W, g, s, o, g', r, e0, q⟩ := h
  simp only [oComp, Option.bind_eq_some_iff] at e0
  obtain ⟨⟨xs, g1⟩, e1, e2⟩ := e0
  split at e2
  · rename_i hlim
    simp only [Option.bind_eq_some_iff, Option.some.injEq, Prod.mk.injEq] at e2
    obtain ⟨⟨res, g2⟩, e3, rfl, rfl⟩ := e2
    refine ⟨W, g, s, xs, g1, r, e1, fun W1 H1 J s1 o1 wk => ?_⟩
    intro Dl hD
    obtain ⟨P, Y, w, hP, hY⟩ := wk.ex
    have r1 := (r.step s1 o1).wipe vs
    refine lc_it w (fun i H' => ∃ W2 g2' acc rest, Gr K W1 H1 Dl W2 g2' acc H' ∧ compL b t e (wipeS s vs) (xs.drop i) g2' = some (rest, g2) ∧ acc ++ rest = res ∧ acc.length ≤ i) ⟨W1, g1, [], res, Gr.start o1 hD, e3, rfl, Nat.le_refl _⟩ (fun i H' _ hh => ?_) (fun i x H' H2 hi hh hy => ?_) (fun H' hh => ?_)
    · obtain ⟨W2, g3, acc, rest, gr, _⟩ := hh
      exact hP H' fun a u z => gr.ok.fro a u (gr.st.f a u z)
    · obtain ⟨W2, g3, acc, rest, gr, e4, e5, e6⟩ := hh
      obtain ⟨d, k1, k2⟩ := drop_at hi
      rw [k2] at e4
      obtain ⟨W3, t3, o3, r3⟩ := hY i d W2 g3 H' x H2 k1 hy gr.st.f gr.ok
      have gr3 := gr.step t3 o3
      have hl : acc.length < sizeLine := by
        have : i < lim := Nat.lt_of_lt_of_le hi hlim
        exact Nat.lt_of_le_of_lt e6 (Nat.lt_of_lt_of_le this (lim_ok (Nat.le_refl _)))
      exact lc_turn (Nx := fun H' => ∃ W2 g2' acc rest, Gr K W1 H1 Dl W2 g2' acc H' ∧ compL b t e (wipeS s vs) (xs.drop (i + 1)) g2' = some (rest, g2) ∧ acc ++ rest = res ∧ acc.length ≤ i + 1) hD hv (wipe_twice σ vs) (r1.step gr3.st gr3.ok) (r1.free hD) gr3 r3 e4 hl fun W' g' acc' rest' H' k3 _ _ k4 k5 k6 => ⟨W', g', acc', rest', k3, k4, k5.trans e5, by omega⟩
    · obtain ⟨W2, g3, acc, rest, gr, e4, e5, e6⟩ := hh
      rw [List.drop_of_length_le (Nat.le_refl _)] at e4
      simp only [compL, Option.some.injEq, Prod.mk.injEq] at e4
      obtain ⟨rfl, rfl⟩ := e4
      rw [List.append_nil] at e5
      subst e5
      exact q W2 H' Dl (s1.trans gr.st) gr.ok gr.fn gr.mn (s1.th _ hD) gr.at'
  · cases e2
theorem wk_lc2 {K : PySem.W.Frag} {it it1 : LD} {b b1 : GD} {t t1 : BD} {e : ED} {is is1 vs vs1 : List Nat} (hv : ∀ i ∈ is, i ∈ vs) (hv1 : ∀ i ∈ is1, i ∈ vs1) {σ : L2.St} {H : Hp} {Q : VK} (h : tO K fa (oComp2 it b t it1 vs1 b1 t1 e vs) σ H Q) :
    tLc2 (tIt K fa it) (tG K is b) (tBo K fa t) (tIt K fa it1) (tG K is1 b1) (tBo K fa t1) (tD K fa e) vs vs1 σ H Q := by
  obtain ⟨W, g, s, o, g', r, e0, q⟩ := h
  simp only [oComp2, Option.bind_eq_some_iff] at e0
  obtain ⟨⟨xs, g1⟩, e1, ⟨res, g2⟩, e3, e2⟩ := e0
  split at e2
  · rename_i hlim
    simp only [Option.some.injEq, Prod.mk.injEq] at e2
    obtain ⟨rfl, rfl⟩ := e2
    refine ⟨W, g, s, xs, g1, r, e1, fun W1 H1 J s1 o1 wk => ?_⟩
    intro Dl hD
    obtain ⟨P, Y, w, hP, hY⟩ := wk.ex
    have r1 := (r.step s1 o1).wipe vs
    refine ⟨fun i m H' => m = xs.length - i ∧ i ≤ xs.length ∧ ∃ W2 g2' acc rest, Gr K W1 H1 Dl W2 g2' acc H' ∧ comp2L b t it1 vs1 b1 t1 e (wipeS s vs) (xs.drop i) g2' = some (rest, g2) ∧ acc ++ rest = res, ⟨xs.length, by simp, Nat.zero_le _, W1, g1, [], res, Gr.start o1 hD, e3, rfl⟩, ?_⟩
    rintro i m H' ⟨rfl, hi, W2, g3, acc, rest, gr, e4, e5⟩
    have hPH : P H' := hP H' fun a u z => gr.ok.fro a u (gr.st.f a u z)
    by_cases hlt : i < xs.length
    · obtain ⟨d, k1, k2⟩ := drop_at hlt
      rw [k2] at e4
      simp only [comp2L, Option.bind_eq_some_iff] at e4
      obtain ⟨s2, f1, ⟨c, g4⟩, f2, f3⟩ := e4
      refine .inr ⟨w.goes i H' hlt hPH, fun H'' => ∃ W2 g2' acc rest, Gr K W1 H1 Dl W2 g2' acc H'' ∧ comp2L b t it1 vs1 b1 t1 e (wipeS s vs) (xs.drop (i + 1)) g2' = some (rest, g2) ∧ acc ++ rest = res, fun H'' hh => ⟨xs.length - (i + 1), by omega, rfl, hlt, hh⟩, fun x H2 hy => ?_⟩
      obtain ⟨W3, t3, o3, r3⟩ := hY i d W2 g3 H' x H2 k1 (w.yields i H' x H2 hlt hPH hy) gr.st.f gr.ok
      have gr3 := gr.step t3 o3
      have rr := r1.step gr3.st gr3.ok
      refine ⟨W3.F, wipeS s vs, d, s2, o3.fro, r3, f1, fun σ2 ss => ⟨(ss.wipe hv).trans (wipe_twice σ vs), ?_⟩⟩
      have rr2 := SR.sets ss rr
      refine ⟨W3, g3, s2, c, g4, rr2, f2, fun W4 H4 t4 o4 => ?_⟩
      have gr4 := gr3.step t4 o4
      have rr4 := rr2.step t4 o4
      cases c with
      | true =>
        rw [if_pos rfl] at f3
        simp only [Option.bind_eq_some_iff, Option.some.injEq, Prod.mk.injEq] at f3
        obtain ⟨⟨ys, g5⟩, f4, ⟨part, g6⟩, f5, ⟨rest2, g7⟩, f6, rfl, rfl⟩ := f3
        refine L2.iteT ?_
        refine ⟨W4, g4, s2, ys, g5, rr4, f4, fun W5 H5 J1 t5 o5 wk1 => ?_⟩
        obtain ⟨P1, Y1, w1, hP1, hY1⟩ := wk1.ex
        have gr5 := gr4.step t5 o5
        have rr5 := (rr4.step t5 o5).wipe vs1
        have hnD : ∀ (i : Nat) (o : Ob), (wipeS s2 vs1)[i]? = some (Slot.own o) → (L2.wipe σ2 vs1)[i]? ≠ some (some (V.ref Dl)) := fun j o hj hj2 => by
          -- an own slot of the block was there before the new list
          rcases wipeS_get hj with z | ⟨z1, z2⟩
          · cases z
          · rw [wipe_out z2] at hj2
            exact ss.own_free (r1.free hD) j o z1 hj2
        refine ⟨fun j k H'' => k = ys.length - j ∧ j ≤ ys.length ∧ ∃ W6 g8 acc6 rest6, Gr K W1 H1 Dl W6 g8 acc6 H'' ∧ Same W5.F W6.F ∧ SR K fa W6 g8 (wipeS s2 vs1) (L2.wipe σ2 vs1) H'' ∧ compL b1 t1 e (wipeS s2 vs1) (ys.drop j) g8 = some (rest6, g6) ∧ acc6 ++ rest6 = acc ++ part,
          ⟨ys.length, by simp, Nat.zero_le _, W5, g5, acc, part, gr5, Same.refl _, rr5, f5, rfl⟩, ?_⟩
        rintro j k H6 ⟨rfl, hj, W6, g8, acc6, rest6, gr6, fs6, rr6, e6, e7⟩
        have hP6 : P1 H6 := hP1 H6 fun a u z => gr6.ok.fro a u (fs6 a u z)
        by_cases hlt1 : j < ys.length
        · obtain ⟨d1, l1, l2⟩ := drop_at hlt1
          rw [l2] at e6
          refine .inr ⟨w1.goes j H6 hlt1 hP6, fun H'' => ∃ W6 g8 acc6 rest6, Gr K W1 H1 Dl W6 g8 acc6 H'' ∧ Same W5.F W6.F ∧ SR K fa W6 g8 (wipeS s2 vs1) (L2.wipe σ2 vs1) H'' ∧ compL b1 t1 e (wipeS s2 vs1) (ys.drop (j + 1)) g8 = some (rest6, g6) ∧ acc6 ++ rest6 = acc ++ part, fun H'' hh => ⟨ys.length - (j + 1), by omega, rfl, hlt1, hh⟩, fun x1 H7 hy1 => ?_⟩
          obtain ⟨W7, t7, o7, r7⟩ := hY1 j d1 W6 g8 H6 x1 H7 l1 (w1.yields j H6 x1 H7 hlt1 hP6 hy1) fs6 gr6.ok
          have gr7 := gr6.step t7 o7
          have rr7 := rr6.step t7 o7
          refine lc_turn hD hv1 (wipe_twice σ2 vs1) rr7 hnD gr7 r7 e6 ?_ fun W' g' acc' rest' H' k3 kf kr k4 k5 k6 => ⟨W', g', acc', rest', k3, (fs6.trans t7.f).trans kf, kr, k4, k5.trans e7⟩
          have q1 : acc6.length ≤ res.length := by
            rw [← e5]
            have := congrArg List.length e7
            simp only [List.length_append] at this ⊢
            omega
          exact Nat.lt_of_le_of_lt (Nat.le_trans q1 hlim) (by rw [sizeLine_eq]; decide)
        · have ej : j = ys.length := by omega
          subst ej
          rw [List.drop_of_length_le (Nat.le_refl _)] at e6
          simp only [compL, Option.some.injEq, Prod.mk.injEq] at e6
          obtain ⟨rfl, rfl⟩ := e6
          rw [List.append_nil] at e7
          subst e7
          exact .inl ⟨w1.stops H6 hP6, W6, _, _, rest2, gr6, f6, by rw [← e5, List.append_assoc]⟩
      | false =>
        rw [if_neg Bool.false_ne_true] at f3
        exact L2.iteF ⟨W4, g4, acc, rest, gr4, f3, e5⟩
    · have ei : i = xs.length := by omega
      subst ei
      rw [List.drop_of_length_le (Nat.le_refl _)] at e4
      simp only [comp2L, Option.some.injEq, Prod.mk.injEq] at e4
      obtain ⟨rfl, rfl⟩ := e4
      rw [List.append_nil] at e5
      subst e5
      exact .inl ⟨w.stops H' hPH, q W2 H' Dl (s1.trans gr.st) gr.ok gr.fn gr.mn (s1.th _ hD) gr.at'⟩
  · cases e2
theorem eo_lc {it : LD} {b : GD} {t : BD} {e : ED} {is : List Nat} (hc : X.calm = true) (hN : X.N.Nodup) (hi : EI X fa tg iter it) (ok : BlkOk X.N X.env.scope scope own) (hv : ∀ i ∈ is, i ∈ own.map (·.2))
    (hg : ∀ (s : Shared) (H : Hp) (C : Addr) (cl : List (Str × Addr)) (fp : List Addr), EG (X.blk s H scope (compEnvC scope cl C X.env) fp) tg is b) (ht : ∀ (s : Shared) (H : Hp) (C : Addr) (cl : List (Str × Addr)) (fp : List Addr), ETs (X.blk s H scope (compEnvC scope cl C X.env) fp) fa ifs t)
    (he : ∀ (s : Shared) (H : Hp) (C : Addr) (cl : List (Str × Addr)) (fp : List Addr), EE (X.blk s H scope (compEnvC scope cl C X.env) fp) fa elt e) (hs : ∀ x, foldedSetIterable iter X.env x = pure x := by intro _; rfl) :
    EO X fa (.ListComp elt [⟨tg, iter, ifs, 0⟩] scope pos) (oComp it b t e (own.map (·.2))) :=
  PE.wk (pe_lc hc hN hi ok hg ht he hs) fun _ _ _ h => wk_lc hv h
theorem eo_lc2 {tg1 iter1 : Expr} {ifs1 : List Expr} {vs1 : List Nat} {it it1 : LD} {b b1 : GD} {t t1 : BD} {e : ED} {is is1 : List Nat} (hc : X.calm = true) (hN : X.N.Nodup) (hi : EI X fa tg iter it) (ok : BlkOk X.N X.env.scope scope own) (hv : ∀ i ∈ is, i ∈ own.map (·.2)) (hv0 : ∀ i ∈ vs1, i ∈ own.map (·.2)) (hv1 : ∀ i ∈ is1, i ∈ vs1)
    (hg : ∀ (s : Shared) (H : Hp) (C : Addr) (cl : List (Str × Addr)) (fp : List Addr), EG (X.blk s H scope (compEnvC scope cl C X.env) fp) tg is b) (ht : ∀ (s : Shared) (H : Hp) (C : Addr) (cl : List (Str × Addr)) (fp : List Addr), ETs (X.blk s H scope (compEnvC scope cl C X.env) fp) fa ifs t)
    (hi1 : ∀ (s : Shared) (H : Hp) (C : Addr) (cl : List (Str × Addr)) (fp : List Addr), EI (X.blk s H scope (compEnvC scope cl C X.env) fp) fa tg1 iter1 it1)
    (hg1 : ∀ (s : Shared) (H : Hp) (C : Addr) (cl : List (Str × Addr)) (fp : List Addr), EG (X.blk s H scope (compEnvC scope cl C X.env) fp) tg1 is1 b1) (ht1 : ∀ (s : Shared) (H : Hp) (C : Addr) (cl : List (Str × Addr)) (fp : List Addr), ETs (X.blk s H scope (compEnvC scope cl C X.env) fp) fa ifs1 t1)
    (he : ∀ (s : Shared) (H : Hp) (C : Addr) (cl : List (Str × Addr)) (fp : List Addr), EE (X.blk s H scope (compEnvC scope cl C X.env) fp) fa elt e) (hs : ∀ x, foldedSetIterable iter X.env x = pure x := by intro _; rfl) (hs1 : ∀ env x, foldedSetIterable iter1 env x = pure x := by intro _ _; rfl) :
    EO X fa (.ListComp elt [⟨tg, iter, ifs, 0⟩, ⟨tg1, iter1, ifs1, 0⟩] scope pos) (oComp2 it b t it1 vs1 b1 t1 e (own.map (·.2))) :=
  PE.wk (pe_lc2 hc hN hi ok hv0 hg ht hi1 hg1 ht1 he hs hs1) fun _ _ _ h => wk_lc2 hv hv1 h
/-- name = [..], stored at once -/
theorem wk_mo {K : PySem.W.Frag} {f : OD} {σ : L2.St} {H : Hp} {Q : VK} (h : tM K fa (mO f) σ H Q) : tO K fa f σ H Q := by
  obtain ⟨W, g, s, d, g', r, e, q⟩ := h
  simp only [mO, Option.bind_eq_some_iff, Option.some.injEq, Prod.mk.injEq] at e
  obtain ⟨⟨x, g1⟩, e1, rfl, rfl⟩ := e
  exact ⟨W, g, s, x, g1, r, e1, fun W1 H1 a s1 o1 n1 n2 n3 ob => q W1 H1 (.ref a) s1 o1 ⟨a, rfl, n1, n2, ob⟩ fun c _ z => by cases z; exact n3⟩
theorem wk_mv {K : PySem.W.Frag} {f : ED} {σ : L2.St} {H : Hp} {Q : VK} (h : tM K fa (mV f) σ H Q) : tD K fa f σ H Q := by
  obtain ⟨W, g, s, d, g', r, e, q⟩ := h
  simp only [mV, Option.bind_eq_some_iff, Option.some.injEq, Prod.mk.injEq] at e
  obtain ⟨⟨x, g1⟩, e1, rfl, rfl⟩ := e
  exact ⟨W, g, s, x, g1, r, e1, fun W1 H1 v s1 o1 p1 => q W1 H1 v s1 o1 ⟨v, rfl, p1⟩ fun a z => by obtain ⟨o, z⟩ := z; cases z⟩
/-- how a comprehension's list goes into the slot -/
inductive How (f : OD) : MD → Prop
  | own : How f (mO f)
  | val : How f (mV (eO f))
theorem How.wk {K : PySem.W.Frag} {f : OD} {m : MD} (h : How f m) {σ : L2.St} {H : Hp} {Q : VK} (q : tM K fa m σ H Q) : tO K fa f σ H Q := by
  cases h with
  | own => exact wk_mo q
  | val => exact wk_O (wk_mv q)
theorem es_setLc {i : Nat} {y : Str} {py spos : Pos} {m : MD} {it : LD} {b : GD} {t : BD} {e : ED} {is : List Nat} (hm : How (oComp it b t e (own.map (·.2))) m) (hc : X.calm = true) (hN : X.N.Nodup) (hy : X.N[i]? = some y) (hyl : X.env.scope.names.lookup y = some .local)
    (hsw : swapsWith (.ListComp elt [⟨tg, iter, ifs, 0⟩] scope pos) (some (.Name y py)) spos.line X.env = pure true) (hi : EI X fa tg iter it) (ok : BlkOk X.N X.env.scope scope own) (hv : ∀ i ∈ is, i ∈ own.map (·.2))
    (hg : ∀ (s : Shared) (H : Hp) (C : Addr) (cl : List (Str × Addr)) (fp : List Addr), EG (X.blk s H scope (compEnvC scope cl C X.env) fp) tg is b) (ht : ∀ (s : Shared) (H : Hp) (C : Addr) (cl : List (Str × Addr)) (fp : List Addr), ETs (X.blk s H scope (compEnvC scope cl C X.env) fp) fa ifs t)
    (he : ∀ (s : Shared) (H : Hp) (C : Addr) (cl : List (Str × Addr)) (fp : List Addr), EE (X.blk s H scope (compEnvC scope cl C X.env) fp) fa elt e) (hs : ∀ x, foldedSetIterable iter X.env x = pure x := by intro _; rfl) :
    ES X fa (.Assign [.Name y py] (.ListComp elt [⟨tg, iter, ifs, 0⟩] scope pos) spos) (sSet i m) :=
  PS.wk (ps_setLc hc hN hy hyl hsw hi ok hg ht he hs) fun D σ H h => wk_lc hv (hm.wk (wk_set h))
theorem es_setLc2 {i : Nat} {y : Str} {py spos : Pos} {m : MD} {tg1 iter1 : Expr} {ifs1 : List Expr} {vs1 : List Nat} {it it1 : LD} {b b1 : GD} {t t1 : BD} {e : ED} {is is1 : List Nat} (hm : How (oComp2 it b t it1 vs1 b1 t1 e (own.map (·.2))) m) (hc : X.calm = true) (hN : X.N.Nodup) (hy : X.N[i]? = some y) (hyl : X.env.scope.names.lookup y = some .local)
    (hsw : swapsWith (.ListComp elt [⟨tg, iter, ifs, 0⟩, ⟨tg1, iter1, ifs1, 0⟩] scope pos) (some (.Name y py)) spos.line X.env = pure true) (hi : EI X fa tg iter it) (ok : BlkOk X.N X.env.scope scope own) (hv : ∀ i ∈ is, i ∈ own.map (·.2)) (hv0 : ∀ i ∈ vs1, i ∈ own.map (·.2)) (hv1 : ∀ i ∈ is1, i ∈ vs1)
    (hg : ∀ (s : Shared) (H : Hp) (C : Addr) (cl : List (Str × Addr)) (fp : List Addr), EG (X.blk s H scope (compEnvC scope cl C X.env) fp) tg is b) (ht : ∀ (s : Shared) (H : Hp) (C : Addr) (cl : List (Str × Addr)) (fp : List Addr), ETs (X.blk s H scope (compEnvC scope cl C X.env) fp) fa ifs t)
    (hi1 : ∀ (s : Shared) (H : Hp) (C : Addr) (cl : List (Str × Addr)) (fp : List Addr), EI (X.blk s H scope (compEnvC scope cl C X.env) fp) fa tg1 iter1 it1)
    (hg1 : ∀ (s : Shared) (H : Hp) (C : Addr) (cl : List (Str × Addr)) (fp : List Addr), EG (X.blk s H scope (compEnvC scope cl C X.env) fp) tg1 is1 b1) (ht1 : ∀ (s : Shared) (H : Hp) (C : Addr) (cl : List (Str × Addr)) (fp : List Addr), ETs (X.blk s H scope (compEnvC scope cl C X.env) fp) fa ifs1 t1)
    (he : ∀ (s : Shared) (H : Hp) (C : Addr) (cl : List (Str × Addr)) (fp : List Addr), EE (X.blk s H scope (compEnvC scope cl C X.env) fp) fa elt e) (hs : ∀ x, foldedSetIterable iter X.env x = pure x := by intro _; rfl) (hs1 : ∀ env x, foldedSetIterable iter1 env x = pure x := by intro _ _; rfl) :
    ES X fa (.Assign [.Name y py] (.ListComp elt [⟨tg, iter, ifs, 0⟩, ⟨tg1, iter1, ifs1, 0⟩] scope pos) spos) (sSet i m) :=
  PS.wk (ps_setLc2 hc hN hy hyl hsw hi ok hv0 hg ht hi1 hg1 ht1 he hs hs1) fun D σ H h => wk_lc2 hv hv1 (hm.wk (wk_set h))
end
end DS

namespace DS
open PySem PySem.Spec PyProof.Rows L2

/-! ### defs: as FnOk, with no repr under way -/
structure Fg (P : Program) (w : World) (K : PySem.W.Frag) (mg : PySem.Str → Option Value) (base : Heap) (CX : CXT) (k : Nat) (f : Addr) (fd : FuncData) (ps : List PySem.Str) (sp : Sp) : Prop where
  len : ∀ vs H Q E, sp vs H Q E → vs.length = ps.length
  run : ∀ (A : Around) (outer : List Env) (s : Shared) (H : Hp) (args : Args) (us : List Value) (vs : List L2.V) (Q : VK) (E : XK),
    Room k A → A.guards = some [] → Env0 P w K mg base A outer s H → BindsTo s fd args (ps.zip us) → Vals vs us → sp vs H Q E →
    codeAny (model P w) A (.call (.ref f) args) (CR CX outer P w H s Q E) s
theorem Fg.mono {P : Program} {w : World} {K : PySem.W.Frag} {mg : PySem.Str → Option Value} {base : Heap} {CX : CXT} {j k : Nat} {f : Addr} {fd : FuncData} {ps : List PySem.Str} {sp : Sp} (F : Fg P w K mg base CX j f fd ps sp) (h : j ≤ k) : Fg P w K mg base CX k f fd ps sp :=
  ⟨F.len, fun A outer s H args us vs Q E hr hg => F.run A outer s H args us vs Q E (hr.mono h) hg⟩
/-- the promise: what the plain function gives -/
def spM (K : PySem.W.Frag) (fa : Nat → Option Addr) (n : Nat) (f : FD) : Sp := fun vs H Q _ => vs.length = n ∧ ∃ W g ds d g', RpDs K fa W ds vs ∧ GOk W g H ∧ f ds g = some (d, g') ∧ ∀ W' H' v, Step W H W' H' → GOk W' g' H' → RpD K fa W' d v → Q v H'
def startS (n : Nat) (ds : List D) : Sto := ds.map Slot.v ++ List.replicate (n - ds.length) .un
/-- a def's plain function, by its body -/
def runD (n : Nat) (b : SD) : FD := fun ds g => (b (startS n ds) g).bind fun x => match x.1 with
  | .rt d => some (d, x.2)
  | .nx _ => some (.py .none, x.2)
  | _ => none
section
variable {P : Program} {w : World} {K : PySem.W.Frag} {mg : PySem.Str → Option Value} {base : Heap} {fa : Nat → Option Addr}
theorem rds_get {W : Wd} : ∀ {ds : List D} {vs : List L2.V} {i : Nat} {d : D}, RpDs K fa W ds vs → ds[i]? = some d → ∃ v, vs[i]? = some v ∧ RpD K fa W d v
  | _, _, _, _, .nil, e => by simp at e
  | _, _, 0, _, .cons r _, e => by simp at e; subst e; exact ⟨_, rfl, r⟩
  | _, _, i + 1, d, .cons _ t, e => by
    obtain ⟨v, h1, h2⟩ := rds_get (i := i) (d := d) t (by simpa using e)
    exact ⟨v, by simpa using h1, h2⟩
theorem SR.start {W : Wd} {g : G} {H : Hp} {N : List PySem.Str} {ds : List D} {vs : List L2.V} (r : RpDs K fa W ds vs) (o : GOk W g H) : SR K fa W g (startS N.length ds) (L2.start N vs) H := by
  have hl := r.length
  have look : ∀ (i : Nat) (x : Slot), (startS N.length ds)[i]? = some x → x = .un ∨ ∃ d, x = .v d ∧ ds[i]? = some d := fun i x h => by
    unfold startS at h
    by_cases hi : i < ds.length
    · rw [List.getElem?_append_left (by simpa using hi), List.getElem?_map, Option.map_eq_some_iff] at h
      obtain ⟨d, h1, h2⟩ := h
      exact .inr ⟨d, h2.symm, h1⟩
    · rw [List.getElem?_append_right (by simpa using hi), List.getElem?_replicate] at h
      split at h
      · cases h; exact .inl rfl
      · cases h
  refine ⟨o, fun i x h => ?_, fun i j o1 o2 a h1 => ?_, ?_⟩
  · rcases look i x h with rfl | ⟨d, rfl, h1⟩
    · trivial
    · obtain ⟨v, k1, k2⟩ := rds_get r h1
      refine ⟨v, ?_, k2⟩
      unfold L2.start
      rw [List.getElem?_append_left (by rw [List.length_map]; exact (List.getElem?_eq_some_iff.mp k1).1), List.getElem?_map, k1]
      rfl
  · rcases look i _ h1 with z | ⟨d, z, _⟩ <;> cases z
  · unfold startS L2.start
    rw [List.length_append, List.length_append, List.length_map, List.length_map, List.length_replicate, List.length_replicate, hl]
theorem SB.start {W : Wd} {g : G} {H : Hp} {N : List PySem.Str} {ds : List D} {vs : List L2.V} (r : RpDs K fa W ds vs) (o : GOk W g H) : SB K fa W H W g (startS N.length ds) (L2.start N vs) H :=
  ⟨SR.start r o, Step.refl _ _, fun i ob a h => by
    have hh := h
    unfold startS at hh
    by_cases hi : i < ds.length
    · rw [List.getElem?_append_left (by simpa using hi), List.getElem?_map, Option.map_eq_some_iff] at hh
      obtain ⟨d, h1, h2⟩ := hh
      cases h2
    · rw [List.getElem?_append_right (by simpa using hi), List.getElem?_replicate] at hh
      split at hh
      · cases hh
      · cases hh⟩
/-- THE RULE for a def -/
theorem fg_of {x qual : PySem.Str} {st : Stmt} {f : Addr} {fd : FuncData} {N ps : List PySem.Str} {k : Nat} {sp : Sp} (F : Fun K x qual st f fd) (S : FnScope N ps (defScope st)) (len : ∀ vs H Q E, sp vs H Q E → vs.length = ps.length)
    (hbody : ∀ (cdv : Value) (A : Around) (outer : List Env) (s : Shared) (H : Hp) (vs : List L2.V) (Q : VK) (E : XK),
      Room k (A.deeper (envOfC qual (defScope st) s.heap.objs.size f cdv)) → A.guards = some [] → sp vs H Q E →
      ∃ t, PSs (cxOf CX0 P w K mg base N qual (defScope st) f cdv A outer s H E).nox (defBody st) t ∧ t { nx := fun _ H' => Q .non H', rt := Q } (L2.start N vs) H) : Fg P w K mg base CX0 (k + 1) f fd ps sp := by
  obtain ⟨oc, od, kV, doc, pm, an, cdv, ct, osl, rfl, lk, hcd⟩ := F.ex
  refine ⟨len, fun A outer s H args us vs Q E hr hgd e0 hb r hsp => ?_⟩
  have hl := len _ _ _ _ hsp
  have keep0 : ∀ b o, base.get? b = some o → s.heap.get? b = some o := fun b o e => (e0.bs b o e).1
  have KX : K.In s.heap := e0.mod.kin.keeps keep0
  have lim : s.heap.NoLimit := e0.mod.nolimit.keeps keep0
  have hkind : ∀ y ∈ ps.zip us, (defScope st).names.lookup y.1 = some .local ∨ ((defScope st).names.lookup y.1 = some .cell ∧ ((cellsFrom (s.heap.objs.size + 1) (defScope st).names []).lookup y.1).isSome = true) := by
    intro y hy
    have hm : y.1 ∈ ps := (List.of_mem_zip (show (y.1, y.2) ∈ ps.zip us from hy)).1
    rcases S.par y.1 hm with q | q
    · exact .inl q
    · exact .inr ⟨q, PySem.W.cellsFrom_some _ _ _ (.inl q)⟩
  refine codeAny_call_function hr.depth (KX _ _ lk) rfl S.co S.gen rfl
    (PySem.W.codeRec_of KX hcd) (hb _ _ _ _ ?_)
  refine wpAny_newFunctionEnv_cells S.kind hkind
    fun env he s1 x => ?_
  subst he
  refine ⟨lim.keeps x.toInCall.keep,
    codeAny_func ?_⟩
  obtain ⟨t, ht, hq⟩ := hbody cdv A outer s H vs Q E (hr.deeper _) hgd hsp
  have I := inv_start (CX := CX0) (P := P) (w := w) (mg := mg) (E := E) S hr.hd e0 hl r x
  refine wpAny_mono (ht.nox.run [] s1 (L2.start N vs) H _ I hq)
    (fun fl s' hs => ?_) fun e s' hs => hs
  cases fl with
  | ret u =>
    obtain ⟨v, σ', H', J, rv, q⟩ := hs
    exact ⟨v, H', J.os, J.bare, J.base, J.hok, rv, q⟩
  | next =>
    obtain ⟨σ', H', J, q⟩ := hs
    exact ⟨V.non, H', J.os, J.bare, J.base, J.hok, rfl, q⟩
  | brk => obtain ⟨_, _, _, q⟩ := hs; exact q.elim
  | cont => obtain ⟨_, _, _, q⟩ := hs; exact q.elim
/-- .. by its body's plain function -/
theorem fg_def {x qual : PySem.Str} {st : Stmt} {f : Addr} {fd : FuncData} {N ps : List PySem.Str} {k : Nat} {b : SD} (F : Fun K x qual st f fd) (S : FnScope N ps (defScope st))
    (hbody : ∀ (cdv : Value) (A : Around) (outer : List Env) (s : Shared) (H : Hp) (E : XK),
      Room k (A.deeper (envOfC qual (defScope st) s.heap.objs.size f cdv)) → A.guards = some [] → EB (cxOf CX0 P w K mg base N qual (defScope st) f cdv A outer s H E).nox fa (defBody st) b) : Fg P w K mg base CX0 (k + 1) f fd ps (spM K fa ps.length (runD N.length b)) :=
  fg_of F S (fun vs H Q E h => h.1) fun cdv A outer s H vs Q E hr hg h => by
    obtain ⟨_, W, g, ds, d, g', r, o, e, q⟩ := h
    refine ⟨_, hbody cdv A outer s H E hr hg, ?_⟩
    simp only [runD, Option.bind_eq_some_iff] at e
    obtain ⟨⟨y, g1⟩, e1, e2⟩ := e
    refine ⟨W, H, W, g, startS N.length ds, y, g1, SB.start r o, e1, ?_⟩
    cases y with
    | rt z =>
      cases e2
      exact fun W' H' v st ok rp => q W' H' v st ok rp
    | nx s' =>
      cases e2
      exact fun W' σ' H' bb => q W' H' .non bb.st bb.sr.gok Rp.non
    | bk s' => cases e2
    | ct s' => cases e2
end

/-! ### calls -/
section
variable {X : Cx} {fa : Nat → Option Addr} {k : Nat} {f : Addr} {fd : FuncData} {ps ks : List PySem.Str} {x : PySem.Str} {p pos : Pos} {e : Expr} {es : List Expr} {kws : List Keyword}
theorem run_g {sp : Sp} {pins : List (Addr × Obj)} {σ : L2.St} {H : Hp} {s : Shared} {Q : VK} {args : Args} {us : List Value} {vs : List L2.V} (F : Fg X.prog X.w X.K X.mg X.base CX0 k f fd ps sp) (hr : Room k X.A) (hg : X.A.guards = some [])
    (I : Inv X pins σ H s) (hb : BindsTo s fd args (ps.zip us)) (r : Vals vs us) (h : sp vs H Q E0) : codeAny (model X.prog X.w) X.A (.call (.ref f) args) (fun r s' => match r with | .ok (.ret u) => EP X pins σ Q u s' | .ok _ => False | .error e => X.xe e s') s := by
  refine codeAny_mono (F.run X.A X.stack s H args us vs Q E0 hr hg I.env0 hb r h) fun r s' hq => ?_
  cases r with
  | error e => exact (show False from hq).elim
  | ok fl =>
    cases fl with
    | ret u => exact I.after hq
    | next => exact (show False from hq).elim
    | brk => exact (show False from hq).elim
    | cont => exact (show False from hq).elim
/-- f(e, ..) -/
def tFn (sp : Sp) (t : TA) : TE := fun σ H Q => t σ H fun vs H1 => sp vs H1 Q E0
theorem pe_g {sp : Sp} {t : TA} (F : Fg X.prog X.w X.K X.mg X.base CX0 k f fd ps sp) (hr : Room k X.A) (hgd : X.A.guards = some []) (hm : X.mg x = some (.ref f)) (hk : PySem.W.keepIn X.K (.ref f) = true) (hb : Binds X.K fd ps [])
    (ha : PA X (e :: es) t) (hg : Gl X x := by rfl) (hdb : (x == ("__debug__" : PySem.Str)) = false := by decide) (he : starEach (e :: es) X.env = (false, eval e X.env) :: starEach es X.env := by rfl) (hpl : (backTo pos (starEach es X.env)).any (·.1) = false := by rfl) :
    PE X (.Call (.Name x p) (e :: es) [] pos) (tFn sp t) := by
  refine ⟨fun pins s σ H Q I h => ?_⟩
  refine wpAny_Call_Name_kw (ld_glob I hg hm ?_ hdb)
  refine PySem.W.callWith_K (h₀ := X.base) I.ok.mod.kin hk
    (thn (ha.run pos pins s σ H _ I h) fun us s1 hh => ?_) he hpl
  obtain ⟨vs, H1, I1, r, q⟩ := hh
  refine ⟨I1.kIn, wpAny_call ?_⟩
  have hl : (us ++ []).length = ps.length := by
    rw [List.append_nil, ← r.length]
    exact F.len _ _ _ _ q
  have hbt := hb s1 us I1.kIn hl
  rw [List.append_nil] at hbt
  exact run_g F hr hgd I1 hbt r q
/-- f(e, .., k = v, ..), f(k = v, ..) -/
def tFnK (sp : Sp) (gV : List L2.V → List L2.V → List L2.V) (t tk : TA) : TE := fun σ H Q => t σ H fun vs H1 => tk σ H1 fun zs H2 => sp (gV vs zs) H2 Q E0
theorem pe_gK {sp : Sp} {t tk : TA} {g : List Value → List Value → List Value} {gV : List L2.V → List L2.V → List L2.V} (F : Fg X.prog X.w X.K X.mg X.base CX0 k f fd ps sp) (hr : Room k X.A) (hgd : X.A.guards = some []) (hm : X.mg x = some (.ref f)) (hk : PySem.W.keepIn X.K (.ref f) = true) (hb : KBinds X.K fd ps ks g gV)
    (ha : PA X (e :: es) t) (hkw : PK X kws tk) (hg : Gl X x := by rfl) (hall : (backToKw pos (keywordEach kws X.env)).all (·.1.isSome) = true := by rfl) (hks : (backToKw pos (keywordEach kws X.env)).filterMap (·.1) = ks := by rfl)
    (hdb : (x == ("__debug__" : PySem.Str)) = false := by decide) (he : starEach (e :: es) X.env = (false, eval e X.env) :: starEach es X.env := by rfl)
    (hpl : ((backTo pos (starEach (e :: es) X.env)).any (·.1) || (backToKw pos (keywordEach kws X.env)).any (·.1.isNone)) = false := by rfl) :
    PE X (.Call (.Name x p) (e :: es) kws pos) (tFnK sp gV t tk) := by
  refine ⟨fun pins s σ H Q I h => ?_⟩
  refine wpAny_Call_Name_kw (ld_glob I hg hm ?_ hdb)
  refine PySem.W.callWith_KW (h₀ := X.base) I.ok.mod.kin hk hall
    (thn (ha.run pos pins s σ H _ I h) fun us s1 hh => ?_) hpl he
  obtain ⟨vs, H1, I1, r, q⟩ := hh
  refine thn (hkw.run pos pins s1 σ H1 _ I1 q) fun ws s2 hh2 => ?_
  obtain ⟨zs, H2, I2, rz, q2⟩ := hh2
  refine ⟨I2.kIn, ?_⟩
  rw [hks]
  have r2 := hb.rel r rz
  have hl : (g us ws).length = ps.length := by
    rw [← r2.length]
    exact F.len _ _ _ _ q2
  exact wpAny_call (run_g F hr hgd I2 (hb.to s2 us ws I2.kIn hl) r2 q2)
/-- by plain functions -/
theorem ee_g {h : FD} {t : AD} (F : Fg X.prog X.w X.K X.mg X.base CX0 k f fd ps (spM X.K fa ps.length h)) (hr : Room k X.A) (hgd : X.A.guards = some []) (hm : X.mg x = some (.ref f)) (hk : PySem.W.keepIn X.K (.ref f) = true) (hb : Binds X.K fd ps [])
    (ha : EA X fa (e :: es) t) (hlen : ∀ s g ds g', t s g = some (ds, g') → ds.length = ps.length) (hg : Gl X x := by rfl) (hdb : (x == ("__debug__" : PySem.Str)) = false := by decide) (he : starEach (e :: es) X.env = (false, eval e X.env) :: starEach es X.env := by rfl) (hpl : (backTo pos (starEach es X.env)).any (·.1) = false := by rfl) :
    EE X fa (.Call (.Name x p) (e :: es) [] pos) (eFn h t) := PE.wk (pe_g F hr hgd hm hk hb ha hg hdb he hpl) fun σ H Q hh => by
  obtain ⟨W, g, s, d, g', r, e, q⟩ := hh
  simp only [eFn, Option.bind_eq_some_iff] at e
  obtain ⟨⟨ds, g1⟩, e1, e2⟩ := e
  refine ⟨W, g, s, ds, g1, r, e1, fun W1 H1 vs s1 o1 p1 => ⟨p1.length.trans (hlen _ _ _ _ e1), W1, g1, ds, d, g', p1, o1, e2, fun W2 H2 v s2 o2 p2 => q W2 H2 v (s1.trans s2) o2 p2⟩⟩
theorem len_nil {s : Sto} {g : G} {ds : List D} {g' : G} (h : aNil s g = some (ds, g')) : ds.length = 0 := by cases h; rfl
theorem len_cons {a : ED} {r : AD} {n : Nat} (ih : ∀ s g ds g', r s g = some (ds, g') → ds.length = n) (s : Sto) (g : G) (ds : List D) (g' : G) (h : aCons a r s g = some (ds, g')) : ds.length = n + 1 := by
  simp only [aCons, Option.bind_eq_some_iff, Option.some.injEq, Prod.mk.injEq] at h
  obtain ⟨⟨x, g1⟩, _, ⟨y, g2⟩, e2, rfl, rfl⟩ := h
  exact congrArg Nat.succ (ih _ _ _ _ e2)
end
end DS

namespace DS
open PySem PySem.Spec PyProof.Rows L2

/-! ### the draws' dict -/
inductive Fld where | left | seed | cells | spot
def Fld.key : Fld → PySem.Str
  | .left => "left"
  | .seed => "seed"
  | .cells => "cells"
  | .spot => "spot"
def Fld.get (m : MS) : Fld → PyData
  | .left => .int m.left
  | .seed => .int m.seed
  | .cells => .list (m.cells.map PyData.int)
  | .spot => .int m.spot
/-- m['..'] -/
def eGet (k : Fld) (a : ED) : ED := fun s g => (a s g).bind fun x => match x.1 with
  | .gm n => (x.2[n]?).bind fun m => some (.py (k.get m), x.2)
  | _ => none
inductive FldI where | left | spot
def FldI.key : FldI → PySem.Str
  | .left => "left"
  | .spot => "spot"
def FldI.set (m : MS) (i : Int) : FldI → MS
  | .left => { m with left := i }
  | .spot => { m with spot := i }
/-- m['..'] = e, an int, the dict in slot j -/
def sPut (k : FldI) (j : Nat) (e : ED) : SD := fun s g => (e s g).bind fun x => (dI x.1).bind fun i => match s[j]? with
  | some (.v (.gm n)) => (x.2[n]?).bind fun m => some (.nx s, x.2.set n (k.set m i))
  | _ => none
/-- {'left': .., 'seed': .., 'cells': .., 'spot': ..} -/
def eGm (a b c d : ED) : ED := fun s g => (a s g).bind fun x => (dI x.1).bind fun i => (b s x.2).bind fun y => (dI y.1).bind fun j => (c s y.2).bind fun z => match z.1 with
  | .py (.list ds) => (intsP ds).bind fun ns => (d s z.2).bind fun w => (dI w.1).bind fun l => some (.gm w.2.length, w.2 ++ [{ left := i, seed := j, spot := l, cells := ns }])
  | _ => none
abbrev kL : Key := Sum.inr ("left" : PySem.Str)
abbrev kS : Key := Sum.inr ("seed" : PySem.Str)
abbrev kC : Key := Sum.inr ("cells" : PySem.Str)
abbrev kP : Key := Sum.inr ("spot" : PySem.Str)
theorem val_left {x y z u : V} : valV [(kL, x), (kS, y), (kC, z), (kP, u)] kL = some x := by
  simp [valV]
theorem val_seed {x y z u : V} : valV [(kL, x), (kS, y), (kC, z), (kP, u)] kS = some y := by
  have h1 : ¬ kL = kS := by decide
  rw [valV_neg h1, valV_pos rfl]
theorem val_cells {x y z u : V} : valV [(kL, x), (kS, y), (kC, z), (kP, u)] kC = some z := by
  have h1 : ¬ kL = kC := by decide
  have h2 : ¬ kS = kC := by decide
  rw [valV_neg h1, valV_neg h2, valV_pos rfl]
theorem val_spot {x y z u : V} : valV [(kL, x), (kS, y), (kC, z), (kP, u)] kP = some u := by
  have h1 : ¬ kL = kP := by decide
  have h2 : ¬ kS = kP := by decide
  have h3 : ¬ kC = kP := by decide
  rw [valV_neg h1, valV_neg h2, valV_neg h3, valV_pos rfl]
theorem put_left {x y z u v : V} : putK [(kL, x), (kS, y), (kC, z), (kP, u)] kL v = [(kL, v), (kS, y), (kC, z), (kP, u)] := by
  have h1 : ¬ kS = kL := by decide
  have h2 : ¬ kC = kL := by decide
  have h3 : ¬ (kP : Key) = kL := by decide
  simp only [putK, List.any_cons, decide_true, Bool.true_or, if_true, List.map_cons, if_neg h1, if_neg h2, if_neg h3, List.map_nil]
theorem put_spot {x y z u v : V} : putK [(kL, x), (kS, y), (kC, z), (kP, u)] kP v = [(kL, x), (kS, y), (kC, z), (kP, v)] := by
  have h1 : ¬ kL = kP := by decide
  have h2 : ¬ kS = kP := by decide
  have h3 : ¬ kC = kP := by decide
  simp only [putK, List.any_cons, List.any_nil, decide_true, Bool.true_or, Bool.or_true, if_true, List.map_cons, if_neg h1, if_neg h2, if_neg h3, List.map_nil]
theorem merge4 {x y z u : V} : mergeK [] [(kL, x), (kS, y), (kC, z), (kP, u)] = [(kL, x), (kS, y), (kC, z), (kP, u)] := by
  have a1 : ¬ kL = kS := by decide
  have a2 : ¬ kL = kC := by decide
  have a3 : ¬ kL = kP := by decide
  have a4 : ¬ kS = kC := by decide
  have a5 : ¬ kS = kP := by decide
  have a6 : ¬ kC = kP := by decide
  simp [mergeK, putK, a1, a2, a3, a4, a5, a6]
section
variable {X : Cx} {fa : Nat → Option Addr} {a b c d e o : Expr} {pos pos' : Pos}
theorem ee_get {k : Fld} {f : ED} {j : Nat} {p : Pos} (hu : X.A.units + 1 < cLine) (ho : EE X fa o f) (hs : NoSl (.Constant (.str k.key) j p) := by exact fun _ _ => rfl) : EE X fa (.Subscript o (.Constant (.str k.key) j p) pos) (eGet k f) :=
  PE.wk (pe_dget hu ho pe_str hs) fun σ H Q h => by
    obtain ⟨W, g, s, dd, g', r, e, q⟩ := h
    simp only [eGet, Option.bind_eq_some_iff] at e
    obtain ⟨⟨x, g1⟩, e1, e2⟩ := e
    split at e2
    · rename_i n hn
      have hx : x = .gm n := hn
      subst hx
      simp only [Option.bind_eq_some_iff, Option.some.injEq, Prod.mk.injEq] at e2
      obtain ⟨m, e3, rfl, rfl⟩ := e2
      refine ⟨W, g, s, _, g1, r, e1, fun W1 H1 v s1 o1 p1 => ?_⟩
      obtain ⟨ad, h1, rfl⟩ := p1
      obtain ⟨n1, cc, h2, h3⟩ := o1.at' n ad m h1 e3
      show ∃ a v', V.ref ad = .ref a ∧ DGet H1 a (.str k.key) (some v') ∧ Q v' H1
      cases k with
      | left => exact ⟨ad, .int m.left, rfl, by rw [← val_left]; exact DGet.k (k := kL) h2, q W1 H1 _ s1 o1 (Rp.int _)⟩
      | seed => exact ⟨ad, .int m.seed, rfl, by rw [← val_seed]; exact DGet.k (k := kS) h2, q W1 H1 _ s1 o1 (Rp.int _)⟩
      | cells => exact ⟨ad, .ref cc, rfl, by rw [← val_cells]; exact DGet.k (k := kC) h2, q W1 H1 _ s1 o1 (Rp.lst h3 RpAll.ints)⟩
      | spot => exact ⟨ad, .int m.spot, rfl, by rw [← val_spot]; exact DGet.k (k := kP) h2, q W1 H1 _ s1 o1 (Rp.int _)⟩
    · cases e2
theorem getElem?_set_nodup {ms : List Addr} (nd : ms.Nodup) {i j : Nat} {x y : Addr} (h1 : ms[i]? = some x) (h2 : ms[j]? = some y) (h : x = y) : i = j := by
  subst h
  obtain ⟨k1, e1⟩ := List.getElem?_eq_some_iff.mp h1
  obtain ⟨k2, e2⟩ := List.getElem?_eq_some_iff.mp h2
  exact (List.getElem_inj nd).mp (e1.trans e2.symm)
/-- the draws' dict n changes -/
theorem SB.draw {K : PySem.W.Frag} {W0 W : Wd} {H0 H : Hp} {g : G} {s : Sto} {σ : L2.St} {n : Nat} {ad : Addr} {m' : MS} {u : HO} (bb : SB K fa W0 H0 W g s σ H) (h1 : W.ms[n]? = some ad) (hm : MAt W.F (upd H ad u) ad m') : SB K fa W0 H0 W (g.set n m') s σ (upd H ad u) := by
  have go := bb.sr.gok
  have hin : ad ∈ W.ms := List.mem_of_getElem? h1
  refine ⟨⟨⟨fun b x q => by rw [upd_ne (ne_of_none q hm.1)]; exact go.fro b x q, by rw [List.length_set]; exact go.len, go.nd, fun i a m q1 q2 => ?_⟩, fun i x q => ?_, bb.sr.inj, bb.sr.len⟩, ⟨bb.st.f, bb.st.ms, fun a x q1 q2 q3 => ?_, fun a q => ?_⟩, bb.nw⟩
  · by_cases z : i = n
    · subst z
      rw [h1] at q1
      cases q1
      rw [List.getElem?_set_self (by have := (List.getElem?_eq_some_iff.mp h1).1; rw [go.len] at this; exact this)] at q2
      cases q2
      exact hm
    · rw [List.getElem?_set_ne (Ne.symm z)] at q2
      have na : a ≠ ad := fun y => z (getElem?_set_nodup go.nd q1 h1 y)
      have h3 := go.at' i a m q1 q2
      exact h3.mono (Same.refl _) (fun x y => by rw [upd_ne na]; exact y) h3.1
  · have ok := bb.sr.sl i x q
    cases x with
    | un => trivial
    | v dd => exact ok
    | own p =>
      obtain ⟨cc, k1, k2, k3, k4⟩ := ok
      have nc : cc ≠ ad := fun z => by subst z; exact k3 hin
      exact ⟨cc, k1, k2, k3, k4.step (Same.refl _) fun x y => by rw [upd_ne nc]; exact y⟩
  · obtain ⟨k1, k2, k3⟩ := bb.st.own a x q1 q2 q3
    have na : a ≠ ad := fun z => by subst z; exact k2 hin
    exact ⟨k1, k2, by rw [upd_ne na]; exact k3⟩
  · by_cases z : a = ad
    · subst z
      rw [upd_same] at q
      cases q
    · rw [upd_ne z] at q
      exact bb.st.th a q
theorem es_put {k : FldI} {i : Nat} {f : ED} {j : Nat} {p : Pos} (hu : X.A.units + 1 < cLine) (ho : PE X o (tVar i)) (he : EE X fa e f) (hs : swapsWith e (some (.Subscript o (.Constant (.str k.key) j p) pos')) pos.line X.env = pure false := by rfl) :
    ES X fa (.Assign [.Subscript o (.Constant (.str k.key) j p) pos'] e pos) (sPut k i f) :=
  PS.wk (ps_dput hu ho pe_str he hs) fun D σ H h => by
    obtain ⟨W0, H0, W, g, s, ou, g', bb, e, q⟩ := h
    simp only [sPut, Option.bind_eq_some_iff] at e
    obtain ⟨⟨x, g1⟩, e1, z, e2, e3⟩ := e
    split at e3
    · rename_i n hn
      simp only [Option.bind_eq_some_iff, Option.some.injEq, Prod.mk.injEq] at e3
      obtain ⟨m, e4, rfl, rfl⟩ := e3
      refine ⟨W, g, s, x, g1, bb.sr, e1, fun W1 H1 v s1 o1 p1 => ?_⟩
      have hv := dI_rp e2 p1
      subst hv
      have b1 := bb.step s1 o1
      obtain ⟨w, k1, ad, k2, rfl⟩ := b1.sr.sl _ _ hn
      obtain ⟨n1, cc, h2, h3⟩ := o1.at' n ad m k2 e4
      refine ⟨.ref ad, k1, ?_⟩
      have nd : ∀ u, (upd H1 ad u) cc = some (.lst (m.cells.map V.int)) ∨ True := fun _ => .inr trivial
      cases k with
      | left => exact ⟨ad, _, rfl, DPut.k (k := kL) h2 (by show 4 < sizeLine; rw [sizeLine_eq]; decide), by
          rw [put_left]
          exact q W1 σ _ (b1.draw k2 ⟨n1, cc, upd_same, h3⟩)⟩
      | spot => exact ⟨ad, _, rfl, DPut.k (k := kP) h2 (by show 4 < sizeLine; rw [sizeLine_eq]; decide), by
          rw [put_spot]
          exact q W1 σ _ (b1.draw k2 ⟨n1, cc, upd_same, h3⟩)⟩
    · cases e3
theorem ee_gm {f1 f2 f3 f4 : ED} {j1 j2 j3 j4 : Nat} {p1 p2 p3 p4 : Pos} (ha : EE X fa a f1) (hb : EE X fa b f2) (hc : EE X fa c f3) (hd : EE X fa d f4) :
    EE X fa (.Dict [some (.Constant (.str "left") j1 p1), some (.Constant (.str "seed") j2 p2), some (.Constant (.str "cells") j3 p3), some (.Constant (.str "spot") j4 p4)] [a, b, c, d] pos) (eGm f1 f2 f3 f4) :=
  PE.wk (pe_disp (pps_cons pe_str ha (pps_cons pe_str hb (pps_cons pe_str hc (pps_cons pe_str hd pps_nil)))) rfl rfl (by simp) (by show 4 ≤ 15; decide)) fun σ H Q h => by
    obtain ⟨W, g, s, dd, g', r, e, q⟩ := h
    simp only [eGm, Option.bind_eq_some_iff] at e
    obtain ⟨⟨x, g1⟩, e1, i, e2, ⟨y, g2⟩, e3, j, e4, ⟨z, g3⟩, e5, e6⟩ := e
    split at e6
    · rename_i ds hz
      have hz' : z = .py (.list ds) := hz
      subst hz'
      simp only [Option.bind_eq_some_iff, Option.some.injEq, Prod.mk.injEq] at e6
      obtain ⟨ns, e7, ⟨w, g4⟩, e8, l, e9, rfl, rfl⟩ := e6
      intro p hp
      have rp := r.step (Step.loose (o := .dK []) hp) (r.gok.loose hp)
      refine ⟨W, g, s, x, g1, rp, e1, fun W1 H1 v1 s1 o1 q1 => ?_⟩
      refine ⟨W1, g1, s, y, g2, rp.step s1 o1, e3, fun W2 H2 v2 s2 o2 q2 => ?_⟩
      refine ⟨W2, g2, s, .py (.list ds), g3, (rp.step s1 o1).step s2 o2, e5, fun W3 H3 v3 s3 o3 q3 => ?_⟩
      refine ⟨W3, g3, s, w, g4, ((rp.step s1 o1).step s2 o2).step s3 o3, e8, fun W4 H4 v4 s4 o4 q4 => ?_⟩
      obtain ⟨f0, m0⟩ := r.gok.fresh hp
      have st := (((s1.trans s2).trans s3).trans s4)
      obtain ⟨k1, k2, k3⟩ := st.own p (.dK []) upd_same f0 m0
      have t1 := dI_rp e2 q1
      have t2 := dI_rp e4 q2
      have t4 := dI_rp e9 q4
      subst t1 t2 t4
      cases q3 with
      | lst h1 h2 =>
        rename_i cc vs
        rw [intsP_eq e7] at h2
        rw [h2.ints_eq] at h1
        refine ⟨k3, [(kL, .int i), (kS, .int j), (kC, .ref cc), (kP, .int l)], rfl, by show 4 ≤ 15; decide, ?_⟩
        rw [merge4]
        have st0 : Step W H W4 H4 := ⟨st.f, st.ms, fun c o h1 h2 h3 => st.own c o (by rw [upd_ne (ne_of_none h1 hp)]; exact h1) h2 h3, fun c h => by
          have := st.th c h
          by_cases z : c = p
          · subst z; exact hp
          · rw [upd_ne z] at this; exact this⟩
        refine q ⟨W4.F, W4.ms ++ [p]⟩ _ (.ref p) ⟨st0.f, ?_, fun c o h1 h2 h3 => ?_, fun c h => ?_⟩ ⟨fun b u e => ?_, ?_, ?_, fun i' a' m' h1 h2 => ?_⟩ ⟨p, ?_, rfl⟩
        · obtain ⟨l1, e1⟩ := st0.ms
          exact ⟨l1 ++ [p], by rw [e1, List.append_assoc]⟩
        · obtain ⟨n1, n2, n3⟩ := st0.own c o h1 h2 h3
          have nc : c ≠ p := ne_of_none h1 hp
          refine ⟨n1, fun hm => ?_, by rw [upd_ne nc]; exact n3⟩
          rcases List.mem_append.mp hm with z | z
          · exact n2 z
          · exact nc (List.mem_singleton.mp z)
        · by_cases z : c = p
          · subst z; exact hp
          · rw [upd_ne z] at h; exact st0.th c h
        · have nb : b ≠ p := ne_of_none e k1
          rw [upd_ne nb]; exact o4.fro b u e
        · rw [List.length_append, List.length_append, o4.len]; rfl
        · rw [List.nodup_append]
          exact ⟨o4.nd, by simp, fun x hx y hy => by rw [List.mem_singleton.mp hy]; exact fun z => k2 (z ▸ hx)⟩
        · by_cases hi : i' < W4.ms.length
          · rw [List.getElem?_append_left hi] at h1
            rw [List.getElem?_append_left (by rw [← o4.len]; exact hi)] at h2
            have h3' := o4.at' i' a' m' h1 h2
            have na : a' ≠ p := fun z => by subst z; exact k2 (List.mem_of_getElem? h1)
            exact h3'.mono (Same.refl _) (fun x y => by rw [upd_ne na]; exact y) h3'.1
          · rw [List.getElem?_append_right (by omega)] at h1
            rw [List.getElem?_append_right (by rw [← o4.len]; omega)] at h2
            have e0 : i' - W4.ms.length = 0 := by
              rcases Nat.eq_zero_or_pos (i' - W4.ms.length) with z | z
              · exact z
              · rw [List.getElem?_eq_none (by simp; omega)] at h1; cases h1
            rw [e0] at h1
            have e0' : i' - g4.length = 0 := by rw [← o4.len]; exact e0
            rw [e0'] at h2
            cases h1; cases h2
            exact ⟨k1, cc, upd_same, s4.f _ _ h1⟩
        · rw [← o4.len]
          exact List.getElem?_concat_length
    · cases e6
end
end DS

namespace DS
open PySem PySem.Spec PyProof.Rows L2

section
variable {X : Cx} {fa : Nat → Option Addr} {e : Expr} {es : List Expr} {p pos : Pos} {x : PySem.Str}
/-- a built-in function that a module's name holds -/
theorem ee_callM {id : String} {f : List D → Option D} {t : AD} (hc : CallR X (.builtin id) (rC X.K fa f)) (hm : X.mg x = some (.builtin id)) (ha : EA X fa (e :: es) t) (hg : Gl X x := by rfl) (hdb : (x == ("__debug__" : PySem.Str)) = false := by decide)
    (he : starEach (e :: es) X.env = (false, eval e X.env) :: starEach es X.env := by rfl) (hpl : (backTo pos (starEach es X.env)).any (·.1) = false := by rfl) : EE X fa (.Call (.Name x p) (e :: es) [] pos) (eCall f t) :=
  PE.wk (t := tCB (rC X.K fa f) (tAs X.K fa t)) ⟨fun pins s σ H Q I h =>
    wpAny_Call_Name_kw (ld_glob I hg hm (callWith_builtin1 (thn (ha.run pos pins s σ H _ I h) fun us s1 hh => by
      obtain ⟨vs, H1, I1, r1, q1⟩ := hh
      exact hc pins s1 σ H1 vs us Q I1 r1 q1) he hpl) hdb)⟩ fun _ _ _ h => wk_call h
end
/-- the law's call, at the heap behind the top: the script alone is tracked -/
theorem law_g {P : Program} {w : World} {K : PySem.W.Frag} {mg mb : PySem.Str → Option Value} {k : Nat} {fa a : Addr} {fd : FuncData} {x : PySem.Str} {sp : Sp} {s : Shared} {vs : List Value} {ns : List Int}
    (KX : K.In s.heap) (hns : s.heap.Ns mainGlobals mg) (hb : s.heap.Ns builtinsNs mb) (hbb : ∀ x : PySem.Str, x ≠ "__name__" → mb x = bootBuiltins x) (hlim : s.heap.NoLimit) (hgen : s.gens = #[])
    (ha : s.heap.get? a = some { cls := .type "list", data := .seq vs.toArray }) (hi : IntsAre vs ns) (hl : ns.length ≤ sizeLine) (hr : Room k callerA)
    (F : ∀ base : Heap, K.In base → base.Ns mainGlobals mg → Fg P w K mg base CX0 k fa fd [x] sp) (hbind : ∀ (s : Shared) (u : Value), BindsTo s fd ⟨[u], []⟩ [(x, u)])
    (hsp : ∀ H : Hp, Only H → SqL K H a (ns.map V.int) → sp [.ref a] H (fun v _ => v = .bl true) E0) :
    codeAny (model P w) callerA (.call (.ref fa) ⟨[.ref a], []⟩) (fun r s' => r = .ok (.ret (.bool true)) ∧ OldK s.heap s'.heap ∧ s'.os = s.os ∧ AllBare s'.gens) s := by
  have lenV := hi.length
  have core : ∀ H : Hp, Only H → SqL K H a (ns.map V.int) → HOk P w H s.heap → (∀ b, H b ≠ none → b = a) → (H a ≠ none → K.lookup a = none) →
      codeAny (model P w) callerA (.call (.ref fa) ⟨[.ref a], []⟩) (fun r s' => r = .ok (.ret (.bool true)) ∧ OldK s.heap s'.heap ∧ s'.os = s.os ∧ AllBare s'.gens) s := by
    intro H hO hS hok hA hK
    have off : ∀ {b : Addr} {o : Obj} {es : Array DictEntry} {ep : Nat}, s.heap.get? b = some o → o.data = .dict es ep → H b = none := by
      intro b o es ep e d
      cases q : H b with
      | none => rfl
      | some u =>
        have eb : b = a := hA b (by rw [q]; exact Option.some_ne_none u)
        subst eb
        rw [ha] at e
        cases e
        have d' : Data.seq vs.toArray _ = Data.dict es ep := d
        cases d'
    have nsb : ∀ {b : Addr} {m : PySem.Str → Option Value}, s.heap.Ns b m → (hidT s.heap H).Ns b m := by
      intro b m hh
      obtain ⟨o, es, ep, e, d, r⟩ := hh
      exact ⟨o, es, ep, hidT_get e (off e d), d, r⟩
    have kb : K.In (hidT s.heap H) := by
      intro b o e
      refine hidT_get (KX b o e) ?_
      cases q : H b with
      | none => rfl
      | some u =>
        have eb : b = a := hA b (by rw [q]; exact Option.some_ne_none u)
        subst eb
        rw [hK (by rw [q]; exact Option.some_ne_none u)] at e
        cases e
    have hM : Mod K mg (hidT s.heap H) := by
      refine ⟨kb, nsb hns, ⟨mb, nsb hb, hbb⟩, ?_⟩
      obtain ⟨mc, h1, h2⟩ := hlim
      exact ⟨mc, nsb h1, h2⟩
    have e0 : Env0 P w K mg (hidT s.heap H) callerA [] s H :=
      ⟨rfl, hM, fun b o e => of_hidT e, Nat.le_of_eq (hidT_size _ _), trivial, fun b hb => (List.not_mem_nil hb).elim, hok, .of_eq hgen⟩
    refine codeAny_mono ((F _ kb (nsb hns)).run callerA [] s H ⟨[.ref a], []⟩ [.ref a] [.ref a] (fun v _ => v = .bl true) E0 hr rfl e0 (hbind s (.ref a)) (.cons rfl .nil) (hsp H hO hS)) ?_
    intro r s' h
    cases r with
    | error e => exact (show False from h).elim
    | ok fl =>
      cases fl with
      | next => exact (show False from h).elim
      | brk => exact (show False from h).elim
      | cont => exact (show False from h).elim
      | ret u =>
        obtain ⟨v, H', os, bare, un, hok', r', q⟩ := h
        have q' : v = .bl true := q
        subst q'
        obtain rfl : u = Value.bool true := r'
        refine ⟨rfl, OldK.of_keep fun b o e => ?_, os, bare⟩
        cases q : H b with
        | none => exact un.keep b o e q (fun z => List.not_mem_nil z) (fun z => List.not_mem_nil z)
        | some u =>
          rcases hO b with z | ⟨ob, xs, z⟩
          · rw [q] at z; cases z
          · obtain ⟨e1, _⟩ := hok b _ z
            obtain ⟨e2, _⟩ := hok' b _ (un.frzs b ob _ z)
            rw [e] at e1
            cases e1
            exact e2
  have rv := vals_ints hi
  cases hk : K.lookup a with
  | some o =>
    have e := KX a o hk
    rw [ha] at e
    cases e
    exact core (fun _ => none) (fun _ => .inl rfl) (.inr ⟨_, vs.toArray, _, hk, rfl, rfl, rfl, by rw [List.size_toArray, lenV]; exact hl, by simpa using rv⟩)
      (fun b u z => (Option.some_ne_none u (show (none : Option HO) = some u from z).symm).elim) (fun b z => (z rfl).elim) fun z => (z rfl).elim
  | none =>
    let Hs : Hp := fun b => if b = a then some (.frz { cls := .type "list", data := .seq vs.toArray } (.lst (ns.map V.int))) else none
    have at1 : Hs a = some (.frz { cls := .type "list", data := .seq vs.toArray } (.lst (ns.map V.int))) := if_pos rfl
    have at2 : ∀ b, b ≠ a → Hs b = none := fun b hb => if_neg hb
    refine core Hs (fun b => ?_) (.inl (.inr ⟨_, at1⟩)) (fun b u z => ?_) (fun b z => ?_) fun _ => hk
    · by_cases hb : b = a
      · exact .inr ⟨_, _, by rw [hb]; exact at1⟩
      · exact .inl (at2 b hb)
    · by_cases hb : b = a
      · subst hb
        rw [at1] at z
        cases z
        exact ⟨ha, by rw [List.length_map]; exact hl, vs, _, rv, ha⟩
      · rw [at2 b hb] at z
        cases z
    · by_cases hb : b = a
      · exact hb
      · exact (z (at2 b hb)).elim
/-- the goal that the head leaves -/
theorem walk_g {l : PySem.W.OpenLaw} {n k : Nat} {q : Program} {loose : List PySem.Str} {XP : (PySem.Str → Option Value) → Heap → Prop} {YP : World → Heap → Prop} {d : DefRec} {K : Params → PySem.W.Frag} {f : World → (PySem.Str → Option Value) → Nat → Option Addr} {h : FD} {x : PySem.Str}
    (hn : l.most = some n) (hn2 : n ≤ sizeLine) (hdf : d.params.defaults = []) (hr : Room k callerA)
    (hY : ∀ (w : World) (h : Heap), YP w h → (K w.params).In h)
    (F : ∀ (w : World) (mg : PySem.Str → Option Value) (fa : Addr) (hp : Heap), (K w.params).In hp → hp.Ns mainGlobals mg → mg d.name = some (.ref fa) →
      ∃ fd : FuncData, (∀ (s : Shared) (u : Value), BindsTo s fd ⟨[u], []⟩ [(x, u)]) ∧
        ∀ base : Heap, (K w.params).In base → base.Ns mainGlobals mg → Fg l.prog w (K w.params) mg base CX0 k fa fd [x] (spM (K w.params) (f w mg) 1 h))
    (hh : ∀ ns : List Int, ns.length ≤ n → ∃ g', h [.sc ns] [] = some (.py (.bool true), g')) :
    PySem.W.WalkO q loose XP YP l.row.toRowW d [] (fun f vs => PySem.call f vs) := by
  refine Att.attach_call hn hdf fun w s0 s1 mg mb fa o pm cd doc a vs ns G Y ho hd hcd hmg hobj hints hlen hg => ?_
  have KX := hY w _ Y
  obtain ⟨fd, hb, hF⟩ := F w mg fa _ KX G.T.g hmg
  refine law_g KX G.T.g G.T.b G.T.builtins G.T.nolimit hg hobj hints (Nat.le_trans hlen hn2) hr hF hb fun H hO hS => ?_
  obtain ⟨g', e⟩ := hh ns hlen
  refine ⟨rfl, ⟨H, []⟩, [], [.sc ns], .py (.bool true), g', .cons ⟨a, rfl, hS⟩ .nil, ⟨Same.refl _, rfl, .nil, fun i a m h1 => by simp at h1⟩, e, fun W' H' v _ _ p => ?_⟩
  cases p
  rfl
end DS

namespace DS
open PySem PySem.Spec PyProof.Rows L2

theorem rm64 {k : Nat} {A : Around} (h : Room k A) : A.units + 64 < cLine := by have := h.un; omega
theorem rm65 {k : Nat} {A : Around} (h : Room k A) : A.units + 65 < cLine := by have := h.un; omega
theorem rm100 {k : Nat} {A : Around} (h : Room k A) : A.units + 100 < cLine := by have := h.un; omega
theorem rm1 {k : Nat} {A : Around} (h : Room k A) : A.units + 1 < cLine := by have := h.un; omega
theorem fg_none {P : Program} {w : World} {K : PySem.W.Frag} {mg : PySem.Str → Option Value} {base : Heap} {CX : CXT} {k n : Nat} {f : Addr} {fd : FuncData} {ps : List PySem.Str} {fa : Nat → Option Addr} : Fg P w K mg base CX k f fd ps (spM K fa n fun _ _ => none) :=
  ⟨fun _ _ _ _ h => (by obtain ⟨_, W, g, ds, d, g', _, _, e, _⟩ := h; cases e), fun A outer s H args us vs Q E _ _ _ _ _ h => by obtain ⟨_, W, g, ds, d, g', _, _, e, _⟩ := h; cases e⟩
def sUnp (b : GD) (f : ED) : SD := fun s g => (f s g).bind fun x => match x.1 with
  | .py p => (b p s).bind fun s' => some (.nx s', x.2)
  | _ => none
section
variable {X : Cx} {fa : Nat → Option Addr} {e tg : Expr} {pos : Pos}
theorem es_unp {is : List Nat} {f : ED} {b : GD} (he : EE X fa e f) (hg : EG X tg is b) (hs : swapsWithSole [tg] e pos.line X.env = pure false := by rfl) (hw : swappedStores [tg] e X.env = pure none := by rfl)
    (h1 : (assignEach [tg] X.env).map (·.2) = [assign tg X.env] := by rfl) : ES X fa (.Assign [tg] e pos) (sUnp b f) := PS.wk (ps_asg he hg hs hw h1) fun D σ H h => by
  obtain ⟨W0, H0, W, g, s, o, g', bb, e, q⟩ := h
  simp only [sUnp, Option.bind_eq_some_iff] at e
  obtain ⟨⟨x, g1⟩, e1, e2⟩ := e
  refine ⟨W, g, s, x, g1, bb.sr, e1, fun W1 H1 v s1 o1 p1 => ?_⟩
  split at e2
  · rename_i p hp
    have hx : x = .py p := hp
    subst hx
    simp only [Option.bind_eq_some_iff, Option.some.injEq, Prod.mk.injEq] at e2
    obtain ⟨s', e3, rfl, rfl⟩ := e2
    exact ⟨W1.F, s, p, s', o1.fro, p1, e3, fun σ' ss => q W1 σ' H1 (SB.sets ss (bb.step s1 o1))⟩
  · cases e2
end
end DS

/-! the defs of the law, as plain functions, and that they keep them (printed by tools/gen.py) -/
namespace LW
open PySem PySem.Spec PyProof.Rows L2 DS
def topS (i : Nat) : Stmt := PySem.Challenge.pw_shuffledcuts_k08_whole_runs_by_walks.main.body.getD i (.Pass ⟨0, 0, 0, 0⟩)
structure Df (K : PySem.W.Frag) (mg : PySem.Str → Option Value) (x : PySem.Str) (st : Stmt) (ps : List PySem.Str) (f : Addr) (fd : FuncData) : Prop where
  F : Fun K x x st f fd
  m : mg x = some (.ref f)
  b : Binds K fd ps []
abbrev s_sign_of : Stmt := topS 2
theorem sc_sign_of : FnScope ["k"] ["k"] (defScope s_sign_of) := ⟨rfl, rfl, rfl, by decide +kernel, rfl, by decide +kernel, by decide +kernel⟩
abbrev s_coarser_ones : Stmt := topS 3
theorem sc_coarser_ones : FnScope ["composition", "rows", "entry", "apart", "made_one", "row"] ["composition"] (defScope s_coarser_ones) := ⟨rfl, rfl, rfl, by decide +kernel, rfl, by decide +kernel, by decide +kernel⟩
abbrev s_ways_to_part : Stmt := topS 4
theorem sc_ways_to_part : FnScope ["composition", "ways", "entry"] ["composition"] (defScope s_ways_to_part) := ⟨rfl, rfl, rfl, by decide +kernel, rfl, by decide +kernel, by decide +kernel⟩
abbrev s_count_by_runs : Stmt := topS 5
theorem sc_count_by_runs : FnScope ["composition", "length", "row"] ["composition"] (defScope s_count_by_runs) := ⟨rfl, rfl, rfl, by decide +kernel, rfl, by decide +kernel, by decide +kernel⟩
abbrev s__law_begun : Stmt := topS 7
theorem sc__law_begun : FnScope ["script", "k", "cells", "great", "seed", "cell"] ["script", "k"] (defScope s__law_begun) := ⟨rfl, rfl, rfl, by decide +kernel, rfl, by decide +kernel, by decide +kernel⟩
abbrev s__law_draw : Stmt := topS 8
theorem sc__law_draw : FnScope ["m", "bound", "spot", "cell", "blend", "found", "cells", "extra"] ["m", "bound"] (defScope s__law_draw) := ⟨rfl, rfl, rfl, by decide +kernel, rfl, by decide +kernel, by decide +kernel⟩
abbrev s__law_like : Stmt := topS 9
theorem sc__law_like : FnScope ["got", "due"] ["got", "due"] (defScope s__law_like) := ⟨rfl, rfl, rfl, by decide +kernel, rfl, by decide +kernel, by decide +kernel⟩
abbrev s__law_all : Stmt := topS 10
theorem sc__law_all : FnScope ["n", "found", "k", "rest"] ["n"] (defScope s__law_all) := ⟨rfl, rfl, rfl, by decide +kernel, rfl, by decide +kernel, by decide +kernel⟩
abbrev s__law_places : Stmt := topS 11
theorem sc__law_places : FnScope ["c", "k", "found", "total"] ["c"] (defScope s__law_places) := ⟨rfl, rfl, rfl, by decide +kernel, rfl, by decide +kernel, by decide +kernel⟩
abbrev s__law_of_places : Stmt := topS 12
theorem sc__law_of_places : FnScope ["n", "places", "line", "k"] ["n", "places"] (defScope s__law_of_places) := ⟨rfl, rfl, rfl, by decide +kernel, rfl, by decide +kernel, by decide +kernel⟩
abbrev s__law_composition : Stmt := topS 13
theorem sc__law_composition : FnScope ["m", "n", "p"] ["m", "n"] (defScope s__law_composition) := ⟨rfl, rfl, rfl, by decide +kernel, rfl, by decide +kernel, by decide +kernel⟩
abbrev s__law_walked : Stmt := topS 14
theorem sc__law_walked : FnScope ["c", "size", "falls", "row", "k"] ["c"] (defScope s__law_walked) := ⟨rfl, rfl, rfl, by decide +kernel, rfl, by decide +kernel, by decide +kernel⟩
abbrev s_law : Stmt := topS 15
theorem sc_law : FnScope ["script", "k", "n", "m", "c", "b", "far", "one"] ["script"] (defScope s_law) := ⟨rfl, rfl, rfl, by decide +kernel, rfl, by decide +kernel, by decide +kernel⟩
def b_sign_of : SD :=
  (sRet (eIf (bVal (eBin dEq (eBin dMod (eVar 0) (eC (.int 2))) (eC (.int 0)))) (eC (.int 1)) (eUn dNeg (eC (.int 1)))))
def f_sign_of : FD := runD 1 b_sign_of
def b_coarser_ones : SD :=
  (sSeq (sSet 1 (mV (eO (oLst (aCons (eSl (eVar 0) pNone (pSome (eC (.int 1)))) aNil)))))
    (sSeq (sFor (iSeq (eSl (eVar 0) (pSome (eC (.int 1))) pNone)) (bName 2) (sSeq (sSet 3 (mV (eO (oComp (iSeq (eVar 1)) (bName 5) bYes (eBin dAdd (eVar 5) (eTup (aCons (eVar 2) aNil))) [5]))))
    (sSeq (sSet 4 (mV (eO (oComp (iSeq (eVar 1)) (bName 5) bYes (eBin dAdd (eSl (eVar 5) pNone (pSome (eUn dNeg (eC (.int 1))))) (eTup (aCons (eBin dAdd (eBin dIx (eVar 5) (eUn dNeg (eC (.int 1)))) (eVar 2)) aNil))) [5]))))
    (sSet 1 (mV (eBin dAdd (eVar 3) (eVar 4)))))))
    (sRet (eCall dTuple (aCons (eO (eCallO oSorted (aCons (eVar 1) aNil))) aNil)))))
def f_coarser_ones : FD := runD 6 b_coarser_ones
def b_ways_to_part : SD :=
  (sSeq (sSet 1 (mV (eCall dFact (aCons (eCall dSum (aCons (eVar 0) aNil)) aNil))))
    (sSeq (sFor (iSeq (eVar 0)) (bName 2) (sAug 1 dFdiv (eCall dFact (aCons (eVar 2) aNil))))
    (sRet (eVar 1))))
def f_ways_to_part : FD := runD 3 b_ways_to_part
def b_count_by_runs : SD :=
  (sSeq (sSet 1 (mV (eCall dLen (aCons (eVar 0) aNil))))
    (sRet (eCall dSum (aCons (eO (oComp (iSeq (eFn f_coarser_ones (aCons (eVar 0) aNil))) (bName 2) bYes (eBin dMul (eFn f_sign_of (aCons (eBin dSub (eVar 1) (eCall dLen (aCons (eVar 2) aNil))) aNil)) (eFn f_ways_to_part (aCons (eVar 2) aNil))) [2])) aNil))))
def f_count_by_runs : FD := runD 3 b_count_by_runs
def b__law_begun : SD :=
  (sSeq (sSet 2 (mV (eBin dAdd (eSl (eVar 0) (pSome (eVar 1)) pNone) (eSl (eVar 0) pNone (pSome (eVar 1))))))
    (sSeq (sSet 3 (mV (eO (oComp (iSeq (eVar 2)) (bName 5) (bVal (eBin dGe (eVar 5) (eBin dPow (eC (.int 10)) (eC (.int 18))))) (eVar 5) [5]))))
    (sSeq (sSet 4 (mV (eBin dAdd (eC (.int 71)) (eVar 1))))
    (sSeq (sFor (iSeq (eVar 2)) (bName 5) (sSet 4 (mV (eBin dMod (eCall dInt (aCons (eBin dAdd (eBin dMul (eVar 4) (eC (.int 48271))) (eVar 5)) aNil)) (eC (.int 2147483647))))))
    (sRet (eGm (eIf (bVal (eBin dNe (eVar 3) (eO (oLst aNil)))) (eBin dIx (eVar 3) (eC (.int 0))) (eC (.int 0))) (eVar 4) (eBin dAdd (eVar 2) (eO (oLst (aCons (eBin dAdd (eBin dMul (eC (.int 53)) (eVar 1)) (eC (.int 11))) aNil)))) (eC (.int 0))))))))
def f__law_begun : FD := runD 6 b__law_begun
def b__law_draw : SD :=
  (sSeq (sIf (bVal (eBin dGt (eGet .left (eVar 0)) (eC (.int 0)))) (sSeq (sSet 5 (mV (eBin dMod (eCall dInt (aCons (eGet .left (eVar 0)) aNil)) (eVar 1))))
    (sSeq (sPut .left 0 (eBin dFdiv (eGet .left (eVar 0)) (eVar 1)))
    (sRet (eVar 5)))) sPass)
    (sSeq (sSet 2 (mV (eGet .spot (eVar 0))))
    (sSeq (sPut .spot 0 (eBin dAdd (eVar 2) (eC (.int 1))))
    (sSeq (sPar2 6 7 (mV (eGet .cells (eVar 0))) (mV (eBin dAdd (eGet .seed (eVar 0)) (eBin dMul (eBin dMul (eC (.int 40503)) (eVar 2)) (eVar 2)))))
    (sSeq (sSet 3 (mV (eBin dIx (eVar 6) (eBin dMod (eCall dInt (aCons (eVar 2) aNil)) (eCall dLen (aCons (eVar 6) aNil))))))
    (sSeq (sSet 4 (mV (eBin dMod (eCall dInt (aCons (eBin dAdd (eBin dMul (eVar 3) (eBin dAdd (eBin dMul (eC (.int 2)) (eVar 2)) (eC (.int 3)))) (eVar 7)) aNil)) (eC (.int 2147483647)))))
    (sSeq (sSet 4 (mV (eBin dMod (eCall dInt (aCons (eBin dAdd (eBin dAdd (eBin dMul (eVar 4) (eVar 4)) (eBin dMul (eC (.int 69621)) (eVar 2))) (eGet .seed (eVar 0))) aNil)) (eC (.int 2147483629)))))
    (sRet (eBin dMod (eBin dFdiv (eBin dMod (eCall dInt (aCons (eBin dAdd (eBin dMul (eVar 4) (eC (.int 48271))) (eVar 2)) aNil)) (eC (.int 2147483647))) (eC (.int 11))) (eVar 1))))))))))
def f__law_draw : FD := runD 8 b__law_draw
def b__law_like : SD :=
  (sRet (eBin dEq (eCall dRepr (aCons (eVar 0) aNil)) (eCall dRepr (aCons (eVar 1) aNil))))
def f__law_like : FD := runD 2 b__law_like
def b__law_all (g__law_all : FD) : SD :=
  (sSeq (sIf (bVal (eBin dEq (eVar 0) (eC (.int 0)))) (sRet (eO (oLst (aCons (eTup aNil) aNil)))) sPass)
    (sSeq (sSet 1 (mO (oLst aNil)))
    (sSeq (sFor (iArgs rng2 (aCons (eC (.int 1)) (aCons (eBin dAdd (eVar 0) (eC (.int 1))) aNil))) (bName 2) (sExt 1 (eO (oComp (iSeq (eFn g__law_all (aCons (eBin dSub (eVar 0) (eVar 2)) aNil))) (bName 3) bYes (eBin dAdd (eTup (aCons (eVar 2) aNil)) (eVar 3)) [3]))))
    (sFrz 1 (sRet (eVar 1))))))
def f__law_all : Nat → FD
  | 0 => fun _ _ => none
  | n + 1 => runD 4 (b__law_all (f__law_all n))
def b__law_places : SD :=
  (sSeq (sPar2 2 3 (mO (oLst aNil)) (mV (eC (.int 0))))
    (sSeq (sFor (iSeq (eSl (eVar 0) pNone (pSome (eUn dNeg (eC (.int 1)))))) (bName 1) (sSeq (sSet 3 (mV (eBin dAdd (eVar 3) (eVar 1))))
    (sApp 2 (eVar 3))))
    (sFrz 2 (sRet (eVar 2)))))
def f__law_places : FD := runD 4 b__law_places
def b__law_of_places : SD :=
  (sSeq (sSet 2 (mV (eBin dAdd (eBin dAdd (eO (oLst (aCons (eC (.int 0)) aNil))) (eO (eCallO oSorted (aCons (eVar 1) aNil)))) (eO (oLst (aCons (eVar 0) aNil))))))
    (sRet (eIf (bVal (eBin dGt (eVar 0) (eC (.int 0)))) (eCall dTuple (aCons (eO (oComp (iArgs rng1 (aCons (eBin dSub (eCall dLen (aCons (eVar 2) aNil)) (eC (.int 1))) aNil)) (bName 3) bYes (eBin dSub (eBin dIx (eVar 2) (eBin dAdd (eVar 3) (eC (.int 1)))) (eBin dIx (eVar 2) (eVar 3))) [3])) aNil)) (eTup aNil))))
def f__law_of_places : FD := runD 4 b__law_of_places
def b__law_composition : SD :=
  (sRet (eFn f__law_of_places (aCons (eVar 1) (aCons (eO (oComp (iArgs rng2 (aCons (eC (.int 1)) (aCons (eVar 1) aNil))) (bName 2) (bVal (eBin dEq (eFn f__law_draw (aCons (eVar 0) (aCons (eC (.int 2)) aNil))) (eC (.int 0)))) (eVar 2) [2])) aNil))))
def f__law_composition : FD := runD 3 b__law_composition
def b__law_walked : SD :=
  (sSeq (sUnp (bTup [2, 3]) (eTup (aCons (eFn f__law_places (aCons (eVar 0) aNil)) (aCons (eO (oLst (aCons (eC (.int 1)) aNil))) aNil))))
    (sSeq (sIf (bVal (eBin dEq (eVar 0) (eTup aNil))) (sRet (eC (.int 1))) sPass)
    (sSeq (sFor (iArgs rng2 (aCons (eC (.int 2)) (aCons (eBin dAdd (eCall dSum (aCons (eVar 0) aNil)) (eC (.int 1))) aNil))) (bName 1) (sIf (bVal (eBin dIn (eBin dSub (eVar 1) (eC (.int 1))) (eVar 2))) (sSet 3 (mV (eO (oComp (iArgs rng1 (aCons (eVar 1) aNil)) (bName 4) bYes (eCall dSum (aCons (eSl (eVar 3) (pSome (eVar 4)) pNone) aNil)) [4])))) (sSet 3 (mV (eO (oComp (iArgs rng1 (aCons (eVar 1) aNil)) (bName 4) bYes (eCall dSum (aCons (eSl (eVar 3) pNone (pSome (eVar 4))) aNil)) [4]))))))
    (sRet (eCall dSum (aCons (eVar 3) aNil))))))
def f__law_walked : FD := runD 5 b__law_walked
def b_law : SD :=
  (sSeq (sFor (iArgs rng1 (aCons (eCall dMax (aCons (eC (.int 2)) (aCons (eCall dMin (aCons (eCall dLen (aCons (eVar 0) aNil)) (aCons (eC (.int 5)) aNil))) aNil))) aNil)) (bName 1) (sSeq (sSet 3 (mV (eFn f__law_begun (aCons (eVar 0) (aCons (eVar 1) aNil)))))
    (sSeq (sSet 4 (mV (eFn f__law_composition (aCons (eVar 3) (aCons (eFn f__law_draw (aCons (eVar 3) (aCons (eC (.int 11)) aNil))) aNil)))))
    (sSeq (sIf (bNot (bTru (eFn f__law_like (aCons (eFn f_count_by_runs (aCons (eVar 4) aNil)) (aCons (eFn f__law_walked (aCons (eVar 4) aNil)) aNil))))) (sRet (eC (.bool false))) sPass)
    (sSeq (sSet 5 (mV (eFn f__law_composition (aCons (eVar 3) (aCons (eFn f__law_draw (aCons (eVar 3) (aCons (eC (.int 10)) aNil))) aNil)))))
    (sSeq (sSet 2 (mV (eCall dSum (aCons (eVar 5) aNil))))
    (sSeq (sSet 6 (mV (eBin dAdd (eO (oLst (aCons (eBin dAdd (eVar 5) (eTup (aCons (eC (.int 1)) aNil))) aNil))) (eIf (bVal (eBin dNe (eVar 5) (eTup aNil))) (eO (oLst (aCons (eBin dAdd (eSl (eVar 5) pNone (pSome (eUn dNeg (eC (.int 1))))) (eTup (aCons (eBin dAdd (eBin dIx (eVar 5) (eUn dNeg (eC (.int 1)))) (eC (.int 1))) aNil))) aNil))) (eO (oLst aNil))))))
    (sIf (bVal (eBin dNe (eCall dSum (aCons (eO (oComp (iSeq (eVar 6)) (bName 7) bYes (eFn f_count_by_runs (aCons (eVar 7) aNil)) [7])) aNil)) (eBin dMul (eBin dAdd (eVar 2) (eC (.int 1))) (eFn f_count_by_runs (aCons (eVar 5) aNil))))) (sRet (eC (.bool false))) sPass))))))))
    (sSeq (sSet 2 (mV (eFn f__law_draw (aCons (eFn f__law_begun (aCons (eVar 0) (aCons (eC (.int 7)) aNil))) (aCons (eC (.int 8)) aNil)))))
    (sRet (eBin dEq (eO (oComp (iSeq (eFn (f__law_all 40) (aCons (eVar 2) aNil))) (bName 4) (bNot (bTru (eFn f__law_like (aCons (eFn f_count_by_runs (aCons (eVar 4) aNil)) (aCons (eFn f__law_walked (aCons (eVar 4) aNil)) aNil))))) (eVar 4) [4])) (eO (oLst aNil))))))
def f_law : FD := runD 8 b_law
section
variable {P : Program} {w : World} {K : PySem.W.Frag} {mg : PySem.Str → Option Value} {base : Heap} {fa : Nat → Option Addr}
theorem ok_sign_of {a_sign_of : Addr} {d_sign_of : FuncData} (D_sign_of : Df K mg "sign_of" s_sign_of ["k"] a_sign_of d_sign_of)   : Fg P w K mg base CX0 1 a_sign_of d_sign_of ["k"] (spM K fa 1 f_sign_of) :=
  fg_def D_sign_of.F sc_sign_of fun cdv A outer s H E hr hg => by
    have hu := rm64 hr
    have hu5 := rm65 hr
    have hu1 := rm100 hr
    have hu1s := rm1 hr
    exact (eb_one (es_ret (ee_if (et_cmp (od_eq hu) (ee_op od_mod (ev 0) ec_int) ec_int) ec_int (ee_un od_neg ec_int))))
theorem ok_coarser_ones {a_coarser_ones : Addr} {d_coarser_ones : FuncData} (D_coarser_ones : Df K mg "coarser_ones" s_coarser_ones ["composition"] a_coarser_ones d_coarser_ones)  (z_sorted : mg "sorted" = none) (z_tuple : mg "tuple" = none) : Fg P w K mg base CX0 1 a_coarser_ones d_coarser_ones ["composition"] (spM K fa 1 f_coarser_ones) :=
  fg_def D_coarser_ones.F sc_coarser_ones fun cdv A outer s H E hr hg => by
    have hu := rm64 hr
    have hu5 := rm65 hr
    have hu1 := rm100 hr
    have hu1s := rm1 hr
    exact (eb_cons (es_set sc_coarser_ones.nd rfl (.inl rfl) (em_v (ee_o (eo_lst (ea_cons (ee_sl (ev 0) po_n (po_s ec_int)) ea_nil)))))
    (eb_cons (es_for PassesOwn.never rfl (ei_seq (ee_sl (ev 0) (po_s ec_int) po_n)) (eg_name sc_coarser_ones.nd rfl (.inr rfl)) (eb_cons (es_setLc (own := [("row", 5)]) .val rfl sc_coarser_ones.nd rfl rfl (sw_true rfl rfl rfl (by decide +kernel)) (ei_seq (ev 1)) (blkOk_by (N := ["composition", "rows", "entry", "apart", "made_one", "row"]) (sc := (defScope s_coarser_ones)) (own := [("row", 5)]) (by decide +kernel)) (by decide) (fun _ _ _ _ _ => (eg_name sc_coarser_ones.nd rfl (.inl rfl))) (fun _ _ _ _ _ => ets_nil) (fun _ _ _ _ _ => (ee_op od_add (ev 5) (ee_tup (ea_cons (ev 2) ea_nil)))))
    (eb_cons (es_setLc (own := [("row", 5)]) .val rfl sc_coarser_ones.nd rfl rfl (sw_true rfl rfl rfl (by decide +kernel)) (ei_seq (ev 1)) (blkOk_by (N := ["composition", "rows", "entry", "apart", "made_one", "row"]) (sc := (defScope s_coarser_ones)) (own := [("row", 5)]) (by decide +kernel)) (by decide) (fun _ _ _ _ _ => (eg_name sc_coarser_ones.nd rfl (.inl rfl))) (fun _ _ _ _ _ => ets_nil) (fun _ _ _ _ _ => (ee_op od_add (ee_sl (ev 5) po_n (po_s (ee_un od_neg ec_int))) (ee_tup (ea_cons (ee_op od_add (ee_ix od_ix (ev 5) (ee_un od_neg ec_int)) (ev 2)) ea_nil)))))
    (eb_one (es_set sc_coarser_ones.nd rfl (.inl rfl) (em_v (ee_op od_add (ev 3) (ev 4))))))))
    (eb_one (es_ret (ee_callT cd_tuple z_tuple boot_tuple (ea_cons (ee_o (eo_callB co_sorted z_sorted boot_sorted (ea_cons (ev 1) ea_nil))) ea_nil))))))
theorem ok_ways_to_part {a_ways_to_part : Addr} {d_ways_to_part : FuncData} (D_ways_to_part : Df K mg "ways_to_part" s_ways_to_part ["composition"] a_ways_to_part d_ways_to_part)  (m_factorial : mg "factorial" = some (.builtin "math.factorial")) (z_sum : mg "sum" = none) : Fg P w K mg base CX0 1 a_ways_to_part d_ways_to_part ["composition"] (spM K fa 1 f_ways_to_part) :=
  fg_def D_ways_to_part.F sc_ways_to_part fun cdv A outer s H E hr hg => by
    have hu := rm64 hr
    have hu5 := rm65 hr
    have hu1 := rm100 hr
    have hu1s := rm1 hr
    exact (eb_cons (es_set sc_ways_to_part.nd rfl (.inl rfl) (em_v (ee_callM cd_fact m_factorial (ea_cons (ee_callB (cd_sum rfl) z_sum boot_sum (ea_cons (ev 0) ea_nil)) ea_nil))))
    (eb_cons (es_for PassesOwn.never rfl (ei_seq (ev 0)) (eg_name sc_ways_to_part.nd rfl (.inl rfl)) (eb_one (es_aug sc_ways_to_part.nd rfl (.inl rfl) od_ifdiv (ee_callM cd_fact m_factorial (ea_cons (ev 2) ea_nil)))))
    (eb_one (es_ret (ev 1)))))
theorem ok_count_by_runs {a_coarser_ones : Addr} {d_coarser_ones : FuncData} {a_sign_of : Addr} {d_sign_of : FuncData} {a_ways_to_part : Addr} {d_ways_to_part : FuncData} {a_count_by_runs : Addr} {d_count_by_runs : FuncData} (D_coarser_ones : Df K mg "coarser_ones" s_coarser_ones ["composition"] a_coarser_ones d_coarser_ones) (D_sign_of : Df K mg "sign_of" s_sign_of ["k"] a_sign_of d_sign_of) (D_ways_to_part : Df K mg "ways_to_part" s_ways_to_part ["composition"] a_ways_to_part d_ways_to_part) (D_count_by_runs : Df K mg "count_by_runs" s_count_by_runs ["composition"] a_count_by_runs d_count_by_runs) (G_coarser_ones : Fg P w K mg base CX0 1 a_coarser_ones d_coarser_ones ["composition"] (spM K fa 1 f_coarser_ones)) (G_sign_of : Fg P w K mg base CX0 1 a_sign_of d_sign_of ["k"] (spM K fa 1 f_sign_of)) (G_ways_to_part : Fg P w K mg base CX0 1 a_ways_to_part d_ways_to_part ["composition"] (spM K fa 1 f_ways_to_part)) (z_len : mg "len" = none) (z_sum : mg "sum" = none) : Fg P w K mg base CX0 2 a_count_by_runs d_count_by_runs ["composition"] (spM K fa 1 f_count_by_runs) :=
  fg_def D_count_by_runs.F sc_count_by_runs fun cdv A outer s H E hr hg => by
    have hu := rm64 hr
    have hu5 := rm65 hr
    have hu1 := rm100 hr
    have hu1s := rm1 hr
    exact (eb_cons (es_set sc_count_by_runs.nd rfl (.inr rfl) (em_v (ee_callB cd_len z_len boot_len (ea_cons (ev 0) ea_nil))))
    (eb_one (es_ret (ee_callB (cd_sum rfl) z_sum boot_sum (ea_cons (ee_o (eo_lc (own := [("row", 2)]) rfl sc_count_by_runs.nd (ei_seq (ee_g G_coarser_ones (hr.mono (by decide)) hg D_coarser_ones.m D_coarser_ones.F.kp D_coarser_ones.b (ea_cons (ev 0) ea_nil) (len_cons (fun _ _ _ _ => len_nil)))) (blkOk_by (N := ["composition", "length", "row"]) (sc := (defScope s_count_by_runs)) (own := [("row", 2)]) (by decide +kernel)) (by decide) (fun _ _ _ _ _ => (eg_name sc_count_by_runs.nd rfl (.inl rfl))) (fun _ _ _ _ _ => ets_nil) (fun _ _ _ _ _ => (ee_op od_mul (ee_g G_sign_of (hr.mono (by decide)) hg D_sign_of.m D_sign_of.F.kp D_sign_of.b (ea_cons (ee_op od_sub (ev 1) (ee_callB cd_len z_len boot_len (ea_cons (ev 2) ea_nil))) ea_nil) (len_cons (fun _ _ _ _ => len_nil))) (ee_g G_ways_to_part (hr.mono (by decide)) hg D_ways_to_part.m D_ways_to_part.F.kp D_ways_to_part.b (ea_cons (ev 2) ea_nil) (len_cons (fun _ _ _ _ => len_nil))))))) ea_nil)))))
theorem ok__law_begun {a__law_begun : Addr} {d__law_begun : FuncData} (D__law_begun : Df K mg "_law_begun" s__law_begun ["script", "k"] a__law_begun d__law_begun)  (z_int : mg "int" = none) : Fg P w K mg base CX0 1 a__law_begun d__law_begun ["script", "k"] (spM K fa 2 f__law_begun) :=
  fg_def D__law_begun.F sc__law_begun fun cdv A outer s H E hr hg => by
    have hu := rm64 hr
    have hu5 := rm65 hr
    have hu1 := rm100 hr
    have hu1s := rm1 hr
    exact (eb_cons (es_set sc__law_begun.nd rfl (.inl rfl) (em_v (ee_op od_add (ee_sl (ev 0) (po_s (ev 1)) po_n) (ee_sl (ev 0) po_n (po_s (ev 1))))))
    (eb_cons (es_setLc (own := [("cell", 5)]) .val rfl sc__law_begun.nd rfl rfl (sw_true rfl rfl rfl (by decide +kernel)) (ei_seq (ev 2)) (blkOk_by (N := ["script", "k", "cells", "great", "seed", "cell"]) (sc := (defScope s__law_begun)) (own := [("cell", 5)]) (by decide +kernel)) (by decide) (fun _ _ _ _ _ => (eg_name sc__law_begun.nd rfl (.inl rfl))) (fun _ _ _ _ _ => (ets_one (et_cmp od_ge (ev 5) (ee_op od_pow ec_int ec_int)))) (fun _ _ _ _ _ => (ev 5)))
    (eb_cons (es_set sc__law_begun.nd rfl (.inl rfl) (em_v (ee_op od_add ec_int (ev 1))))
    (eb_cons (es_for PassesOwn.never rfl (ei_seq (ev 2)) (eg_name sc__law_begun.nd rfl (.inl rfl)) (eb_one (es_set sc__law_begun.nd rfl (.inl rfl) (em_v (ee_op od_mod (ee_callT cd_int z_int boot_int (ea_cons (ee_op od_add (ee_op od_mul (ev 4) ec_int) (ev 5)) ea_nil)) ec_int)))))
    (eb_one (es_ret (ee_gm (ee_if (et_cmp (od_ne hu) (ev 3) (ee_o (eo_lst ea_nil))) (ee_ix od_ix (ev 3) ec_int) ec_int) (ev 4) (ee_op od_add (ev 2) (ee_o (eo_lst (ea_cons (ee_op od_add (ee_op od_mul ec_int (ev 1)) ec_int) ea_nil)))) ec_int)))))))
theorem ok__law_draw {a__law_draw : Addr} {d__law_draw : FuncData} (D__law_draw : Df K mg "_law_draw" s__law_draw ["m", "bound"] a__law_draw d__law_draw)  (z_int : mg "int" = none) (z_len : mg "len" = none) : Fg P w K mg base CX0 1 a__law_draw d__law_draw ["m", "bound"] (spM K fa 2 f__law_draw) :=
  fg_def D__law_draw.F sc__law_draw fun cdv A outer s H E hr hg => by
    have hu := rm64 hr
    have hu5 := rm65 hr
    have hu1 := rm100 hr
    have hu1s := rm1 hr
    exact (eb_cons (es_if (et_cmp od_gt (ee_get (k := .left) hu1s (ev 0)) ec_int) (eb_cons (es_set sc__law_draw.nd rfl (.inl rfl) (em_v (ee_op od_mod (ee_callT cd_int z_int boot_int (ea_cons (ee_get (k := .left) hu1s (ev 0)) ea_nil)) (ev 1))))
    (eb_cons (es_put (k := .left) hu1s (pv 0) (ee_op od_fdiv (ee_get (k := .left) hu1s (ev 0)) (ev 1)))
    (eb_one (es_ret (ev 5))))) eb_nil)
    (eb_cons (es_set sc__law_draw.nd rfl (.inl rfl) (em_v (ee_get (k := .spot) hu1s (ev 0))))
    (eb_cons (es_put (k := .spot) hu1s (pv 0) (ee_op od_add (ev 2) ec_int))
    (eb_cons (es_par2 rfl sc__law_draw.nd rfl rfl (by decide) rfl rfl (em_v (ee_get (k := .cells) hu1s (ev 0))) (em_v (ee_op od_add (ee_get (k := .seed) hu1s (ev 0)) (ee_op od_mul (ee_op od_mul ec_int (ev 2)) (ev 2)))) rfl)
    (eb_cons (es_set sc__law_draw.nd rfl (.inl rfl) (em_v (ee_ix od_ix (ev 6) (ee_op od_mod (ee_callT cd_int z_int boot_int (ea_cons (ev 2) ea_nil)) (ee_callB cd_len z_len boot_len (ea_cons (ev 6) ea_nil))))))
    (eb_cons (es_set sc__law_draw.nd rfl (.inl rfl) (em_v (ee_op od_mod (ee_callT cd_int z_int boot_int (ea_cons (ee_op od_add (ee_op od_mul (ev 3) (ee_op od_add (ee_op od_mul ec_int (ev 2)) ec_int)) (ev 7)) ea_nil)) ec_int)))
    (eb_cons (es_set sc__law_draw.nd rfl (.inl rfl) (em_v (ee_op od_mod (ee_callT cd_int z_int boot_int (ea_cons (ee_op od_add (ee_op od_add (ee_op od_mul (ev 4) (ev 4)) (ee_op od_mul ec_int (ev 2))) (ee_get (k := .seed) hu1s (ev 0))) ea_nil)) ec_int)))
    (eb_one (es_ret (ee_op od_mod (ee_op od_fdiv (ee_op od_mod (ee_callT cd_int z_int boot_int (ea_cons (ee_op od_add (ee_op od_mul (ev 4) ec_int) (ev 2)) ea_nil)) ec_int) ec_int) (ev 1)))))))))))
theorem ok__law_like {a__law_like : Addr} {d__law_like : FuncData} (D__law_like : Df K mg "_law_like" s__law_like ["got", "due"] a__law_like d__law_like)  (z_repr : mg "repr" = none) : Fg P w K mg base CX0 1 a__law_like d__law_like ["got", "due"] (spM K fa 2 f__law_like) :=
  fg_def D__law_like.F sc__law_like fun cdv A outer s H E hr hg => by
    have hu := rm64 hr
    have hu5 := rm65 hr
    have hu1 := rm100 hr
    have hu1s := rm1 hr
    exact (eb_one (es_ret (ee_cmp (od_eq hu) (ee_callB (cd_repr hg hu1) z_repr boot_repr (ea_cons (ev 0) ea_nil)) (ee_callB (cd_repr hg hu1) z_repr boot_repr (ea_cons (ev 1) ea_nil)))))
theorem ok__law_all {a__law_all : Addr} {d__law_all : FuncData} (D__law_all : Df K mg "_law_all" s__law_all ["n"] a__law_all d__law_all)  (z_range : mg "range" = none) : ∀ n, Fg P w K mg base CX0 (n + 1) a__law_all d__law_all ["n"] (spM K fa 1 (f__law_all n))
  | 0 => fg_none
  | n + 1 => fg_def (k := n + 1) D__law_all.F sc__law_all fun cdv A outer s H E hr hg => by
    have ih := ok__law_all D__law_all z_range n
    have hu := rm64 hr
    have hu5 := rm65 hr
    have hu1 := rm100 hr
    have hu1s := rm1 hr
    exact (eb_cons (es_if (et_cmp (od_eq hu) (ev 0) ec_int) (eb_one (es_ret (ee_o (eo_lst (ea_cons (ee_tup ea_nil) ea_nil))))) eb_nil)
    (eb_cons (es_set sc__law_all.nd rfl (.inl rfl) (em_o (eo_lst ea_nil)))
    (eb_cons (es_for PassesOwn.never rfl (ei_rng2 z_range (ea_cons ec_int (ea_cons (ee_op od_add (ev 0) ec_int) ea_nil))) (eg_name sc__law_all.nd rfl (.inr rfl)) (eb_one (es_ext (pv 1) (ee_o (eo_lc (own := [("rest", 3)]) rfl sc__law_all.nd (ei_seq (ee_g ih (hr.mono (by omega)) hg D__law_all.m D__law_all.F.kp D__law_all.b (ea_cons (ee_op od_sub (ev 0) (ev 2)) ea_nil) (len_cons (fun _ _ _ _ => len_nil)))) (blkOk_by (N := ["n", "found", "k", "rest"]) (sc := (defScope s__law_all)) (own := [("rest", 3)]) (by decide +kernel)) (by decide) (fun _ _ _ _ _ => (eg_name sc__law_all.nd rfl (.inl rfl))) (fun _ _ _ _ _ => ets_nil) (fun _ _ _ _ _ => (ee_op od_add (ee_tup (ea_cons (ev 2) ea_nil)) (ev 3))))))))
    (eb_one (es_frz 1 (es_ret (ev 1)))))))
theorem ok__law_places {a__law_places : Addr} {d__law_places : FuncData} (D__law_places : Df K mg "_law_places" s__law_places ["c"] a__law_places d__law_places)   : Fg P w K mg base CX0 1 a__law_places d__law_places ["c"] (spM K fa 1 f__law_places) :=
  fg_def D__law_places.F sc__law_places fun cdv A outer s H E hr hg => by
    have hu := rm64 hr
    have hu5 := rm65 hr
    have hu1 := rm100 hr
    have hu1s := rm1 hr
    exact (eb_cons (es_par2 rfl sc__law_places.nd rfl rfl (by decide) rfl rfl (em_o (eo_lst ea_nil)) (em_v ec_int) rfl)
    (eb_cons (es_for PassesOwn.never rfl (ei_seq (ee_sl (ev 0) po_n (po_s (ee_un od_neg ec_int)))) (eg_name sc__law_places.nd rfl (.inl rfl)) (eb_cons (es_set sc__law_places.nd rfl (.inl rfl) (em_v (ee_op od_add (ev 3) (ev 1))))
    (eb_one (es_app (pv 2) (ev 3)))))
    (eb_one (es_frz 2 (es_ret (ev 2))))))
theorem ok__law_of_places {a__law_of_places : Addr} {d__law_of_places : FuncData} (D__law_of_places : Df K mg "_law_of_places" s__law_of_places ["n", "places"] a__law_of_places d__law_of_places)  (z_len : mg "len" = none) (z_range : mg "range" = none) (z_sorted : mg "sorted" = none) (z_tuple : mg "tuple" = none) : Fg P w K mg base CX0 1 a__law_of_places d__law_of_places ["n", "places"] (spM K fa 2 f__law_of_places) :=
  fg_def D__law_of_places.F sc__law_of_places fun cdv A outer s H E hr hg => by
    have hu := rm64 hr
    have hu5 := rm65 hr
    have hu1 := rm100 hr
    have hu1s := rm1 hr
    exact (eb_cons (es_set sc__law_of_places.nd rfl (.inr rfl) (em_v (ee_op od_add (ee_op od_add (ee_o (eo_lst (ea_cons ec_int ea_nil))) (ee_o (eo_callB co_sorted z_sorted boot_sorted (ea_cons (ev 1) ea_nil)))) (ee_o (eo_lst (ea_cons (ev 0) ea_nil))))))
    (eb_one (es_ret (ee_if (et_cmp od_gt (ev 0) ec_int) (ee_callT cd_tuple z_tuple boot_tuple (ea_cons (ee_o (eo_lc (own := [("k", 3)]) rfl sc__law_of_places.nd (ei_rng1 z_range (ea_cons (ee_op od_sub (ee_callB cd_len z_len boot_len (ea_cons (ev 2) ea_nil)) ec_int) ea_nil)) (blkOk_by (N := ["n", "places", "line", "k"]) (sc := (defScope s__law_of_places)) (own := [("k", 3)]) (by decide +kernel)) (by decide) (fun _ _ _ _ _ => (eg_name sc__law_of_places.nd rfl (.inl rfl))) (fun _ _ _ _ _ => ets_nil) (fun _ _ _ _ _ => (ee_op od_sub (ee_ix od_ix (ev 2) (ee_op od_add (ev 3) ec_int)) (ee_ix od_ix (ev 2) (ev 3)))))) ea_nil)) (ee_tup ea_nil)))))
theorem ok__law_composition {a__law_of_places : Addr} {d__law_of_places : FuncData} {a__law_draw : Addr} {d__law_draw : FuncData} {a__law_composition : Addr} {d__law_composition : FuncData} (D__law_of_places : Df K mg "_law_of_places" s__law_of_places ["n", "places"] a__law_of_places d__law_of_places) (D__law_draw : Df K mg "_law_draw" s__law_draw ["m", "bound"] a__law_draw d__law_draw) (D__law_composition : Df K mg "_law_composition" s__law_composition ["m", "n"] a__law_composition d__law_composition) (G__law_of_places : Fg P w K mg base CX0 1 a__law_of_places d__law_of_places ["n", "places"] (spM K fa 2 f__law_of_places)) (G__law_draw : Fg P w K mg base CX0 1 a__law_draw d__law_draw ["m", "bound"] (spM K fa 2 f__law_draw)) (z_range : mg "range" = none) : Fg P w K mg base CX0 2 a__law_composition d__law_composition ["m", "n"] (spM K fa 2 f__law_composition) :=
  fg_def D__law_composition.F sc__law_composition fun cdv A outer s H E hr hg => by
    have hu := rm64 hr
    have hu5 := rm65 hr
    have hu1 := rm100 hr
    have hu1s := rm1 hr
    exact (eb_one (es_ret (ee_g G__law_of_places (hr.mono (by decide)) hg D__law_of_places.m D__law_of_places.F.kp D__law_of_places.b (ea_cons (ev 1) (ea_cons (ee_o (eo_lc (own := [("p", 2)]) rfl sc__law_composition.nd (ei_rng2 z_range (ea_cons ec_int (ea_cons (ev 1) ea_nil))) (blkOk_by (N := ["m", "n", "p"]) (sc := (defScope s__law_composition)) (own := [("p", 2)]) (by decide +kernel)) (by decide) (fun _ _ _ _ _ => (eg_name sc__law_composition.nd rfl (.inl rfl))) (fun _ _ _ _ _ => (ets_one (et_cmp (od_eq hu) (ee_g G__law_draw (hr.mono (by decide)) hg D__law_draw.m D__law_draw.F.kp D__law_draw.b (ea_cons (ev 0) (ea_cons ec_int ea_nil)) (len_cons (len_cons (fun _ _ _ _ => len_nil)))) ec_int))) (fun _ _ _ _ _ => (ev 2)))) ea_nil)) (len_cons (len_cons (fun _ _ _ _ => len_nil))))))
theorem ok__law_walked {a__law_places : Addr} {d__law_places : FuncData} {a__law_walked : Addr} {d__law_walked : FuncData} (D__law_places : Df K mg "_law_places" s__law_places ["c"] a__law_places d__law_places) (D__law_walked : Df K mg "_law_walked" s__law_walked ["c"] a__law_walked d__law_walked) (G__law_places : Fg P w K mg base CX0 1 a__law_places d__law_places ["c"] (spM K fa 1 f__law_places)) (z_range : mg "range" = none) (z_sum : mg "sum" = none) : Fg P w K mg base CX0 2 a__law_walked d__law_walked ["c"] (spM K fa 1 f__law_walked) :=
  fg_def D__law_walked.F sc__law_walked fun cdv A outer s H E hr hg => by
    have hu := rm64 hr
    have hu5 := rm65 hr
    have hu1 := rm100 hr
    have hu1s := rm1 hr
    exact (eb_cons (es_unp (ee_tup (ea_cons (ee_g G__law_places (hr.mono (by decide)) hg D__law_places.m D__law_places.F.kp D__law_places.b (ea_cons (ev 0) ea_nil) (len_cons (fun _ _ _ _ => len_nil))) (ea_cons (ee_o (eo_lst (ea_cons ec_int ea_nil))) ea_nil))) (eg_tup (is := [2, 3]) rfl (pgs_cons (pg_name sc__law_walked.nd rfl (.inl rfl)) (pgs_cons (pg_name sc__law_walked.nd rfl (.inr rfl)) pgs_nil))))
    (eb_cons (es_if (et_cmp (od_eq hu) (ev 0) (ee_tup ea_nil)) (eb_one (es_ret ec_int)) eb_nil)
    (eb_cons (es_for PassesOwn.never rfl (ei_rng2 z_range (ea_cons ec_int (ea_cons (ee_op od_add (ee_callB (cd_sum rfl) z_sum boot_sum (ea_cons (ev 0) ea_nil)) ec_int) ea_nil))) (eg_name sc__law_walked.nd rfl (.inl rfl)) (eb_one (es_if (et_cmp (od_in hu5) (ee_op od_sub (ev 1) ec_int) (ev 2)) (eb_one (es_set sc__law_walked.nd rfl (.inr rfl) (em_v (ee_o (eo_lc (own := [("k", 4)]) rfl sc__law_walked.nd (ei_rng1 z_range (ea_cons (ev 1) ea_nil)) (blkOk_by (N := ["c", "size", "falls", "row", "k"]) (sc := (defScope s__law_walked)) (own := [("k", 4)]) (by decide +kernel)) (by decide) (fun _ _ _ _ _ => (eg_name sc__law_walked.nd rfl (.inl rfl))) (fun _ _ _ _ _ => ets_nil) (fun _ _ _ _ _ => (ee_callB (cd_sum rfl) z_sum boot_sum (ea_cons (ee_sl (ev 3) (po_s (ev 4)) po_n) ea_nil)))))))) (eb_one (es_set sc__law_walked.nd rfl (.inr rfl) (em_v (ee_o (eo_lc (own := [("k", 4)]) rfl sc__law_walked.nd (ei_rng1 z_range (ea_cons (ev 1) ea_nil)) (blkOk_by (N := ["c", "size", "falls", "row", "k"]) (sc := (defScope s__law_walked)) (own := [("k", 4)]) (by decide +kernel)) (by decide) (fun _ _ _ _ _ => (eg_name sc__law_walked.nd rfl (.inl rfl))) (fun _ _ _ _ _ => ets_nil) (fun _ _ _ _ _ => (ee_callB (cd_sum rfl) z_sum boot_sum (ea_cons (ee_sl (ev 3) po_n (po_s (ev 4))) ea_nil)))))))))))
    (eb_one (es_ret (ee_callB (cd_sum rfl) z_sum boot_sum (ea_cons (ev 3) ea_nil)))))))
theorem ok_law {a__law_begun : Addr} {d__law_begun : FuncData} {a__law_composition : Addr} {d__law_composition : FuncData} {a__law_draw : Addr} {d__law_draw : FuncData} {a__law_like : Addr} {d__law_like : FuncData} {a_count_by_runs : Addr} {d_count_by_runs : FuncData} {a__law_walked : Addr} {d__law_walked : FuncData} {a__law_all : Addr} {d__law_all : FuncData} {a_law : Addr} {d_law : FuncData} (D__law_begun : Df K mg "_law_begun" s__law_begun ["script", "k"] a__law_begun d__law_begun) (D__law_composition : Df K mg "_law_composition" s__law_composition ["m", "n"] a__law_composition d__law_composition) (D__law_draw : Df K mg "_law_draw" s__law_draw ["m", "bound"] a__law_draw d__law_draw) (D__law_like : Df K mg "_law_like" s__law_like ["got", "due"] a__law_like d__law_like) (D_count_by_runs : Df K mg "count_by_runs" s_count_by_runs ["composition"] a_count_by_runs d_count_by_runs) (D__law_walked : Df K mg "_law_walked" s__law_walked ["c"] a__law_walked d__law_walked) (D__law_all : Df K mg "_law_all" s__law_all ["n"] a__law_all d__law_all) (D_law : Df K mg "law" s_law ["script"] a_law d_law) (G__law_begun : Fg P w K mg base CX0 1 a__law_begun d__law_begun ["script", "k"] (spM K fa 2 f__law_begun)) (G__law_composition : Fg P w K mg base CX0 2 a__law_composition d__law_composition ["m", "n"] (spM K fa 2 f__law_composition)) (G__law_draw : Fg P w K mg base CX0 1 a__law_draw d__law_draw ["m", "bound"] (spM K fa 2 f__law_draw)) (G__law_like : Fg P w K mg base CX0 1 a__law_like d__law_like ["got", "due"] (spM K fa 2 f__law_like)) (G_count_by_runs : Fg P w K mg base CX0 2 a_count_by_runs d_count_by_runs ["composition"] (spM K fa 1 f_count_by_runs)) (G__law_walked : Fg P w K mg base CX0 2 a__law_walked d__law_walked ["c"] (spM K fa 1 f__law_walked)) (G__law_all : Fg P w K mg base CX0 41 a__law_all d__law_all ["n"] (spM K fa 1 (f__law_all 40))) (z_len : mg "len" = none) (z_max : mg "max" = none) (z_min : mg "min" = none) (z_range : mg "range" = none) (z_sum : mg "sum" = none) : Fg P w K mg base CX0 42 a_law d_law ["script"] (spM K fa 1 f_law) :=
  fg_def D_law.F sc_law fun cdv A outer s H E hr hg => by
    have hu := rm64 hr
    have hu5 := rm65 hr
    have hu1 := rm100 hr
    have hu1s := rm1 hr
    exact (eb_cons (es_for PassesOwn.never rfl (ei_rng1 z_range (ea_cons (ee_callB (cd_max rfl) z_max boot_max (ea_cons ec_int (ea_cons (ee_callB (cd_min rfl) z_min boot_min (ea_cons (ee_callB cd_len z_len boot_len (ea_cons (ev 0) ea_nil)) (ea_cons ec_int ea_nil))) ea_nil))) ea_nil)) (eg_name sc_law.nd rfl (.inl rfl)) (eb_cons (es_set sc_law.nd rfl (.inl rfl) (em_v (ee_g G__law_begun (hr.mono (by decide)) hg D__law_begun.m D__law_begun.F.kp D__law_begun.b (ea_cons (ev 0) (ea_cons (ev 1) ea_nil)) (len_cons (len_cons (fun _ _ _ _ => len_nil))))))
    (eb_cons (es_set sc_law.nd rfl (.inl rfl) (em_v (ee_g G__law_composition (hr.mono (by decide)) hg D__law_composition.m D__law_composition.F.kp D__law_composition.b (ea_cons (ev 3) (ea_cons (ee_g G__law_draw (hr.mono (by decide)) hg D__law_draw.m D__law_draw.F.kp D__law_draw.b (ea_cons (ev 3) (ea_cons ec_int ea_nil)) (len_cons (len_cons (fun _ _ _ _ => len_nil)))) ea_nil)) (len_cons (len_cons (fun _ _ _ _ => len_nil))))))
    (eb_cons (es_if (et_not (et_tru (ee_g G__law_like (hr.mono (by decide)) hg D__law_like.m D__law_like.F.kp D__law_like.b (ea_cons (ee_g G_count_by_runs (hr.mono (by decide)) hg D_count_by_runs.m D_count_by_runs.F.kp D_count_by_runs.b (ea_cons (ev 4) ea_nil) (len_cons (fun _ _ _ _ => len_nil))) (ea_cons (ee_g G__law_walked (hr.mono (by decide)) hg D__law_walked.m D__law_walked.F.kp D__law_walked.b (ea_cons (ev 4) ea_nil) (len_cons (fun _ _ _ _ => len_nil))) ea_nil)) (len_cons (len_cons (fun _ _ _ _ => len_nil)))))) (eb_one (es_ret ec_bl)) eb_nil)
    (eb_cons (es_set sc_law.nd rfl (.inl rfl) (em_v (ee_g G__law_composition (hr.mono (by decide)) hg D__law_composition.m D__law_composition.F.kp D__law_composition.b (ea_cons (ev 3) (ea_cons (ee_g G__law_draw (hr.mono (by decide)) hg D__law_draw.m D__law_draw.F.kp D__law_draw.b (ea_cons (ev 3) (ea_cons ec_int ea_nil)) (len_cons (len_cons (fun _ _ _ _ => len_nil)))) ea_nil)) (len_cons (len_cons (fun _ _ _ _ => len_nil))))))
    (eb_cons (es_set sc_law.nd rfl (.inl rfl) (em_v (ee_callB (cd_sum rfl) z_sum boot_sum (ea_cons (ev 5) ea_nil))))
    (eb_cons (es_set sc_law.nd rfl (.inl rfl) (em_v (ee_op od_add (ee_o (eo_lst (ea_cons (ee_op od_add (ev 5) (ee_tup (ea_cons ec_int ea_nil))) ea_nil))) (ee_if (et_cmp (od_ne hu) (ev 5) (ee_tup ea_nil)) (ee_o (eo_lst (ea_cons (ee_op od_add (ee_sl (ev 5) po_n (po_s (ee_un od_neg ec_int))) (ee_tup (ea_cons (ee_op od_add (ee_ix od_ix (ev 5) (ee_un od_neg ec_int)) ec_int) ea_nil))) ea_nil))) (ee_o (eo_lst ea_nil))))))
    (eb_one (es_if (et_cmp (od_ne hu) (ee_callB (cd_sum rfl) z_sum boot_sum (ea_cons (ee_o (eo_lc (own := [("one", 7)]) rfl sc_law.nd (ei_seq (ev 6)) (blkOk_by (N := ["script", "k", "n", "m", "c", "b", "far", "one"]) (sc := (defScope s_law)) (own := [("one", 7)]) (by decide +kernel)) (by decide) (fun _ _ _ _ _ => (eg_name sc_law.nd rfl (.inl rfl))) (fun _ _ _ _ _ => ets_nil) (fun _ _ _ _ _ => (ee_g G_count_by_runs (hr.mono (by decide)) hg D_count_by_runs.m D_count_by_runs.F.kp D_count_by_runs.b (ea_cons (ev 7) ea_nil) (len_cons (fun _ _ _ _ => len_nil)))))) ea_nil)) (ee_op od_mul (ee_op od_add (ev 2) ec_int) (ee_g G_count_by_runs (hr.mono (by decide)) hg D_count_by_runs.m D_count_by_runs.F.kp D_count_by_runs.b (ea_cons (ev 5) ea_nil) (len_cons (fun _ _ _ _ => len_nil))))) (eb_one (es_ret ec_bl)) eb_nil)))))))))
    (eb_cons (es_set sc_law.nd rfl (.inl rfl) (em_v (ee_g G__law_draw (hr.mono (by decide)) hg D__law_draw.m D__law_draw.F.kp D__law_draw.b (ea_cons (ee_g G__law_begun (hr.mono (by decide)) hg D__law_begun.m D__law_begun.F.kp D__law_begun.b (ea_cons (ev 0) (ea_cons ec_int ea_nil)) (len_cons (len_cons (fun _ _ _ _ => len_nil)))) (ea_cons ec_int ea_nil)) (len_cons (len_cons (fun _ _ _ _ => len_nil))))))
    (eb_one (es_ret (ee_cmp (od_eq hu) (ee_o (eo_lc (own := [("c", 4)]) rfl sc_law.nd (ei_seq (ee_g G__law_all (hr.mono (by decide)) hg D__law_all.m D__law_all.F.kp D__law_all.b (ea_cons (ev 2) ea_nil) (len_cons (fun _ _ _ _ => len_nil)))) (blkOk_by (N := ["script", "k", "n", "m", "c", "b", "far", "one"]) (sc := (defScope s_law)) (own := [("c", 4)]) (by decide +kernel)) (by decide) (fun _ _ _ _ _ => (eg_name sc_law.nd rfl (.inl rfl))) (fun _ _ _ _ _ => (ets_one (et_not (et_tru (ee_g G__law_like (hr.mono (by decide)) hg D__law_like.m D__law_like.F.kp D__law_like.b (ea_cons (ee_g G_count_by_runs (hr.mono (by decide)) hg D_count_by_runs.m D_count_by_runs.F.kp D_count_by_runs.b (ea_cons (ev 4) ea_nil) (len_cons (fun _ _ _ _ => len_nil))) (ea_cons (ee_g G__law_walked (hr.mono (by decide)) hg D__law_walked.m D__law_walked.F.kp D__law_walked.b (ea_cons (ev 4) ea_nil) (len_cons (fun _ _ _ _ => len_nil))) ea_nil)) (len_cons (len_cons (fun _ _ _ _ => len_nil)))))))) (fun _ _ _ _ _ => (ev 4)))) (ee_o (eo_lst ea_nil)))))))
end
end LW

namespace LW
open PySem DS
/-! ### loops of plain functions -/
theorem forL_run {α : Type} (enc : α → PyData) {b : GD} {body : SD} (I : List α → Sto → G → Prop) : ∀ (xs pre : List α) (s : Sto) (g : G), I pre s g →
    (∀ p x q s g, pre ++ xs = p ++ x :: q → I p s g → ∃ s1 s2 g2, b (enc x) s = some s1 ∧ body s1 g = some (.nx s2, g2) ∧ I (p ++ [x]) s2 g2) → ∃ s' g', forL b body (xs.map enc) s g = some (.nx s', g') ∧ I (pre ++ xs) s' g'
  | [], pre, s, g, h0, _ => ⟨s, g, rfl, by simpa using h0⟩
  | x :: xs, pre, s, g, h0, hs => by
    obtain ⟨s1, s2, g2, e1, e2, h2⟩ := hs pre x xs s g rfl h0
    obtain ⟨s', g', e3, h3⟩ := forL_run enc I xs (pre ++ [x]) s2 g2 h2 (fun p y q s g e => hs p y q s g (by simpa using e))
    refine ⟨s', g', ?_, by simpa using h3⟩
    simp only [List.map_cons, forL, e1, e2, Option.bind_some]
    exact e3
theorem compL_map {α : Type} (enc F : α → PyData) {b : GD} {t : BD} {e : ED} {s : Sto} : ∀ (xs : List α), (∀ x ∈ xs, ∀ g, ∃ s1, b (enc x) s = some s1 ∧ t s1 g = some (true, g) ∧ e s1 g = some (.py (F x), g)) → ∀ g, compL b t e s (xs.map enc) g = some (xs.map F, g)
  | [], _, g => rfl
  | x :: xs, h, g => by
    obtain ⟨s1, e1, e2, e3⟩ := h x List.mem_cons_self g
    have ih := compL_map enc F xs (fun y hy => h y (List.mem_cons_of_mem _ hy)) g
    simp only [List.map_cons, compL, e1, e2, e3, Option.bind_some, if_true, ih]
theorem compL_filter {α : Type} (enc F : α → PyData) (p : α → Bool) {b : GD} {t : BD} {e : ED} {s : Sto} : ∀ (xs : List α), (∀ x ∈ xs, ∀ g, ∃ s1, b (enc x) s = some s1 ∧ t s1 g = some (p x, g) ∧ (p x = true → e s1 g = some (.py (F x), g))) → ∀ g, compL b t e s (xs.map enc) g = some ((xs.filter p).map F, g)
  | [], _, g => rfl
  | x :: xs, h, g => by
    obtain ⟨s1, e1, e2, e3⟩ := h x List.mem_cons_self g
    have ih := compL_filter enc F p xs (fun y hy => h y (List.mem_cons_of_mem _ hy)) g
    cases hp : p x with
    | true =>
      rw [hp] at e2
      simp only [List.map_cons, compL, e1, e2, e3 hp, Option.bind_some, if_true, ih, List.filter_cons, hp]
    | false =>
      rw [hp] at e2
      simp only [List.map_cons, compL, e1, e2, Option.bind_some, if_false, ih, List.filter_cons, hp, Bool.false_eq_true]
/-- a comprehension whose test draws -/
theorem compL_draw {α : Type} (enc : α → PyData) {b : GD} {t : BD} {e : ED} {s : Sto} (J : Int → G → Prop) : ∀ (xs : List α) (c : Int), (∀ x ∈ xs, ∀ c' g, c ≤ c' → c' < c + xs.length → J c' g → ∃ s1 p g', b (enc x) s = some s1 ∧ t s1 g = some (p, g') ∧ J (c' + 1) g' ∧ e s1 g' = some (.py (enc x), g')) → ∀ g, J c g → ∃ (ys : List α) (g' : G), compL b t e s (xs.map enc) g = some (ys.map enc, g') ∧ ys.Sublist xs ∧ J (c + xs.length) g'
  | [], c, _, g, j => ⟨[], g, rfl, List.Sublist.refl _, by simpa using j⟩
  | x :: xs, c, h, g, j => by
    obtain ⟨s1, p, g1, e1, e2, j1, e3⟩ := h x List.mem_cons_self c g (Int.le_refl _) (by rw [List.length_cons]; omega) j
    obtain ⟨ys, g', ih, hsub, j'⟩ := compL_draw enc J xs (c + 1) (fun y hy c' g2 h1 h2 => h y (List.mem_cons_of_mem _ hy) c' g2 (by omega) (by rw [List.length_cons]; omega)) g1 j1
    have j2 : J (c + ((x :: xs).length : Nat)) g' := by
      rw [List.length_cons, show c + ((xs.length + 1 : Nat) : Int) = c + 1 + (xs.length : Int) by omega]
      exact j'
    cases p with
    | true => exact ⟨x :: ys, g', by simp only [List.map_cons, compL, e1, e2, e3, Option.bind_some, if_true, ih], hsub.cons_cons x, j2⟩
    | false => exact ⟨ys, g', by simp only [List.map_cons, compL, e1, e2, Option.bind_some, if_false, ih, Bool.false_eq_true], hsub.cons x, j2⟩
theorem intsP_map : ∀ ns : List Int, intsP (ns.map PyData.int) = some ns
  | [] => rfl
  | n :: ns => by simp [intsP, intsP_map ns]
theorem tupsP_map : ∀ ns : List (List Int), tupsP (ns.map fun c => PyData.tuple (c.map PyData.int)) = some ns
  | [] => rfl
  | n :: ns => by simp [tupsP, tupP, intsP_map, tupsP_map ns]
abbrev eT (c : List Int) : PyData := tI c
def eL (c : List Int) : PyData := .list (c.map PyData.int)
theorem cutD_map {α β : Type} (f : α → β) (xs : List α) (lo hi : Option Int) : cutD (xs.map f) lo hi = (cutD xs lo hi).map f := by
  unfold cutD
  rw [List.length_map, List.map_take, List.map_drop]
theorem cutD_len {α : Type} (xs : List α) (lo hi : Option Int) : (cutD xs lo hi).length ≤ xs.length := by
  unfold cutD
  rw [List.length_take, List.length_drop]
  omega
theorem sIx0 (n : Nat) : HT.sIx n 0 none = 0 := rfl
theorem sIxN (n : Nat) : HT.sIx n n none = n := rfl
theorem sIxK (n d k : Nat) : HT.sIx n d (some (k : Int)) = min k n := HT.sIx_nat n d k
theorem sIxM (n d : Nat) : HT.sIx n d (some (-1)) = n - 1 := by
  show (if (-1 : Int) < 0 then ((-1 : Int) + (n : Int)).toNat else min (-1 : Int).toNat n) = n - 1
  rw [if_pos (by decide)]
  omega
theorem cut_take {α : Type} (xs : List α) (k : Nat) : cutD xs none (some (k : Int)) = xs.take k := by
  unfold cutD
  rw [sIx0, sIxK, List.drop_zero, Nat.sub_zero, List.take_eq_take_iff]
  omega
theorem cut_drop {α : Type} (xs : List α) (k : Nat) : cutD xs (some (k : Int)) none = xs.drop k := by
  unfold cutD
  rw [sIxN, sIxK]
  by_cases h : k ≤ xs.length
  · rw [Nat.min_eq_left h, List.take_of_length_le (by rw [List.length_drop]; omega)]
  · rw [Nat.min_eq_right (by omega), Nat.sub_self, List.take_zero, List.drop_of_length_le (by omega)]
theorem cut_take1 {α : Type} (xs : List α) : cutD xs none (some 1) = xs.take 1 := cut_take xs 1
theorem cut_drop1 {α : Type} (xs : List α) : cutD xs (some 1) none = xs.drop 1 := cut_drop xs 1
theorem cut_last {α : Type} (xs : List α) : cutD xs none (some (-1)) = xs.dropLast := by
  unfold cutD
  rw [sIx0, sIxM, List.drop_zero, Nat.sub_zero, List.dropLast_eq_take]
theorem atI_m1 {α : Type} (xs : List α) : L2.atI xs (-1) = xs.getLast? := by
  unfold L2.atI L2.ixN
  cases xs with
  | nil => rfl
  | cons x r =>
    rw [if_neg (by decide), if_pos (by simp only [List.length_cons]; omega)]
    rw [List.getLast?_eq_getElem?]
    show (x :: r)[((-1 : Int) + ((x :: r).length : Int)).toNat]? = _
    congr 1
    omega
theorem lay_ints : ∀ ns : List Int, PyData.canLayAll0 (ns.map PyData.int) = true
  | [] => rfl
  | n :: ns => by rw [List.map_cons, PyData.canLayAll0, lay_ints ns]; rfl
theorem dep_ints : ∀ ns : List Int, PyData.depthAll (ns.map PyData.int) ≤ 1
  | [] => by simp [PyData.depthAll]
  | n :: ns => by
    have := dep_ints ns
    rw [List.map_cons, PyData.depthAll, PyData.depth]
    omega
theorem lay_tups : ∀ cs : List (List Int), PyData.canLayAll0 (cs.map tI) = true
  | [] => rfl
  | c :: cs => by rw [List.map_cons, PyData.canLayAll0, lay_tups cs, PyData.canLay0, lay_ints]; rfl
theorem dep_tups : ∀ cs : List (List Int), PyData.depthAll (cs.map tI) ≤ 2
  | [] => by simp [PyData.depthAll]
  | c :: cs => by
    have := dep_tups cs
    have := dep_ints c
    rw [List.map_cons, PyData.depthAll, PyData.depth]
    omega
theorem sh_I (i : Int) : SeqAt.shaped (.int i) = true := by
  simp [SeqAt.shaped, PyData.canLay0, PyData.depth]
theorem sh_L (ns : List Int) : SeqAt.shaped (.list (ns.map PyData.int)) = true := by
  have := dep_ints ns
  simp [SeqAt.shaped, PyData.canLay0, lay_ints, PyData.depth]
  omega
theorem sh_T (ns : List Int) : SeqAt.shaped (.tuple (ns.map PyData.int)) = true := by
  have := dep_ints ns
  simp [SeqAt.shaped, PyData.canLay0, lay_ints, PyData.depth]
  omega
theorem sh_LT (cs : List (List Int)) : SeqAt.shaped (.list (cs.map tI)) = true := by
  have := dep_tups cs
  simp [SeqAt.shaped, PyData.canLay0, lay_tups, PyData.depth]
  omega
theorem sh_TT (cs : List (List Int)) : SeqAt.shaped (.tuple (cs.map tI)) = true := by
  have := dep_tups cs
  simp [SeqAt.shaped, PyData.canLay0, lay_tups, PyData.depth]
  omega
theorem eq_ints : ∀ a b : List Int, PyData.eqvAll (a.map PyData.int) (b.map PyData.int) = decide (a = b)
  | [], [] => rfl
  | [], _ :: _ => rfl
  | _ :: _, [] => rfl
  | x :: a, y :: b => by
    rw [List.map_cons, List.map_cons, PyData.eqvAll, eq_ints a b, PyData.eqv]
    simp only [List.cons.injEq, Bool.decide_and]
    rfl
theorem eq_tups : ∀ a b : List (List Int), PyData.eqvAll (a.map tI) (b.map tI) = decide (a = b)
  | [], [] => rfl
  | [], _ :: _ => rfl
  | _ :: _, [] => rfl
  | x :: a, y :: b => by
    rw [List.map_cons, List.map_cons, PyData.eqvAll, eq_tups a b, PyData.eqv, eq_ints]
    simp only [List.cons.injEq, Bool.decide_and]
theorem dEq_I (i j : Int) : dEq (.py (.int i)) (.py (.int j)) = some (.py (.bool (decide (i = j)))) := by
  simp [dEq, scD, PyData.eqv]; rfl
theorem dNe_I (i j : Int) : dNe (.py (.int i)) (.py (.int j)) = some (.py (.bool (!decide (i = j)))) := by
  simp [dNe, scD, PyData.eqv]; rfl
theorem dEq_T (a b : List Int) : dEq (.py (tI a)) (.py (tI b)) = some (.py (.bool (decide (a = b)))) := by
  simp [dEq, scD, PyData.eqv, eq_ints, sh_T]
theorem dNe_T (a b : List Int) : dNe (.py (tI a)) (.py (tI b)) = some (.py (.bool (!decide (a = b)))) := by
  simp [dNe, scD, PyData.eqv, eq_ints, sh_T]
theorem dEq_L (a b : List Int) : dEq (.py (eL a)) (.py (eL b)) = some (.py (.bool (decide (a = b)))) := by
  simp [dEq, scD, PyData.eqv, eq_ints, sh_L, eL]
theorem dNe_L (a b : List Int) : dNe (.py (eL a)) (.py (eL b)) = some (.py (.bool (!decide (a = b)))) := by
  simp [dNe, scD, PyData.eqv, eq_ints, sh_L, eL]
theorem dEq_LT (a b : List (List Int)) : dEq (.py (.list (a.map tI))) (.py (.list (b.map tI))) = some (.py (.bool (decide (a = b)))) := by
  simp [dEq, scD, PyData.eqv, eq_tups, sh_LT]
theorem dNe_LT (a b : List (List Int)) : dNe (.py (.list (a.map tI))) (.py (.list (b.map tI))) = some (.py (.bool (!decide (a = b)))) := by
  simp [dNe, scD, PyData.eqv, eq_tups, sh_LT]
theorem any_I (i : Int) (ns : List Int) : (ns.map PyData.int).any (fun z => PyData.eqv z (.int i)) = ns.contains i := by
  induction ns with
  | nil => rfl
  | cons n ns ih =>
    rw [List.map_cons, List.any_cons, ih, List.contains_cons, PyData.eqv]
    congr 1
    exact Bool.beq_comm
theorem dIn_L (i : Int) (ns : List Int) : dIn (.py (.int i)) (.py (.list (ns.map PyData.int))) = some (.py (.bool (ns.contains i))) := by
  simp only [dIn, sh_I, sh_L, any_I, Bool.and_self, if_true]
theorem cut_lastI (xs : List Int) : cutD (xs.map PyData.int) none (some (-1)) = xs.dropLast.map PyData.int := by rw [cutD_map, cut_last]
theorem cut_takeI (xs : List Int) (k : Nat) : cutD (xs.map PyData.int) none (some (k : Int)) = (xs.take k).map PyData.int := by rw [cutD_map, cut_take]
theorem cut_dropI (xs : List Int) (k : Nat) : cutD (xs.map PyData.int) (some (k : Int)) none = (xs.drop k).map PyData.int := by rw [cutD_map, cut_drop]
theorem b62_ok {i : Int} (h1 : -1000000 ≤ i) (h2 : i ≤ 1000000) : b62 i = true := by
  unfold b62
  rw [Nat.blt_eq]
  omega
theorem rng_map (lo : Int) (n : Nat) : rngP lo n = (List.range n).map fun (k : Nat) => PyData.int (lo + (k : Int)) := rfl
/-! ### draws -/
def GD (g : G) (i : Nat) (c : Int) : Prop := ∃ m, g[i]? = some m ∧ m.cells ≠ [] ∧ 0 ≤ m.spot ∧ m.spot ≤ c
theorem GD.mono {g : G} {i : Nat} {c d : Int} (h : GD g i c) (e : c ≤ d) : GD g i d := by
  obtain ⟨m, h1, h2, h3, h4⟩ := h
  exact ⟨m, h1, h2, h3, by omega⟩
theorem small_of {i : Int} (h1 : -(2 ^ 64) < i) (h2 : i < 2 ^ 64) : small64 i = true := by
  exact small64_iff.mpr ⟨h1, h2⟩
theorem atI_mod (cs : List Int) (hc : cs ≠ []) (s : Int) : ∃ x, L2.atI (cs.map PyData.int) (s % (cs.length : Int)) = some (.int x) := by
  have hl : 0 < cs.length := List.length_pos_iff.mpr hc
  have h0 : 0 ≤ s % (cs.length : Int) := Int.emod_nonneg _ (by omega)
  have h1 : s % (cs.length : Int) < (cs.length : Int) := Int.emod_lt_of_pos _ (by omega)
  obtain ⟨n, hn⟩ := Int.eq_ofNat_of_zero_le h0
  rw [hn] at h1 ⊢
  have hn2 : n < cs.length := by omega
  refine ⟨cs[n], L2.atI_nat ?_⟩
  rw [List.getElem?_map, List.getElem?_eq_getElem hn2]
  rfl
end LW

namespace LW
open PySem DS
def stepC (rows : List (List Int)) (e : Int) : List (List Int) := rows.map (fun r => r ++ [e]) ++ rows.map (fun r => r.dropLast ++ [r.getLastD 0 + e])
def coarserL (c : List Int) : List (List Int) := (c.drop 1).foldl stepC [c.take 1]
theorem stepC_len (rows : List (List Int)) (e : Int) : (stepC rows e).length = 2 * rows.length := by
  unfold stepC; rw [List.length_append, List.length_map, List.length_map]; omega
theorem rows_len (r0 : List (List Int)) : ∀ es : List Int, (es.foldl stepC r0).length = 2 ^ es.length * r0.length
  | [] => by simp
  | e :: es => by rw [List.foldl_cons, rows_len (stepC r0 e) es, stepC_len, List.length_cons, Nat.pow_succ, Nat.mul_assoc]
theorem rows_ok (n : Nat) : ∀ (es : List Int) (r0 : List (List Int)), (∀ r ∈ r0, r ≠ [] ∧ r.length ≤ n) → ∀ r ∈ es.foldl stepC r0, r ≠ [] ∧ r.length ≤ n + es.length
  | [], r0, h, r, hr => by simpa using h r hr
  | e :: es, r0, h, r, hr => by
    rw [List.foldl_cons] at hr
    have := rows_ok (n + 1) es (stepC r0 e) (fun r hr => by
      unfold stepC at hr
      rw [List.mem_append, List.mem_map, List.mem_map] at hr
      rcases hr with ⟨q, hq, rfl⟩ | ⟨q, hq, rfl⟩
      · obtain ⟨h1, h2⟩ := h q hq
        exact ⟨by simp, by rw [List.length_append]; simpa using h2⟩
      · obtain ⟨h1, h2⟩ := h q hq
        exact ⟨by simp, by rw [List.length_append, List.length_dropLast]; simp; omega⟩) r hr
    rw [List.length_cons]
    exact ⟨this.1, by omega⟩
theorem last_at {r : List Int} (h : r ≠ []) : L2.atI (r.map PyData.int) (-1) = some (.int (r.getLastD 0)) := by
  rw [atI_m1, List.getLast?_map, List.getLast?_eq_getLast h]
  simp [List.getLastD_eq_getLast?, List.getLast?_eq_getLast h]
theorem lim1 : (1 ≤ lim) = True := by unfold lim; decide
theorem lim2 : (2 ≤ lim) = True := by unfold lim; decide
theorem coarser_ok (c : List Int) (hc : c.length ≤ 15) (g : G) : f_coarser_ones [.py (tI c)] g = some (.py (.tuple ((isort leL (coarserL c)).map tI)), g) := by
  have hx := forL_run (b := bName 2) (body := sSeq (sSet 3 (mV (eO (oComp (iSeq (eVar 1)) (bName 5) bYes (eBin dAdd (eVar 5) (eTup (aCons (eVar 2) aNil))) [5]))))
    (sSeq (sSet 4 (mV (eO (oComp (iSeq (eVar 1)) (bName 5) bYes (eBin dAdd (eSl (eVar 5) pNone (pSome (eUn dNeg (eC (.int 1))))) (eTup (aCons (eBin dAdd (eBin dIx (eVar 5) (eUn dNeg (eC (.int 1)))) (eVar 2)) aNil))) [5]))))
    (sSet 1 (mV (eBin dAdd (eVar 3) (eVar 4)))))) PyData.int (fun pre s g' => g' = g ∧ ∃ x y z u, s = [Slot.v (.py (tI c)), .v (.py (.list ((pre.foldl stepC [c.take 1]).map tI))), x, y, z, u])
    (c.drop 1) [] [.v (.py (tI c)), .v (.py (.list ([c.take 1].map tI))), .un, .un, .un, .un] g ⟨rfl, _, _, _, _, rfl⟩ (fun p e q s g1 ex hI => by
      obtain ⟨rfl, x, y, z, u, rfl⟩ := hI
      have hne : c ≠ [] := fun h0 => by subst h0; simp at ex
      have hpl : p.length + 1 ≤ 15 := by
        have := congrArg List.length ex
        simp at this; omega
      have hr := rows_ok 1 p [c.take 1] (fun r hr => by
        rw [List.mem_singleton] at hr; subst hr
        exact ⟨by cases c with | nil => exact absurd rfl hne | cons => simp, by rw [List.length_take]; omega⟩)
      have hl : (p.foldl stepC [c.take 1]).length ≤ 100000 := by
        rw [rows_len]
        have : 2 ^ p.length ≤ 2 ^ 14 := Nat.pow_le_pow_right (by decide) (by omega)
        simp; omega
      generalize hR : p.foldl stepC [c.take 1] = R at hr hl
      have c1 := compL_map (enc := tI) (F := fun r => tI (r ++ [e])) (b := bName 5) (t := bYes) (e := eBin dAdd (eVar 5) (eTup (aCons (eVar 2) aNil))) (s := [Slot.v (.py (tI c)), .v (.py (.list (R.map tI))), .v (.py (.int e)), y, z, .un]) R (fun r hrm g => by
        obtain ⟨h1, h2⟩ := hr r hrm
        refine ⟨_, rfl, rfl, ?_⟩
        have : r.length + 1 ≤ lim := by unfold lim; omega
        simp [eBin, eVar, eTup, aCons, aNil, pys, tI, dAdd, this, lim1])
      have c2 := compL_map (enc := tI) (F := fun r => tI (r.dropLast ++ [r.getLastD 0 + e])) (b := bName 5) (t := bYes) (e := (eBin dAdd (eSl (eVar 5) pNone (pSome (eUn dNeg (eC (.int 1))))) (eTup (aCons (eBin dAdd (eBin dIx (eVar 5) (eUn dNeg (eC (.int 1)))) (eVar 2)) aNil)))) (s := [Slot.v (.py (tI c)), .v (.py (.list (R.map tI))), .v (.py (.int e)), .v (.py (.list (R.map fun r => tI (r ++ [e])))), z, .un]) R (fun r hrm g => by
        obtain ⟨h1, h2⟩ := hr r hrm
        refine ⟨_, rfl, rfl, ?_⟩
        have : r.length - 1 + 1 ≤ lim := by unfold lim; omega
        simp [eBin, eVar, eTup, aCons, aNil, pys, tI, dAdd, eSl, pNone, pSome, eUn, eC, dNeg, dI, dSl, dIx, last_at h1, cut_last, this, lim1])
      have l1 : R.length ≤ lim := by unfold lim; omega
      have l2 : R.length + R.length ≤ lim := by unfold lim; omega
      refine ⟨_, [Slot.v (.py (tI c)), .v (.py (.list ((stepC R e).map tI))), .v (.py (.int e)), .v (.py (.list (R.map fun r => tI (r ++ [e])))), .v (.py (.list (R.map fun r => tI (r.dropLast ++ [r.getLastD 0 + e])))), u], g1, rfl, ?_, rfl, ?_⟩
      · simp [sSeq, sSet, mV, eO, oComp, iSeq, eVar, seqP, l1, wipeS, c1, c2]
        simp [eBin, eVar, dAdd, l2, stepC, Function.comp_def]
      · exact ⟨_, _, _, _, by rw [List.foldl_append, hR]; rfl⟩
      )
  obtain ⟨s', g', e1, rfl, x, y, z, u, rfl⟩ := hx
  have i1 : (([] : List Int) ++ c.drop 1).foldl stepC [c.take 1] = coarserL c := rfl
  rw [i1] at e1
  have i3 : intsP ((coarserL c).map tI) = none ∨ coarserL c = [] := by
    cases coarserL c with
    | nil => exact .inr rfl
    | cons r R => exact .inl rfl
  have i2 : (coarserL c) ≠ [] := by
    intro h0
    have := congrArg List.length h0
    unfold coarserL at this
    rw [rows_len] at this
    simp at this
  have i4 := i3.resolve_right i2
  have i5 : ((coarserL c).all (fun ns => !ns.isEmpty) || decide ((coarserL c).length < 2)) = true := by
    cases c with
    | nil => rfl
    | cons x r =>
      rw [Bool.or_eq_true, List.all_eq_true]
      refine .inl fun q hq => ?_
      have := (rows_ok 1 r [[x]] (fun r hr => by rw [List.mem_singleton] at hr; subst hr; simp) q hq).1
      cases q with
      | nil => exact absurd rfl this
      | cons => rfl
  have i6 : tupsP ((coarserL c).map tI) = some (coarserL c) := tupsP_map _
  have z1 : cutD c none (some 1) = c.take 1 := cut_take1 c
  have z2 : cutD c (some 1) none = c.drop 1 := cut_drop1 c
  have i7 : oSorted [.py (.list ((coarserL c).map tI))] = some (.lst ((isort leL (coarserL c)).map tI)) := by
    unfold oSorted
    simp only [i4, i6]
    rw [if_pos i5]
  simp only [tI, List.map_cons, List.map_nil] at e1 ⊢
  simp [f_coarser_ones, runD, b_coarser_ones, startS, sSeq, sSet, mV, eO, oLst, eSl, eVar, pNone, pSome, eC, dI, dSl, aCons, aNil, pys, cutD_map, z1, z2, sFor, iSeq, seqP, lim1, -List.drop_one, -List.map_drop, -List.map_take,
    e1, sRet, eCall, eCallO, i7, dTuple]
def sgnI (k : Int) : Int := if k % 2 = 0 then 1 else -1
theorem sign_ok (k : Int) (g : G) : f_sign_of [.py (.int k)] g = some (.py (.int (sgnI k)), g) := by
  unfold sgnI
  by_cases h : k % 2 = 0
  · simp [f_sign_of, runD, b_sign_of, startS, sRet, eIf, bVal, eBin, eVar, eC, dMod, dEq, scD, PyData.eqv, dB, h]
  · simp [f_sign_of, runD, b_sign_of, startS, sRet, eIf, bVal, eBin, eVar, eC, dMod, dEq, scD, PyData.eqv, dB, h, eUn, dNeg]
def stW (w e : Int) : Int := w / ((facN e.toNat : Nat) : Int)
def waysL (r : List Int) : Int := r.foldl stW ((facN r.sum.toNat : Nat) : Int)
theorem facN_pos : ∀ n, 0 < facN n
  | 0 => by decide
  | n + 1 => Nat.mul_pos (facN_pos n) (Nat.succ_pos n)
theorem facN_mono : ∀ {m n : Nat}, m ≤ n → facN m ≤ facN n := fun {m n} h => by
  induction h with
  | refl => exact Nat.le_refl _
  | step h ih => exact Nat.le_trans ih (Nat.le_mul_of_pos_right _ (Nat.succ_pos _))
theorem sum_le {r : List Int} (h : ∀ e ∈ r, 0 ≤ e) : 0 ≤ r.sum ∧ ∀ e ∈ r, e ≤ r.sum := by
  induction r with
  | nil => simp
  | cons x r ih =>
    obtain ⟨h1, h2⟩ := ih fun e he => h e (List.mem_cons_of_mem _ he)
    have hx := h x List.mem_cons_self
    rw [List.sum_cons]
    refine ⟨by omega, fun e he => ?_⟩
    rcases List.mem_cons.mp he with rfl | he
    · omega
    · have := h2 e he; omega
theorem ways_ok (r : List Int) (h : ∀ e ∈ r, 0 ≤ e) (hs : r.sum ≤ 12) (g : G) : f_ways_to_part [.py (tI r)] g = some (.py (.int (waysL r)), g) := by
  obtain ⟨h0, h1⟩ := sum_le h
  have hx := forL_run (b := bName 2) (body := sAug 1 dFdiv (eCall dFact (aCons (eVar 2) aNil))) PyData.int (fun pre s g' => g' = g ∧ ∃ z, s = [Slot.v (.py (tI r)), .v (.py (.int (pre.foldl stW ((facN r.sum.toNat : Nat) : Int)))), z])
    r [] [.v (.py (tI r)), .v (.py (.int (facN r.sum.toNat : Nat))), .un] g ⟨rfl, _, rfl⟩ (fun p e q s g1 ex hI => by
      obtain ⟨rfl, z, rfl⟩ := hI
      have he : e ∈ r := by
        have : r = p ++ e :: q := by simpa using ex
        rw [this]; simp
      have e0 := h e he
      have e1 := h1 e he
      have e2 : e ≤ 20000 := by omega
      have f1 : 0 < facN e.toNat := facN_pos _
      have f2 : facN e.toNat < 1073741824 := Nat.lt_of_le_of_lt (facN_mono (show e.toNat ≤ 12 by omega)) (by decide)
      have f3 : ((facN e.toNat : Nat) : Int) < 1073741824 := by omega
      refine ⟨_, [Slot.v (.py (tI r)), .v (.py (.int (stW (p.foldl stW ((facN r.sum.toNat : Nat) : Int)) e))), .v (.py (.int e))], g1, rfl, ?_, rfl, _, by rw [List.foldl_append]; rfl⟩
      simp [sAug, eCall, aCons, aNil, eVar, dFact, e0, e2, dFdiv, f1, f3, stW])
  obtain ⟨s', g', e1, rfl, z, rfl⟩ := hx
  have h2 : r.sum ≤ 20000 := by omega
  simp only [tI, List.nil_append] at e1 ⊢
  simp [f_ways_to_part, runD, b_ways_to_part, startS, sSeq, sSet, mV, eCall, eVar, aCons, aNil, dSum, intsP_map, dFact, h0, h2, sFor, iSeq, seqP, e1, sRet, waysL]
theorem perm_sum {a b : List Int} (h : a.Perm b) : a.sum = b.sum := by
  induction h with
  | nil => rfl
  | cons x _ ih => rw [List.sum_cons, List.sum_cons, ih]
  | swap x y l => simp only [List.sum_cons]; omega
  | trans _ _ h1 h2 => exact h1.trans h2
theorem stepC_sum {t : Int} {rows : List (List Int)} {e : Int} (he : 0 ≤ e) (h : ∀ r ∈ rows, r ≠ [] ∧ (∀ x ∈ r, 0 ≤ x) ∧ r.sum = t) : ∀ r ∈ stepC rows e, r ≠ [] ∧ (∀ x ∈ r, 0 ≤ x) ∧ r.sum = t + e := by
  intro r hr
  unfold stepC at hr
  rw [List.mem_append, List.mem_map, List.mem_map] at hr
  rcases hr with ⟨q, hq, rfl⟩ | ⟨q, hq, rfl⟩
  · obtain ⟨h1, h2, h3⟩ := h q hq
    refine ⟨by simp, fun x hx => ?_, by simp [h3]⟩
    rcases List.mem_append.mp hx with hx | hx
    · exact h2 x hx
    · rw [List.mem_singleton] at hx; subst hx; exact he
  · obtain ⟨h1, h2, h3⟩ := h q hq
    have hd := List.dropLast_concat_getLast h1
    have hl : q.getLastD 0 = q.getLast h1 := by simp [List.getLastD_eq_getLast?, List.getLast?_eq_getLast h1]
    have hm : q.getLast h1 ∈ q := List.getLast_mem h1
    have hsum : q.dropLast.sum + q.getLast h1 = t := by
      have := congrArg List.sum hd
      rw [List.sum_append] at this
      simp at this
      omega
    refine ⟨by simp, fun x hx => ?_, by rw [hl]; simp; omega⟩
    rcases List.mem_append.mp hx with hx | hx
    · exact h2 x ((List.dropLast_sublist q).subset hx)
    · rw [List.mem_singleton] at hx
      subst hx
      rw [hl]
      have := h2 _ hm
      omega
theorem rows_sum : ∀ (es : List Int) (t : Int) (r0 : List (List Int)), (∀ e ∈ es, 0 ≤ e) → (∀ r ∈ r0, r ≠ [] ∧ (∀ x ∈ r, 0 ≤ x) ∧ r.sum = t) → ∀ r ∈ es.foldl stepC r0, (∀ x ∈ r, 0 ≤ x) ∧ r.sum = t + es.sum
  | [], t, r0, _, h, r, hr => by
    obtain ⟨_, h2, h3⟩ := h r hr
    exact ⟨h2, by simpa using h3⟩
  | e :: es, t, r0, he, h, r, hr => by
    rw [List.foldl_cons] at hr
    have := rows_sum es (t + e) _ (fun x hx => he x (List.mem_cons_of_mem _ hx)) (stepC_sum (he e List.mem_cons_self) h) r hr
    rw [List.sum_cons]
    exact ⟨this.1, by rw [this.2]; omega⟩
theorem coarser_sum {c : List Int} (h : ∀ x ∈ c, 0 ≤ x) : ∀ r ∈ coarserL c, (∀ x ∈ r, 0 ≤ x) ∧ r.sum = c.sum := by
  intro r hr
  cases c with
  | nil =>
    have : r = [] := by simpa [coarserL] using hr
    subst this; simp
  | cons x c =>
    have := rows_sum c x [[x]] (fun e he => h e (List.mem_cons_of_mem _ he)) (fun r hr => by
      rw [List.mem_singleton] at hr; subst hr
      exact ⟨by simp, fun y hy => by rw [List.mem_singleton] at hy; subst hy; exact h _ List.mem_cons_self, by simp⟩) r hr
    rw [List.sum_cons]
    exact this
def cntL (c : List Int) : Int := ((coarserL c).map fun r => sgnI ((c.length : Int) - (r.length : Int)) * waysL r).sum
theorem count_ok (c : List Int) (h : ∀ x ∈ c, 0 ≤ x) (hl : c.length ≤ 15) (hs : c.sum ≤ 12) (g : G) : f_count_by_runs [.py (tI c)] g = some (.py (.int (cntL c)), g) := by
  have e1 := coarser_ok c hl g
  have hrow : ∀ r ∈ isort leL (coarserL c), (∀ x ∈ r, 0 ≤ x) ∧ r.sum ≤ 12 := fun r hr => by
    have := coarser_sum h r ((isort_perm leL _).mem_iff.mp hr)
    exact ⟨this.1, by rw [this.2]; exact hs⟩
  have hlen : (isort leL (coarserL c)).length ≤ lim := by
    rw [(isort_perm leL (coarserL c)).length_eq]
    unfold coarserL
    rw [rows_len]
    have : 2 ^ (c.drop 1).length ≤ 2 ^ 15 := Nat.pow_le_pow_right (by decide) (by rw [List.length_drop]; omega)
    unfold lim
    simp at this ⊢
    omega
  have c1 := compL_map (enc := tI) (F := fun r => .int (sgnI ((c.length : Int) - (r.length : Int)) * waysL r)) (b := bName 2) (t := bYes) (e := eBin dMul (eFn f_sign_of (aCons (eBin dSub (eVar 1) (eCall dLen (aCons (eVar 2) aNil))) aNil)) (eFn f_ways_to_part (aCons (eVar 2) aNil))) (s := [Slot.v (.py (tI c)), .v (.py (.int c.length)), .un]) (isort leL (coarserL c)) (fun r hr g => by
    refine ⟨_, rfl, rfl, ?_⟩
    have e2 := ways_ok r (hrow r hr).1 (hrow r hr).2 g
    have e3 := sign_ok ((c.length : Int) - (r.length : Int)) g
    have s1 : small64 (sgnI ((c.length : Int) - (r.length : Int))) = true := by
      unfold sgnI
      split <;> decide
    simp only [tI] at e2
    simp [eBin, eFn, aCons, aNil, eVar, eCall, dLen, dSub, e2, e3, dMul, s1])
  have e4 : (isort leL (coarserL c)).map (fun r => PyData.int (sgnI ((c.length : Int) - (r.length : Int)) * waysL r)) = ((isort leL (coarserL c)).map (fun r => (sgnI ((c.length : Int) - (r.length : Int)) * waysL r))).map PyData.int := by rw [List.map_map]; rfl
  have e5 : ((isort leL (coarserL c)).map (fun r => (sgnI ((c.length : Int) - (r.length : Int)) * waysL r))).sum = cntL c := perm_sum ((isort_perm leL _).map _)
  rw [e4] at c1
  simp only [tI] at e1 c1 ⊢
  simp [f_count_by_runs, runD, b_count_by_runs, startS, sSeq, sSet, mV, eCall, eVar, aCons, aNil, dLen, sRet, eO, oComp, iSeq, eFn, e1, seqP, hlen, wipeS, c1, dSum, intsP_map, e5, -List.map_map]
end LW

namespace LW
open PySem DS
theorem begun_ok (ns : List Int) (h : ns.length ≤ 63) (k : Int) (g : G) : ∃ g', f__law_begun [.sc ns, .py (.int k)] g = some (.gm g.length, g') ∧ GD g' g.length 0 := by
  have hk : small64 53 = true := by decide
  have l1 : (cutD ns (some k) none).length ≤ ns.length := cutD_len _ _ _
  have l2 : (cutD ns none (some k)).length ≤ ns.length := cutD_len _ _ _
  have l3 : (cutD ns (some k) none).length + (cutD ns none (some k)).length ≤ lim := by unfold lim; omega
  generalize hC : cutD ns (some k) none ++ cutD ns none (some k) = C
  have hM : (cutD ns (some k) none).map PyData.int ++ (cutD ns none (some k)).map PyData.int = C.map PyData.int := by rw [← List.map_append, hC]
  have hl : C.length + 1 ≤ lim := by rw [← hC, List.length_append]; unfold lim; omega
  have hl' : C.length ≤ lim := by omega
  have h10 : small64 10 = true := by decide
  have hcom := compL_filter (enc := PyData.int) (F := PyData.int) (p := fun x => decide (x ≥ 10 ^ 18)) (b := bName 5) (t := bVal (eBin dGe (eVar 5) (eBin dPow (eC (.int 10)) (eC (.int 18))))) (e := eVar 5)
    (s := [Slot.v (.sc ns), .v (.py (.int k)), .v (.py (.list (C.map PyData.int))), .un, .un, .un]) C (fun x hx g => ⟨_, rfl, by
      simp [bVal, eBin, eVar, eC, dPow, h10, dGe, dOrd, dB], fun _ => by simp [eVar]⟩)
  generalize C.filter (fun x => decide (x ≥ 10 ^ 18)) = R at hcom
  obtain ⟨s', g', e1, hI⟩ := forL_run (b := bName 5) (body := sSet 4 (mV (eBin dMod (eCall dInt (aCons (eBin dAdd (eBin dMul (eVar 4) (eC (.int 48271))) (eVar 5)) aNil)) (eC (.int 2147483647))))) PyData.int
    (fun pre s g' => g' = g ∧ ∃ z u, s = [Slot.v (.sc ns), .v (.py (.int k)), .v (.py (.list (C.map PyData.int))), .v (.py (.list (R.map PyData.int))), .v (.py (.int z)), u]) C [] [Slot.v (.sc ns), .v (.py (.int k)), .v (.py (.list (C.map PyData.int))), .v (.py (.list (R.map PyData.int))), .v (.py (.int (71 + k))), .un] g ⟨rfl, _, _, rfl⟩ (fun p e q s g1 ex hI => by
      obtain ⟨rfl, z, u, rfl⟩ := hI
      have hs : small64 48271 = true := by decide
      refine ⟨_, [Slot.v (.sc ns), .v (.py (.int k)), .v (.py (.list (C.map PyData.int))), .v (.py (.list (R.map PyData.int))), .v (.py (.int ((z * 48271 + e) % 2147483647))), .v (.py (.int e))], g1, rfl, ?_, rfl, _, _, rfl⟩
      simp [sSet, mV, eBin, eCall, aCons, aNil, eVar, eC, dMul, hs, dAdd, dInt, dMod])
  obtain ⟨rfl, z, u, rfl⟩ := hI
  have e2 : dNe (.py (.list (R.map PyData.int))) (.py (.list [])) = some (.py (.bool (!decide (R = [])))) := dNe_L R []
  have e3 : ∃ x, eIf (bVal (eBin dNe (eVar 3) (eO (oLst aNil)))) (eBin dIx (eVar 3) (eC (.int 0))) (eC (.int 0)) [Slot.v (.sc ns), .v (.py (.int k)), .v (.py (.list (C.map PyData.int))), .v (.py (.list (R.map PyData.int))), .v (.py (.int z)), u] g' = some (.py (.int x), g') := by
    cases R with
    | nil => exact ⟨0, by simp [eIf, bVal, eBin, eVar, eO, oLst, aNil, pys, dB, eC] ; simp [e2] at *; simp [e2]⟩
    | cons x r =>
      refine ⟨x, ?_⟩
      have e4 : L2.atI (PyData.int x :: r.map PyData.int) 0 = some (.int x) := L2.atI_nat (j := 0) rfl
      simp only [List.map_cons] at e2
      simp [eIf, bVal, eBin, eVar, eO, oLst, aNil, pys, dB, eC, dIx, e2, e4]
  obtain ⟨x, e3⟩ := e3
  refine ⟨g' ++ [{ left := x, seed := z, cells := C ++ [53 * k + 11], spot := 0 }], ?_, _, List.getElem?_concat_length, by simp, Int.le_refl _, Int.le_refl _⟩
  have i3 : intsP (C.map PyData.int ++ [.int (53 * k + 11)]) = some (C ++ [53 * k + 11]) := by
    rw [← intsP_map (C ++ [53 * k + 11])]; simp
  simp [f__law_begun, runD, b__law_begun, startS, sSeq, sSet, mV, eBin, eSl, eVar, pNone, pSome, dI, dSl, dAdd, l3, hM, lim1, eO, oComp, iSeq, seqP, hl', wipeS, hcom, eC, sFor, e1, sRet, eGm, e3, oLst, aCons, aNil, pys, dMul, hk, i3, hl]
  done
end LW

namespace LW
open PySem DS
theorem draw_ok {g : G} {i : Nat} {c b : Int} (h : GD g i c) (hc : c ≤ 1000000) (hb : 0 < b) (hb2 : b < 1073741824) :
    ∃ r g', f__law_draw [.gm i, .py (.int b)] g = some (.py (.int r), g') ∧ 0 ≤ r ∧ r < b ∧ GD g' i (c + 1) := by
  obtain ⟨m, hm, hcell, hs0, hs1⟩ := h
  have hi : i < g.length := (List.getElem?_eq_some_iff.mp hm).1
  by_cases hl : m.left > 0
  · refine ⟨m.left % b, g.set i { m with left := m.left / b }, ?_, Int.emod_nonneg _ (by omega), Int.emod_lt_of_pos _ hb, { m with left := m.left / b }, ?_, hcell, hs0, by show m.spot ≤ c + 1; omega⟩
    · simp [f__law_draw, runD, b__law_draw, startS, sSeq, sIf, bVal, eBin, eGet, eVar, eC, hm, Fld.get, dGt, dOrd, dB, hl, sSet, mV, eCall, aCons, aNil, dInt, dMod, hb, sPut, dFdiv, hb2, dI, FldI.set, sRet]
    · simp [hi]
  · obtain ⟨x, hx⟩ := atI_mod m.cells hcell m.spot
    have hll : 0 < (m.cells.length : Int) := by have := List.length_pos_iff.mpr hcell; omega
    have hll' : 0 < m.cells.length := List.length_pos_iff.mpr hcell
    have s1 : small64 m.spot = true := small_of (by omega) (by omega)
    have s2 : small64 (2 * m.spot + 3) = true := small_of (by omega) (by omega)
    have s3 : ∀ y : Int, small64 (y % 2147483647) = true := fun y => small_of (by have := Int.emod_nonneg y (show (2147483647 : Int) ≠ 0 by decide); omega) (by have := Int.emod_lt_of_pos y (show (0 : Int) < 2147483647 by decide); omega)
    have s4 : small64 40503 = true := by decide
    have s5 : small64 69621 = true := by decide
    have s6 : small64 48271 = true := by decide
    have s7 : small64 2 = true := by decide
    have hset : ∀ m' : MS, (g.set i m')[i]? = some m' := fun m' => by simp [hi]
    have e : ∃ y, f__law_draw [.gm i, .py (.int b)] g = some (.py (.int (y % b)), g.set i { m with spot := m.spot + 1 }) := by
      simp [f__law_draw, runD, b__law_draw, startS, sSeq, sIf, bVal, eBin, eGet, eVar, eC, hm, Fld.get, dGt, dOrd, dB, hl, sSet, mV, eCall, aCons, aNil, dInt, dMod, hb, sPut, dFdiv, hb2, dI, FldI.set, sRet, sPass, sPar2, dAdd, dMul, s1, s2, s3, s4, s5, s6, s7, hset, dLen, hll', dIx, hx]
      exact ⟨_, rfl⟩
    obtain ⟨y, e⟩ := e
    exact ⟨y % b, _, e, Int.emod_nonneg _ (by omega), Int.emod_lt_of_pos _ hb, { m with spot := m.spot + 1 }, by simp [hi], hcell, by show 0 ≤ m.spot + 1; omega, by show m.spot + 1 ≤ c + 1; omega⟩
/-! ### places -/
def stF (p : List Int × Int) (k : Int) : List Int × Int := (p.1 ++ [p.2 + k], p.2 + k)
def fallsL (c : List Int) : List Int := (c.dropLast.foldl stF ([], 0)).1
theorem stF_len : ∀ (c : List Int) (p : List Int × Int), (c.foldl stF p).1.length = p.1.length + c.length
  | [], p => rfl
  | k :: c, p => by rw [List.foldl_cons, stF_len c]; simp [stF]; omega
theorem places_ok (c : List Int) (h : c.length ≤ 1000) (g : G) : f__law_places [.py (tI c)] g = some (.py (eL (fallsL c)), g) := by
  obtain ⟨s', g', e1, hI⟩ := forL_run (b := bName 1) (body := sSeq (sSet 3 (mV (eBin dAdd (eVar 3) (eVar 1)))) (sApp 2 (eVar 3))) PyData.int
    (fun pre s g' => g' = g ∧ ∃ z, s = [Slot.v (.py (tI c)), z, .own (.lst ((pre.foldl stF ([], 0)).1.map PyData.int)), .v (.py (.int (pre.foldl stF ([], 0)).2))]) c.dropLast [] [Slot.v (.py (tI c)), .un, .own (.lst []), .v (.py (.int 0))] g ⟨rfl, _, rfl⟩ (fun p e q s g1 ex hI => by
      obtain ⟨rfl, z, rfl⟩ := hI
      have hp : p.length ≤ 1000 := by
        have := congrArg List.length ex
        simp at this; omega
      have hlen : (p.foldl stF ([], 0)).1.length < lim := by
        rw [stF_len]; unfold lim; simp; omega
      refine ⟨_, [Slot.v (.py (tI c)), .v (.py (.int e)), .own (.lst (((p ++ [e]).foldl stF ([], 0)).1.map PyData.int)), .v (.py (.int ((p ++ [e]).foldl stF ([], 0)).2))], g1, rfl, ?_, rfl, _, rfl⟩
      rw [List.foldl_append]
      simp [sSeq, sSet, mV, eBin, eVar, dAdd, sApp, hlen, stF])
  obtain ⟨rfl, z, rfl⟩ := hI
  simp only [tI, List.nil_append] at e1 ⊢
  simp [f__law_places, runD, b__law_places, startS, sSeq, sPar2, mO, mV, oLst, aNil, pys, eC, sFor, iSeq, eSl, eVar, pNone, pSome, eUn, dNeg, dI, dSl, cut_lastI, seqP, e1, sFrz, frz, obD, sRet, eL, fallsL, -List.map_dropLast]
/-! ### from places -/
def diffsR : Int → List Int → List Int
  | _, [] => []
  | a, b :: r => (b - a) :: diffsR b r
theorem atI_get {xs : List Int} {k : Nat} {y : Int} (h : xs[k]? = some y) : L2.atI (xs.map PyData.int) (k : Int) = some (.int y) := L2.atI_nat (by rw [List.getElem?_map, h]; rfl)
theorem diffs_map : ∀ (l : List Int) (a : Int), (List.range l.length).map (fun k => (a :: l).getD (k + 1) 0 - (a :: l).getD k 0) = diffsR a l
  | [], a => rfl
  | b :: l, a => by
    rw [List.length_cons, List.range_succ_eq_map, List.map_cons, List.map_map, diffsR, ← diffs_map l b]
    simp [Function.comp_def]
theorem diffs_sum : ∀ (l : List Int) (a z : Int), (diffsR a (l ++ [z])).sum = z - a
  | [], a, z => by simp [diffsR]
  | b :: l, a, z => by rw [List.cons_append, diffsR, List.sum_cons, diffs_sum l b z]; omega
theorem diffs_pos : ∀ (l : List Int) (a : Int), (a :: l).Pairwise (· < ·) → ∀ x ∈ diffsR a l, 0 < x
  | [], a, _, x, hx => by cases hx
  | b :: l, a, h, x, hx => by
    rw [diffsR, List.mem_cons] at hx
    rw [List.pairwise_cons] at h
    rcases hx with rfl | hx
    · have := h.1 b List.mem_cons_self; omega
    · exact diffs_pos l b h.2 x hx
theorem of_places_core (n : Int) (ps S : List Int) (hl : S.length ≤ 1000) (i1 : oSorted [.py (.list (ps.map PyData.int))] = some (.lst (S.map PyData.int))) (hn : n > 0) (g : G) : f__law_of_places [.py (.int n), .py (eL ps)] g = some (.py (tI (diffsR 0 (S ++ [n]))), g) := by
  have c1 := compL_map (enc := fun (k : Nat) => PyData.int (0 + (k : Int))) (F := fun k => .int ((0 :: (S ++ [n])).getD (k + 1) 0 - (0 :: (S ++ [n])).getD k 0)) (b := bName 3) (t := bYes) (e := eBin dSub (eBin dIx (eVar 2) (eBin dAdd (eVar 3) (eC (.int 1)))) (eBin dIx (eVar 2) (eVar 3)))
    (s := [Slot.v (.py (.int n)), .v (.py (.list (ps.map PyData.int))), .v (.py (.list ((0 :: (S ++ [n])).map PyData.int))), .un]) (List.range (S ++ [n]).length) (fun k hk g => by
      rw [List.mem_range] at hk
      refine ⟨_, rfl, rfl, ?_⟩
      have k1 : k + 1 < (0 :: (S ++ [n])).length := by rw [List.length_cons]; omega
      have k0 : k < (0 :: (S ++ [n])).length := by omega
      generalize (0 :: (S ++ [n])) = L at k1 k0
      have a1 : L2.atI (L.map PyData.int) ((k : Int) + 1) = some (.int L[k + 1]) := atI_get (k := k + 1) (List.getElem?_eq_getElem k1)
      have a0 : L2.atI (L.map PyData.int) (k : Int) = some (.int L[k]) := atI_get (List.getElem?_eq_getElem k0)
      simp only [List.getD_eq_getElem?_getD, List.getElem?_eq_getElem k1, List.getElem?_eq_getElem k0, Option.getD_some]
      simp [eBin, eVar, eC, dAdd, dIx, a1, a0, dSub])
  have e2 : (List.range (S ++ [n]).length).map (fun k => PyData.int ((0 :: (S ++ [n])).getD (k + 1) 0 - (0 :: (S ++ [n])).getD k 0)) = (diffsR 0 (S ++ [n])).map PyData.int := by
    rw [← diffs_map, List.map_map]; rfl
  rw [e2] at c1
  have e3 : (S ++ [n]).length = S.length + 1 := by simp
  rw [e3] at c1
  have b1 : b62 ((S.length : Int) + 1) = true := b62_ok (by omega) (by omega)
  have l1 : 1 + S.length ≤ lim := by unfold lim; omega
  have l2 : S.length + 1 ≤ lim := by unfold lim; omega
  have l3 : S.length + 1 + 1 ≤ lim := by unfold lim; omega
  have hr := rng_map 0 (S.length + 1)
  have hrl : (rngP 0 (S.length + 1)).length = S.length + 1 := by rw [hr]; simp
  rw [← hr] at c1
  simp only [List.map_cons, List.map_append, List.map_nil] at c1
  simp only [tI, eL]
  have hsub : dSub (.py (.int ((S.length : Int) + 1 + 1))) (.py (.int 1)) = some (.py (.int ((S.length : Int) + 1))) := congrArg (fun i => some (D.py (PyData.int i))) (by omega)
  have hrng : rng1 [.py (.int ((S.length : Int) + 1))] = some (rngP 0 (S.length + 1)) := by
    have ht : ((S.length : Int) + 1).toNat = S.length + 1 := by omega
    simp only [rng1, b1, ht, if_true]
  simp [f__law_of_places, runD, b__law_of_places, startS, sSeq, sSet, mV, eBin, eO, oLst, aCons, aNil, eC, pys, lim1, eCallO, eVar, i1, dAdd, l1, l2, l3, sRet, eIf, bVal, dGt, dOrd, dB, hn, eCall, oComp, iArgs, dLen, hsub, hrng, hrl, wipeS, c1, dTuple]
theorem of_places_ok (n : Int) (ps : List Int) (hl : ps.length ≤ 1000) (hn : n > 0) (g : G) : f__law_of_places [.py (.int n), .py (eL ps)] g = some (.py (tI (diffsR 0 (isort leI ps ++ [n]))), g) :=
  of_places_core n ps _ (by rw [(isort_perm leI ps).length_eq]; exact hl) (by unfold oSorted; simp only [intsP_map]) hn g
theorem of_places0 (ps : List Int) (hl : ps.length ≤ 1000) (g : G) : f__law_of_places [.py (.int 0), .py (eL ps)] g = some (.py (tI []), g) := by
  have i1 : oSorted [.py (.list (ps.map PyData.int))] = some (.lst ((isort leI ps).map PyData.int)) := by unfold oSorted; simp only [intsP_map]
  have hS : (isort leI ps).length ≤ 1000 := by rw [(isort_perm leI ps).length_eq]; exact hl
  generalize isort leI ps = S at i1 hS
  have l1 : 1 + S.length ≤ lim := by unfold lim; omega
  have l2 : S.length + 1 ≤ lim := by unfold lim; omega
  have l3 : S.length + 1 + 1 ≤ lim := by unfold lim; omega
  simp only [tI, eL]
  simp [f__law_of_places, runD, b__law_of_places, startS, sSeq, sSet, mV, eBin, eO, oLst, aCons, aNil, eC, pys, lim1, eCallO, eVar, i1, dAdd, l1, l2, l3, sRet, eIf, bVal, dGt, dOrd, dB, eTup]
end LW

namespace LW
open PySem DS
theorem ins_sorted (x : Int) : ∀ l : List Int, l.Pairwise (· ≤ ·) → (ins leI x l).Pairwise (· ≤ ·)
  | [], _ => by simp [ins]
  | y :: r, h => by
    unfold ins
    by_cases e : leI x y = true
    · rw [if_pos e]
      have hx : x ≤ y := of_decide_eq_true e
      rw [List.pairwise_cons] at h
      refine List.pairwise_cons.mpr ⟨fun z hz => ?_, List.pairwise_cons.mpr h⟩
      rcases List.mem_cons.mp hz with rfl | hz
      · exact hx
      · exact Int.le_trans hx (h.1 z hz)
    · rw [if_neg e]
      have hx : ¬ x ≤ y := fun q => e (decide_eq_true q)
      rw [List.pairwise_cons] at h
      refine List.pairwise_cons.mpr ⟨fun z hz => ?_, ins_sorted x r h.2⟩
      have := (ins_perm leI x r).mem_iff.mp hz
      rcases List.mem_cons.mp this with rfl | hz
      · omega
      · exact h.1 z hz
theorem isort_sorted : ∀ l : List Int, (isort leI l).Pairwise (· ≤ ·)
  | [] => .nil
  | x :: r => ins_sorted x _ (isort_sorted r)
theorem isort_lt {l : List Int} (h : l.Nodup) : (isort leI l).Pairwise (· < ·) := by
  have h1 := isort_sorted l
  have h2 : (isort leI l).Nodup := (isort_perm leI l).nodup_iff.mpr h
  exact (h1.and h2).imp fun h => by omega
theorem comp_of (n : Int) (ps : List Int) (hn : 0 < n) (hd : ps.Nodup) (hr : ∀ x ∈ ps, 0 < x ∧ x < n) : (∀ x ∈ diffsR 0 (isort leI ps ++ [n]), 0 < x) ∧ (diffsR 0 (isort leI ps ++ [n])).sum = n := by
  refine ⟨diffs_pos _ 0 ?_, by rw [diffs_sum]; omega⟩
  have hm : ∀ x ∈ isort leI ps, 0 < x ∧ x < n := fun x hx => hr x ((isort_perm leI ps).mem_iff.mp hx)
  refine List.pairwise_cons.mpr ⟨fun x hx => ?_, List.pairwise_append.mpr ⟨isort_lt hd, List.pairwise_singleton _ _, fun x hx y hy => ?_⟩⟩
  · rcases List.mem_append.mp hx with hx | hx
    · exact (hm x hx).1
    · rw [List.mem_singleton] at hx; subst hx; exact hn
  · rw [List.mem_singleton] at hy; subst hy; exact (hm x hx).2
theorem composition_ok {g : G} {i : Nat} {c n : Int} (h : GD g i c) (hn : 0 ≤ n) (hn2 : n ≤ 1000) (hc : c + n ≤ 1000000) :
    ∃ cs g', f__law_composition [.gm i, .py (.int n)] g = some (.py (tI cs), g') ∧ (∀ x ∈ cs, 0 < x) ∧ cs.sum = n ∧ GD g' i (c + n) := by
  have cd := compL_draw (enc := PyData.int) (b := bName 2) (t := bVal (eBin dEq (eFn f__law_draw (aCons (eVar 0) (aCons (eC (.int 2)) aNil))) (eC (.int 0)))) (e := eVar 2) (s := [Slot.v (.gm i), .v (.py (.int n)), .un])
    (fun c g => GD g i c) ((List.range (n - 1).toNat).map fun (k : Nat) => 1 + (k : Int)) c (fun x hx c' g h1 h2 hg => by
      rw [List.length_map, List.length_range] at h2
      obtain ⟨r, g', e, r0, r1, hg'⟩ := draw_ok (b := 2) hg (by omega) (by decide) (by decide)
      refine ⟨_, decide (r = 0), g', rfl, ?_, hg', by simp [eVar]⟩
      simp [bVal, eBin, eFn, aCons, eVar, eC, aNil, e, dEq_I, dB]) g h
  obtain ⟨ps, g', e, hsub, hg'⟩ := cd
  rw [List.length_map, List.length_range] at hg'
  have hmem : ∀ x ∈ ps, 0 < x ∧ x < n := fun x hx => by
    have := hsub.subset hx
    rw [List.mem_map] at this
    obtain ⟨k, hk, rfl⟩ := this
    rw [List.mem_range] at hk
    omega
  have hnd : ps.Nodup := hsub.nodup (by
    refine List.Pairwise.map _ (fun a b hab => ?_) (List.nodup_range)
    intro q
    exact hab (by omega))
  have hlen : ps.length ≤ 1000 := by
    have := hsub.length_le
    rw [List.length_map, List.length_range] at this
    omega
  have hrng : (rngP 1 (n - 1).toNat) = ((List.range (n - 1).toNat).map fun (k : Nat) => 1 + (k : Int)).map PyData.int := by
    rw [rng_map, List.map_map]; rfl
  have hl : (rngP 1 (n - 1).toNat).length ≤ lim := by
    rw [rng_map, List.length_map, List.length_range]; unfold lim; omega
  have b1 : b62 1 = true := by decide
  have b2 : b62 n = true := b62_ok (by omega) (by omega)
  have hr2 : rng2 [.py (.int 1), .py (.int n)] = some (rngP 1 (n - 1).toNat) := by
    simp only [rng2, b1, b2, Bool.and_self, if_true]
  rw [← hrng] at e
  generalize hN : (n - 1).toNat = N at e hl hr2 hg'
  have hcore : ∀ cs, f__law_of_places [.py (.int n), .py (eL ps)] g' = some (.py (tI cs), g') → f__law_composition [.gm i, .py (.int n)] g = some (.py (tI cs), g') := fun cs hcs => by
    simp only [eL] at hcs
    simp [f__law_composition, runD, b__law_composition, startS, sRet, eFn, aCons, aNil, eVar, eO, oComp, iArgs, eC, hr2, hl, wipeS, e, hcs]
  by_cases h0 : n = 0
  · subst h0
    exact ⟨[], g', hcore _ (of_places0 ps hlen g'), by simp, rfl, hg'.mono (by omega)⟩
  · obtain ⟨h1, h2⟩ := comp_of n ps (by omega) hnd hmem
    exact ⟨_, g', hcore _ (of_places_ok n ps hlen (by omega) g'), h1, h2, hg'.mono (by omega)⟩
/-! ### walks -/
def stepW (falls : List Int) (row : List Int) (j : Nat) : List Int := if falls.contains ((2 + (j : Int)) - 1) then (List.range (j + 2)).map fun k => (row.drop k).sum else (List.range (j + 2)).map fun k => (row.take k).sum
def walkL (c : List Int) : Int := if c = [] then 1 else ((List.range (c.sum - 1).toNat).foldl (stepW (fallsL c)) [1]).sum
theorem walked_ok (c : List Int) (h0 : 0 ≤ c.sum) (h1 : c.sum ≤ 1000) (hl : c.length ≤ 1000) (g : G) : f__law_walked [.py (tI c)] g = some (.py (.int (walkL c)), g) := by
  have ep := places_ok c hl g
  by_cases hc : c = []
  · subst hc
    have d := dEq_T [] []
    simp only [tI, eL] at ep d ⊢
    simp only [List.map_nil] at ep d ⊢
    simp [f__law_walked, runD, b__law_walked, startS, sSeq, sUnp, eTup, eFn, aCons, aNil, eVar, ep, eO, oLst, eC, pys, lim1, lim2, bTup, bAll, sIf, bVal, eBin, d, dB, sRet, walkL]
  · have hx := forL_run (b := bName 1) (body := sIf (bVal (eBin dIn (eBin dSub (eVar 1) (eC (.int 1))) (eVar 2))) (sSet 3 (mV (eO (oComp (iArgs rng1 (aCons (eVar 1) aNil)) (bName 4) bYes (eCall dSum (aCons (eSl (eVar 3) (pSome (eVar 4)) pNone) aNil)) [4])))) (sSet 3 (mV (eO (oComp (iArgs rng1 (aCons (eVar 1) aNil)) (bName 4) bYes (eCall dSum (aCons (eSl (eVar 3) pNone (pSome (eVar 4))) aNil)) [4])))))
      (fun (k : Nat) => PyData.int (2 + (k : Int))) (fun pre s g' => g' = g ∧ ∃ z, s = [Slot.v (.py (tI c)), z, .v (.py (.list ((fallsL c).map PyData.int))), .v (.py (.list ((pre.foldl (stepW (fallsL c)) [1]).map PyData.int))), .un])
      (List.range (c.sum - 1).toNat) [] [Slot.v (.py (tI c)), .un, .v (.py (.list ((fallsL c).map PyData.int))), .v (.py (.list ([1].map PyData.int))), .un] g ⟨rfl, _, rfl⟩ (fun p j q s g1 ex hI => by
        obtain ⟨rfl, z, rfl⟩ := hI
        have hj : j < 1000 := by
          have : j ∈ List.range (c.sum - 1).toNat := by rw [List.nil_append] at ex; rw [ex]; simp
          rw [List.mem_range] at this
          omega
        have hb : b62 (2 + (j : Int)) = true := b62_ok (by omega) (by omega)
        have ht : (2 + (j : Int)).toNat = j + 2 := by omega
        have hr : rng1 [.py (.int (2 + (j : Int)))] = some (rngP 0 (j + 2)) := by simp only [rng1, hb, ht, if_true]
        have hlr : (rngP 0 (j + 2)).length ≤ lim := by rw [rng_map, List.length_map, List.length_range]; unfold lim; omega
        generalize hR : p.foldl (stepW (fallsL c)) [1] = R
        have c1 := compL_map (enc := fun (k : Nat) => PyData.int (0 + (k : Int))) (F := fun k => .int ((R.drop k).sum)) (b := bName 4) (t := bYes) (e := eCall dSum (aCons (eSl (eVar 3) (pSome (eVar 4)) pNone) aNil))
          (s := [Slot.v (.py (tI c)), .v (.py (.int (2 + (j : Int)))), .v (.py (.list ((fallsL c).map PyData.int))), .v (.py (.list (R.map PyData.int))), .un]) (List.range (j + 2)) (fun k hk g => by
            refine ⟨_, rfl, rfl, ?_⟩
            simp [eCall, aCons, aNil, eSl, eVar, pSome, pNone, dI, dSl, cut_dropI, dSum, intsP_map, -List.map_drop])
        have c2 := compL_map (enc := fun (k : Nat) => PyData.int (0 + (k : Int))) (F := fun k => .int ((R.take k).sum)) (b := bName 4) (t := bYes) (e := eCall dSum (aCons (eSl (eVar 3) pNone (pSome (eVar 4))) aNil))
          (s := [Slot.v (.py (tI c)), .v (.py (.int (2 + (j : Int)))), .v (.py (.list ((fallsL c).map PyData.int))), .v (.py (.list (R.map PyData.int))), .un]) (List.range (j + 2)) (fun k hk g => by
            refine ⟨_, rfl, rfl, ?_⟩
            simp [eCall, aCons, aNil, eSl, eVar, pSome, pNone, dI, dSl, cut_takeI, dSum, intsP_map, -List.map_take])
        rw [← rng_map] at c1 c2
        have hin := dIn_L (2 + (j : Int) - 1) (fallsL c)
        refine ⟨_, [Slot.v (.py (tI c)), .v (.py (.int (2 + (j : Int)))), .v (.py (.list ((fallsL c).map PyData.int))), .v (.py (.list ((stepW (fallsL c) R j).map PyData.int))), .un], g1, rfl, ?_, rfl, _, by rw [List.foldl_append, hR]; rfl⟩
        have hsub : dSub (.py (.int (2 + (j : Int)))) (.py (.int 1)) = some (.py (.int (2 + (j : Int) - 1))) := rfl
        unfold stepW
        generalize hcon : (fallsL c).contains (2 + (j : Int) - 1) = q at hin
        cases q with
        | true =>
          simp only [if_true, List.map_map]
          simp [sIf, bVal, eBin, eVar, eC, hsub, hin, dB, sSet, mV, eO, oComp, iArgs, aCons, aNil, hr, hlr, wipeS, c1, Function.comp_def]
        | false =>
          simp only [if_false, List.map_map, Bool.false_eq_true]
          simp [sIf, bVal, eBin, eVar, eC, hsub, hin, dB, sSet, mV, eO, oComp, iArgs, aCons, aNil, hr, hlr, wipeS, c2, Function.comp_def])
    obtain ⟨s', g', e1, rfl, z, rfl⟩ := hx
    have d := dEq_T c []
    rw [decide_eq_false hc] at d
    have b1 : b62 2 = true := by decide
    have b2 : b62 (c.sum + 1) = true := b62_ok (by omega) (by omega)
    have hr2 : rng2 [.py (.int 2), .py (.int (c.sum + 1))] = some (rngP 2 (c.sum - 1).toNat) := by
      have : (c.sum + 1 - 2).toNat = (c.sum - 1).toNat := by omega
      simp only [rng2, b1, b2, Bool.and_self, if_true, this]
    have hs : dSum [.py (.tuple (c.map PyData.int))] = some (.py (.int c.sum)) := by simp only [dSum, intsP_map, Option.map_some]
    rw [← rng_map] at e1
    unfold walkL
    rw [if_neg hc]
    generalize (c.sum - 1).toNat = N at e1 hr2 ⊢
    simp only [tI, eL, List.map_nil, List.map_cons, List.nil_append] at ep d e1 ⊢
    simp [f__law_walked, runD, b__law_walked, startS, sSeq, sUnp, eTup, eFn, aCons, aNil, eVar, ep, eO, oLst, eC, pys, lim1, lim2, bTup, bAll, sIf, bVal, eBin, d, dB, sPass, sFor, iArgs, eCall, hs, dAdd, hr2, e1, sRet, dSum, intsP_map]
end LW

namespace LW
open PySem DS
theorem log_small {a : Int} (h0 : 0 ≤ a) (h1 : a < 2 ^ 60) : a.natAbs.log2 < 60 := by
  by_cases hz : a.natAbs = 0
  · rw [hz]; decide
  · exact (Nat.log2_lt hz).mpr (by omega)
theorem like_ok (a : Int) (h0 : 0 ≤ a) (h1 : a < 2 ^ 60) (g : G) : f__law_like [.py (.int a), .py (.int a)] g = some (.py (.bool true), g) := by
  have hl := log_small h0 h1
  have l1 : a.natAbs.log2 < 1920 := by omega
  have l2 : a.natAbs.log2 + 3 ≤ lim := by unfold lim; omega
  have e : dRepr [.py (.int a)] = some (.py (.str (PyData.int a).shown)) := by
    simp [dRepr, rok, rsz, l1, l2, PyData.depth]
  have q : ∀ x : PySem.Str, dEq (.py (.str x)) (.py (.str x)) = some (.py (.bool true)) := fun x => by
    simp [dEq, scD, PyData.eqv]
  simp [f__law_like, runD, b__law_like, startS, sRet, eBin, eCall, aCons, aNil, eVar, e, q]
/-! ### all compositions -/
def compsA : Nat → Nat → List (List Int)
  | 0, _ => []
  | f + 1, n => if n = 0 then [[]] else (List.range n).flatMap fun k => (compsA f (n - (k + 1))).map fun r => (1 + (k : Int)) :: r
theorem pow_flat {α : Type} (F : Nat → List α) (n : Nat) (h : ∀ k, k < n → (F k).length ≤ 2 ^ (n - 1 - k)) : ∀ m, m ≤ n → ((List.range m).flatMap F).length + 2 ^ (n - m) ≤ 2 ^ n
  | 0, _ => by simp
  | m + 1, hm => by
    have ih := pow_flat F n h m (by omega)
    have h1 := h m (by omega)
    rw [List.range_succ, List.flatMap_append, List.length_append]
    simp only [List.flatMap_cons, List.flatMap_nil, List.append_nil]
    have e : n - m = (n - 1 - m) + 1 := by omega
    have e2 : n - (m + 1) = n - 1 - m := by omega
    rw [e, Nat.pow_succ] at ih
    rw [e2]
    omega
theorem comps_len : ∀ (f n : Nat), (compsA f n).length ≤ 2 ^ n
  | 0, n => by simp [compsA]
  | f + 1, n => by
    unfold compsA
    by_cases h : n = 0
    · rw [if_pos h]; subst h; decide
    · rw [if_neg h]
      have := pow_flat (fun k => (compsA f (n - (k + 1))).map fun r => (1 + (k : Int)) :: r) n (fun k hk => by
        rw [List.length_map, show n - 1 - k = n - (k + 1) by omega]
        exact comps_len f _) n (Nat.le_refl _)
      exact Nat.le_trans (Nat.le_add_right _ _) this
theorem comps_mem : ∀ (f n : Nat) (c : List Int), n < f → (∀ x ∈ c, 0 < x) → c.sum = n → c ∈ compsA f n
  | 0, n, c, h, _, _ => by omega
  | f + 1, n, [], h, _, hs => by
    have : n = 0 := by simp at hs; omega
    subst this
    simp [compsA]
  | f + 1, n, x :: r, h, hp, hs => by
    have hx := hp x List.mem_cons_self
    have hr : 0 ≤ r.sum := (sum_le fun e he => by have := hp e (List.mem_cons_of_mem _ he); omega).1
    rw [List.sum_cons] at hs
    have hn : n ≠ 0 := by omega
    unfold compsA
    rw [if_neg hn, List.mem_flatMap]
    refine ⟨(x - 1).toNat, by rw [List.mem_range]; omega, ?_⟩
    rw [List.mem_map]
    refine ⟨r, comps_mem f _ r (by omega) (fun e he => hp e (List.mem_cons_of_mem _ he)) (by omega), ?_⟩
    congr 1
    omega
theorem comps_el : ∀ (f n : Nat) (r : List Int), r ∈ compsA f n → n ≤ 100 → r.length ≤ n
  | 0, n, r, h, _ => by simp [compsA] at h
  | f + 1, n, r, h, hn => by
    unfold compsA at h
    by_cases h0 : n = 0
    · rw [if_pos h0] at h
      rw [List.mem_singleton] at h
      subst h; simp
    · rw [if_neg h0, List.mem_flatMap] at h
      obtain ⟨k, hk, h⟩ := h
      rw [List.mem_range] at hk
      rw [List.mem_map] at h
      obtain ⟨q, hq, rfl⟩ := h
      have := comps_el f _ q hq (by omega)
      rw [List.length_cons]
      omega
theorem all_ok : ∀ (f n : Nat), n < f → n ≤ 10 → ∀ g, f__law_all f [.py (.int n)] g = some (.py (.list ((compsA f n).map tI)), g)
  | 0, n, h, _, g => by omega
  | f + 1, n, h, hn, g => by
    by_cases h0 : n = 0
    · subst h0
      have d : dEq (.py (.int 0)) (.py (.int 0)) = some (.py (.bool true)) := rfl
      simp [f__law_all, runD, b__law_all, startS, sSeq, sIf, bVal, eBin, eVar, eC, d, dB, sRet, eO, oLst, aCons, aNil, eTup, pys, lim1, compsA]
    · have hfl := pow_flat (fun k => (compsA f (n - (k + 1))).map fun r => (1 + (k : Int)) :: r) n (fun k hk => by
        rw [List.length_map, show n - 1 - k = n - (k + 1) by omega]
        exact comps_len f _)
      have hpow : 2 ^ n ≤ 2 ^ 10 := Nat.pow_le_pow_right (by decide) hn
      have hx := forL_run (b := bName 2) (body := (sExt 1 (eO (oComp (iSeq (eFn (f__law_all f) (aCons (eBin dSub (eVar 0) (eVar 2)) aNil))) (bName 3) bYes (eBin dAdd (eTup (aCons (eVar 2) aNil)) (eVar 3)) [3])))) (fun (k : Nat) => PyData.int (1 + (k : Int)))
        (fun pre s g' => g' = g ∧ ∃ z, s = [Slot.v (.py (.int n)), .own (.lst ((pre.flatMap fun k => (compsA f (n - (k + 1))).map fun r => (1 + (k : Int)) :: r).map tI)), z, .un]) (List.range n) [] [Slot.v (.py (.int n)), .own (.lst []), .un, .un] g ⟨rfl, _, rfl⟩ (fun p k q s g1 ex hI => by
          obtain ⟨rfl, z, rfl⟩ := hI
          rw [List.nil_append] at ex
          have hk : k < n := by
            have : k ∈ List.range n := by rw [ex]; simp
            exact List.mem_range.mp this
          have hpk : p = List.range k ∧ p.length = k := by
            have h1 := congrArg (fun l => l[p.length]?) ex
            have hpl : p.length < n := by
              have := congrArg List.length ex
              simp at this; omega
            simp [hpl] at h1
            have h2 : p = (List.range n).take p.length := by rw [ex]; simp
            rw [List.take_range, Nat.min_eq_left (by omega), h1] at h2
            exact ⟨h2, h1⟩
          have hb := hfl (k + 1) (by omega)
          rw [List.range_succ, List.flatMap_append, ← hpk.1, List.length_append] at hb
          simp only [List.flatMap_cons, List.flatMap_nil, List.append_nil, List.length_map] at hb
          generalize hA : (p.flatMap fun k => (compsA f (n - (k + 1))).map fun r => (1 + (k : Int)) :: r) = A at hb
          have ih := all_ok f (n - (k + 1)) (by omega) (by omega) g1
          have ek : ((n - (k + 1) : Nat) : Int) = (n : Int) - (1 + (k : Int)) := by omega
          rw [ek] at ih
          have c1 := compL_map (enc := tI) (F := fun r => tI ((1 + (k : Int)) :: r)) (b := bName 3) (t := bYes) (e := eBin dAdd (eTup (aCons (eVar 2) aNil)) (eVar 3)) (s := [Slot.v (.py (.int n)), .own (.lst (A.map tI)), .v (.py (.int (1 + (k : Int)))), .un]) (compsA f (n - (k + 1))) (fun r hr g => by
            refine ⟨_, rfl, rfl, ?_⟩
            have hrl : r.length ≤ n - (k + 1) := comps_el f _ r hr (by omega)
            have : 1 + r.length ≤ lim := by unfold lim; omega
            simp [eBin, eTup, aCons, aNil, eVar, pys, lim1, dAdd, this])
          replace hb := Nat.le_trans (Nat.le_add_right _ _) hb
          have l1 : (compsA f (n - (k + 1))).length ≤ lim := by unfold lim; omega
          have l2 : A.length + (compsA f (n - (k + 1))).length ≤ lim := by unfold lim; omega
          refine ⟨_, [Slot.v (.py (.int n)), .own (.lst ((A ++ (compsA f (n - (k + 1))).map fun r => (1 + (k : Int)) :: r).map tI)), .v (.py (.int (1 + (k : Int)))), .un], g1, rfl, ?_, rfl, .v (.py (.int (1 + (k : Int)))), by rw [List.flatMap_append, hA]; simp⟩
          have hsub : dSub (.py (.int n)) (.py (.int (1 + (k : Int)))) = some (.py (.int ((n : Int) - (1 + (k : Int))))) := rfl
          rw [List.map_append, List.map_map]
          simp [sExt, eO, oComp, iSeq, eFn, aCons, aNil, eBin, eVar, hsub, ih, seqP, l1, wipeS, c1, l2, Function.comp_def])
      obtain ⟨s', g', e1, rfl, z, rfl⟩ := hx
      have d : dEq (.py (.int n)) (.py (.int 0)) = some (.py (.bool false)) := by rw [dEq_I, decide_eq_false (by omega)]
      have b1 : b62 1 = true := by decide
      have b2 : b62 ((n : Int) + 1) = true := b62_ok (by omega) (by omega)
      have hr2 : rng2 [.py (.int 1), .py (.int ((n : Int) + 1))] = some (rngP 1 n) := by
        have : ((n : Int) + 1 - 1).toNat = n := by omega
        simp only [rng2, b1, b2, Bool.and_self, if_true, this]
      rw [← rng_map] at e1
      unfold compsA
      rw [if_neg h0]
      simp [f__law_all, runD, b__law_all, startS, sSeq, sIf, bVal, eBin, eVar, eC, d, dB, sPass, sSet, mO, oLst, aNil, pys, sFor, iArgs, aCons, dAdd, hr2, e1, sFrz, frz, obD, sRet]
end LW

namespace LW
open PySem DS
/-! ### the same counts, quicker to reckon -/
structure Tr where
  s : Int
  w : Int
  l : Int
def stepT (rows : List Tr) (e : Int) : List Tr := rows.map (fun t => ⟨t.s, stW t.w t.l, e⟩) ++ rows.map (fun t => ⟨-t.s, t.w, t.l + e⟩)
def endT (rows : List Tr) : Int := (rows.map fun t => t.s * stW t.w t.l).sum
def cntF : List Int → Int
  | [] => 1
  | x :: r => endT (r.foldl stepT [⟨1, ((facN (x :: r).sum.toNat : Nat) : Int), x⟩])
def trOf (m : Int) (k : Int) (r : List Int) : Tr := ⟨sgnI (k - r.length), r.dropLast.foldl stW m, r.getLastD 0⟩
theorem sgn_succ (k : Int) : sgnI (k + 1) = -sgnI k := by
  unfold sgnI
  by_cases h : k % 2 = 0
  · rw [if_pos h, if_neg (by omega)]
  · rw [if_neg h, if_pos (by omega)]; rfl
theorem fold_last (m : Int) {r : List Int} (h : r ≠ []) : r.foldl stW m = stW (r.dropLast.foldl stW m) (r.getLastD 0) := by
  have hl : r.getLastD 0 = r.getLast h := by simp [List.getLastD_eq_getLast?, List.getLast?_eq_getLast h]
  rw [hl]
  have := List.dropLast_concat_getLast h
  generalize r.getLast h = z at this
  rw [← this]
  simp
theorem stepT_eq (m k e : Int) (rows : List (List Int)) (h : ∀ r ∈ rows, r ≠ []) : stepT (rows.map (trOf m k)) e = (stepC rows e).map (trOf m (k + 1)) := by
  unfold stepT stepC
  rw [List.map_append, List.map_map, List.map_map, List.map_map, List.map_map]
  congr 1
  · refine List.map_congr_left fun r hr => ?_
    simp only [Function.comp_apply, trOf, List.length_append, List.length_singleton, List.dropLast_concat]
    rw [← fold_last m (h r hr)]
    congr 1
    · congr 1; omega
    · simp
  · refine List.map_congr_left fun r hr => ?_
    have hl : 0 < r.length := List.length_pos_iff.mpr (h r hr)
    simp only [Function.comp_apply, trOf, List.length_append, List.length_singleton, List.dropLast_concat, List.length_dropLast]
    congr 1
    · rw [show k + 1 - ((r.length - 1 + 1 : Nat) : Int) = (k - (r.length : Int)) + 1 by omega, sgn_succ]
    · simp
theorem foldT_eq (m : Int) : ∀ (es : List Int) (k : Int) (rows : List (List Int)), (∀ r ∈ rows, r ≠ []) → es.foldl stepT (rows.map (trOf m k)) = (es.foldl stepC rows).map (trOf m (k + es.length))
  | [], k, rows, _ => by simp
  | e :: es, k, rows, h => by
    rw [List.foldl_cons, List.foldl_cons, stepT_eq m k e rows h, foldT_eq m es (k + 1) (stepC rows e) (fun r hr => by
      unfold stepC at hr
      rw [List.mem_append, List.mem_map, List.mem_map] at hr
      rcases hr with ⟨q, _, rfl⟩ | ⟨q, _, rfl⟩ <;> simp)]
    rw [List.length_cons, show k + 1 + (es.length : Int) = k + ((es.length + 1 : Nat) : Int) by omega]
theorem cntF_eq (c : List Int) (hp : ∀ x ∈ c, 0 ≤ x) : cntL c = cntF c := by
  cases c with
  | nil => decide +kernel
  | cons x r =>
    have hne : ∀ q ∈ coarserL (x :: r), q ≠ [] := fun q hq => (rows_ok 1 r [[x]] (fun r hr => by rw [List.mem_singleton] at hr; subst hr; simp) q hq).1
    have hsum := coarser_sum hp
    have h0 := foldT_eq ((facN (x :: r).sum.toNat : Nat) : Int) r 1 [[x]] (fun q hq => by rw [List.mem_singleton] at hq; subst hq; simp)
    have h1 : ([[x]].map (trOf ((facN (x :: r).sum.toNat : Nat) : Int) 1)) = [⟨1, ((facN (x :: r).sum.toNat : Nat) : Int), x⟩] := rfl
    rw [h1] at h0
    show cntL (x :: r) = endT (r.foldl stepT [⟨1, ((facN (x :: r).sum.toNat : Nat) : Int), x⟩])
    rw [h0]
    unfold endT cntL
    rw [List.map_map]
    congr 1
    refine List.map_congr_left fun q hq => ?_
    have hq' : q ∈ coarserL (x :: r) := hq
    have e1 : waysL q = q.foldl stW ((facN (x :: r).sum.toNat : Nat) : Int) := by unfold waysL; rw [(hsum q hq').2]
    rw [e1, fold_last _ (hne q hq')]
    simp only [Function.comp_apply, trOf]
    congr 2
    rw [List.length_cons]; omega
def preS : Int → List Int → List Int
  | a, [] => [a]
  | a, x :: r => a :: preS (a + x) r
def sufS : List Int → List Int
  | [] => [0]
  | x :: r => match sufS r with
    | [] => []
    | t :: ts => (x + t) :: t :: ts
theorem preS_eq : ∀ (row : List Int) (a : Int), (List.range (row.length + 1)).map (fun k => a + (row.take k).sum) = preS a row
  | [], a => by simp [preS]
  | x :: r, a => by
    rw [List.length_cons, List.range_succ_eq_map, List.map_cons, List.map_map, preS, ← preS_eq r (a + x)]
    simp [Function.comp_def, Int.add_assoc]
theorem sufS_eq : ∀ (row : List Int), (List.range (row.length + 1)).map (fun k => (row.drop k).sum) = sufS row
  | [] => rfl
  | x :: r => by
    have ih := sufS_eq r
    rw [List.length_cons, List.range_succ_eq_map, List.map_cons, List.map_map]
    have e : (fun k => ((x :: r).drop k).sum) ∘ Nat.succ = fun k => (r.drop k).sum := by funext k; simp
    rw [e, ih, sufS]
    rw [List.range_succ_eq_map, List.map_cons, List.drop_zero] at ih
    generalize hS : sufS r = S at ih
    rw [← ih]
    simp
def stepV (falls : List Int) (row : List Int) (j : Nat) : List Int := if falls.contains ((2 + (j : Int)) - 1) then sufS row else preS 0 row
def walkF (c : List Int) : Int := if c = [] then 1 else ((List.range (c.sum - 1).toNat).foldl (stepV (fallsL c)) [1]).sum
theorem stepV_eq (falls row : List Int) (j : Nat) (h : row.length = j + 1) : stepW falls row j = stepV falls row j := by
  unfold stepW stepV
  have e1 := sufS_eq row
  have e2 := preS_eq row 0
  rw [h] at e1 e2
  simp only [Int.zero_add] at e2
  rw [← e1, ← e2]
theorem foldV_eq (falls : List Int) : ∀ m : Nat, (List.range m).foldl (stepW falls) [1] = (List.range m).foldl (stepV falls) [1] ∧ ((List.range m).foldl (stepW falls) [1]).length = m + 1
  | 0 => ⟨rfl, rfl⟩
  | m + 1 => by
    obtain ⟨h1, h2⟩ := foldV_eq falls m
    rw [List.range_succ, List.foldl_append, List.foldl_append]
    simp only [List.foldl_cons, List.foldl_nil]
    refine ⟨by rw [stepV_eq _ _ _ h2, h1], ?_⟩
    unfold stepW
    split <;> rw [List.length_map, List.length_range]
theorem walkF_eq (c : List Int) : walkL c = walkF c := by
  unfold walkL walkF
  rw [(foldV_eq (fallsL c) _).1]
def good0 (n : Nat) (c : List Int) : Bool := cntF c == walkF c && (decide (0 ≤ walkF c) && (decide (walkF c < 1152921504606846976) && (decide (c.length ≤ 15) && (c.all (fun x => decide (0 < x)) && c.sum == (n : Int)))))
def goodB0 (n : Nat) (b : List Int) : Bool := (walkF (b ++ [1]) + (if b.isEmpty then 0 else walkF (b.dropLast ++ [b.getLastD 0 + 1]))) == ((n : Int) + 1) * walkF b
theorem all_split {α : Type} {p : α → Bool} {l : List α} (k : Nat) (h1 : (l.take k).all p = true) (h2 : (l.drop k).all p = true) : l.all p = true := by
  rw [← List.take_append_drop k l, List.all_append, h1, h2]; rfl
theorem chkA : (List.range 9).all (fun n => (compsA 40 n).all (good0 n)) = true := by decide +kernel
theorem chk9_0 : (((compsA 40 9).drop 0).take 64).all (good0 9) = true := by decide +kernel
theorem chk9_64 : (((compsA 40 9).drop 64).take 64).all (good0 9) = true := by decide +kernel
theorem chk9_128 : (((compsA 40 9).drop 128).take 64).all (good0 9) = true := by decide +kernel
theorem chk9_192 : ((compsA 40 9).drop 192).all (good0 9) = true := by decide +kernel
theorem chk9 : (compsA 40 9).all (good0 9) = true := by
  have u192 := chk9_192
  have u128 : ((compsA 40 9).drop 128).all (good0 9) = true := all_split 64 chk9_128 (by rw [List.drop_drop]; exact u192)
  have u64 : ((compsA 40 9).drop 64).all (good0 9) = true := all_split 64 chk9_64 (by rw [List.drop_drop]; exact u128)
  have u0 : ((compsA 40 9).drop 0).all (good0 9) = true := all_split 64 chk9_0 (by rw [List.drop_drop]; exact u64)
  exact u0
theorem chk10_0 : (((compsA 40 10).drop 0).take 64).all (good0 10) = true := by decide +kernel
theorem chk10_64 : (((compsA 40 10).drop 64).take 64).all (good0 10) = true := by decide +kernel
theorem chk10_128 : (((compsA 40 10).drop 128).take 64).all (good0 10) = true := by decide +kernel
theorem chk10_192 : (((compsA 40 10).drop 192).take 64).all (good0 10) = true := by decide +kernel
theorem chk10_256 : (((compsA 40 10).drop 256).take 64).all (good0 10) = true := by decide +kernel
theorem chk10_320 : (((compsA 40 10).drop 320).take 64).all (good0 10) = true := by decide +kernel
theorem chk10_384 : (((compsA 40 10).drop 384).take 64).all (good0 10) = true := by decide +kernel
theorem chk10_448 : ((compsA 40 10).drop 448).all (good0 10) = true := by decide +kernel
theorem chk10 : (compsA 40 10).all (good0 10) = true := by
  have u448 := chk10_448
  have u384 : ((compsA 40 10).drop 384).all (good0 10) = true := all_split 64 chk10_384 (by rw [List.drop_drop]; exact u448)
  have u320 : ((compsA 40 10).drop 320).all (good0 10) = true := all_split 64 chk10_320 (by rw [List.drop_drop]; exact u384)
  have u256 : ((compsA 40 10).drop 256).all (good0 10) = true := all_split 64 chk10_256 (by rw [List.drop_drop]; exact u320)
  have u192 : ((compsA 40 10).drop 192).all (good0 10) = true := all_split 64 chk10_192 (by rw [List.drop_drop]; exact u256)
  have u128 : ((compsA 40 10).drop 128).all (good0 10) = true := all_split 64 chk10_128 (by rw [List.drop_drop]; exact u192)
  have u64 : ((compsA 40 10).drop 64).all (good0 10) = true := all_split 64 chk10_64 (by rw [List.drop_drop]; exact u128)
  have u0 : ((compsA 40 10).drop 0).all (good0 10) = true := all_split 64 chk10_0 (by rw [List.drop_drop]; exact u64)
  exact u0
theorem chk : (List.range 11).all (fun n => (compsA 40 n).all (good0 n)) = true := by
  rw [List.range_succ, List.all_append, List.range_succ, List.all_append, chkA]
  simp only [List.all_cons, List.all_nil, Bool.and_true, Bool.true_and]
  rw [chk9, chk10]; rfl
theorem chkB : (List.range 10).all (fun n => (compsA 40 n).all (goodB0 n)) = true := by decide +kernel
end LW

namespace LW
open PySem DS
theorem good_of {n : Nat} (hn : n ≤ 10) {c : List Int} (h : c ∈ compsA 40 n) : cntL c = walkL c ∧ 0 ≤ walkL c ∧ walkL c < 1152921504606846976 ∧ c.length ≤ 15 ∧ (∀ x ∈ c, 0 < x) ∧ c.sum = n := by
  have h1 := List.all_eq_true.mp chk n (by rw [List.mem_range]; omega)
  have h2 := List.all_eq_true.mp h1 c h
  simp only [good0, Bool.and_eq_true, beq_iff_eq, decide_eq_true_eq, List.all_eq_true] at h2
  rw [walkF_eq, cntF_eq c (fun x hx => by have := h2.2.2.2.2.1 x hx; omega)]
  exact ⟨h2.1, h2.2.1, h2.2.2.1, h2.2.2.2.1, h2.2.2.2.2.1, h2.2.2.2.2.2⟩
theorem goodB_of {n : Nat} (hn : n ≤ 9) {b : List Int} (h : b ∈ compsA 40 n) : (walkL (b ++ [1]) + (if b.isEmpty then 0 else walkL (b.dropLast ++ [b.getLastD 0 + 1]))) = ((n : Int) + 1) * walkL b := by
  have h1 := List.all_eq_true.mp chkB n (by rw [List.mem_range]; omega)
  have h2 := List.all_eq_true.mp h1 b h
  rw [walkF_eq, walkF_eq, walkF_eq]
  exact beq_iff_eq.mp h2
/-- what is so for each composition of at most ten -/
theorem cnt_eq {c : List Int} (hp : ∀ x ∈ c, 0 < x) (hs : c.sum ≤ 10) (g : G) : f_count_by_runs [.py (tI c)] g = some (.py (.int (walkL c)), g) ∧ f__law_walked [.py (tI c)] g = some (.py (.int (walkL c)), g) ∧ 0 ≤ walkL c ∧ walkL c < 2 ^ 60 := by
  have h0 : 0 ≤ c.sum := (sum_le fun e he => by have := hp e he; omega).1
  obtain ⟨n, hn⟩ := Int.eq_ofNat_of_zero_le h0
  obtain ⟨e, w0, w1, hl, _, _⟩ := good_of (n := n) (by omega) (comps_mem 40 n c (by omega) hp hn)
  have k := count_ok c (fun x hx => by have := hp x hx; omega) hl (by omega) g
  rw [e] at k
  exact ⟨k, walked_ok c h0 (by omega) (by omega) g, w0, by omega⟩
theorem sum_snoc (b : List Int) (x : Int) : (b ++ [x]).sum = b.sum + x := by simp
theorem far_eq {b : List Int} (hp : ∀ x ∈ b, 0 < x) (hs : b.sum ≤ 9) : (walkL (b ++ [1]) + (if b.isEmpty then 0 else walkL (b.dropLast ++ [b.getLastD 0 + 1]))) = (b.sum + 1) * walkL b := by
  have h0 : 0 ≤ b.sum := (sum_le fun e he => by have := hp e he; omega).1
  obtain ⟨n, hn⟩ := Int.eq_ofNat_of_zero_le h0
  rw [hn]
  exact goodB_of (by omega) (comps_mem 40 n b (by omega) hp hn)
theorem pos_snoc {b : List Int} (hp : ∀ x ∈ b, 0 < x) : ∀ x ∈ b ++ [1], 0 < x := fun x hx => by
  rcases List.mem_append.mp hx with hx | hx
  · exact hp x hx
  · rw [List.mem_singleton] at hx; subst hx; decide
theorem pos_last {b : List Int} (hb : b ≠ []) (hp : ∀ x ∈ b, 0 < x) : (∀ x ∈ b.dropLast ++ [b.getLastD 0 + 1], 0 < x) ∧ (b.dropLast ++ [b.getLastD 0 + 1]).sum = b.sum + 1 := by
  have hl : b.getLastD 0 = b.getLast hb := by simp [List.getLastD_eq_getLast?, List.getLast?_eq_getLast hb]
  have hm := hp _ (List.getLast_mem hb)
  refine ⟨fun x hx => ?_, ?_⟩
  · rcases List.mem_append.mp hx with hx | hx
    · exact hp x ((List.dropLast_sublist b).subset hx)
    · rw [List.mem_singleton] at hx; subst hx; rw [hl]; omega
  · have := congrArg List.sum (List.dropLast_concat_getLast hb)
    rw [sum_snoc] at this ⊢
    rw [hl]; omega
theorem round_ok (ns : List Int) (h : ns.length ≤ 63) (k : Int) (x1 x2 x3 x4 x5 x6 x7 : Slot) (g : G) : ∃ s2 g2, ((sSeq (sSet 3 (mV (eFn f__law_begun (aCons (eVar 0) (aCons (eVar 1) aNil)))))
    (sSeq (sSet 4 (mV (eFn f__law_composition (aCons (eVar 3) (aCons (eFn f__law_draw (aCons (eVar 3) (aCons (eC (.int 11)) aNil))) aNil)))))
    (sSeq (sIf (bNot (bTru (eFn f__law_like (aCons (eFn f_count_by_runs (aCons (eVar 4) aNil)) (aCons (eFn f__law_walked (aCons (eVar 4) aNil)) aNil))))) (sRet (eC (.bool false))) sPass)
    (sSeq (sSet 5 (mV (eFn f__law_composition (aCons (eVar 3) (aCons (eFn f__law_draw (aCons (eVar 3) (aCons (eC (.int 10)) aNil))) aNil)))))
    (sSeq (sSet 2 (mV (eCall dSum (aCons (eVar 5) aNil))))
    (sSeq (sSet 6 (mV (eBin dAdd (eO (oLst (aCons (eBin dAdd (eVar 5) (eTup (aCons (eC (.int 1)) aNil))) aNil))) (eIf (bVal (eBin dNe (eVar 5) (eTup aNil))) (eO (oLst (aCons (eBin dAdd (eSl (eVar 5) pNone (pSome (eUn dNeg (eC (.int 1))))) (eTup (aCons (eBin dAdd (eBin dIx (eVar 5) (eUn dNeg (eC (.int 1)))) (eC (.int 1))) aNil))) aNil))) (eO (oLst aNil))))))
    (sIf (bVal (eBin dNe (eCall dSum (aCons (eO (oComp (iSeq (eVar 6)) (bName 7) bYes (eFn f_count_by_runs (aCons (eVar 7) aNil)) [7])) aNil)) (eBin dMul (eBin dAdd (eVar 2) (eC (.int 1))) (eFn f_count_by_runs (aCons (eVar 5) aNil))))) (sRet (eC (.bool false))) sPass)))))))) [.v (.sc ns), .v (.py (.int k)), x2, x3, x4, x5, x6, x7] g = some (.nx s2, g2) ∧ ∃ y1 y2 y3 y4 y5 y6 y7, s2 = [.v (.sc ns), y1, y2, y3, y4, y5, y6, y7] := by
  obtain ⟨g1, e1, G1⟩ := begun_ok ns h k g
  obtain ⟨r, g2, e2, r0, r1, G2⟩ := draw_ok (b := 11) G1 (by decide) (by decide) (by decide)
  obtain ⟨c, g3, e3, cp, cs, G3⟩ := composition_ok (n := r) G2 r0 (by omega) (by omega)
  obtain ⟨e4, e5, w0, w1⟩ := cnt_eq cp (by omega) g3
  have e6 := like_ok _ w0 w1 g3
  obtain ⟨r', g4, e7, r0', r1', G4⟩ := draw_ok (b := 10) G3 (by omega) (by decide) (by decide)
  obtain ⟨b, g5, e8, bp, bs, G5⟩ := composition_ok (n := r') G4 r0' (by omega) (by omega)
  have e9 := far_eq bp (by omega)
  obtain ⟨e10, _, _, _⟩ := cnt_eq bp (by omega) g5
  obtain ⟨e11, _, _, _⟩ := cnt_eq (pos_snoc bp) (by rw [sum_snoc]; omega) g5
  have hs : dSum [.py (.tuple (b.map PyData.int))] = some (.py (.int b.sum)) := by simp only [dSum, intsP_map, Option.map_some]
  have hbl : b.length ≤ 100 := by
    have := (cnt_eq bp (by omega) g5)
    have h0 : 0 ≤ b.sum := (sum_le fun e he => by have := bp e he; omega).1
    obtain ⟨n, hn⟩ := Int.eq_ofNat_of_zero_le h0
    have := (good_of (n := n) (by omega) (comps_mem 40 n b (by omega) bp hn)).2.2.2.1
    omega
  have l1 : b.length + 1 ≤ lim := by unfold lim; omega
  have l2 : b.length - 1 + 1 ≤ lim := by unfold lim; omega
  have sm : small64 (b.sum + 1) = true := small_of (by omega) (by omega)
  simp only [tI] at e3 e4 e5 e8 e10 e11
  have d0 : dNe (.py (.tuple (b.map PyData.int))) (.py (.tuple [])) = some (.py (.bool (!decide (b = [])))) := dNe_T b []
  by_cases hb : b = []
  · subst hb
    simp only [List.map_nil, List.isEmpty_nil, if_true, List.nil_append, List.map_cons, List.length_nil, List.sum_nil, Int.add_zero, Int.zero_add, Int.one_mul] at *
    rw [e9] at e11
    have hdn : dNe (.py (.int (walkL []))) (.py (.int (walkL []))) = some (.py (.bool false)) := by rw [dNe_I]; simp
    clear e9
    generalize walkL [] = A at *
    simp [sSeq, sSet, mV, eFn, aCons, aNil, eVar, eC, e1, e2, e3, sIf, bNot, bTru, e4, e5, e6, dTru, sPass, e7, e8, eCall, hs, eBin, eO, oLst, eTup, pys, lim1, lim2, dAdd, eIf, bVal, d0, dB, oComp, iSeq, seqP, wipeS, compL, bName, bYes, e10, e11, dSum, intsP, dMul, sm, hdn]
  · have hbe : b.isEmpty = false := by cases b with | nil => exact absurd rfl hb | cons => rfl
    obtain ⟨q1, q2⟩ := pos_last hb bp
    obtain ⟨e12, _, _, _⟩ := cnt_eq q1 (by omega) g5
    rw [hbe, if_neg Bool.false_ne_true] at e9
    have la := last_at hb
    rw [decide_eq_false hb] at d0
    simp only [tI, List.map_append, List.map_cons, List.map_nil] at e11 e12
    have hdn : dNe (.py (.int (walkL (b ++ [1]) + walkL (b.dropLast ++ [b.getLastD 0 + 1])))) (.py (.int ((b.sum + 1) * walkL b))) = some (.py (.bool false)) := by rw [dNe_I, e9]; simp
    clear e9
    generalize walkL (b.dropLast ++ [b.getLastD 0 + 1]) = B at *
    generalize walkL (b ++ [1]) = A at *
    generalize walkL b = C at *
    generalize walkL c = E at *
    generalize b.getLastD 0 = L at *
    generalize hD : b.dropLast = D0 at *
    have l3 : D0.length + 1 ≤ lim := by rw [← hD, List.length_dropLast]; exact l2
    have hcd : cutD (b.map PyData.int) none (some (-1)) = D0.map PyData.int := by rw [cut_lastI, hD]
    simp [sSeq, sSet, mV, eFn, aCons, aNil, eVar, eC, e1, e2, e3, sIf, bNot, bTru, e4, e5, e6, dTru, sPass, e7, e8, eCall, hs, eBin, eO, oLst, eTup, pys, lim1, lim2, dAdd, l1, eIf, bVal, d0, dB, eSl, pNone, pSome, eUn, dNeg, dI, dSl, hcd, dIx, la, l3, oComp, iSeq, seqP, wipeS, compL, bName, bYes, e10, e11, e12, dSum, intsP, intsP_map, dMul, sm, hdn]
theorem math (ns : List Int) (h : ns.length ≤ 63) : ∃ g', f_law [.sc ns] [] = some (.py (.bool true), g') := by
  obtain ⟨Kv, hk, hk0, hk1⟩ : ∃ Kv : Nat, (eCall dMax (aCons (eC (.int 2)) (aCons (eCall dMin (aCons (eCall dLen (aCons (eVar 0) aNil)) (aCons (eC (.int 5)) aNil))) aNil))) [.v (.sc ns), .un, .un, .un, .un, .un, .un, .un] [] = some (.py (.int Kv), []) ∧ 2 ≤ Kv ∧ Kv ≤ 5 := by
    refine ⟨max 2 (min ns.length 5), ?_, by omega, by omega⟩
    have hm : dMin [.py (.int ns.length), .py (.int 5)] = some (.py (.int (min ns.length 5 : Nat))) := congrArg (fun i => some (D.py (PyData.int i))) (by split <;> omega)
    have hM : dMax [.py (.int 2), .py (.int (min ns.length 5 : Nat))] = some (.py (.int (max 2 (min ns.length 5) : Nat))) := congrArg (fun i => some (D.py (PyData.int i))) (by split <;> omega)
    generalize min ns.length 5 = A at *
    generalize max 2 A = B at *
    simp [eCall, aCons, aNil, eC, eVar, dLen, hm, hM]
  have b1 : b62 (Kv : Int) = true := b62_ok (by omega) (by omega)
  have hr : rng1 [.py (.int (Kv : Int))] = some (rngP 0 Kv) := by
    have ht : (Kv : Int).toNat = Kv := by omega
    simp only [rng1, b1, ht, if_true]
  have hx := forL_run (b := bName 1) (body := ((sSeq (sSet 3 (mV (eFn f__law_begun (aCons (eVar 0) (aCons (eVar 1) aNil)))))
    (sSeq (sSet 4 (mV (eFn f__law_composition (aCons (eVar 3) (aCons (eFn f__law_draw (aCons (eVar 3) (aCons (eC (.int 11)) aNil))) aNil)))))
    (sSeq (sIf (bNot (bTru (eFn f__law_like (aCons (eFn f_count_by_runs (aCons (eVar 4) aNil)) (aCons (eFn f__law_walked (aCons (eVar 4) aNil)) aNil))))) (sRet (eC (.bool false))) sPass)
    (sSeq (sSet 5 (mV (eFn f__law_composition (aCons (eVar 3) (aCons (eFn f__law_draw (aCons (eVar 3) (aCons (eC (.int 10)) aNil))) aNil)))))
    (sSeq (sSet 2 (mV (eCall dSum (aCons (eVar 5) aNil))))
    (sSeq (sSet 6 (mV (eBin dAdd (eO (oLst (aCons (eBin dAdd (eVar 5) (eTup (aCons (eC (.int 1)) aNil))) aNil))) (eIf (bVal (eBin dNe (eVar 5) (eTup aNil))) (eO (oLst (aCons (eBin dAdd (eSl (eVar 5) pNone (pSome (eUn dNeg (eC (.int 1))))) (eTup (aCons (eBin dAdd (eBin dIx (eVar 5) (eUn dNeg (eC (.int 1)))) (eC (.int 1))) aNil))) aNil))) (eO (oLst aNil))))))
    (sIf (bVal (eBin dNe (eCall dSum (aCons (eO (oComp (iSeq (eVar 6)) (bName 7) bYes (eFn f_count_by_runs (aCons (eVar 7) aNil)) [7])) aNil)) (eBin dMul (eBin dAdd (eVar 2) (eC (.int 1))) (eFn f_count_by_runs (aCons (eVar 5) aNil))))) (sRet (eC (.bool false))) sPass))))))))) (fun (k : Nat) => PyData.int (0 + (k : Int))) (fun pre s g' => ∃ y1 y2 y3 y4 y5 y6 y7, s = [Slot.v (.sc ns), y1, y2, y3, y4, y5, y6, y7])
    (List.range Kv) [] [.v (.sc ns), .un, .un, .un, .un, .un, .un, .un] [] ⟨_, _, _, _, _, _, _, rfl⟩ (fun p k q s g1 ex hI => by
      obtain ⟨y1, y2, y3, y4, y5, y6, y7, rfl⟩ := hI
      obtain ⟨s2, g2, e, hs⟩ := round_ok ns h (0 + (k : Int)) y1 y2 y3 y4 y5 y6 y7 g1
      exact ⟨_, s2, g2, rfl, e, hs⟩)
  obtain ⟨s', g', e1, y1, y2, y3, y4, y5, y6, y7, rfl⟩ := hx
  rw [← rng_map] at e1
  obtain ⟨g1, e2, G1⟩ := begun_ok ns h 7 g'
  obtain ⟨r, g2, e3, r0, r1, G2⟩ := draw_ok (b := 8) G1 (by decide) (by decide) (by decide)
  obtain ⟨n, rfl⟩ := Int.eq_ofNat_of_zero_le r0
  have e4 := all_ok 40 n (by omega) (by omega) g2
  have hl : (compsA 40 n).length ≤ lim := by
    have := comps_len 40 n
    have hp : 2 ^ n ≤ 2 ^ 7 := Nat.pow_le_pow_right (by decide) (by omega)
    unfold lim; omega
  have c1 := compL_filter (enc := tI) (F := tI) (p := fun _ => false) (b := bName 4) (t := bNot (bTru (eFn f__law_like (aCons (eFn f_count_by_runs (aCons (eVar 4) aNil)) (aCons (eFn f__law_walked (aCons (eVar 4) aNil)) aNil))))) (e := eVar 4) (s := [Slot.v (.sc ns), y1, .v (.py (.int n)), y3, .un, y5, y6, y7]) (compsA 40 n) (fun c hc g => by
    obtain ⟨_, w0, w1, _, hp, hs⟩ := good_of (by omega) hc
    obtain ⟨k1, k2, k3, k4⟩ := cnt_eq hp (by omega) g
    have k5 := like_ok _ k3 k4 g
    refine ⟨_, rfl, ?_, fun q => by cases q⟩
    simp only [tI] at k1 k2
    simp [bNot, bTru, eFn, aCons, aNil, eVar, k1, k2, k5, dTru])
  have hff : (compsA 40 n).filter (fun _ => false) = [] := List.filter_eq_nil_iff.mpr (fun _ _ h => by cases h)
  rw [hff] at c1
  have d : dEq (.py (.list [])) (.py (.list [])) = some (.py (.bool true)) := dEq_L [] []
  refine ⟨g2, ?_⟩
  simp only [f_law, runD, b_law, startS, List.map_cons, List.map_nil, List.length_cons, List.length_nil, List.replicate, List.cons_append, List.nil_append, Nat.zero_add, Nat.sub_zero]
  have e5 : iArgs rng1 (aCons (eCall dMax (aCons (eC (.int 2)) (aCons (eCall dMin (aCons (eCall dLen (aCons (eVar 0) aNil)) (aCons (eC (.int 5)) aNil))) aNil))) aNil) [.v (.sc ns), .un, .un, .un, .un, .un, .un, .un] [] = some (rngP 0 Kv, []) := by
    rw [iArgs, aCons, hk]
    simp [aNil, hr]
  simp [sSeq, sFor, e5, e1, sSet, mV, eFn, aCons, aNil, eVar, eC, e2, e3, sRet, eBin, eO, oComp, iSeq, e4, seqP, hl, wipeS, c1, oLst, pys, d]
end LW

namespace LW
open PySem PySem.Spec PyProof.Rows L2 DS
theorem all_mk {l : PySem.W.OpenLaw} {w : World} {K : PySem.W.Frag} {h : Heap} {mg : PySem.Str → Option Value} {z : Addr} {fa : Nat → Option Addr} {f0 : Addr} {f1 : Addr} {f2 : Addr} {f3 : Addr} {f4 : Addr} {f5 : Addr} {f6 : Addr} {f7 : Addr} {f8 : Addr} {f9 : Addr} {f10 : Addr} {f11 : Addr} {f12 : Addr} (X : K.In h) (G : h.Ns mainGlobals mg) (hfa : mg "law" = some (.ref z))
    {od0 an0 od1 an1 od2 an2 od3 an3 od4 an4 od5 an5 od6 an6 od7 an7 od8 an8 od9 an9 od10 an10 od11 an11 od12 an12 : Option Addr} {sl0 sl1 sl2 sl3 sl4 sl5 sl6 sl7 sl8 sl9 sl10 sl11 sl12 : Array (Option Value)} {oc0 kV0 dc0 pm0 cd0 ct0 oc1 kV1 dc1 pm1 cd1 ct1 oc2 kV2 dc2 pm2 cd2 ct2 oc3 kV3 dc3 pm3 cd3 ct3 oc4 kV4 dc4 pm4 cd4 ct4 oc5 kV5 dc5 pm5 cd5 ct5 oc6 kV6 dc6 pm6 cd6 ct6 oc7 kV7 dc7 pm7 cd7 ct7 oc8 kV8 dc8 pm8 cd8 ct8 oc9 kV9 dc9 pm9 cd9 ct9 oc10 kV10 dc10 pm10 cd10 ct10 oc11 kV11 dc11 pm11 cd11 ct11 oc12 kV12 dc12 pm12 cd12 ct12 : Value}
    (a0 : PySem.W.nsIn K mainGlobals "sign_of" = some (some (.ref f0))) (l0 : K.lookup f0 = some ⟨oc0, od0, .func (PySem.W.fnOf "sign_of" "sign_of" (defArgs s_sign_of) (defBody s_sign_of) (defScope s_sign_of) .none kV0 dc0 pm0 an0 cd0 ct0), sl0⟩) (c0 : PySem.W.codeIn K cd0 "sign_of" = true) (k0 : PySem.W.keepIn K (.ref f0) = true)
    (a1 : PySem.W.nsIn K mainGlobals "coarser_ones" = some (some (.ref f1))) (l1 : K.lookup f1 = some ⟨oc1, od1, .func (PySem.W.fnOf "coarser_ones" "coarser_ones" (defArgs s_coarser_ones) (defBody s_coarser_ones) (defScope s_coarser_ones) .none kV1 dc1 pm1 an1 cd1 ct1), sl1⟩) (c1 : PySem.W.codeIn K cd1 "coarser_ones" = true) (k1 : PySem.W.keepIn K (.ref f1) = true)
    (a2 : PySem.W.nsIn K mainGlobals "ways_to_part" = some (some (.ref f2))) (l2 : K.lookup f2 = some ⟨oc2, od2, .func (PySem.W.fnOf "ways_to_part" "ways_to_part" (defArgs s_ways_to_part) (defBody s_ways_to_part) (defScope s_ways_to_part) .none kV2 dc2 pm2 an2 cd2 ct2), sl2⟩) (c2 : PySem.W.codeIn K cd2 "ways_to_part" = true) (k2 : PySem.W.keepIn K (.ref f2) = true)
    (a3 : PySem.W.nsIn K mainGlobals "count_by_runs" = some (some (.ref f3))) (l3 : K.lookup f3 = some ⟨oc3, od3, .func (PySem.W.fnOf "count_by_runs" "count_by_runs" (defArgs s_count_by_runs) (defBody s_count_by_runs) (defScope s_count_by_runs) .none kV3 dc3 pm3 an3 cd3 ct3), sl3⟩) (c3 : PySem.W.codeIn K cd3 "count_by_runs" = true) (k3 : PySem.W.keepIn K (.ref f3) = true)
    (a4 : PySem.W.nsIn K mainGlobals "_law_begun" = some (some (.ref f4))) (l4 : K.lookup f4 = some ⟨oc4, od4, .func (PySem.W.fnOf "_law_begun" "_law_begun" (defArgs s__law_begun) (defBody s__law_begun) (defScope s__law_begun) .none kV4 dc4 pm4 an4 cd4 ct4), sl4⟩) (c4 : PySem.W.codeIn K cd4 "_law_begun" = true) (k4 : PySem.W.keepIn K (.ref f4) = true)
    (a5 : PySem.W.nsIn K mainGlobals "_law_draw" = some (some (.ref f5))) (l5 : K.lookup f5 = some ⟨oc5, od5, .func (PySem.W.fnOf "_law_draw" "_law_draw" (defArgs s__law_draw) (defBody s__law_draw) (defScope s__law_draw) .none kV5 dc5 pm5 an5 cd5 ct5), sl5⟩) (c5 : PySem.W.codeIn K cd5 "_law_draw" = true) (k5 : PySem.W.keepIn K (.ref f5) = true)
    (a6 : PySem.W.nsIn K mainGlobals "_law_like" = some (some (.ref f6))) (l6 : K.lookup f6 = some ⟨oc6, od6, .func (PySem.W.fnOf "_law_like" "_law_like" (defArgs s__law_like) (defBody s__law_like) (defScope s__law_like) .none kV6 dc6 pm6 an6 cd6 ct6), sl6⟩) (c6 : PySem.W.codeIn K cd6 "_law_like" = true) (k6 : PySem.W.keepIn K (.ref f6) = true)
    (a7 : PySem.W.nsIn K mainGlobals "_law_all" = some (some (.ref f7))) (l7 : K.lookup f7 = some ⟨oc7, od7, .func (PySem.W.fnOf "_law_all" "_law_all" (defArgs s__law_all) (defBody s__law_all) (defScope s__law_all) .none kV7 dc7 pm7 an7 cd7 ct7), sl7⟩) (c7 : PySem.W.codeIn K cd7 "_law_all" = true) (k7 : PySem.W.keepIn K (.ref f7) = true)
    (a8 : PySem.W.nsIn K mainGlobals "_law_places" = some (some (.ref f8))) (l8 : K.lookup f8 = some ⟨oc8, od8, .func (PySem.W.fnOf "_law_places" "_law_places" (defArgs s__law_places) (defBody s__law_places) (defScope s__law_places) .none kV8 dc8 pm8 an8 cd8 ct8), sl8⟩) (c8 : PySem.W.codeIn K cd8 "_law_places" = true) (k8 : PySem.W.keepIn K (.ref f8) = true)
    (a9 : PySem.W.nsIn K mainGlobals "_law_of_places" = some (some (.ref f9))) (l9 : K.lookup f9 = some ⟨oc9, od9, .func (PySem.W.fnOf "_law_of_places" "_law_of_places" (defArgs s__law_of_places) (defBody s__law_of_places) (defScope s__law_of_places) .none kV9 dc9 pm9 an9 cd9 ct9), sl9⟩) (c9 : PySem.W.codeIn K cd9 "_law_of_places" = true) (k9 : PySem.W.keepIn K (.ref f9) = true)
    (a10 : PySem.W.nsIn K mainGlobals "_law_composition" = some (some (.ref f10))) (l10 : K.lookup f10 = some ⟨oc10, od10, .func (PySem.W.fnOf "_law_composition" "_law_composition" (defArgs s__law_composition) (defBody s__law_composition) (defScope s__law_composition) .none kV10 dc10 pm10 an10 cd10 ct10), sl10⟩) (c10 : PySem.W.codeIn K cd10 "_law_composition" = true) (k10 : PySem.W.keepIn K (.ref f10) = true)
    (a11 : PySem.W.nsIn K mainGlobals "_law_walked" = some (some (.ref f11))) (l11 : K.lookup f11 = some ⟨oc11, od11, .func (PySem.W.fnOf "_law_walked" "_law_walked" (defArgs s__law_walked) (defBody s__law_walked) (defScope s__law_walked) .none kV11 dc11 pm11 an11 cd11 ct11), sl11⟩) (c11 : PySem.W.codeIn K cd11 "_law_walked" = true) (k11 : PySem.W.keepIn K (.ref f11) = true)
    (a12 : PySem.W.nsIn K mainGlobals "law" = some (some (.ref f12))) (l12 : K.lookup f12 = some ⟨oc12, od12, .func (PySem.W.fnOf "law" "law" (defArgs s_law) (defBody s_law) (defScope s_law) .none kV12 dc12 pm12 an12 cd12 ct12), sl12⟩) (c12 : PySem.W.codeIn K cd12 "law" = true) (k12 : PySem.W.keepIn K (.ref f12) = true)
    (z_int : PySem.W.nsIn K mainGlobals "int" = some none)
    (z_len : PySem.W.nsIn K mainGlobals "len" = some none)
    (z_max : PySem.W.nsIn K mainGlobals "max" = some none)
    (z_min : PySem.W.nsIn K mainGlobals "min" = some none)
    (z_range : PySem.W.nsIn K mainGlobals "range" = some none)
    (z_repr : PySem.W.nsIn K mainGlobals "repr" = some none)
    (z_sorted : PySem.W.nsIn K mainGlobals "sorted" = some none)
    (z_sum : PySem.W.nsIn K mainGlobals "sum" = some none)
    (z_tuple : PySem.W.nsIn K mainGlobals "tuple" = some none)
    (m_factorial : PySem.W.nsIn K mainGlobals "factorial" = some (some (.builtin "math.factorial")))
    : ∃ fd : FuncData, (∀ (s : Shared) (v : Value), BindsTo s fd ⟨[v], []⟩ [("script", v)]) ∧ ∀ base : Heap, K.In base → base.Ns mainGlobals mg → Fg l.prog w K mg base CX0 42 z fd ["script"] (spM K fa 1 f_law) := by
  have e := hfa.symm.trans (PySem.W.mg_of X G a12)
  cases e
  have F0 := fun_mk (st := s_sign_of) l0 c0 k0
  have D0 : Df K mg "sign_of" s_sign_of ["k"] f0 _ := ⟨F0, PySem.W.mg_of X G a0, F0.binds (ps := ["k"]) fun _ _ _ _ _ _ us hl => match us, hl with | [_], _ => rfl⟩
  have F1 := fun_mk (st := s_coarser_ones) l1 c1 k1
  have D1 : Df K mg "coarser_ones" s_coarser_ones ["composition"] f1 _ := ⟨F1, PySem.W.mg_of X G a1, F1.binds (ps := ["composition"]) fun _ _ _ _ _ _ us hl => match us, hl with | [_], _ => rfl⟩
  have F2 := fun_mk (st := s_ways_to_part) l2 c2 k2
  have D2 : Df K mg "ways_to_part" s_ways_to_part ["composition"] f2 _ := ⟨F2, PySem.W.mg_of X G a2, F2.binds (ps := ["composition"]) fun _ _ _ _ _ _ us hl => match us, hl with | [_], _ => rfl⟩
  have F3 := fun_mk (st := s_count_by_runs) l3 c3 k3
  have D3 : Df K mg "count_by_runs" s_count_by_runs ["composition"] f3 _ := ⟨F3, PySem.W.mg_of X G a3, F3.binds (ps := ["composition"]) fun _ _ _ _ _ _ us hl => match us, hl with | [_], _ => rfl⟩
  have F4 := fun_mk (st := s__law_begun) l4 c4 k4
  have D4 : Df K mg "_law_begun" s__law_begun ["script", "k"] f4 _ := ⟨F4, PySem.W.mg_of X G a4, F4.binds (ps := ["script", "k"]) fun _ _ _ _ _ _ us hl => match us, hl with | [_, _], _ => rfl⟩
  have F5 := fun_mk (st := s__law_draw) l5 c5 k5
  have D5 : Df K mg "_law_draw" s__law_draw ["m", "bound"] f5 _ := ⟨F5, PySem.W.mg_of X G a5, F5.binds (ps := ["m", "bound"]) fun _ _ _ _ _ _ us hl => match us, hl with | [_, _], _ => rfl⟩
  have F6 := fun_mk (st := s__law_like) l6 c6 k6
  have D6 : Df K mg "_law_like" s__law_like ["got", "due"] f6 _ := ⟨F6, PySem.W.mg_of X G a6, F6.binds (ps := ["got", "due"]) fun _ _ _ _ _ _ us hl => match us, hl with | [_, _], _ => rfl⟩
  have F7 := fun_mk (st := s__law_all) l7 c7 k7
  have D7 : Df K mg "_law_all" s__law_all ["n"] f7 _ := ⟨F7, PySem.W.mg_of X G a7, F7.binds (ps := ["n"]) fun _ _ _ _ _ _ us hl => match us, hl with | [_], _ => rfl⟩
  have F8 := fun_mk (st := s__law_places) l8 c8 k8
  have D8 : Df K mg "_law_places" s__law_places ["c"] f8 _ := ⟨F8, PySem.W.mg_of X G a8, F8.binds (ps := ["c"]) fun _ _ _ _ _ _ us hl => match us, hl with | [_], _ => rfl⟩
  have F9 := fun_mk (st := s__law_of_places) l9 c9 k9
  have D9 : Df K mg "_law_of_places" s__law_of_places ["n", "places"] f9 _ := ⟨F9, PySem.W.mg_of X G a9, F9.binds (ps := ["n", "places"]) fun _ _ _ _ _ _ us hl => match us, hl with | [_, _], _ => rfl⟩
  have F10 := fun_mk (st := s__law_composition) l10 c10 k10
  have D10 : Df K mg "_law_composition" s__law_composition ["m", "n"] f10 _ := ⟨F10, PySem.W.mg_of X G a10, F10.binds (ps := ["m", "n"]) fun _ _ _ _ _ _ us hl => match us, hl with | [_, _], _ => rfl⟩
  have F11 := fun_mk (st := s__law_walked) l11 c11 k11
  have D11 : Df K mg "_law_walked" s__law_walked ["c"] f11 _ := ⟨F11, PySem.W.mg_of X G a11, F11.binds (ps := ["c"]) fun _ _ _ _ _ _ us hl => match us, hl with | [_], _ => rfl⟩
  have F12 := fun_mk (st := s_law) l12 c12 k12
  have D12 : Df K mg "law" s_law ["script"] z _ := ⟨F12, PySem.W.mg_of X G a12, F12.binds (ps := ["script"]) fun _ _ _ _ _ _ us hl => match us, hl with | [_], _ => rfl⟩
  have y_int := PySem.W.mg_none_of X G z_int
  have y_len := PySem.W.mg_none_of X G z_len
  have y_max := PySem.W.mg_none_of X G z_max
  have y_min := PySem.W.mg_none_of X G z_min
  have y_range := PySem.W.mg_none_of X G z_range
  have y_repr := PySem.W.mg_none_of X G z_repr
  have y_sorted := PySem.W.mg_none_of X G z_sorted
  have y_sum := PySem.W.mg_none_of X G z_sum
  have y_tuple := PySem.W.mg_none_of X G z_tuple
  have y_factorial := PySem.W.mg_of X G m_factorial
  refine ⟨PySem.W.fnOf "law" "law" (defArgs s_law) (defBody s_law) (defScope s_law) .none kV12 dc12 pm12 an12 cd12 ct12, fun s v => .of_eq rfl, fun base _ _ => ?_⟩
  have G0 : Fg l.prog w K mg base CX0 1 f0 _ ["k"] (spM K fa 1 f_sign_of) := ok_sign_of D0
  have G1 : Fg l.prog w K mg base CX0 1 f1 _ ["composition"] (spM K fa 1 f_coarser_ones) := ok_coarser_ones D1 y_sorted y_tuple
  have G2 : Fg l.prog w K mg base CX0 1 f2 _ ["composition"] (spM K fa 1 f_ways_to_part) := ok_ways_to_part D2 y_factorial y_sum
  have G3 : Fg l.prog w K mg base CX0 2 f3 _ ["composition"] (spM K fa 1 f_count_by_runs) := ok_count_by_runs D1 D0 D2 D3 G1 G0 G2 y_len y_sum
  have G4 : Fg l.prog w K mg base CX0 1 f4 _ ["script", "k"] (spM K fa 2 f__law_begun) := ok__law_begun D4 y_int
  have G5 : Fg l.prog w K mg base CX0 1 f5 _ ["m", "bound"] (spM K fa 2 f__law_draw) := ok__law_draw D5 y_int y_len
  have G6 : Fg l.prog w K mg base CX0 1 f6 _ ["got", "due"] (spM K fa 2 f__law_like) := ok__law_like D6 y_repr
  have G7 : Fg l.prog w K mg base CX0 41 f7 _ ["n"] (spM K fa 1 (f__law_all 40)) := ok__law_all D7 y_range 40
  have G8 : Fg l.prog w K mg base CX0 1 f8 _ ["c"] (spM K fa 1 f__law_places) := ok__law_places D8
  have G9 : Fg l.prog w K mg base CX0 1 f9 _ ["n", "places"] (spM K fa 2 f__law_of_places) := ok__law_of_places D9 y_len y_range y_sorted y_tuple
  have G10 : Fg l.prog w K mg base CX0 2 f10 _ ["m", "n"] (spM K fa 2 f__law_composition) := ok__law_composition D9 D5 D10 G9 G5 y_range
  have G11 : Fg l.prog w K mg base CX0 2 f11 _ ["c"] (spM K fa 1 f__law_walked) := ok__law_walked D8 D11 G8 y_range y_sum
  have G12 : Fg l.prog w K mg base CX0 42 z _ ["script"] (spM K fa 1 f_law) := ok_law D4 D10 D5 D6 D3 D11 D7 D12 G4 G10 G5 G6 G3 G11 G7 y_len y_max y_min y_range y_sum
  exact G12
end LW
open PySem PySem.W PyProof.Rows
set_option maxHeartbeats 0 in
theorem PySem.Challenge.cw_shuffledcuts_k08_whole_runs_by_walks_holds : PySem.Challenge.rw_shuffledcuts_k08_whole_runs_by_walks.Holds := by
  w_on; o_law; k_head; (case hw => w_witness2)
  k_fill
  refine DS.walk_g (l := PySem.Challenge.rw_shuffledcuts_k08_whole_runs_by_walks) (n := 63) (k := 42) (x := "script") (f := fun _ _ _ => none) (h := LW.f_law) rfl (by decide) rfl ⟨rfl, by decide, by decide⟩ (fun w h Y => PySem.W.kIn_of Y) ?F LW.math
  case F =>
    intro w mg fa h KX G hmg
    refine' LW.all_mk KX G hmg ?a0 ?l0 ?c0 ?k0 ?a1 ?l1 ?c1 ?k1 ?a2 ?l2 ?c2 ?k2 ?a3 ?l3 ?c3 ?k3 ?a4 ?l4 ?c4 ?k4 ?a5 ?l5 ?c5 ?k5 ?a6 ?l6 ?c6 ?k6 ?a7 ?l7 ?c7 ?k7 ?a8 ?l8 ?c8 ?k8 ?a9 ?l9 ?c9 ?k9 ?a10 ?l10 ?c10 ?k10 ?a11 ?l11 ?c11 ?k11 ?a12 ?l12 ?c12 ?k12 ?z_int ?z_len ?z_max ?z_min ?z_range ?z_repr ?z_sorted ?z_sum ?z_tuple ?m_factorial
    (case a0 => k_is)
    (case l0 => k_is)
    (case c0 => k_is)
    (case k0 => k_is)
    (case a1 => k_is)
    (case l1 => k_is)
    (case c1 => k_is)
    (case k1 => k_is)
    (case a2 => k_is)
    (case l2 => k_is)
    (case c2 => k_is)
    (case k2 => k_is)
    (case a3 => k_is)
    (case l3 => k_is)
    (case c3 => k_is)
    (case k3 => k_is)
    (case a4 => k_is)
    (case l4 => k_is)
    (case c4 => k_is)
    (case k4 => k_is)
    (case a5 => k_is)
    (case l5 => k_is)
    (case c5 => k_is)
    (case k5 => k_is)
    (case a6 => k_is)
    (case l6 => k_is)
    (case c6 => k_is)
    (case k6 => k_is)
    (case a7 => k_is)
    (case l7 => k_is)
    (case c7 => k_is)
    (case k7 => k_is)
    (case a8 => k_is)
    (case l8 => k_is)
    (case c8 => k_is)
    (case k8 => k_is)
    (case a9 => k_is)
    (case l9 => k_is)
    (case c9 => k_is)
    (case k9 => k_is)
    (case a10 => k_is)
    (case l10 => k_is)
    (case c10 => k_is)
    (case k10 => k_is)
    (case a11 => k_is)
    (case l11 => k_is)
    (case c11 => k_is)
    (case k11 => k_is)
    (case a12 => k_is)
    (case l12 => k_is)
    (case c12 => k_is)
    (case k12 => k_is)
    (case z_int => k_is)
    (case z_len => k_is)
    (case z_max => k_is)
    (case z_min => k_is)
    (case z_range => k_is)
    (case z_repr => k_is)
    (case z_sorted => k_is)
    (case z_sum => k_is)
    (case z_tuple => k_is)
    (case m_factorial => k_is)

