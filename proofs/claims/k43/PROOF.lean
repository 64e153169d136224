import PyProof.Rows.All
import Wide.All
import OpenK.AllK
import Wide.FinOn
import HandS.ForMost
import HandS.ForExc
import HandS.Evl
import HandS.Walk
import HandS.Zip
import HandS.Gcd
import HandS.Wide
import HandS.IsInst
import HandS.TupAny
import HandS.TupMul
import HandS.TryMany
import HandS.EndBits
import HandS.SortInts
import HandS.RaiseMore
import HandS.Small
import KE.KDictKeyed
import KE.KeyNested
import HandS.More
import HandS.Conv
import HandS.SortRule
import HandS.Iter
import HandS.Style
import KE.GoesNew
import HandS.DictComp
import KE.KDictWalk
import HandS.Rev
import KE.KDictDisplayH
import KE.KTupSum
import PySem.Challenge.RW_keptmisses_k43_whole_advisers_who_always
set_option Elab.async false
set_option linter.all false
set_option maxRecDepth 100000
set_option maxHeartbeats 2000000
/-! Programs over data: values are told by trees of data (D), what changes is told by a store (M). -/
namespace KM
open PySem L2 PySem.Spec PyProof.Rows

inductive D where
  | non
  | bl (b : Bool)
  | int (i : Int)
  | str (s : Str)
  | tup (xs : List D)
  | lst (xs : List D)
  | rol (xs : List D)
  | ref (k : Nat)
  | obj (a : Addr)
  | fn (x : Str)
  | dct
  | kdi (ks vs : List D)
inductive MO where
  | lst (xs : List D)
  | dct (kvs : List (Int × D))
  | dlk (kvs : List (Int × D))
  | kd (kvs : List (D × D))
  | kdl (kvs : List (D × D))

/-! dicts whose keys are tuples -/
mutual
def keyOf : D → Option NestedKey
  | .int i => some (.num i)
  | .tup ds => match keysOf ds with
    | some ks => some (.tup ks)
    | none => none
  | _ => none
def keysOf : List D → Option (List NestedKey)
  | [] => some []
  | d :: ds => match keyOf d, keysOf ds with
    | some k, some ks => some (k :: ks)
    | _, _ => none
end
def tkey : D → Option NestedKey
  | .tup ds => match keyOf (.tup ds) with
    | some k => if k.depth ≤ 8 then some k else none
    | none => none
  | _ => none
/-- the object is known whole -/
def ObO (a : Addr) (o : Obj) : HO := .ext fun h => h.get? a = some o
def ent (w : World) (x : NestedKey × Addr × Value) : DictEntry := ⟨x.1.hash w, .ref x.2.1, x.2.2⟩
structure KdA (a : Addr) (o : Obj) (xs : List (NestedKey × Addr × Value)) : Prop where
  ns : (a == sysModules) = false
  ex : o.ExactDict
  da : ∃ es ep, o.data = .dict es ep ∧ ∀ w, es.toList = xs.map (ent w)
  nd : (xs.map fun x => x.1).Nodup
  sz : xs.length ≤ sizeLine
mutual
inductive Rep (K : PySem.W.Frag) (I : Hp) (as : List Addr) : V → D → Prop
  | non : Rep K I as .non .non
  | bl (b : Bool) : Rep K I as (.bl b) (.bl b)
  | int (i : Int) : Rep K I as (.int i) (.int i)
  | str (s : Str) : Rep K I as (.str s) (.str s)
  | tup {a : Addr} {xs : List V} {ds : List D} : SqT K I a xs → Reps K I as xs ds → Rep K I as (.ref a) (.tup ds)
  | lst {a : Addr} {xs : List V} {ds : List D} : I a = some (.lst xs) → Reps K I as xs ds → Rep K I as (.ref a) (.lst ds)
  | rol {a : Addr} {xs : List V} {ds : List D} : SqL K I a xs → Reps K I as xs ds → Rep K I as (.ref a) (.rol ds)
  | ref {k : Nat} {a : Addr} : as[k]? = some a → Rep K I as (.ref a) (.ref k)
  | obj (a : Addr) : Rep K I as (.ref a) (.obj a)
  | fn {a : Addr} {x : Str} : PySem.W.nsIn K mainGlobals x = some (some (.ref a)) → Rep K I as (.ref a) (.fn x)
  | dct {a : Addr} {kvs : List (L2.Key × V)} : I a = some (.dK kvs) → Rep K I as (.ref a) .dct
  | kdi {a : Addr} {o : Obj} {xs : List (NestedKey × Addr × Value)} {ks ds : List D} : I a = some (ObO a o) → KdA a o xs → KXs K I as xs ks ds → Rep K I as (.ref a) (.kdi ks ds)
inductive Reps (K : PySem.W.Frag) (I : Hp) (as : List Addr) : List V → List D → Prop
  | nil : Reps K I as [] []
  | cons {v : V} {vs : List V} {d : D} {ds : List D} : Rep K I as v d → Reps K I as vs ds → Reps K I as (v :: vs) (d :: ds)
inductive KXs (K : PySem.W.Frag) (I : Hp) (as : List Addr) : List (NestedKey × Addr × Value) → List D → List D → Prop
  | nil : KXs K I as [] [] []
  | cons {x : NestedKey × Addr × Value} {xs : List (NestedKey × Addr × Value)} {k d : D} {ks ds : List D} {v : V} : Rep K I as (.ref x.2.1) k → tkey k = some x.1 → L2.RelV v x.2.2 → Rep K I as v d → KXs K I as xs ks ds → KXs K I as (x :: xs) (k :: ks) (d :: ds)
end
/-- the world grows -/
structure Gr (I : Hp) (as : List Addr) (I' : Hp) (as' : List Addr) : Prop where
  sub : ∀ a o, I a = some o → I' a = some o
  pre : ∃ t, as' = as ++ t
theorem Gr.refl (I : Hp) (as : List Addr) : Gr I as I as := ⟨fun _ _ h => h, [], by simp⟩
theorem Gr.trans {I I1 I2 : Hp} {as as1 as2 : List Addr} (g : Gr I as I1 as1) (h : Gr I1 as1 I2 as2) : Gr I as I2 as2 := by
  obtain ⟨s, t, rfl⟩ := g
  obtain ⟨s', t', rfl⟩ := h
  exact ⟨fun a o e => s' a o (s a o e), t ++ t', by simp⟩
theorem Gr.at {I I' : Hp} {as as' : List Addr} (g : Gr I as I' as') {k : Nat} {a : Addr} (h : as[k]? = some a) : as'[k]? = some a := by
  obtain ⟨_, t, rfl⟩ := g
  have hk : k < as.length := (List.getElem?_eq_some_iff.mp h).1
  rw [List.getElem?_append_left hk]
  exact h
mutual
theorem Rep.mono {K : PySem.W.Frag} {I I' : Hp} {as as' : List Addr} (g : Gr I as I' as') : ∀ {v : V} {d : D}, Rep K I as v d → Rep K I' as' v d
  | _, _, .non => .non
  | _, _, .bl b => .bl b
  | _, _, .int b => .int b
  | _, _, .str b => .str b
  | _, _, .tup h r => .tup (Evl.ex_t g.sub h) (Reps.mono g r)
  | _, _, .lst h r => .lst (g.sub _ _ h) (Reps.mono g r)
  | _, _, .rol h r => .rol (Evl.ex_l g.sub h) (Reps.mono g r)
  | _, _, .ref h => .ref (g.at h)
  | _, _, .obj a => .obj a
  | _, _, .fn h => .fn h
  | _, _, .dct h => .dct (g.sub _ _ h)
  | _, _, .kdi h a r => .kdi (g.sub _ _ h) a (KXs.mono g r)
theorem Reps.mono {K : PySem.W.Frag} {I I' : Hp} {as as' : List Addr} (g : Gr I as I' as') : ∀ {vs : List V} {ds : List D}, Reps K I as vs ds → Reps K I' as' vs ds
  | _, _, .nil => .nil
  | _, _, .cons h r => .cons (Rep.mono g h) (Reps.mono g r)
theorem KXs.mono {K : PySem.W.Frag} {I I' : Hp} {as as' : List Addr} (g : Gr I as I' as') : ∀ {xs : List (NestedKey × Addr × Value)} {ks ds : List D}, KXs K I as xs ks ds → KXs K I' as' xs ks ds
  | _, _, _, .nil => .nil
  | _, _, _, .cons a b c d r => .cons (Rep.mono g a) b c (Rep.mono g d) (KXs.mono g r)
end
section
variable {K : PySem.W.Frag} {I : Hp} {as : List Addr}
theorem Reps.len : ∀ {vs : List V} {ds : List D}, Reps K I as vs ds → vs.length = ds.length
  | _, _, .nil => rfl
  | _, _, .cons _ r => by rw [List.length_cons, List.length_cons, Reps.len r]
theorem Reps.get : ∀ {vs : List V} {ds : List D} {i : Nat} {d : D}, Reps K I as vs ds → ds[i]? = some d → ∃ v, vs[i]? = some v ∧ Rep K I as v d
  | _, _, i, d, .nil, h => by simp at h
  | _, _, 0, d, .cons a r, h => by
    have e := Option.some.inj h
    subst e
    exact ⟨_, rfl, a⟩
  | _, _, i + 1, d, .cons a r, h => Reps.get (i := i) r h
theorem Reps.get' : ∀ {vs : List V} {ds : List D} {i : Nat} {v : V}, Reps K I as vs ds → vs[i]? = some v → ∃ d, ds[i]? = some d ∧ Rep K I as v d
  | _, _, i, d, .nil, h => by simp at h
  | _, _, 0, d, .cons a r, h => by
    have e := Option.some.inj h
    subst e
    exact ⟨_, rfl, a⟩
  | _, _, i + 1, d, .cons a r, h => Reps.get' (i := i) r h
theorem Reps.append : ∀ {vs ws : List V} {ds es : List D}, Reps K I as vs ds → Reps K I as ws es → Reps K I as (vs ++ ws) (ds ++ es)
  | _, _, _, _, .nil, h => h
  | _, _, _, _, .cons a r, h => .cons a (Reps.append r h)
theorem Reps.set : ∀ {vs : List V} {ds : List D} {i : Nat} {v : V} {d : D}, Reps K I as vs ds → Rep K I as v d → Reps K I as (vs.set i v) (ds.set i d)
  | _, _, _, _, _, .nil, _ => .nil
  | _, _, 0, _, _, .cons a r, h => .cons h r
  | _, _, i + 1, _, _, .cons a r, h => .cons a (Reps.set (i := i) r h)
theorem Reps.take : ∀ {vs : List V} {ds : List D} (n : Nat), Reps K I as vs ds → Reps K I as (vs.take n) (ds.take n)
  | _, _, 0, _ => .nil
  | _, _, n + 1, .nil => .nil
  | _, _, n + 1, .cons a r => .cons a (Reps.take n r)
theorem Reps.drop : ∀ {vs : List V} {ds : List D} (n : Nat), Reps K I as vs ds → Reps K I as (vs.drop n) (ds.drop n)
  | _, _, 0, h => h
  | _, _, n + 1, .nil => .nil
  | _, _, n + 1, .cons a r => Reps.drop n r
theorem Reps.eraseIdx : ∀ {vs : List V} {ds : List D} (n : Nat), Reps K I as vs ds → Reps K I as (vs.eraseIdx n) (ds.eraseIdx n)
  | _, _, _, .nil => .nil
  | _, _, 0, .cons a r => r
  | _, _, n + 1, .cons a r => .cons a (Reps.eraseIdx n r)
theorem Reps.rep {vs : List V} {ds : List D} (h : Reps K I as vs ds) : ∀ n : Nat, Reps K I as (List.replicate n vs).flatten (List.replicate n ds).flatten
  | 0 => .nil
  | n + 1 => by
    rw [List.replicate_succ, List.replicate_succ, List.flatten_cons, List.flatten_cons]
    exact h.append (Reps.rep h n)
theorem Reps.ints : ∀ {vs : List V} (ns : List Int), vs = ns.map V.int → Reps K I as vs (ns.map D.int)
  | _, [], rfl => .nil
  | _, n :: ns, rfl => .cons (.int n) (Reps.ints ns rfl)
end

def KdO (K : PySem.W.Frag) (I : Hp) (as : List Addr) (a : Addr) (o : Obj) (kvs : List (D × D)) : Prop :=
  ∃ xs, KdA a o xs ∧ KXs K I as xs (kvs.map fun p => p.1) (kvs.map fun p => p.2)
theorem KdO.mono {K : PySem.W.Frag} {I I' : Hp} {as as' : List Addr} {a : Addr} {o : Obj} {kvs : List (D × D)} (g : Gr I as I' as') (h : KdO K I as a o kvs) : KdO K I' as' a o kvs := by
  obtain ⟨xs, h1, h2⟩ := h
  exact ⟨xs, h1, h2.mono g⟩
def MRep (K : PySem.W.Frag) (I : Hp) (as : List Addr) (H : Hp) (a : Addr) : MO → Prop
  | .lst ds => ∃ vs, H a = some (.lst vs) ∧ Reps K I as vs ds
  | .dct kvs => ∃ vs : List (L2.Key × V), H a = some (.dK vs) ∧ vs.map (fun p => p.1) = kvs.map (fun p => Sum.inl p.1) ∧ Reps K I as (vs.map fun p => p.2) (kvs.map fun p => p.2)
  | .dlk kvs => ∃ (ob : Obj) (vs : List (L2.Key × V)), H a = some (.frz ob (.dK vs)) ∧ vs.map (fun p => p.1) = kvs.map (fun p => Sum.inl p.1) ∧ Reps K I as (vs.map fun p => p.2) (kvs.map fun p => p.2)
  | .kd kvs => ∃ o, H a = some (ObO a o) ∧ KdO K I as a o kvs
  | .kdl kvs => ∃ ob o, H a = some (.frz ob (ObO a o)) ∧ KdO K I as a o kvs
/-- what is locked is held by somebody, all else by nobody -/
def Fr (P : Hp) (a : Addr) : MO → Prop
  | .dlk _ => ∃ (ob : Obj) (vs : List (L2.Key × V)), P a = some (.frz ob (.dK vs))
  | .kdl _ => ∃ (ob o : Obj), P a = some (.frz ob (ObO a o))
  | _ => P a = none
def MO.isL : MO → Bool
  | .dlk _ => true
  | .kdl _ => true
  | _ => false
theorem Fr.of {P : Hp} {a : Addr} (h : P a = none) (o : MO) (hml : o.isL = false) : Fr P a o := by
  cases o with
  | dlk kvs => cases hml
  | kdl kvs => cases hml
  | _ => exact h
theorem Fr.to {P P' : Hp} {a : Addr} {o : MO} (h : Fr P a o) (e : P' a = P a) : Fr P' a o := by
  cases o with
  | dlk kvs => obtain ⟨ob, vs, h⟩ := h; exact ⟨ob, vs, e.trans h⟩
  | kdl kvs => obtain ⟨ob, vs, h⟩ := h; exact ⟨ob, vs, e.trans h⟩
  | _ => exact e.trans h
theorem MRep.some {K : PySem.W.Frag} {I : Hp} {as : List Addr} {H : Hp} {a : Addr} {o : MO} (h : MRep K I as H a o) : ∃ u, H a = some u := by
  cases o with
  | lst ds => exact ⟨_, h.choose_spec.1⟩
  | dct ds => exact ⟨_, h.choose_spec.1⟩
  | dlk ds => exact ⟨_, h.choose_spec.choose_spec.1⟩
  | kd ds => exact ⟨_, h.choose_spec.1⟩
  | kdl ds => exact ⟨_, h.choose_spec.choose_spec.1⟩
theorem MRep.mono {K : PySem.W.Frag} {I I' : Hp} {as as' : List Addr} {H H' : Hp} {a : Addr} {o : MO} (g : Gr I as I' as') (e : H' a = H a) (h : MRep K I as H a o) : MRep K I' as' H' a o := by
  cases o with
  | lst ds =>
    obtain ⟨vs, h1, h2⟩ := h
    exact ⟨vs, e.trans h1, h2.mono g⟩
  | dct ds =>
    obtain ⟨vs, h1, h2, h3⟩ := h
    exact ⟨vs, e.trans h1, h2, h3.mono g⟩
  | dlk ds =>
    obtain ⟨ob, vs, h1, h2, h3⟩ := h
    exact ⟨ob, vs, e.trans h1, h2, h3.mono g⟩
  | kd ds =>
    obtain ⟨o, h1, h2⟩ := h
    exact ⟨o, e.trans h1, h2.mono g⟩
  | kdl ds =>
    obtain ⟨ob, o, h1, h2⟩ := h
    exact ⟨ob, o, e.trans h1, h2.mono g⟩
/-- what is free is not what somebody holds -/
theorem Fr.ne {P : Hp} {a p : Addr} {o : MO} {u : HO} (h : Fr P a o) (hp : P p = some u) (hu : ∀ ob v, u ≠ .frz ob v) : a ≠ p := by
  intro z
  subst z
  cases o with
  | dlk kvs =>
    obtain ⟨ob, vs, e⟩ := h
    rw [hp] at e
    cases e
    exact hu _ _ rfl
  | kdl kvs =>
    obtain ⟨ob, vs, e⟩ := h
    rw [hp] at e
    cases e
    exact hu _ _ rfl
  | kd xs => rw [show P a = none from h] at hp; cases hp
  | lst xs => rw [show P a = none from h] at hp; cases hp
  | dct xs => rw [show P a = none from h] at hp; cases hp
/-- the world: I what never changes, as and M what may, P what somebody keeps for himself -/
structure Wr (K : PySem.W.Frag) (H I : Hp) (as : List Addr) (M : List MO) (P : Hp) : Prop where
  sub : ∀ (a : Addr) (o : HO), I a = some o → H a = some o
  len : as.length = M.length
  nd : as.Nodup
  mu : ∀ (k : Nat) (a : Addr) (o : MO), as[k]? = some a → M[k]? = some o → I a = none ∧ Fr P a o ∧ MRep K I as H a o
  prv : ∀ (a : Addr) (o : HO), P a = some o → H a = some o ∧ I a = none
section
variable {K : PySem.W.Frag} {H I P : Hp} {as : List Addr} {M : List MO}
theorem Wr.at (w : Wr K H I as M P) {k : Nat} {a : Addr} (h : as[k]? = some a) : ∃ o, M[k]? = some o ∧ I a = none ∧ Fr P a o ∧ MRep K I as H a o := by
  have hk : k < M.length := by rw [← w.len]; exact (List.getElem?_eq_some_iff.mp h).1
  exact ⟨M[k], List.getElem?_eq_getElem hk, w.mu k a _ h (List.getElem?_eq_getElem hk)⟩
theorem Wr.fresh (w : Wr K H I as M P) {p : Addr} (h : H p = none) : I p = none ∧ P p = none ∧ p ∉ as := by
  refine ⟨?_, ?_, fun hm => ?_⟩
  · cases e : I p with
    | none => rfl
    | some o => rw [w.sub _ _ e] at h; cases h
  · cases e : P p with
    | none => rfl
    | some o => rw [(w.prv _ _ e).1] at h; cases h
  · obtain ⟨k, hk⟩ := List.getElem?_of_mem hm
    obtain ⟨o, _, _, _, m⟩ := w.at hk
    obtain ⟨u, hu⟩ := m.some
    rw [hu] at h; cases h
theorem Wr.newI (w : Wr K H I as M P) {p : Addr} (h : H p = none) (o : HO) : Wr K (upd H p o) (upd I p o) as M P ∧ Gr I as (upd I p o) as := by
  obtain ⟨f1, f2, f3⟩ := w.fresh h
  have g : Gr I as (upd I p o) as := ⟨fun a u e => by rw [upd_ne (ne_of_none e f1)]; exact e, [], by simp⟩
  refine ⟨⟨fun a u e => ?_, w.len, w.nd, fun k a u ha hu => ?_, fun a u e => ?_⟩, g⟩
  · by_cases q : a = p
    · subst q; rw [upd_same] at e ⊢; exact e
    · rw [upd_ne q] at e ⊢; exact w.sub _ _ e
  · have q : a ≠ p := fun z => f3 (by rw [← z]; exact List.mem_of_getElem? ha)
    obtain ⟨m1, m2, m3⟩ := w.mu k a u ha hu
    exact ⟨by rw [upd_ne q]; exact m1, m2, m3.mono g (upd_ne q)⟩
  · obtain ⟨h1, h2⟩ := w.prv _ _ e
    have q : a ≠ p := ne_of_none h1 h
    rw [upd_ne q, upd_ne q]
    exact ⟨h1, h2⟩
theorem Gr.more (I : Hp) (as t : List Addr) : Gr I as I (as ++ t) := ⟨fun _ _ e => e, t, rfl⟩
theorem Wr.newM (w : Wr K H I as M P) {p : Addr} (h : H p = none) (o : HO) (m : MO) (hm : MRep K I as (upd H p o) p m) (hml : m.isL = false := by rfl) : Wr K (upd H p o) I (as ++ [p]) (M ++ [m]) P := by
  obtain ⟨f1, f2, f3⟩ := w.fresh h
  have hl := w.len
  refine ⟨fun a u e => ?_, by simp [hl], ?_, fun k a u ha hu => ?_, fun a u e => ?_⟩
  · rw [upd_ne (ne_of_none (w.sub _ _ e) h)]; exact w.sub _ _ e
  · rw [List.nodup_append]
    exact ⟨w.nd, by simp, fun a ha b hb => by
      have e : b = p := by simpa using hb
      subst e
      exact fun z => f3 (z ▸ ha)⟩
  · by_cases hk : k < as.length
    · rw [List.getElem?_append_left hk] at ha
      rw [List.getElem?_append_left (by omega)] at hu
      have q : a ≠ p := fun z => f3 (by rw [← z]; exact List.mem_of_getElem? ha)
      obtain ⟨m1, m2, m3⟩ := w.mu k a u ha hu
      exact ⟨m1, m2, m3.mono (Gr.more I as [p]) (upd_ne q)⟩
    · have hk2 : k - as.length = 0 := by
        rw [List.getElem?_append_right (by omega)] at ha
        have := (List.getElem?_eq_some_iff.mp ha).1
        simp at this
        omega
      rw [List.getElem?_append_right (by omega), hk2] at ha
      rw [List.getElem?_append_right (by omega), show k - M.length = 0 by omega] at hu
      have e1 : p = a := by simpa using ha
      have e2 : m = u := by simpa using hu
      subst e1 e2
      exact ⟨f1, .of f2 _ hml, hm.mono (Gr.more I as [p]) rfl⟩
  · obtain ⟨h1, h2⟩ := w.prv _ _ e
    rw [upd_ne (ne_of_none h1 h)]
    exact ⟨h1, h2⟩
theorem nodup_get {as : List Addr} (h : as.Nodup) {i j : Nat} {a : Addr} (hi : as[i]? = some a) (hj : as[j]? = some a) : i = j :=
  (List.getElem?_inj (List.getElem?_eq_some_iff.mp hi).1 h).mp (hi.trans hj.symm)
theorem Wr.put (w : Wr K H I as M P) {k : Nat} {a : Addr} (ha : as[k]? = some a) (p1 : P a = none) (o : HO) (m : MO) (hm : MRep K I as (upd H a o) a m) (hml : m.isL = false := by rfl) : Wr K (upd H a o) I as (M.set k m) P := by
  obtain ⟨_, _, i1, _, _⟩ := w.at ha
  refine ⟨fun b u e => ?_, by simp [w.len], w.nd, fun j b u hb hu => ?_, fun b u e => ?_⟩
  · rw [upd_ne (ne_of_none e i1)]; exact w.sub _ _ e
  · by_cases hj : k = j
    · subst hj
      have e1 : a = b := Option.some.inj (ha.symm.trans hb)
      subst e1
      have hk : k < M.length := by rw [← w.len]; exact (List.getElem?_eq_some_iff.mp ha).1
      rw [List.getElem?_set_self hk] at hu
      have e2 : m = u := Option.some.inj hu
      subst e2
      exact ⟨i1, .of p1 _ hml, hm⟩
    · rw [List.getElem?_set_ne hj] at hu
      obtain ⟨m1, m2, m3⟩ := w.mu j b u hb hu
      have q : b ≠ a := fun z => hj (nodup_get w.nd ha (z ▸ hb))
      exact ⟨m1, m2, m3.mono (Gr.refl I as) (upd_ne q)⟩
  · obtain ⟨h1, h2⟩ := w.prv _ _ e
    have q : b ≠ a := ne_of_none e p1
    rw [upd_ne q]
    exact ⟨h1, h2⟩
/-- a private cell is laid -/
theorem Wr.newP (w : Wr K H I as M P) {p : Addr} (h : H p = none) (o : HO) : Wr K (upd H p o) I as M (upd P p o) := by
  obtain ⟨f1, f2, f3⟩ := w.fresh h
  refine ⟨fun a u e => ?_, w.len, w.nd, fun k a u ha hu => ?_, fun a u e => ?_⟩
  · rw [upd_ne (ne_of_none e f1)]; exact w.sub _ _ e
  · have q : a ≠ p := fun z => f3 (by rw [← z]; exact List.mem_of_getElem? ha)
    obtain ⟨m1, m2, m3⟩ := w.mu k a u ha hu
    exact ⟨m1, m2.to (upd_ne q), m3.mono (Gr.refl _ _) (upd_ne q)⟩
  · by_cases q : a = p
    · subst q
      rw [upd_same] at e ⊢
      exact ⟨e, f1⟩
    · rw [upd_ne q] at e ⊢
      exact w.prv _ _ e
/-- it changes -/
theorem Wr.putP (w : Wr K H I as M P) {p : Addr} {u : HO} (h : P p = some u) (o : HO) (hnf : ∀ ob v, u ≠ .frz ob v := by exact fun _ _ z => by cases z) : Wr K (upd H p o) I as M (upd P p o) := by
  obtain ⟨h1, i1⟩ := w.prv _ _ h
  refine ⟨fun a u e => ?_, w.len, w.nd, fun k a u ha hu => ?_, fun a u e => ?_⟩
  · rw [upd_ne (ne_of_none e i1)]; exact w.sub _ _ e
  · obtain ⟨m1, m2, m3⟩ := w.mu k a u ha hu
    have q : a ≠ p := m2.ne h hnf
    exact ⟨m1, m2.to (upd_ne q), m3.mono (Gr.refl _ _) (upd_ne q)⟩
  · by_cases q : a = p
    · subst q
      rw [upd_same] at e ⊢
      exact ⟨e, i1⟩
    · rw [upd_ne q] at e ⊢
      exact w.prv _ _ e
theorem upd_take {P : Hp} {p : Addr} {o : HO} (h : P p = none) (b : Addr) (u : HO) (e : P b = some u) : upd P p o b = some u := by
  rw [upd_ne (ne_of_none e h)]; exact e
/-- a private cell is given to what never changes -/
theorem Wr.giveI {P0 : Hp} {o : HO} {p : Addr} (w : Wr K H I as M (upd P0 p o)) (h0 : P0 p = none) (hnf : ∀ ob v, o ≠ .frz ob v := by exact fun _ _ z => by cases z) : Wr K H (upd I p o) as M P0 ∧ Gr I as (upd I p o) as := by
  obtain ⟨h1, i1⟩ := w.prv p o upd_same
  have g : Gr I as (upd I p o) as := ⟨fun a u e => by rw [upd_ne (ne_of_none e i1)]; exact e, [], by simp⟩
  refine ⟨⟨fun a u e => ?_, w.len, w.nd, fun k a u ha hu => ?_, fun a u e => ?_⟩, g⟩
  · by_cases q : a = p
    · subst q; rw [upd_same] at e; cases e; exact h1
    · rw [upd_ne q] at e; exact w.sub _ _ e
  · obtain ⟨m1, m2, m3⟩ := w.mu k a u ha hu
    have q : a ≠ p := m2.ne upd_same hnf
    exact ⟨by rw [upd_ne q]; exact m1, m2.to (upd_ne q).symm, m3.mono g rfl⟩
  · have q : a ≠ p := ne_of_none e h0
    obtain ⟨x, y⟩ := w.prv a u (by rw [upd_ne q]; exact e)
    exact ⟨x, by rw [upd_ne q]; exact y⟩
/-- .. to what may change -/
theorem Wr.giveM {P0 : Hp} {o : HO} {p : Addr} {m : MO} (w : Wr K H I as M (upd P0 p o)) (h0 : P0 p = none) (hnf : ∀ ob v, o ≠ .frz ob v) (hm : MRep K I as H p m) (hml : m.isL = false := by rfl) : Wr K H I (as ++ [p]) (M ++ [m]) P0 := by
  obtain ⟨h1, i1⟩ := w.prv p o upd_same
  have hl := w.len
  have np : p ∉ as := fun hmem => by
    obtain ⟨k, hk⟩ := List.getElem?_of_mem hmem
    obtain ⟨_, _, _, m2, m3⟩ := w.at hk
    exact m2.ne upd_same hnf rfl
  refine ⟨w.sub, by simp [hl], ?_, fun k a u ha hu => ?_, fun a u e => ?_⟩
  · rw [List.nodup_append]
    exact ⟨w.nd, by simp, fun a ha b hb => by
      have e : b = p := by simpa using hb
      subst e
      exact fun z => np (z ▸ ha)⟩
  · by_cases hk : k < as.length
    · rw [List.getElem?_append_left hk] at ha
      rw [List.getElem?_append_left (by omega)] at hu
      obtain ⟨m1, m2, m3⟩ := w.mu k a u ha hu
      have q : a ≠ p := fun z => np (by rw [← z]; exact List.mem_of_getElem? ha)
      exact ⟨m1, m2.to (upd_ne q).symm, m3.mono (Gr.more I as [p]) rfl⟩
    · have hk2 : k - as.length = 0 := by
        rw [List.getElem?_append_right (by omega)] at ha
        have := (List.getElem?_eq_some_iff.mp ha).1
        simp at this
        omega
      rw [List.getElem?_append_right (by omega), hk2] at ha
      rw [List.getElem?_append_right (by omega), show k - M.length = 0 by omega] at hu
      have e1 : p = a := by simpa using ha
      have e2 : m = u := by simpa using hu
      subst e1 e2
      exact ⟨i1, .of h0 _ hml, hm.mono (Gr.more I as [p]) rfl⟩
  · have q : a ≠ p := ne_of_none e h0
    exact w.prv a u (by rw [upd_ne q]; exact e)
/-- a dict is locked -/
theorem Wr.lock (w : Wr K H I as M P) {k : Nat} {a : Addr} {kvs : List (Int × D)} {vs : List (L2.Key × V)} (ha : as[k]? = some a) (h1 : H a = some (.dK vs)) (h2 : vs.map (fun p => p.1) = kvs.map (fun p => Sum.inl p.1)) (h3 : Reps K I as (vs.map fun p => p.2) (kvs.map fun p => p.2)) (hp : P a = none) (od : Obj) :
    Wr K (upd H a (.frz od (.dK vs))) I as (M.set k (.dlk kvs)) (upd P a (.frz od (.dK vs))) := by
  obtain ⟨_, _, i1, _, _⟩ := w.at ha
  refine ⟨fun b u e => ?_, by simp [w.len], w.nd, fun j b u hb hu => ?_, fun b u e => ?_⟩
  · rw [upd_ne (ne_of_none e i1)]; exact w.sub _ _ e
  · by_cases hj : k = j
    · subst hj
      have e1 : a = b := Option.some.inj (ha.symm.trans hb)
      subst e1
      have hk : k < M.length := by rw [← w.len]; exact (List.getElem?_eq_some_iff.mp ha).1
      rw [List.getElem?_set_self hk] at hu
      cases hu
      exact ⟨i1, ⟨od, vs, upd_same⟩, ⟨od, vs, upd_same, h2, h3⟩⟩
    · rw [List.getElem?_set_ne hj] at hu
      obtain ⟨m1, m2, m3⟩ := w.mu j b u hb hu
      have q : b ≠ a := fun z => hj (nodup_get w.nd ha (z ▸ hb))
      exact ⟨m1, m2.to (upd_ne q), m3.mono (Gr.refl I as) (upd_ne q)⟩
  · by_cases q : b = a
    · subst q
      rw [upd_same] at e ⊢
      exact ⟨e, i1⟩
    · rw [upd_ne q] at e ⊢
      exact w.prv _ _ e
/-- .. and unlocked -/
theorem Wr.unlock {od : Obj} {k : Nat} {a : Addr} {kvs : List (Int × D)} {vs : List (L2.Key × V)} (w : Wr K H I as M (upd P a (.frz od (.dK vs)))) (ha : as[k]? = some a) (h2 : vs.map (fun p => p.1) = kvs.map (fun p => Sum.inl p.1)) (h3 : Reps K I as (vs.map fun p => p.2) (kvs.map fun p => p.2)) (hp : P a = none) :
    H a = some (.frz od (.dK vs)) ∧ Wr K (upd H a (.dK vs)) I as (M.set k (.dct kvs)) P := by
  obtain ⟨hH, i1⟩ := w.prv a _ upd_same
  refine ⟨hH, fun b u e => ?_, by simp [w.len], w.nd, fun j b u hb hu => ?_, fun b u e => ?_⟩
  · rw [upd_ne (ne_of_none e i1)]; exact w.sub _ _ e
  · by_cases hj : k = j
    · subst hj
      have e1 : a = b := Option.some.inj (ha.symm.trans hb)
      subst e1
      have hk : k < M.length := by rw [← w.len]; exact (List.getElem?_eq_some_iff.mp ha).1
      rw [List.getElem?_set_self hk] at hu
      cases hu
      exact ⟨i1, hp, ⟨vs, upd_same, h2, h3⟩⟩
    · rw [List.getElem?_set_ne hj] at hu
      obtain ⟨m1, m2, m3⟩ := w.mu j b u hb hu
      have q : b ≠ a := fun z => hj (nodup_get w.nd ha (z ▸ hb))
      exact ⟨m1, m2.to (upd_ne q).symm, m3.mono (Gr.refl I as) (upd_ne q)⟩
  · have q : b ≠ a := ne_of_none e hp
    rw [upd_ne q]
    exact w.prv _ _ (by rw [upd_ne q]; exact e)
end

/-- slots -/
structure Envr (K : PySem.W.Frag) (I : Hp) (as : List Addr) (σ : L2.St) (δ : List (Option D)) : Prop where
  len : σ.length = δ.length
  at_ : ∀ (i : Nat) (d : D), δ[i]? = some (some d) → ∃ v, σ[i]? = some (some v) ∧ Rep K I as v d
theorem Envr.mono {K : PySem.W.Frag} {I I' : Hp} {as as' : List Addr} {σ : L2.St} {δ : List (Option D)} (g : Gr I as I' as') (e : Envr K I as σ δ) : Envr K I' as' σ δ :=
  ⟨e.len, fun i d h => let ⟨v, h1, h2⟩ := e.at_ i d h; ⟨v, h1, h2.mono g⟩⟩
theorem Envr.set {K : PySem.W.Frag} {I : Hp} {as : List Addr} {σ : L2.St} {δ : List (Option D)} {v : V} {d : D} (e : Envr K I as σ δ) (r : Rep K I as v d) (i : Nat) : Envr K I as (σ.set i (some v)) (δ.set i (some d)) := by
  refine ⟨by simp [e.len], fun j d' h => ?_⟩
  by_cases hj : i = j
  · subst hj
    have hi : i < δ.length := by
      have := (List.getElem?_eq_some_iff.mp h).1
      simpa using this
    rw [List.getElem?_set_self hi] at h
    have e1 : d = d' := Option.some.inj (Option.some.inj h)
    subst e1
    exact ⟨v, List.getElem?_set_self (by rw [e.len]; exact hi), r⟩
  · rw [List.getElem?_set_ne hj] at h
    obtain ⟨w, h1, h2⟩ := e.at_ j d' h
    exact ⟨w, by rw [List.getElem?_set_ne hj]; exact h1, h2⟩
theorem Envr.unset {K : PySem.W.Frag} {I : Hp} {as : List Addr} {σ : L2.St} {δ : List (Option D)} (e : Envr K I as σ δ) (i : Nat) : Envr K I as (σ.set i none) (δ.set i none) := by
  refine ⟨by simp [e.len], fun j d' h => ?_⟩
  by_cases hj : i = j
  · subst hj
    by_cases hi : i < δ.length
    · rw [List.getElem?_set_self hi] at h
      cases h
    · rw [List.getElem?_eq_none (by simpa using hi)] at h
      cases h
  · rw [List.getElem?_set_ne hj] at h
    obtain ⟨w, h1, h2⟩ := e.at_ j d' h
    exact ⟨w, by rw [List.getElem?_set_ne hj]; exact h1, h2⟩
def wipeD (δ : List (Option D)) : List Nat → List (Option D)
  | [] => δ
  | v :: vs => (wipeD δ vs).set v none
theorem Envr.wipe {K : PySem.W.Frag} {I : Hp} {as : List Addr} {σ : L2.St} {δ : List (Option D)} (e : Envr K I as σ δ) : ∀ vs, Envr K I as (L2.wipe σ vs) (wipeD δ vs)
  | [] => e
  | v :: vs => (Envr.wipe e vs).unset v

/-- what a piece comes to -/
inductive R (α : Type) where
  | bad
  | ok (a : α) (M : List MO)
  | ex (c : Str) (M : List MO)
def R.bind {α β : Type} (r : R α) (f : α → List MO → R β) : R β :=
  match r with
  | .bad => .bad
  | .ok a M => f a M
  | .ex c M => .ex c M
@[simp] theorem R.bind_bad {α β : Type} (f : α → List MO → R β) : (R.bad).bind f = .bad := rfl
@[simp] theorem R.bind_ok {α β : Type} (f : α → List MO → R β) (a : α) (M : List MO) : (R.ok a M).bind f = f a M := rfl
@[simp] theorem R.bind_ex {α β : Type} (f : α → List MO → R β) (c : Str) (M : List MO) : (R.ex c M).bind f = .ex c M := rfl
abbrev Ctx := List (Option D)
abbrev GE := Ctx → List MO → R D
abbrev GB := Ctx → List MO → R Bool
abbrev GA := Ctx → List MO → R (List D)
inductive SR where
  | bad
  | nx (δ : Ctx) (M : List MO)
  | rt (d : D) (M : List MO)
  | bk (δ : Ctx) (M : List MO)
  | ct (δ : Ctx) (M : List MO)
  | ex (c : Str) (δ : Ctx) (M : List MO)
abbrev GS := Ctx → List MO → SR

/-- what is wanted of an exception, by the class's name -/
def lowW (mg : Str → Option Value) (W : WX) : Str → L2.St → Hp → Prop := fun c σ H => ∀ cls, mg c = some cls → W cls none σ H

def Sat {α β : Type} (K : PySem.W.Frag) (rel : Hp → List Addr → β → α → Prop) (Wf : Str → Hp → Prop) (I : Hp) (as : List Addr) (P : Hp) (Q : β → Hp → Prop) : R α → Prop
  | .bad => False
  | .ok d M => ∀ v H' I' as', Gr I as I' as' → Wr K H' I' as' M P → rel I' as' v d → Q v H'
  | .ex c M => ∀ H' I' as', Gr I as I' as' → Wr K H' I' as' M P → Wf c H'
def SatS (K : PySem.W.Frag) (Wf : Str → L2.St → Hp → Prop) (I : Hp) (as : List Addr) (P : Hp) (E : Ends) : SR → Prop
  | .bad => False
  | .nx δ M => ∀ σ' H' I' as', Gr I as I' as' → Wr K H' I' as' M P → Envr K I' as' σ' δ → E.nx σ' H'
  | .rt d M => ∀ v H' I' as', Gr I as I' as' → Wr K H' I' as' M P → Rep K I' as' v d → E.rt v H'
  | .bk δ M => ∀ σ' H' I' as', Gr I as I' as' → Wr K H' I' as' M P → Envr K I' as' σ' δ → E.bk σ' H'
  | .ct δ M => ∀ σ' H' I' as', Gr I as I' as' → Wr K H' I' as' M P → Envr K I' as' σ' δ → E.ct σ' H'
  | .ex c δ M => ∀ σ' H' I' as', Gr I as I' as' → Wr K H' I' as' M P → Envr K I' as' σ' δ → Wf c σ' H'
section
variable {α β γ ε : Type} {K : PySem.W.Frag}
/-- Sat is kept when the world grows -/
theorem Sat.gr {rel : Hp → List Addr → β → α → Prop} {Wf : Str → Hp → Prop} {I I' P : Hp} {as as' : List Addr} {Q : β → Hp → Prop} {r : R α} (g : Gr I as I' as') (h : Sat K rel Wf I as P Q r) : Sat K rel Wf I' as' P Q r := by
  cases r with
  | bad => exact h
  | ok d M => exact fun v H2 I2 as2 g2 w r => h v H2 I2 as2 (g.trans g2) w r
  | ex c M => exact fun H2 I2 as2 g2 w => h H2 I2 as2 (g.trans g2) w
theorem SatS.gr {Wf : Str → L2.St → Hp → Prop} {I I' P : Hp} {as as' : List Addr} {E : Ends} {r : SR} (g : Gr I as I' as') (h : SatS K Wf I as P E r) : SatS K Wf I' as' P E r := by
  cases r with
  | bad => exact h
  | nx d M => exact fun v H2 I2 as2 g2 w r => h v H2 I2 as2 (g.trans g2) w r
  | rt d M => exact fun v H2 I2 as2 g2 w r => h v H2 I2 as2 (g.trans g2) w r
  | bk d M => exact fun v H2 I2 as2 g2 w r => h v H2 I2 as2 (g.trans g2) w r
  | ct d M => exact fun v H2 I2 as2 g2 w r => h v H2 I2 as2 (g.trans g2) w r
  | ex c d M => exact fun v H2 I2 as2 g2 w r => h v H2 I2 as2 (g.trans g2) w r
/-- one piece behind another -/
theorem Sat.bind {rel : Hp → List Addr → β → α → Prop} {rel2 : Hp → List Addr → ε → γ → Prop} {Wf : Str → Hp → Prop} {I P : Hp} {as : List Addr} {Q : ε → Hp → Prop} {r : R α} {f : α → List MO → R γ} (h : Sat K rel2 Wf I as P Q (r.bind f))
    {Q1 : β → Hp → Prop} (k : ∀ a M v H' I' as', r = .ok a M → Gr I as I' as' → Wr K H' I' as' M P → rel I' as' v a → Sat K rel2 Wf I' as' P Q (f a M) → Q1 v H') : Sat K rel Wf I as P Q1 r := by
  cases r with
  | bad => exact h
  | ok d M => exact fun v H2 I2 as2 g2 w r => k d M v H2 I2 as2 rfl g2 w r (Sat.gr g2 h)
  | ex c M => exact h
end
end KM
set_option Elab.async false
set_option linter.all false
set_option maxRecDepth 100000
set_option maxHeartbeats 2000000
namespace KM
open PySem L2 PySem.Spec PyProof.Rows

/-! ### judgements -/
def ImpE (K : PySem.W.Frag) (mg : Str → Option Value) (W : WX) (t : TE) (g : GE) : Prop := ∀ (σ : L2.St) (H : Hp) (δ : Ctx) (I : Hp) (as : List Addr) (M : List MO) (P : Hp) (Q : VK),
  Wr K H I as M P → Envr K I as σ δ → Sat K (Rep K) (fun c H' => lowW mg W c σ H') I as P Q (g δ M) → t σ H Q
def ImpT (K : PySem.W.Frag) (mg : Str → Option Value) (W : WX) (t : TT) (g : GB) : Prop := ∀ (σ : L2.St) (H : Hp) (δ : Ctx) (I : Hp) (as : List Addr) (M : List MO) (P : Hp) (Q : Bool → Hp → Prop),
  Wr K H I as M P → Envr K I as σ δ → Sat K (fun _ _ b b' => b = b') (fun c H' => lowW mg W c σ H') I as P Q (g δ M) → t σ H Q
def ImpA (K : PySem.W.Frag) (mg : Str → Option Value) (W : WX) (t : TA) (g : GA) : Prop := ∀ (σ : L2.St) (H : Hp) (δ : Ctx) (I : Hp) (as : List Addr) (M : List MO) (P : Hp) (Q : List V → Hp → Prop),
  Wr K H I as M P → Envr K I as σ δ → Sat K (Reps K) (fun c H' => lowW mg W c σ H') I as P Q (g δ M) → t σ H Q
def ImpS (K : PySem.W.Frag) (mg : Str → Option Value) (W : WX) (t : TS) (g : GS) : Prop := ∀ (σ : L2.St) (H : Hp) (δ : Ctx) (I : Hp) (as : List Addr) (M : List MO) (P : Hp) (E : Ends),
  Wr K H I as M P → Envr K I as σ δ → SatS K (lowW mg W) I as P E (g δ M) → t E σ H
structure XE (X : Cx) (W : WX) (e : Expr) (t : TE) (g : GE) : Prop where
  pe : PE X e t
  im : ImpE X.K X.mg W t g
structure XT (X : Cx) (W : WX) (e : Expr) (t : TT) (g : GB) : Prop where
  pe : PT X e t
  im : ImpT X.K X.mg W t g
structure XW (X : Cx) (W : WX) (e : Expr) (t : TT) (g : GB) : Prop where
  pe : PW X e t
  im : ImpT X.K X.mg W t g
structure XA (X : Cx) (W : WX) (es : List Expr) (t : TA) (g : GA) : Prop where
  pe : PA X es t
  im : ImpA X.K X.mg W t g
structure XS (X : Cx) (W : WX) (st : Stmt) (t : TS) (g : GS) : Prop where
  pe : PS X st t
  im : ImpS X.K X.mg W t g
structure XSs (X : Cx) (W : WX) (sts : List Stmt) (t : TS) (g : GS) : Prop where
  pe : PSs X sts t
  im : ImpS X.K X.mg W t g

/-! ### what data an address shows -/
def listOf (M : List MO) : D → Option (List D)
  | .lst xs => some xs
  | .rol xs => some xs
  | .ref k => match M[k]? with
    | some (.lst xs) => some xs
    | _ => none
  | _ => none
/-- a list that may be the operand of + and * -/
def listOfT (M : List MO) : D → Option (List D)
  | .lst xs => some xs
  | .ref k => match M[k]? with
    | some (.lst xs) => some xs
    | _ => none
  | _ => none
def tupOf : D → Option (List D)
  | .tup xs => some xs
  | _ => none
section
variable {K : PySem.W.Frag} {H I P : Hp} {as : List Addr} {M : List MO}
theorem Wr.seqT (w : Wr K H I as M P) {a : Addr} {xs : List V} (h : SqT K I a xs) : SqT K H a xs := Evl.ex_t w.sub h
theorem Wr.seqL (w : Wr K H I as M P) {a : Addr} {xs : List V} (h : SqL K I a xs) : SqL K H a xs := Evl.ex_l w.sub h
theorem Rep.listT (w : Wr K H I as M P) {v : V} {d : D} {ds : List D} (r : Rep K I as v d) (h : listOfT M d = some ds) : ∃ a vs, v = .ref a ∧ H a = some (.lst vs) ∧ Reps K I as vs ds := by
  cases r with
  | lst h1 h2 =>
    cases h
    exact ⟨_, _, rfl, w.sub _ _ h1, h2⟩
  | @ref k a h1 =>
    obtain ⟨o, ho, _, _, m⟩ := w.at h1
    unfold listOfT at h
    cases o with
    | dct kvs => simp [ho] at h
    | dlk kvs => simp [ho] at h
    | kd kvs => simp [ho] at h
    | kdl kvs => simp [ho] at h
    | lst xs =>
      simp only [ho, Option.some.injEq] at h
      subst h
      obtain ⟨vs, e, r⟩ := m
      exact ⟨_, _, rfl, e, r⟩
  | _ => cases h
theorem Rep.list (w : Wr K H I as M P) {v : V} {d : D} {ds : List D} (r : Rep K I as v d) (h : listOf M d = some ds) : ∃ a vs, v = .ref a ∧ SqL K H a vs ∧ Reps K I as vs ds := by
  cases r with
  | lst h1 h2 =>
    cases h
    exact ⟨_, _, rfl, .of (w.sub _ _ h1), h2⟩
  | rol h1 h2 =>
    cases h
    exact ⟨_, _, rfl, w.seqL h1, h2⟩
  | @ref k a h1 =>
    obtain ⟨o, ho, _, _, m⟩ := w.at h1
    unfold listOf at h
    cases o with
    | dct kvs => simp [ho] at h
    | dlk kvs => simp [ho] at h
    | kd kvs => simp [ho] at h
    | kdl kvs => simp [ho] at h
    | lst xs =>
      simp only [ho, Option.some.injEq] at h
      subst h
      obtain ⟨vs, e, r⟩ := m
      exact ⟨_, _, rfl, .of e, r⟩
  | _ => cases h
theorem Rep.tupl (w : Wr K H I as M P) {v : V} {d : D} {ds : List D} (r : Rep K I as v d) (h : tupOf d = some ds) : ∃ a vs, v = .ref a ∧ SqT K H a vs ∧ Reps K I as vs ds := by
  cases r with
  | tup h1 h2 =>
    cases h
    exact ⟨_, _, rfl, w.seqT h1, h2⟩
  | _ => cases h
theorem Rep.int_inv {v : V} {i : Int} (r : Rep K I as v (.int i)) : v = .int i := by cases r; rfl
theorem Rep.bl_inv {v : V} {b : Bool} (r : Rep K I as v (.bl b)) : v = .bl b := by cases r; rfl
theorem Rep.str_inv {v : V} {b : Str} (r : Rep K I as v (.str b)) : v = .str b := by cases r; rfl
theorem Rep.non_inv {v : V} (r : Rep K I as v .non) : v = .non := by cases r; rfl
end

/-! ### operations by values -/
abbrev OD := D → D → List MO → R D
def OpD (K : PySem.W.Frag) (r : R2) (o : OD) : Prop := ∀ (H I : Hp) (as : List Addr) (M : List MO) (P : Hp) (x y : V) (d e : D) (Wf : Str → Hp → Prop) (Q : VK),
  Wr K H I as M P → Rep K I as x d → Rep K I as y e → Sat K (Rep K) Wf I as P Q (o d e M) → r x y H Q
abbrev OU := D → List MO → R D
def OpU (K : PySem.W.Frag) (r : V → Hp → VK → Prop) (o : OU) : Prop := ∀ (H I : Hp) (as : List Addr) (M : List MO) (P : Hp) (x : V) (d : D) (Wf : Str → Hp → Prop) (Q : VK),
  Wr K H I as M P → Rep K I as x d → Sat K (Rep K) Wf I as P Q (o d M) → r x H Q
abbrev OC := List D → List MO → R D
def OpC (K : PySem.W.Frag) (r : List V → Hp → VK → Prop) (o : OC) : Prop := ∀ (H I : Hp) (as : List Addr) (M : List MO) (P : Hp) (xs : List V) (ds : List D) (Wf : Str → Hp → Prop) (Q : VK),
  Wr K H I as M P → Reps K I as xs ds → Sat K (Rep K) Wf I as P Q (o ds M) → r xs H Q
section
variable {K : PySem.W.Frag} {H I P : Hp} {as : List Addr} {M : List MO} {Q : VK} {Wf : Str → Hp → Prop}
/-- a value that changes nothing -/
theorem Sat.now {d : D} {v : V} (h : Sat K (Rep K) Wf I as P Q (.ok d M)) (w : Wr K H I as M P) (r : Rep K I as v d) : Q v H := h v H I as (Gr.refl I as) w r
/-- a new tuple -/
theorem Sat.newTup {ds : List D} {vs : List V} (h : Sat K (Rep K) Wf I as P Q (.ok (.tup ds) M)) (w : Wr K H I as M P) (r : Reps K I as vs ds) {p : Addr} (hp : H p = none) : Q (.ref p) (upd H p (.tup vs)) := by
  obtain ⟨w', g⟩ := w.newI hp (.tup vs)
  exact h _ _ _ _ g w' (.tup (.of upd_same) (r.mono g))
/-- a new list that never changes -/
theorem Sat.newLst {ds : List D} {vs : List V} (h : Sat K (Rep K) Wf I as P Q (.ok (.lst ds) M)) (w : Wr K H I as M P) (r : Reps K I as vs ds) {p : Addr} (hp : H p = none) : Q (.ref p) (upd H p (.lst vs)) := by
  obtain ⟨w', g⟩ := w.newI hp (.lst vs)
  exact h _ _ _ _ g w' (.lst upd_same (r.mono g))
/-- a new list that may change -/
theorem Sat.newRef {ds : List D} {vs : List V} (h : Sat K (Rep K) Wf I as P Q (.ok (.ref M.length) (M ++ [.lst ds]))) (w : Wr K H I as M P) (r : Reps K I as vs ds) {p : Addr} (hp : H p = none) : Q (.ref p) (upd H p (.lst vs)) := by
  have w' := w.newM hp (.lst vs) (.lst ds) ⟨vs, upd_same, r⟩
  refine h _ _ _ _ (Gr.more I as [p]) w' (.ref ?_)
  rw [← w.len, List.getElem?_append_right (Nat.le_refl _), Nat.sub_self]
  rfl
end

def oI2 (f : Int → Int → D) : OD := fun x y M => match x, y with
  | .int i, .int j => .ok (f i j) M
  | _, _ => .bad
open Classical in
noncomputable def oI2c (C : Int → Int → Prop) (f : Int → Int → D) : OD := fun x y M => match x, y with
  | .int i, .int j => if C i j then .ok (f i j) M else .bad
  | _, _ => .bad
def V2D : V → D
  | .int i => .int i
  | .bl b => .bl b
  | _ => .non
theorem opd_I0 {K : PySem.W.Frag} {f : Int → Int → V} {g : Int → Int → D} (h : ∀ i j (I : Hp) (as : List Addr), Rep K I as (f i j) (g i j)) : OpD K (rI0 f) (oI2 g) := by
  intro H I as M P x y d e Wf Q w rx ry s
  unfold oI2 at s
  split at s
  · cases rx; cases ry
    exact ⟨_, _, rfl, rfl, s.now w (h _ _ _ _)⟩
  · exact s.elim
theorem opd_I {K : PySem.W.Frag} {C : Int → Int → Prop} {Cb : Int → Int → Prop} {f : Int → Int → V} {g : Int → Int → D} (hc : ∀ i j, Cb i j → C i j) (h : ∀ i j (I : Hp) (as : List Addr), Rep K I as (f i j) (g i j)) : OpD K (rI C f) (oI2c Cb g) := by
  intro H I as M P x y d e Wf Q w rx ry s
  unfold oI2c at s
  split at s
  · split at s
    · rename_i c
      cases rx; cases ry
      exact ⟨_, _, rfl, rfl, hc _ _ c, s.now w (h _ _ _ _)⟩
    · exact s.elim
  · exact s.elim
def CMulB (i j : Int) : Prop := ((-(2 ^ 64) < i ∧ i < 2 ^ 64) ∨ (-(2 ^ 64) < j ∧ j < 2 ^ 64)) ∨ i.natAbs.log2 + j.natAbs.log2 < 1000000
def CDivB (_ j : Int) : Prop := 0 < j ∧ j.natAbs.log2 < 9000
def CModB (_ j : Int) : Prop := 0 < j
def CPowB (i j : Int) : Prop := (0 ≤ j ∧ j ≤ 1000000) ∧ i.natAbs < 2 ^ 64
theorem op_mulG {X : Cx} : OpR X (binaryOp .Mult) (rI CMulB fun i j => .int (i * j)) := by
  intro pins s σ H x y v u Q I rx ry h
  obtain ⟨i, j, rfl, rfl, c, q⟩ := h
  unfold CMulB at c
  rcases c with (c | c) | c
  · exact op_mul pins s σ H _ _ v u Q I rx ry ⟨i, j, rfl, rfl, .inl c, q⟩
  · exact op_mul pins s σ H _ _ v u Q I rx ry ⟨i, j, rfl, rfl, .inr c, q⟩
  · exact op_mulW pins s σ H _ _ v u Q I rx ry ⟨i, j, rfl, rfl, c, q⟩

/-- + -/
def bigN (n : Nat) : Prop := n ≤ 100000
open Classical in
noncomputable def oAdd : OD := fun x y M => match x, y with
  | .int i, .int j => .ok (.int (i + j)) M
  | .tup xs, .tup ys => if bigN (xs.length + ys.length) then .ok (.tup (xs ++ ys)) M else .bad
  | x, y => match listOfT M x, listOfT M y with
    | some xs, some ys => if bigN (xs.length + ys.length) then .ok (.lst (xs ++ ys)) M else .bad
    | _, _ => .bad
def rAddG (K : PySem.W.Frag) : R2 := fun x y H Q => rI0 (fun i j => .int (i + j)) x y H Q ∨ rCatA K x y H Q ∨ rCat x y H Q
theorem op_addG {X : Cx} : OpR X (binaryOp .Add) (rAddG X.K) := op_add.or (op_catA.or op_cat)
theorem big_le {n : Nat} (h : bigN n) : n ≤ sizeLine := Evl.sz_of h
theorem opd_add {K : PySem.W.Frag} : OpD K (rAddG K) oAdd := by
  intro H I as M P x y d e Wf Q w rx ry s
  unfold oAdd at s
  split at s
  · cases rx; cases ry
    exact .inl ⟨_, _, rfl, rfl, s.now w (.int _)⟩
  · rename_i xs ys
    split at s
    · rename_i hb
      obtain ⟨a, vs, rfl, h1, r1⟩ := rx.tupl w rfl
      obtain ⟨b, us, rfl, h2, r2⟩ := ry.tupl w rfl
      refine .inr (.inl ⟨a, b, vs, us, rfl, rfl, h1, h2, by rw [r1.len, r2.len]; exact big_le hb, fun e => ?_, fun _ e => ?_, fun _ _ p hp => ?_⟩)
      · subst e
        cases r1
        exact s.now w ry
      · subst e
        cases r2
        rw [List.append_nil] at s
        exact s.now w rx
      · exact s.newTup w (r1.append r2) hp
    · exact s.elim
  · split at s
    · rename_i xs ys e1 e2
      split at s
      · rename_i hb
        obtain ⟨a, vs, rfl, h1, r1⟩ := rx.listT w e1
        obtain ⟨b, us, rfl, h2, r2⟩ := ry.listT w e2
        exact .inr (.inr ⟨a, b, vs, us, rfl, rfl, h1, h2, by rw [r1.len, r2.len]; exact big_le hb, fun p hp => s.newLst w (r1.append r2) hp⟩)
      · exact s.elim
    · exact s.elim

/-! ### == over data -/
mutual
def D.py : D → Option PyData
  | .non => some .none
  | .bl b => some (.bool b)
  | .int i => some (.int i)
  | .str s => some (.str s)
  | .tup xs => (D.pys xs).map .tuple
  | .lst xs => (D.pys xs).map .list
  | .rol xs => (D.pys xs).map .list
  | .ref _ => none
  | .obj _ => none
  | .fn _ => none
  | .dct => none
  | .kdi _ _ => none
def D.pys : List D → Option (List PyData)
  | [] => some []
  | x :: xs => match D.py x, D.pys xs with
    | some p, some ps => some (p :: ps)
    | _, _ => none
end
def pyM (M : List MO) : D → Option PyData
  | .ref k => match M[k]? with
    | some (.lst xs) => (D.pys xs).map .list
    | _ => none
  | d => d.py
mutual
theorem Rep.dp {K : PySem.W.Frag} {H I P : Hp} {as : List Addr} {M : List MO} (w : Wr K H I as M P) : ∀ {v : V} {d : D} {p : PyData}, Rep K I as v d → d.py = some p → Dp K H v p
  | _, _, _, .non, h => by cases h; exact .non
  | _, _, _, .bl b, h => by cases h; exact .bl b
  | _, _, _, .int i, h => by cases h; exact .int i
  | _, _, _, .str s, h => by cases h; exact .str s
  | _, _, p, .tup (ds := ds) hs r, h => by
    unfold D.py at h
    cases e : D.pys ds with
    | none => rw [e] at h; cases h
    | some ps =>
      rw [e] at h
      cases h
      exact .tup (w.seqT hs) (Reps.dp w r e)
  | _, _, p, .lst (ds := ds) hs r, h => by
    unfold D.py at h
    cases e : D.pys ds with
    | none => rw [e] at h; cases h
    | some ps =>
      rw [e] at h
      cases h
      exact .lst (.of (w.sub _ _ hs)) (Reps.dp w r e)
  | _, _, p, .rol (ds := ds) hs r, h => by
    unfold D.py at h
    cases e : D.pys ds with
    | none => rw [e] at h; cases h
    | some ps =>
      rw [e] at h
      cases h
      exact .lst (w.seqL hs) (Reps.dp w r e)
  | _, _, _, .ref _, h => by cases h
  | _, _, _, .obj _, h => by cases h
  | _, _, _, .fn _, h => by cases h
  | _, _, _, .dct _, h => by cases h
  | _, _, _, .kdi _ _ _, h => by cases h
theorem Reps.dp {K : PySem.W.Frag} {H I P : Hp} {as : List Addr} {M : List MO} (w : Wr K H I as M P) : ∀ {vs : List V} {ds : List D} {ps : List PyData}, Reps K I as vs ds → D.pys ds = some ps → DpAll K H vs ps
  | _, _, _, .nil, h => by cases h; exact .nil
  | _, _, ps, .cons (d := d) (ds := ds) h1 h2, h => by
    unfold D.pys at h
    cases e : d.py with
    | none => rw [e] at h; cases h
    | some p =>
      cases e2 : D.pys ds with
      | none => rw [e, e2] at h; cases h
      | some qs =>
        rw [e, e2] at h
        cases h
        exact .cons (Rep.dp w h1 e) (Reps.dp w h2 e2)
end
theorem Rep.dpM {K : PySem.W.Frag} {H I P : Hp} {as : List Addr} {M : List MO} (w : Wr K H I as M P) {v : V} {d : D} {p : PyData} (r : Rep K I as v d) (h : pyM M d = some p) : Dp K H v p := by
  by_cases hd : ∃ k, d = .ref k
  · obtain ⟨k, rfl⟩ := hd
    unfold pyM at h
    cases r with
    | @ref k a h1 =>
      obtain ⟨o, ho, _, _, m⟩ := w.at h1
      cases o with
      | dct kvs => simp [ho] at h
      | dlk kvs => simp [ho] at h
      | kd kvs => simp [ho] at h
      | kdl kvs => simp [ho] at h
      | lst xs =>
        simp only [ho] at h
        cases e : D.pys xs with
        | none => rw [e] at h; cases h
        | some ps =>
          rw [e] at h
          cases h
          obtain ⟨vs, e1, r⟩ := m
          exact .lst (.of e1) (Reps.dp w r e)
  · refine r.dp w ?_
    unfold pyM at h
    split at h
    · exact absurd ⟨_, rfl⟩ hd
    · exact h
def eqPy (x y : D) (M : List MO) : Option Bool := match pyM M x, pyM M y with
  | some p, some q => if (SeqAt.shaped p && SeqAt.shaped q) = true then some (PyData.eqv p q) else none
  | _, _ => none
def oEq : OD := fun x y M => match eqPy x y M with
  | some b => .ok (.bl b) M
  | none => .bad
def oNe : OD := fun x y M => match eqPy x y M with
  | some b => .ok (.bl (!b)) M
  | none => .bad
theorem opd_eq {K : PySem.W.Frag} : OpD K (rEqD K) oEq := by
  intro H I as M P x y d e Wf Q w rx ry s
  unfold oEq eqPy at s
  split at s
  · rename_i b hb
    split at hb
    · rename_i p q h1 h2
      split at hb
      · rename_i hs
        cases hb
        rw [Bool.and_eq_true] at hs
        exact ⟨p, q, rx.dpM w h1, ry.dpM w h2, hs.1, hs.2, s.now w (.bl _)⟩
      · cases hb
    · cases hb
  · exact s.elim
theorem opd_ne {K : PySem.W.Frag} : OpD K (rNeD K) oNe := by
  intro H I as M P x y d e Wf Q w rx ry s
  unfold oNe eqPy at s
  split at s
  · rename_i b hb
    split at hb
    · rename_i p q h1 h2
      split at hb
      · rename_i hs
        cases hb
        rw [Bool.and_eq_true] at hs
        exact ⟨p, q, rx.dpM w h1, ry.dpM w h2, hs.1, hs.2, s.now w (.bl _)⟩
      · cases hb
    · cases hb
  · exact s.elim
/-! ### is None -/
def oIsN : OU := fun x M => match x with
  | .non => .ok (.bl true) M
  | .obj _ => .bad
  | _ => .ok (.bl false) M
def oNotN : OU := fun x M => match x with
  | .non => .ok (.bl false) M
  | .obj _ => .bad
  | _ => .ok (.bl true) M
/-! ### items -/
def ixD (xs : List D) (i : Int) : Option D := atI xs i
def oIx : OD := fun x y M => match y with
  | .int i => match tupOf x with
    | some xs => match atI xs i with
      | some d => .ok d M
      | none => .bad
    | none => match listOf M x with
      | some xs => match atI xs i with
        | some d => .ok d M
        | none => .bad
      | none => .bad
  | _ => .bad
theorem Reps.atI {K : PySem.W.Frag} {I : Hp} {as : List Addr} {vs : List V} {ds : List D} {i : Int} {d : D} (r : Reps K I as vs ds) (h : L2.atI ds i = some d) : ∃ v, L2.atI vs i = some v ∧ Rep K I as v d := by
  unfold L2.atI at h ⊢
  rw [r.len]
  cases e : ixN ds.length i with
  | none => rw [e] at h; cases h
  | some j =>
    rw [e] at h
    obtain ⟨v, h1, h2⟩ := r.get (show ds[j]? = some d from h)
    exact ⟨v, h1, h2⟩
theorem opd_ix {K : PySem.W.Frag} : OpD K (rIx K) oIx := by
  intro H I as M P x y d e Wf Q w rx ry s
  unfold oIx at s
  split at s
  · rename_i i
    cases ry
    split at s
    · rename_i xs hx
      split at s
      · rename_i z hz
        obtain ⟨a, vs, rfl, h1, r1⟩ := rx.tupl w hx
        obtain ⟨v, hv, rv⟩ := r1.atI hz
        exact .inr (.inl ⟨a, vs, i, v, rfl, rfl, h1, hv, s.now w rv⟩)
      · exact s.elim
    · split at s
      · rename_i xs hx
        split at s
        · rename_i z hz
          obtain ⟨a, vs, rfl, h1, r1⟩ := rx.list w hx
          obtain ⟨v, hv, rv⟩ := r1.atI hz
          exact .inl ⟨a, vs, i, v, rfl, rfl, h1, hv, s.now w rv⟩
        · exact s.elim
      · exact s.elim
  · exact s.elim
/-! ### slices -/
def cutD (xs : List D) (lo hi : Option Int) : List D := (xs.drop (HT.sIx xs.length 0 lo)).take (HT.sIx xs.length xs.length hi - HT.sIx xs.length 0 lo)
theorem Reps.cut {K : PySem.W.Frag} {I : Hp} {as : List Addr} {vs : List V} {ds : List D} (r : Reps K I as vs ds) (lo hi : Option Int) : Reps K I as (cutV vs lo hi) (cutD ds lo hi) := by
  unfold cutV cutD
  rw [r.len]
  exact (r.drop _).take _
def oSl (x : D) (lo hi : Option Int) (M : List MO) : R D := match tupOf x with
  | some xs => .ok (.tup (cutD xs lo hi)) M
  | none => match listOf M x with
    | some xs => .ok (.lst (cutD xs lo hi)) M
    | none => .bad
def rSlG (K : PySem.W.Frag) : V → Option Int → Option Int → Hp → VK → Prop := fun x lo hi H Q => rSlA K x lo hi H Q ∨ rSlL K x lo hi H Q
theorem sl_G {X : Cx} : SlR X (rSlG X.K) := SlR.or sl_tupA sl_list
theorem opd_sl {K : PySem.W.Frag} {H I : Hp} {as : List Addr} {M : List MO} {P : Hp} {x : V} {d : D} {lo hi : Option Int} {Wf : Str → Hp → Prop} {Q : VK}
    (w : Wr K H I as M P) (rx : Rep K I as x d) (s : Sat K (Rep K) Wf I as P Q (oSl d lo hi M)) : rSlG K x lo hi H Q := by
  unfold oSl at s
  split at s
  · rename_i xs hx
    obtain ⟨a, vs, rfl, h1, r1⟩ := rx.tupl w hx
    refine .inl ⟨a, vs, rfl, h1, fun ⟨e1, e2⟩ => ?_, fun _ p hp => s.newTup w (r1.cut lo hi) hp⟩
    have hd : d = .tup xs := by
      cases d <;> first | (cases hx; rfl) | cases hx
    subst hd
    refine s.now w ?_
    have e : cutD xs lo hi = xs := by
      unfold cutD
      rw [r1.len] at e1 e2
      rw [e1, e2, List.drop_zero, Nat.sub_zero, List.take_length]
    rw [e]
    exact rx
  · split at s
    · rename_i xs hx
      obtain ⟨a, vs, rfl, h1, r1⟩ := rx.list w hx
      exact .inr ⟨a, vs, rfl, h1, fun p hp => s.newLst w (r1.cut lo hi) hp⟩
    · exact s.elim
end KM
set_option Elab.async false
set_option linter.all false
set_option maxRecDepth 100000
set_option maxHeartbeats 2000000
namespace KM
open PySem L2 PySem.Spec PyProof.Rows

/-! ### what the pieces come to -/
def gVar (i : Nat) : GE := fun δ M => match δ[i]? with
  | some (some d) => .ok d M
  | _ => .bad
def gC (d : D) : GE := fun _ M => .ok d M
def gOp (o : OD) (ga gb : GE) : GE := fun δ M => (ga δ M).bind fun x M1 => (gb δ M1).bind fun y M2 => o x y M2
def gUn (o : OU) (ga : GE) : GE := fun δ M => (ga δ M).bind fun x M1 => o x M1
def gANil : GA := fun _ M => .ok [] M
def gACons (ga : GE) (gr : GA) : GA := fun δ M => (ga δ M).bind fun x M1 => (gr δ M1).bind fun xs M2 => .ok (x :: xs) M2
def gCall (m : OC) (ga : GA) : GE := fun δ M => (ga δ M).bind fun ds M1 => m ds M1
open Classical in
noncomputable def gETup (ga : GA) : GE := fun δ M => (ga δ M).bind fun ds M1 => if bigN ds.length then .ok (.tup ds) M1 else .bad
open Classical in
noncomputable def gLst (ga : GA) : GE := fun δ M => (ga δ M).bind fun ds M1 => if bigN ds.length then .ok (.lst ds) M1 else .bad
open Classical in
noncomputable def gLstM (ga : GA) : GE := fun δ M => (ga δ M).bind fun ds M1 => if bigN ds.length then .ok (.ref M1.length) (M1 ++ [.lst ds]) else .bad
def gTest (ga : GE) : GB := fun δ M => (ga δ M).bind fun x M1 => match x with
  | .bl b => .ok b M1
  | _ => .bad
def trD (M : List MO) : D → Option Bool
  | .non => some false
  | .bl b => some b
  | .int i => some (i != 0)
  | .tup xs => some (!xs.isEmpty)
  | d => match listOf M d with
    | some xs => some (!xs.isEmpty)
    | none => none
def gTru (ga : GE) : GB := fun δ M => (ga δ M).bind fun x M1 => match trD M1 x with
  | some b => .ok b M1
  | none => .bad
def gAnd (ga gb : GB) : GB := fun δ M => (ga δ M).bind fun x M1 => if x = true then gb δ M1 else .ok false M1
def gOr (ga gb : GB) : GB := fun δ M => (ga δ M).bind fun x M1 => if x = true then .ok true M1 else gb δ M1
def gNot (ga : GB) : GB := fun δ M => (ga δ M).bind fun x M1 => .ok (!x) M1
def gAndV (ga gb : GE) : GE := fun δ M => (ga δ M).bind fun x M1 => match x with
  | .bl true => gb δ M1
  | .bl false => .ok (.bl false) M1
  | _ => .bad
def gOrV (ga gb : GE) : GE := fun δ M => (ga δ M).bind fun x M1 => match x with
  | .bl true => .ok (.bl true) M1
  | .bl false => gb δ M1
  | _ => .bad
def gNotV (ga : GE) : GE := fun δ M => (ga δ M).bind fun x M1 => match x with
  | .bl b => .ok (.bl (!b)) M1
  | _ => .bad
def gIfE (gc : GB) (ga gb : GE) : GE := fun δ M => (gc δ M).bind fun x M1 => if x = true then ga δ M1 else gb δ M1
def gChain (o o' : OD) (ga gb gc : GE) : GE := fun δ M => (ga δ M).bind fun x M1 => (gb δ M1).bind fun y M2 => (o x y M2).bind fun z M3 => match z with
  | .bl true => (gc δ M3).bind fun u M4 => o' y u M4
  | .bl false => .ok (.bl false) M3
  | _ => .bad
abbrev GO := Ctx → List MO → R (Option Int)
def gNoP : GO := fun _ M => .ok none M
def gP (ga : GE) : GO := fun δ M => (ga δ M).bind fun x M1 => match x with
  | .int i => .ok (some i) M1
  | _ => .bad
def gSl (ga : GE) (gl gh : GO) : GE := fun δ M => (ga δ M).bind fun x M1 => (gl δ M1).bind fun lo M2 => (gh δ M2).bind fun hi M3 => oSl x lo hi M3

def ImpO (K : PySem.W.Frag) (mg : Str → Option Value) (W : WX) (t : TO) (g : GO) : Prop := ∀ (σ : L2.St) (H : Hp) (δ : Ctx) (I : Hp) (as : List Addr) (M : List MO) (P : Hp) (Q : Option Int → Hp → Prop),
  Wr K H I as M P → Envr K I as σ δ → Sat K (fun _ _ b b' => b = b') (fun c H' => lowW mg W c σ H') I as P Q (g δ M) → t σ H Q
structure XO (X : Cx) (W : WX) (e : Option Expr) (t : TO) (g : GO) : Prop where
  pe : PO X e t
  im : ImpO X.K X.mg W t g

section
variable {X : Cx} {W : WX} {a b c e : Expr} {es : List Expr} {pos p : Pos} {ta tb tc : TE} {ga gb gc : GE} {t : TA} {g : GA}
theorem xe_v (i : Nat) {x : Str} (hN : X.N[i]? = some x := by rfl) (hv : Vis X.env.scope x := by first | exact Or.inl rfl | exact Or.inr (Or.inl rfl) | exact Or.inr (Or.inr rfl)) (hd : (x == ("__debug__" : Str)) = false := by decide)
    (hcd : (x == ("__classdict__" : Str)) = false := by decide) : XE X W (.Name x pos) (tVar i) (gVar i) := by
  refine ⟨pe_var hN hv hd hcd, fun σ H δ I as M P Q w en s => ?_⟩
  unfold gVar at s
  split at s
  · rename_i d hd
    obtain ⟨v, h1, h2⟩ := en.at_ i d hd
    exact ⟨v, h1, s.now w h2⟩
  · exact s.elim
theorem impE_C {K : PySem.W.Frag} {mg : Str → Option Value} {v : V} {d : D} (h : ∀ (I : Hp) (as : List Addr), Rep K I as v d) : ImpE K mg W (tC v) (gC d) := fun σ H δ I as M P Q w en s => s.now w (h I as)
theorem xe_int {i : Int} {j} : XE X W (.Constant (.int i) j pos) (tC (.int i)) (gC (.int i)) := ⟨pe_int, impE_C fun _ _ => .int _⟩
theorem xe_bl {i : Bool} {j} : XE X W (.Constant (.bool i) j pos) (tC (.bl i)) (gC (.bl i)) := ⟨pe_bl, impE_C fun _ _ => .bl _⟩
theorem xe_non {j} : XE X W (.Constant .none j pos) (tC .non) (gC .non) := ⟨pe_non, impE_C fun _ _ => .non⟩
theorem xe_str {i : Str} {j} : XE X W (.Constant (.str i) j pos) (tC (.str i)) (gC (.str i)) := ⟨pe_str, impE_C fun _ _ => .str _⟩
/-- a module's constant -/
structure GlobC (K : PySem.W.Frag) (mg : Str → Option Value) (x : Str) (d : D) : Prop where
  ex : ∃ (v : V) (u : Value), mg x = some u ∧ RelV v u ∧ ∀ (I : Hp) (as : List Addr), Rep K I as v d
theorem xe_glob {x : Str} {d : D} {v : V} {u : Value} (hm : X.mg x = some u) (r : RelV v u) (h : ∀ (I : Hp) (as : List Addr), Rep X.K I as v d) (hg : Gl X x := by rfl) (hd : (x == ("__debug__" : Str)) = false := by decide) : XE X W (.Name x pos) (tC v) (gC d) :=
  ⟨pe_glob hg hm r hd, impE_C h⟩
theorem xe_op {op : Operator} {r : R2} {o : OD} (ho : OpR X (binaryOp op) r) (hd : OpD X.K r o) (ha : XE X W a ta ga) (hb : XE X W b tb gb) : XE X W (.BinOp a op b pos) (tOp r ta tb) (gOp o ga gb) := by
  refine ⟨pe_op ho ha.pe hb.pe, fun σ H δ I as M P Q w en s => ?_⟩
  refine ha.im σ H δ I as M P _ w en (Sat.bind s fun x M1 v H1 I1 as1 _ g1 w1 r1 s1 => ?_)
  refine hb.im σ H1 δ I1 as1 M1 P _ w1 (en.mono g1) (Sat.bind s1 fun y M2 u H2 I2 as2 _ g2 w2 r2 s2 => ?_)
  exact hd H2 I2 as2 M2 P v u x y _ Q w2 (r1.mono g2) r2 s2
theorem xe_cmp {op : CmpOp} {r : R2} {o : OD} (ho : OpR X (compareOp op) r) (hd : OpD X.K r o) (ha : XE X W a ta ga) (hb : XE X W b tb gb) (hm : behindInMarks op b = false := by first | exact nomark _ | rfl) : XE X W (.Compare a [op] [b] pos) (tOp r ta tb) (gOp o ga gb) := by
  refine ⟨pe_cmpR ho ha.pe hb.pe hm, fun σ H δ I as M P Q w en s => ?_⟩
  refine ha.im σ H δ I as M P _ w en (Sat.bind s fun x M1 v H1 I1 as1 _ g1 w1 r1 s1 => ?_)
  refine hb.im σ H1 δ I1 as1 M1 P _ w1 (en.mono g1) (Sat.bind s1 fun y M2 u H2 I2 as2 _ g2 w2 r2 s2 => ?_)
  exact hd H2 I2 as2 M2 P v u x y _ Q w2 (r1.mono g2) r2 s2
theorem xe_ix {r : R2} {o : OD} (ho : IxR X r) (hd : OpD X.K r o) (ha : XE X W a ta ga) (hb : XE X W b tb gb) (hs : PlainIx b := by exact fun _ _ => rfl) : XE X W (.Subscript a b pos) (tOp r ta tb) (gOp o ga gb) := by
  refine ⟨pe_ix ho ha.pe hb.pe hs, fun σ H δ I as M P Q w en s => ?_⟩
  refine ha.im σ H δ I as M P _ w en (Sat.bind s fun x M1 v H1 I1 as1 _ g1 w1 r1 s1 => ?_)
  refine hb.im σ H1 δ I1 as1 M1 P _ w1 (en.mono g1) (Sat.bind s1 fun y M2 u H2 I2 as2 _ g2 w2 r2 s2 => ?_)
  exact hd H2 I2 as2 M2 P v u x y _ Q w2 (r1.mono g2) r2 s2
theorem xe_un {op : UnaryOp} {r : V → Hp → VK → Prop} {o : OU} (ho : UnR X (unaryOp op) r) (hd : OpU X.K r o) (ha : XE X W a ta ga) : XE X W (.UnaryOp op a pos) (tUn r ta) (gUn o ga) := by
  refine ⟨pe_un ho ha.pe, fun σ H δ I as M P Q w en s => ?_⟩
  refine ha.im σ H δ I as M P _ w en (Sat.bind s fun x M1 v H1 I1 as1 _ g1 w1 r1 s1 => ?_)
  exact hd H1 I1 as1 M1 P v x _ Q w1 r1 s1
def oNeg : OU := fun x M => match x with
  | .int i => .ok (.int (-i)) M
  | _ => .bad
theorem opu_neg {K : PySem.W.Frag} : OpU K (rU fun i => .int (-i)) oNeg := by
  intro H I as M P x d Wf Q w rx s
  unfold oNeg at s
  split at s
  · cases rx
    exact ⟨_, rfl, s.now w (.int _)⟩
  · exact s.elim
/-- is None -/
theorem opd_isN {K : PySem.W.Frag} {H I : Hp} {as : List Addr} {M : List MO} {P : Hp} {x : V} {d : D} {Wf : Str → Hp → Prop} {Q : VK}
    (w : Wr K H I as M P) (rx : Rep K I as x d) (s : Sat K (Rep K) Wf I as P Q (oIsN d M)) : Q (.bl (decide (x = .non))) H := by
  unfold oIsN at s
  cases rx with
  | non => exact s.now w (.bl true)
  | obj a => exact s.elim
  | _ => exact s.now w (.bl false)
theorem xe_isN (ha : XE X W a ta ga) {j pos'} : XE X W (.Compare a [.Is] [.Constant .none j pos'] pos) (tOp (fun x y H Q => y = .non ∧ Q (.bl (decide (x = .non))) H) ta (tC .non)) (gUn oIsN ga) := by
  refine ⟨pe_cmpR op_isN ha.pe pe_non (nomark _), fun σ H δ I as M P Q w en s => ?_⟩
  refine ha.im σ H δ I as M P _ w en (Sat.bind s fun x M1 v H1 I1 as1 _ g1 w1 r1 s1 => ?_)
  exact ⟨rfl, opd_isN w1 r1 s1⟩
theorem opd_notN {K : PySem.W.Frag} {H I : Hp} {as : List Addr} {M : List MO} {P : Hp} {x : V} {d : D} {Wf : Str → Hp → Prop} {Q : VK}
    (w : Wr K H I as M P) (rx : Rep K I as x d) (s : Sat K (Rep K) Wf I as P Q (oNotN d M)) : Q (.bl (!decide (x = .non))) H := by
  unfold oNotN at s
  cases rx with
  | non => exact s.now w (.bl false)
  | obj a => exact s.elim
  | _ => exact s.now w (.bl true)
theorem xe_notN (ha : XE X W a ta ga) {j pos'} : XE X W (.Compare a [.IsNot] [.Constant .none j pos'] pos) (tOp (fun x y H Q => y = .non ∧ Q (.bl (!decide (x = .non))) H) ta (tC .non)) (gUn oNotN ga) := by
  refine ⟨pe_cmpR op_notN ha.pe pe_non (nomark _), fun σ H δ I as M P Q w en s => ?_⟩
  refine ha.im σ H δ I as M P _ w en (Sat.bind s fun x M1 v H1 I1 as1 _ g1 w1 r1 s1 => ?_)
  exact ⟨rfl, opd_notN w1 r1 s1⟩
theorem impE_chain {K : PySem.W.Frag} {mg : Str → Option Value} {r r' : R2} {o o' : OD} (hd : OpD K r o) (hd' : OpD K r' o') (ha : ImpE K mg W ta ga) (hb : ImpE K mg W tb gb) (hc : ImpE K mg W tc gc) : ImpE K mg W (tChain r r' ta tb tc) (gChain o o' ga gb gc) := by
  intro σ H δ I as M P Q w en s
  refine ha σ H δ I as M P _ w en (Sat.bind s fun x M1 v H1 I1 as1 _ g1 w1 r1 s1 => ?_)
  refine hb σ H1 δ I1 as1 M1 P _ w1 (en.mono g1) (Sat.bind s1 fun y M2 u H2 I2 as2 _ g2 w2 r2 s2 => ?_)
  refine hd H2 I2 as2 M2 P v u x y _ _ w2 (r1.mono g2) r2 (Sat.bind s2 fun z M3 q H3 I3 as3 _ g3 w3 r3 s3 => ?_)
  split at s3
  · cases r3
    refine ⟨true, rfl, ?_⟩
    rw [if_pos rfl]
    refine hc σ H3 δ I3 as3 M3 P _ w3 (en.mono (g1.trans (g2.trans g3))) (Sat.bind s3 fun y' M4 u' H4 I4 as4 _ g4 w4 r4 s4 => ?_)
    exact hd' H4 I4 as4 M4 P u u' y y' _ _ w4 (r2.mono (g3.trans g4)) r4 s4
  · cases r3
    refine ⟨false, rfl, ?_⟩
    rw [if_neg Bool.false_ne_true]
    exact s3.now w3 (.bl false)
  · exact s3.elim
theorem xe_chain {op op' : CmpOp} {r r' : R2} {o o' : OD} (ho : OpR X (compareOp op) r) (ho' : OpR X (compareOp op') r') (hd : OpD X.K r o) (hd' : OpD X.K r' o') (ha : XE X W a ta ga) (hb : XE X W b tb gb) (hc : XE X W c tc gc)
    (hm : lastMarks [op, op'] [b, c] = false := by with_unfolding_all rfl) : XE X W (.Compare a [op, op'] [b, c] pos) (tChain r r' ta tb tc) (gChain o o' ga gb gc) :=
  ⟨pe_chain ho ho' ha.pe hb.pe hc.pe hm, impE_chain hd hd' ha.im hb.im hc.im⟩
theorem impT_test {K : PySem.W.Frag} {mg : Str → Option Value} (ha : ImpE K mg W ta ga) : ImpT K mg W (tTest ta) (gTest ga) := by
  intro σ H δ I as M P Q w en s
  refine ha σ H δ I as M P _ w en (Sat.bind s fun x M1 v H1 I1 as1 _ g1 w1 r1 s1 => ?_)
  split at s1
  · cases r1
    exact ⟨_, rfl, s1 _ H1 I1 as1 (Gr.refl _ _) w1 rfl⟩
  · exact s1.elim
theorem xt_cmp {op : CmpOp} {r : R2} {o : OD} (ho : OpR X (compareOp op) r) (hd : OpD X.K r o) (ha : XE X W a ta ga) (hb : XE X W b tb gb) (hm : behindInMarks op b = false := by first | exact nomark _ | rfl) : XT X W (.Compare a [op] [b] pos) (tTest (tOp r ta tb)) (gTest (gOp o ga gb)) :=
  ⟨pt_cmpR ho ha.pe hb.pe hm, impT_test (xe_cmp (pos := pos) ho hd ha hb hm).im⟩
theorem xt_isN (ha : XE X W a ta ga) {j pos'} : XT X W (.Compare a [.Is] [.Constant .none j pos'] pos) (tTest (tOp (fun x y H Q => y = .non ∧ Q (.bl (decide (x = .non))) H) ta (tC .non))) (gTest (gUn oIsN ga)) :=
  ⟨pt_cmpR op_isN ha.pe pe_non (nomark _), impT_test (xe_isN (pos := pos) (j := j) (pos' := pos') ha).im⟩
theorem xt_notN (ha : XE X W a ta ga) {j pos'} : XT X W (.Compare a [.IsNot] [.Constant .none j pos'] pos) (tTest (tOp (fun x y H Q => y = .non ∧ Q (.bl (!decide (x = .non))) H) ta (tC .non))) (gTest (gUn oNotN ga)) :=
  ⟨pt_cmpR op_notN ha.pe pe_non (nomark _), impT_test (xe_notN (pos := pos) (j := j) (pos' := pos') ha).im⟩
theorem xt_chain {op op' : CmpOp} {r r' : R2} {o o' : OD} (ho : OpR X (compareOp op) r) (ho' : OpR X (compareOp op') r') (hd : OpD X.K r o) (hd' : OpD X.K r' o') (ha : XE X W a ta ga) (hb : XE X W b tb gb) (hc : XE X W c tc gc)
    (hm : lastMarks [op, op'] [b, c] = false := by with_unfolding_all rfl) : XT X W (.Compare a [op, op'] [b, c] pos) (tTest (tChain r r' ta tb tc)) (gTest (gChain o o' ga gb gc)) :=
  ⟨pt_chain ho ho' ha.pe hb.pe hc.pe hm, impT_test (impE_chain hd hd' ha.im hb.im hc.im)⟩
/-- an expression that is True or False, as a test -/
theorem xt_val (ha : XE X W a ta ga) (he : ∀ whole, isTrue a X.env whole = (do let v ← whole; standAt a.pos; holding [v] (truthy v)) := by intro _; rfl) : XT X W a (tB ta) (gTest ga) :=
  ⟨pt_val ha.pe he, impT_test ha.im⟩
theorem xt_tru (ha : XE X W a ta ga) (he : ∀ whole, isTrue a X.env whole = (do let v ← whole; standAt a.pos; holding [v] (truthy v)) := by intro _; rfl) : XT X W a (fun σ H Q => ta σ H fun x H' => ∃ k, TruV X.K x H' k ∧ Q k H') (gTru ga) := by
  refine ⟨pt_truth ha.pe he, fun σ H δ I as M P Q w en s => ?_⟩
  refine ha.im σ H δ I as M P _ w en (Sat.bind s fun x M1 v H1 I1 as1 _ g1 w1 r1 s1 => ?_)
  split at s1
  · rename_i k hk
    refine ⟨k, ?_, s1 _ H1 I1 as1 (Gr.refl _ _) w1 rfl⟩
    unfold trD at hk
    split at hk
    · cases hk; cases r1; rfl
    · cases hk; cases r1; rfl
    · cases hk; cases r1; rfl
    · cases hk
      obtain ⟨a, vs, rfl, h1, rr⟩ := r1.tupl w1 rfl
      refine .inr (.inl ⟨vs, h1, ?_⟩)
      cases rr <;> rfl
    · split at hk
      · rename_i xs hx
        cases hk
        obtain ⟨a, vs, rfl, h1, rr⟩ := r1.list w1 hx
        refine .inl ⟨vs, h1, ?_⟩
        cases rr <;> rfl
      · cases hk
  · exact s1.elim
variable {tA tB' : TT} {gA gB : GB} {rest : List Expr}
theorem xw_pt (h : XW X W e tA gA) : XT X W e tA gA := ⟨h.pe.pt, h.im⟩
theorem xw_and1 (ha : XT X W a tA gA) : XW X W (.BoolOp .And [a] pos) tA gA := ⟨pw_and1 ha.pe, ha.im⟩
theorem xw_or1 (ha : XT X W a tA gA) : XW X W (.BoolOp .Or [a] pos) tA gA := ⟨pw_or1 ha.pe, ha.im⟩
theorem xw_and (ha : XT X W a tA gA) (hb : XW X W (.BoolOp .And (b :: rest) pos) tB' gB) : XW X W (.BoolOp .And (a :: b :: rest) pos) (tAnd tA tB') (gAnd gA gB) := by
  refine ⟨pw_and ha.pe hb.pe, fun σ H δ I as M P Q w en s => ?_⟩
  refine ha.im σ H δ I as M P _ w en (Sat.bind s fun x M1 v H1 I1 as1 _ g1 w1 r1 s1 => ?_)
  subst r1
  cases v with
  | true => exact hb.im σ H1 δ I1 as1 M1 P Q w1 (en.mono g1) s1
  | false => exact s1 _ H1 I1 as1 (Gr.refl _ _) w1 rfl
theorem xw_or (ha : XT X W a tA gA) (hb : XW X W (.BoolOp .Or (b :: rest) pos) tB' gB) : XW X W (.BoolOp .Or (a :: b :: rest) pos) (tOr tA tB') (gOr gA gB) := by
  refine ⟨pw_or ha.pe hb.pe, fun σ H δ I as M P Q w en s => ?_⟩
  refine ha.im σ H δ I as M P _ w en (Sat.bind s fun x M1 v H1 I1 as1 _ g1 w1 r1 s1 => ?_)
  subst r1
  cases v with
  | false => exact hb.im σ H1 δ I1 as1 M1 P Q w1 (en.mono g1) s1
  | true => exact s1 _ H1 I1 as1 (Gr.refl _ _) w1 rfl
theorem xt_not (ha : XT X W a tA gA) : XT X W (.UnaryOp .Not a pos) (tNot tA) (gNot gA) := by
  refine ⟨pt_not ha.pe, fun σ H δ I as M P Q w en s => ?_⟩
  refine ha.im σ H δ I as M P _ w en (Sat.bind s fun x M1 v H1 I1 as1 _ g1 w1 r1 s1 => ?_)
  subst r1
  exact s1 _ H1 I1 as1 (Gr.refl _ _) w1 rfl
theorem xe_one {op} (h : XE X W a ta ga) : XE X W (.BoolOp op [a] pos) ta ga := ⟨pe_one h.pe, h.im⟩
theorem xe_and (ha : XE X W a ta ga) (hb : XE X W (.BoolOp .And (b :: rest) pos) tb gb) : XE X W (.BoolOp .And (a :: b :: rest) pos) (tAndV ta tb) (gAndV ga gb) := by
  refine ⟨pe_and ha.pe hb.pe, fun σ H δ I as M P Q w en s => ?_⟩
  refine ha.im σ H δ I as M P _ w en (Sat.bind s fun x M1 v H1 I1 as1 _ g1 w1 r1 s1 => ?_)
  split at s1
  · cases r1
    exact ⟨true, rfl, by rw [if_pos rfl]; exact hb.im σ H1 δ I1 as1 M1 P Q w1 (en.mono g1) s1⟩
  · cases r1
    exact ⟨false, rfl, by rw [if_neg Bool.false_ne_true]; exact s1.now w1 (.bl false)⟩
  · exact s1.elim
theorem xe_or (ha : XE X W a ta ga) (hb : XE X W (.BoolOp .Or (b :: rest) pos) tb gb) : XE X W (.BoolOp .Or (a :: b :: rest) pos) (tOrV ta tb) (gOrV ga gb) := by
  refine ⟨pe_or ha.pe hb.pe, fun σ H δ I as M P Q w en s => ?_⟩
  refine ha.im σ H δ I as M P _ w en (Sat.bind s fun x M1 v H1 I1 as1 _ g1 w1 r1 s1 => ?_)
  split at s1
  · cases r1
    exact ⟨true, rfl, by rw [if_pos rfl]; exact s1.now w1 (.bl true)⟩
  · cases r1
    exact ⟨false, rfl, by rw [if_neg Bool.false_ne_true]; exact hb.im σ H1 δ I1 as1 M1 P Q w1 (en.mono g1) s1⟩
  · exact s1.elim
theorem xe_not (ha : XE X W a ta ga) : XE X W (.UnaryOp .Not a pos) (tNotV ta) (gNotV ga) := by
  refine ⟨pe_not ha.pe, fun σ H δ I as M P Q w en s => ?_⟩
  refine ha.im σ H δ I as M P _ w en (Sat.bind s fun x M1 v H1 I1 as1 _ g1 w1 r1 s1 => ?_)
  split at s1
  · cases r1
    exact ⟨_, rfl, s1.now w1 (.bl _)⟩
  · exact s1.elim
theorem xe_if (hc : XT X W c tA gA) (ha : XE X W a ta ga) (hb : XE X W b tb gb) : XE X W (.IfExp c a b pos) (tIf tA ta tb) (gIfE gA ga gb) := by
  refine ⟨pe_ifExp hc.pe ha.pe hb.pe, fun σ H δ I as M P Q w en s => ?_⟩
  refine hc.im σ H δ I as M P _ w en (Sat.bind s fun x M1 v H1 I1 as1 _ g1 w1 r1 s1 => ?_)
  subst r1
  cases v with
  | true => exact ha.im σ H1 δ I1 as1 M1 P Q w1 (en.mono g1) s1
  | false => exact hb.im σ H1 δ I1 as1 M1 P Q w1 (en.mono g1) s1
theorem xa_nil : XA X W [] tNil gANil := ⟨pa_nil, fun σ H δ I as M P Q w en s => s _ H I as (Gr.refl _ _) w .nil⟩
theorem xa_cons (ha : XE X W e ta ga) (hr : XA X W es t g) (hs : starEach (e :: es) X.env = (false, eval e X.env) :: starEach es X.env := by rfl) : XA X W (e :: es) (tCons ta t) (gACons ga g) := by
  refine ⟨pa_cons ha.pe hr.pe hs, fun σ H δ I as M P Q w en s => ?_⟩
  refine ha.im σ H δ I as M P _ w en (Sat.bind s fun x M1 v H1 I1 as1 _ g1 w1 r1 s1 => ?_)
  refine hr.im σ H1 δ I1 as1 M1 P _ w1 (en.mono g1) (Sat.bind s1 fun xs M2 vs H2 I2 as2 _ g2 w2 r2 s2 => ?_)
  exact s2 _ H2 I2 as2 (Gr.refl _ _) w2 (.cons (r1.mono g2) r2)
theorem xe_tup {x1} (h : XA X W es t g) : XE X W (.Tuple es x1 pos) (tTup t) (gETup g) := by
  refine ⟨pe_tup h.pe, fun σ H δ I as M P Q w en s => ?_⟩
  refine h.im σ H δ I as M P _ w en (Sat.bind s fun xs M1 vs H1 I1 as1 _ g1 w1 r1 s1 => ?_)
  split at s1
  · rename_i hb
    exact ⟨by rw [r1.len]; exact big_le hb, fun p hp => s1.newTup w1 r1 hp⟩
  · exact s1.elim
theorem xe_lst (h : XA X W es t g) : XE X W (.List es pos) (tLst t) (gLst g) := by
  refine ⟨pe_lst h.pe, fun σ H δ I as M P Q w en s => ?_⟩
  refine h.im σ H δ I as M P _ w en (Sat.bind s fun xs M1 vs H1 I1 as1 _ g1 w1 r1 s1 => ?_)
  split at s1
  · rename_i hb
    exact ⟨by rw [r1.len]; exact big_le hb, fun p hp => s1.newLst w1 r1 hp⟩
  · exact s1.elim
theorem xe_lstM (h : XA X W es t g) : XE X W (.List es pos) (tLst t) (gLstM g) := by
  refine ⟨pe_lst h.pe, fun σ H δ I as M P Q w en s => ?_⟩
  refine h.im σ H δ I as M P _ w en (Sat.bind s fun xs M1 vs H1 I1 as1 _ g1 w1 r1 s1 => ?_)
  split at s1
  · rename_i hb
    exact ⟨by rw [r1.len]; exact big_le hb, fun p hp => s1.newRef w1 r1 hp⟩
  · exact s1.elim
theorem impE_CB {K : PySem.W.Frag} {mg : Str → Option Value} {r : List V → Hp → VK → Prop} {o : OC} (ho : OpC K r o) (h : ImpA K mg W t g) : ImpE K mg W (tCB r t) (gCall o g) := by
  intro σ H δ I as M P Q w en s
  refine h σ H δ I as M P _ w en (Sat.bind s fun xs M1 vs H1 I1 as1 _ g1 w1 r1 s1 => ?_)
  exact ho H1 I1 as1 M1 P vs xs _ Q w1 r1 s1
theorem xe_callB {x : Str} {id : String} {r : List V → Hp → VK → Prop} {o : OC} (hc : CallR X (.builtin id) r) (ho : OpC X.K r o) (hm : X.mg x = none) (hv : bootBuiltins x = some (.builtin id)) (ha : XA X W (e :: es) t g) (hg : Gl X x := by rfl) (hn : x ≠ "__name__" := by decide) (hdb : (x == ("__debug__" : Str)) = false := by decide)
    (he : starEach (e :: es) X.env = (false, eval e X.env) :: starEach es X.env := by rfl) (hpl : (backTo pos (starEach es X.env)).any (·.1) = false := by rfl) : XE X W (.Call (.Name x p) (e :: es) [] pos) (tCB r t) (gCall o g) :=
  ⟨pe_callB hc hg hm hv ha.pe hn hdb he hpl, impE_CB ho ha.im⟩
theorem xe_callTy {x : Str} {T : String} {r : List V → Hp → VK → Prop} {o : OC} (hc : CallR X (.type T) r) (ho : OpC X.K r o) (hm : X.mg x = none) (hv : bootBuiltins x = some (.type T)) (ha : XA X W (e :: es) t g) (hg : Gl X x := by rfl) (hn : x ≠ "__name__" := by decide) (hdb : (x == ("__debug__" : Str)) = false := by decide)
    (he : starEach (e :: es) X.env = (false, eval e X.env) :: starEach es X.env := by rfl) (hpl : (backTo pos (starEach es X.env)).any (·.1) = false := by rfl) : XE X W (.Call (.Name x p) (e :: es) [] pos) (tCB r t) (gCall o g) :=
  ⟨pe_callTy hc hg hm hv ha.pe hn hdb he hpl, impE_CB ho ha.im⟩
theorem xe_callBfun {x : Str} {id : String} {r : List V → Hp → VK → Prop} {o : OC} (hc : CallR X (.builtin id) r) (ho : OpC X.K r o) (hm : X.mg x = some (.builtin id)) (ha : XA X W (e :: es) t g) (hg : Gl X x := by rfl) (hdb : (x == ("__debug__" : Str)) = false := by decide)
    (he : starEach (e :: es) X.env = (false, eval e X.env) :: starEach es X.env := by rfl) (hpl : (backTo pos (starEach es X.env)).any (·.1) = false := by rfl) : XE X W (.Call (.Name x p) (e :: es) [] pos) (tCB r t) (gCall o g) :=
  ⟨pe_callBfun hc hg hm ha.pe hdb he hpl, impE_CB ho ha.im⟩
/-! slices -/
theorem xo_none : XO X W none tNoPart gNoP := ⟨po_none, fun σ H δ I as M P Q w en s => s _ H I as (Gr.refl _ _) w rfl⟩
theorem xo_some (h : XE X W a ta ga) : XO X W (some a) (tPart ta) (gP ga) := by
  refine ⟨po_some h.pe, fun σ H δ I as M P Q w en s => ?_⟩
  refine h.im σ H δ I as M P _ w en (Sat.bind s fun x M1 v H1 I1 as1 _ g1 w1 r1 s1 => ?_)
  split at s1
  · cases r1
    exact ⟨_, rfl, s1 _ H1 I1 as1 (Gr.refl _ _) w1 rfl⟩
  · exact s1.elim
theorem xe_slice {lo hi : Option Expr} {p2 : Pos} {tl th : TO} {gl gh : GO} (he : XE X W a ta ga) (hl : XO X W lo tl gl) (hh : XO X W hi th gh) : XE X W (.Subscript a (.Slice lo hi none p2) pos) (tSl (rSlG X.K) ta tl th) (gSl ga gl gh) := by
  refine ⟨pe_slice sl_G he.pe hl.pe hh.pe, fun σ H δ I as M P Q w en s => ?_⟩
  refine he.im σ H δ I as M P _ w en (Sat.bind s fun x M1 v H1 I1 as1 _ g1 w1 r1 s1 => ?_)
  refine hl.im σ H1 δ I1 as1 M1 P _ w1 (en.mono g1) (Sat.bind s1 fun lo M2 lo' H2 I2 as2 _ g2 w2 r2 s2 => ?_)
  subst r2
  refine hh.im σ H2 δ I2 as2 M2 P _ w2 (en.mono (g1.trans g2)) (Sat.bind s2 fun hi M3 hi' H3 I3 as3 _ g3 w3 r3 s3 => ?_)
  subst r3
  exact opd_sl w3 (r1.mono (g2.trans g3)) s3
end

/-! ### calls of defs -/
def spM (K : PySem.W.Frag) (mg : Str → Option Value) (n : Nat) (m : OC) : Sp := fun vs H Q E => vs.length = n ∧ ∃ (ds : List D) (I : Hp) (as : List Addr) (M : List MO) (P : Hp),
  Wr K H I as M P ∧ Reps K I as vs ds ∧ Sat K (Rep K) (fun c H' => ∀ cls, mg c = some cls → E cls none H') I as P Q (m ds M)
structure Callee (P : Program) (w : World) (K : PySem.W.Frag) (mg : Str → Option Value) (base : Heap) (x : Str) (k n : Nat) (m : OC) : Prop where
  ex : ∃ (f : Addr) (fd : FuncData) (ps : List Str), FnOk P w K mg base (L2.CX P w) k f fd ps (spM K mg n m) ∧ mg x = some (.ref f) ∧ PySem.W.keepIn K (.ref f) = true ∧ Binds K fd ps [] ∧ PySem.W.nsIn K mainGlobals x = some (some (.ref f))
section
variable {X : Cx} {W : WX} {e : Expr} {es : List Expr} {pos p : Pos} {t : TA} {g : GA}
theorem impE_call {K : PySem.W.Frag} {mg : Str → Option Value} {n : Nat} {m : OC} (hn : n = (e :: es).length) (hl : ∀ δ M ds M', g δ M = .ok ds M' → ds.length = n) (ha : ImpA K mg W t g) : ImpE K mg W (tCallS (spM K mg n m) (WE W) t) (gCall m g) := by
  intro σ H δ I as M P Q w en s
  refine ha σ H δ I as M P _ w en (Sat.bind s fun xs M1 vs H1 I1 as1 e1 g1 w1 r1 s1 => ?_)
  exact ⟨by rw [r1.len]; exact hl _ _ _ _ e1, xs, I1, as1, M1, P, w1, r1, s1⟩
theorem gNil_len {δ : Ctx} {M : List MO} {ds : List D} {M' : List MO} (h : gANil δ M = .ok ds M') : ds.length = 0 := by
  unfold gANil at h; cases h; rfl
theorem gCons_len {ga : GE} {gr : GA} {n : Nat} (hr : ∀ δ M ds M', gr δ M = .ok ds M' → ds.length = n) {δ : Ctx} {M : List MO} {ds : List D} {M' : List MO} (h : gACons ga gr δ M = .ok ds M') : ds.length = n + 1 := by
  unfold gACons at h
  cases e1 : ga δ M with
  | bad => rw [e1] at h; cases h
  | ex c M1 => rw [e1] at h; cases h
  | ok x M1 =>
    rw [e1] at h
    simp only [R.bind_ok] at h
    cases e2 : gr δ M1 with
    | bad => rw [e2] at h; cases h
    | ex c M2 => rw [e2] at h; cases h
    | ok xs M2 =>
      rw [e2] at h
      simp only [R.bind_ok, R.ok.injEq] at h
      rw [← h.1, List.length_cons, hr _ _ _ _ e2]
theorem xe_call {x : Str} {k n : Nat} {m : OC} (C : Callee X.prog X.w X.K X.mg X.base x k n m) (hr : Room k X.A) (tk : Takes X W) (ha : XA X W (e :: es) t g) (hl : ∀ δ M ds M', g δ M = .ok ds M' → ds.length = n := by first | exact fun _ _ _ _ h => gCons_len (fun _ _ _ _ h => gNil_len h) h | exact fun _ _ _ _ h => gCons_len (fun _ _ _ _ h => gCons_len (fun _ _ _ _ h => gNil_len h) h) h | exact fun _ _ _ _ h => gCons_len (fun _ _ _ _ h => gCons_len (fun _ _ _ _ h => gCons_len (fun _ _ _ _ h => gNil_len h) h) h) h | exact fun _ _ _ _ h => gCons_len (fun _ _ _ _ h => gCons_len (fun _ _ _ _ h => gCons_len (fun _ _ _ _ h => gCons_len (fun _ _ _ _ h => gNil_len h) h) h) h) h)
    (hg : Gl X x := by rfl) (hdb : (x == ("__debug__" : Str)) = false := by decide)
    (he : starEach (e :: es) X.env = (false, eval e X.env) :: starEach es X.env := by rfl) (hpl : (backTo pos (starEach es X.env)).any (·.1) = false := by rfl) :
    XE X W (.Call (.Name x p) (e :: es) [] pos) (tCallS (spM X.K X.mg n m) (WE W) t) (gCall m g) := by
  obtain ⟨f, fd, ps, F, h1, h2, h3, _⟩ := C.ex
  refine ⟨pe_callS F hr hg h1 h2 h3 (fun σ => passAt tk σ) ha.pe hdb he hpl, ?_⟩
  intro σ H δ I as M P Q w en s
  refine ha.im σ H δ I as M P _ w en (Sat.bind s fun xs M1 vs H1 I1 as1 e1 g1 w1 r1 s1 => ?_)
  exact ⟨by rw [r1.len]; exact hl _ _ _ _ e1, xs, I1, as1, M1, P, w1, r1, s1⟩
end
end KM
set_option Elab.async false
set_option linter.all false
set_option maxRecDepth 100000
set_option maxHeartbeats 2000000
namespace KM
open PySem L2 PySem.Spec PyProof.Rows

/-! ### statements -/
def R.toS {α : Type} (r : R α) (δ : Ctx) (f : α → List MO → SR) : SR := match r with
  | .bad => .bad
  | .ok a M => f a M
  | .ex c M => .ex c δ M
@[simp] theorem R.toS_bad {α : Type} (f : α → List MO → SR) (δ : Ctx) : (R.bad).toS δ f = .bad := rfl
@[simp] theorem R.toS_ok {α : Type} (f : α → List MO → SR) (δ : Ctx) (a : α) (M : List MO) : (R.ok a M).toS δ f = f a M := rfl
@[simp] theorem R.toS_ex {α : Type} (f : α → List MO → SR) (δ : Ctx) (c : Str) (M : List MO) : (R.ex c M).toS δ f = .ex c δ M := rfl
def SR.then (r : SR) (f : Ctx → List MO → SR) : SR := match r with
  | .nx δ M => f δ M
  | r => r
@[simp] theorem SR.then_nx (f : Ctx → List MO → SR) (δ : Ctx) (M : List MO) : (SR.nx δ M).then f = f δ M := rfl
@[simp] theorem SR.then_rt (f : Ctx → List MO → SR) (d : D) (M : List MO) : (SR.rt d M).then f = .rt d M := rfl
@[simp] theorem SR.then_bk (f : Ctx → List MO → SR) (δ : Ctx) (M : List MO) : (SR.bk δ M).then f = .bk δ M := rfl
@[simp] theorem SR.then_ct (f : Ctx → List MO → SR) (δ : Ctx) (M : List MO) : (SR.ct δ M).then f = .ct δ M := rfl
@[simp] theorem SR.then_ex (f : Ctx → List MO → SR) (c : Str) (δ : Ctx) (M : List MO) : (SR.ex c δ M).then f = .ex c δ M := rfl
@[simp] theorem SR.then_bad (f : Ctx → List MO → SR) : (SR.bad).then f = .bad := rfl
def gNext : GS := fun δ M => .nx δ M
def gSeq (g h : GS) : GS := fun δ M => (g δ M).then h
def gSet (i : Nat) (ge : GE) : GS := fun δ M => (ge δ M).toS δ fun d M1 => .nx (δ.set i (some d)) M1
def gDrop (ge : GE) : GS := fun δ M => (ge δ M).toS δ fun _ M1 => .nx δ M1
def gRet (ge : GE) : GS := fun δ M => (ge δ M).toS δ fun d M1 => .rt d M1
def gRetN : GS := fun δ M => .rt .non M
def gIf (gc : GB) (g h : GS) : GS := fun δ M => (gc δ M).toS δ fun b M1 => if b = true then g δ M1 else h δ M1
def gBreak : GS := fun δ M => .bk δ M
def gCont : GS := fun δ M => .ct δ M
def gNever : GS := fun _ _ => .bad
def gRaise (c : Str) : GS := fun δ M => .ex c δ M
abbrev GG := D → GS
def gtName (i : Nat) : GG := fun d δ M => .nx (δ.set i (some d)) M
def gtNil : List D → GS := fun ds δ M => match ds with
  | [] => .nx δ M
  | _ => .bad
def gtCons (g : GG) (r : List D → GS) : List D → GS := fun ds δ M => match ds with
  | d :: ds => match g d δ M with
    | .nx δ1 M1 => match r ds δ1 M1 with
      | .nx δ2 M2 => .nx δ2 M2
      | _ => .bad
    | _ => .bad
  | [] => .bad
def gtTup (n : Nat) (g : List D → GS) : GG := fun d δ M => match tupOf d with
  | some ds => if ds.length = n then g ds δ M else .bad
  | none => .bad
abbrev OSet := D → D → D → List MO → Option (List MO)
def gtSub (go gi : GE) (o : OSet) : GG := fun d δ M => (go δ M).toS δ fun x M1 => (gi δ M1).toS δ fun i M2 => match o x i d M2 with
  | some M3 => .nx δ M3
  | none => .bad
def gAsg (ge : GE) (gg : GG) : GS := fun δ M => (ge δ M).toS δ fun d M1 => match gg d δ M1 with
  | .nx δ2 M2 => .nx δ2 M2
  | .ex c _ M2 => .ex c δ M2
  | _ => .bad
def gPar (i j : Nat) (ga gb : GE) : GS := fun δ M => (ga δ M).toS δ fun x M1 => (gb δ M1).toS δ fun y M2 => .nx ((δ.set i (some x)).set j (some y)) M2

structure Kept (is : List Nat) (σ σ' : L2.St) : Prop where
  len : σ'.length = σ.length
  at_ : ∀ j : Nat, j ∉ is → σ'[j]? = σ[j]?
theorem Kept.refl (is : List Nat) (σ : L2.St) : Kept is σ σ := ⟨rfl, fun _ _ => rfl⟩
def SatG (K : PySem.W.Frag) (is : List Nat) (Wf : Str → Hp → Prop) (I : Hp) (as : List Addr) (P : Hp) (σ : L2.St) (Q : L2.St → Hp → Prop) : SR → Prop
  | .nx δ M => ∀ σ' H' I' as', Gr I as I' as' → Wr K H' I' as' M P → Envr K I' as' σ' δ → Kept is σ σ' → Q σ' H'
  | .ex c _ M => ∀ H' I' as', Gr I as I' as' → Wr K H' I' as' M P → Wf c H'
  | _ => False
def ImpG (K : PySem.W.Frag) (mg : Str → Option Value) (W : WX) (is : List Nat) (t : TG) (g : GG) : Prop := ∀ (v : V) (d : D) (σ : L2.St) (H : Hp) (δ : Ctx) (I : Hp) (as : List Addr) (M : List MO) (P : Hp) (Q : L2.St → Hp → Prop),
  Wr K H I as M P → Envr K I as σ δ → Rep K I as v d → SatG K is (fun c H' => lowW mg W c σ H') I as P σ Q (g d δ M) → t v σ H Q
def ImpGs (K : PySem.W.Frag) (mg : Str → Option Value) (W : WX) (is : List Nat) (t : TGs) (g : List D → GS) : Prop := ∀ (v : List V) (d : List D) (σ : L2.St) (H : Hp) (δ : Ctx) (I : Hp) (as : List Addr) (M : List MO) (P : Hp) (Q : L2.St → Hp → Prop),
  Wr K H I as M P → Envr K I as σ δ → Reps K I as v d → SatG K is (fun c H' => lowW mg W c σ H') I as P σ Q (g d δ M) → t v σ H Q
structure XG (X : Cx) (W : WX) (e : Expr) (is : List Nat) (t : TG) (g : GG) : Prop where
  pe : PG X e t
  im : ImpG X.K X.mg W is t g
structure XGs (X : Cx) (W : WX) (es : List Expr) (is : List Nat) (t : TGs) (g : List D → GS) : Prop where
  pe : PGs X es t
  im : ImpGs X.K X.mg W is t g
section
variable {X : Cx} {W : WX} {a b c e : Expr} {es : List Expr} {pos p : Pos} {ta tb tc te : TE} {ga gb gc ge : GE} {t : TA} {g : GA} {K : PySem.W.Frag}
theorem SatS.bindE {α β : Type} {rel : Hp → List Addr → β → α → Prop} {Wf : Str → L2.St → Hp → Prop} {I P : Hp} {as : List Addr} {E : Ends} {δ : Ctx} {σ : L2.St} {r : R α} {f : α → List MO → SR} (s : SatS K Wf I as P E (r.toS δ f)) (en : Envr K I as σ δ)
    {Q1 : β → Hp → Prop} (k : ∀ a M v H' I' as', r = .ok a M → Gr I as I' as' → Wr K H' I' as' M P → rel I' as' v a → SatS K Wf I' as' P E (f a M) → Q1 v H') : Sat K rel (fun c H' => Wf c σ H') I as P Q1 r := by
  cases r with
  | bad => exact s
  | ok d M => exact fun v H2 I2 as2 g2 w r => k d M v H2 I2 as2 rfl g2 w r (SatS.gr g2 s)
  | ex c M => exact fun H2 I2 as2 g2 w => s σ H2 I2 as2 g2 w (en.mono g2)
theorem xss_nil : XSs X W [] tNext gNext := ⟨pss_nil, fun σ H δ I as M P E w en s => s _ H I as (Gr.refl _ _) w en⟩
theorem impS_seq {mg : Str → Option Value} {t u : TS} {g h : GS} (h1 : ImpS K mg W t g) (h2 : ImpS K mg W u h) : ImpS K mg W (tSeq t u) (gSeq g h) := by
  intro σ H δ I as M P E w en s
  refine h1 σ H δ I as M P _ w en ?_
  unfold gSeq at s
  cases e : g δ M with
  | bad => rw [e] at s; exact s
  | nx δ1 M1 =>
    rw [e] at s
    exact fun σ' H' I' as' g' w' en' => h2 σ' H' δ1 I' as' M1 P E w' en' (SatS.gr g' s)
  | rt d M1 => rw [e] at s; exact s
  | bk d M1 => rw [e] at s; exact s
  | ct d M1 => rw [e] at s; exact s
  | ex c d M1 => rw [e] at s; exact s
theorem xss_cons {st : Stmt} {rest : List Stmt} {t u : TS} {g h : GS} (h1 : XS X W st t g) (h2 : XSs X W rest u h) : XSs X W (st :: rest) (tSeq t u) (gSeq g h) := ⟨pss_cons h1.pe h2.pe, impS_seq h1.im h2.im⟩
theorem xss_one {st : Stmt} {t : TS} {g : GS} (h1 : XS X W st t g) : XSs X W [st] t g := ⟨pss_one h1.pe, h1.im⟩
theorem impS_set {mg : Str → Option Value} {i : Nat} (he : ImpE K mg W te ge) : ImpS K mg W (tAsg te (L2.gName i)) (gSet i ge) := by
  intro σ H δ I as M P E w en s
  refine he σ H δ I as M P _ w en (SatS.bindE s en fun d M1 v H1 I1 as1 _ g1 w1 r1 s1 => ?_)
  exact s1 _ H1 I1 as1 (Gr.refl _ _) w1 ((en.mono g1).set r1 i)
theorem xs_set (i : Nat) {x : Str} {pos' : Pos} (hN : X.N.Nodup) (he : XE X W e te ge) (hi : X.N[i]? = some x := by rfl) (hx : Loc X.env.scope x := by first | exact .inl rfl | exact .inr rfl) (hs : swapsWith e (some (.Name x pos')) pos.line X.env = pure false := by rfl)
    (hf : X.fn x = true ∨ X.env.scope.names.lookup x = some .local := by first | exact .inl rfl | exact .inr rfl | assumption) : XS X W (.Assign [.Name x pos'] e pos) (tAsg te (L2.gName i)) (gSet i ge) :=
  ⟨ps_set hN hi hx he.pe hs hf, impS_set he.im⟩
theorem xs_expr (he : XE X W e te ge) (hs : swapsWith e none pos.line X.env = pure false := by rfl) : XS X W (.Expr e pos) (tDrop te) (gDrop ge) := by
  refine ⟨ps_expr he.pe hs, fun σ H δ I as M P E w en s => ?_⟩
  refine he.im σ H δ I as M P _ w en (SatS.bindE s en fun d M1 v H1 I1 as1 _ g1 w1 r1 s1 => ?_)
  exact s1 _ H1 I1 as1 (Gr.refl _ _) w1 (en.mono g1)
theorem xs_ret (he : XE X W e te ge) : XS X W (.Return (some e) pos) (tRet te) (gRet ge) := by
  refine ⟨ps_ret he.pe, fun σ H δ I as M P E w en s => ?_⟩
  refine he.im σ H δ I as M P _ w en (SatS.bindE s en fun d M1 v H1 I1 as1 _ g1 w1 r1 s1 => ?_)
  exact s1 _ H1 I1 as1 (Gr.refl _ _) w1 r1
theorem xs_retN : XS X W (.Return none pos) tRetN gRetN := ⟨ps_retN, fun σ H δ I as M P E w en s => s _ H I as (Gr.refl _ _) w .non⟩
theorem xs_pass : XS X W (.Pass pos) tNext gNext := ⟨ps_pass, fun σ H δ I as M P E w en s => s _ H I as (Gr.refl _ _) w en⟩
theorem xs_break : XS X W (.Break pos) tBreak gBreak := ⟨ps_break, fun σ H δ I as M P E w en s => s _ H I as (Gr.refl _ _) w en⟩
theorem xs_cont : XS X W (.Continue pos) tCont gCont := ⟨ps_continue, fun σ H δ I as M P E w en s => s _ H I as (Gr.refl _ _) w en⟩
theorem xs_never {st : Stmt} : XS X W st tNever gNever := ⟨ps_never, fun σ H δ I as M P E w en s => s.elim⟩
theorem xs_if {a b : List Stmt} {tA : TT} {gA : GB} {t u : TS} {g h : GS} (hc : XT X W c tA gA) (ha : XSs X W a t g) (hb : XSs X W b u h) : XS X W (.If c a b pos) (tIfS tA t u) (gIf gA g h) := by
  refine ⟨ps_if hc.pe ha.pe hb.pe, fun σ H δ I as M P E w en s => ?_⟩
  refine hc.im σ H δ I as M P _ w en (SatS.bindE s en fun d M1 v H1 I1 as1 _ g1 w1 r1 s1 => ?_)
  subst r1
  cases v with
  | true => exact ha.im σ H1 δ I1 as1 M1 P E w1 (en.mono g1) s1
  | false => exact hb.im σ H1 δ I1 as1 M1 P E w1 (en.mono g1) s1
/-! targets -/
theorem xg_name (i : Nat) {x : Str} (hN : X.N.Nodup) (hi : X.N[i]? = some x := by rfl) (hx : Loc X.env.scope x := by first | exact .inl rfl | exact .inr rfl) (hf : X.fn x = true ∨ X.env.scope.names.lookup x = some .local := by first | exact .inl rfl | exact .inr rfl | assumption) :
    XG X W (.Name x pos) [i] (L2.gName i) (gtName i) := by
  refine ⟨pg_name hN hi hx hf, fun v d σ H δ I as M P Q w en r s => ?_⟩
  exact s _ H I as (Gr.refl _ _) w (en.set r i) ⟨List.length_set, fun j hj => List.getElem?_set_ne (by simpa using fun e => hj (by simp [e]))⟩
theorem xgs_nil : XGs X W [] [] L2.gNil gtNil := by
  refine ⟨pgs_nil, fun vs ds σ H δ I as M P Q w en r s => ?_⟩
  unfold gtNil at s
  cases r with
  | nil => exact ⟨rfl, s _ H I as (Gr.refl _ _) w en (Kept.refl _ _)⟩
  | cons => exact s.elim
theorem xgs_cons {is js : List Nat} {t : TG} {u : TGs} {g : GG} {r : List D → GS} (h1 : XG X W e is t g) (h2 : XGs X W es js u r)
    (hs : (assignEach (e :: es) X.env).map (·.2) = assign e X.env :: (assignEach es X.env).map (·.2) := by rfl) : XGs X W (e :: es) (is ++ js) (L2.gCons t u) (gtCons g r) := by
  refine ⟨pgs_cons h1.pe h2.pe hs, fun vs ds σ H δ I as M P Q w en rr s => ?_⟩
  unfold gtCons at s
  cases rr with
  | nil => exact s.elim
  | @cons v vs d ds rd rds =>
    refine ⟨v, vs, rfl, ?_⟩
    refine h1.im v d σ H δ I as M P _ w en rd ?_
    simp only at s
    split at s
    · rename_i δ1 M1 e1
      rw [e1]
      intro σ1 H1 I1 as1 g1 w1 en1 k1
      refine h2.im vs ds σ1 H1 δ1 I1 as1 M1 P Q w1 en1 (rds.mono g1) ?_
      split at s
      · rename_i δ2 M2 e2
        rw [e2]
        exact fun σ2 H2 I2 as2 g2 w2 en2 k2 => s σ2 H2 I2 as2 (g1.trans g2) w2 en2 ⟨k2.len.trans k1.len, fun j hj => (k2.at_ j fun z => hj (List.mem_append_right _ z)).trans (k1.at_ j fun z => hj (List.mem_append_left _ z))⟩
      · exact s.elim
    · exact s.elim
theorem xg_tup {is : List Nat} {k n : Nat} {t : TGs} {g : List D → GS} (hc : X.calm = true) (h : XGs X W es is t g)
    (hn : (assignEach es X.env).length = n := by rfl) (hst : (assignEach es X.env).findIdx? (·.1) = none := by rfl) : XG X W (.Tuple es k pos) is (L2.gTup X.K n t) (gtTup n g) := by
  refine ⟨pg_tup hc h.pe hn hst, fun v d σ H δ I as M P Q w en r s => ?_⟩
  unfold gtTup at s
  split at s
  · rename_i ds hd
    split at s
    · rename_i hl
      obtain ⟨a, vs, rfl, h1, rr⟩ := r.tupl w hd
      exact ⟨a, vs, rfl, h1, by rw [rr.len]; exact hl, h.im vs ds σ H δ I as M P Q w en rr s⟩
    · exact s.elim
  · exact s.elim
def SetD (K : PySem.W.Frag) (t : TSet) (o : OSet) : Prop := ∀ (H I : Hp) (as : List Addr) (M M' : List MO) (P : Hp) (x i v : V) (dx di dv : D) (Q : Hp → Prop),
  Wr K H I as M P → Rep K I as x dx → Rep K I as i di → Rep K I as v dv → o dx di dv M = some M' → (∀ H', Wr K H' I as M' P → Q H') → t x i v H Q
theorem xg_sub {o i : Expr} {to ti : TE} {go gi : GE} {t : TSet} {os : OSet} (hs : PSet X t) (hd : SetD X.K t os) (ho : XE X W o to go) (hi : XE X W i ti gi)
    (ha : ∀ v, assign (.Subscript o i pos) X.env v = (do
      let ov ← holding [v] (eval o X.env)
      let iv ← holding [v, ov] (eval i X.env)
      standAt pos
      holding [v, ov, iv] (setItem ov iv v)
      release [v, ov, iv] []) := by intro _; rfl) : XG X W (.Subscript o i pos) [] (gSub to ti t) (gtSub go gi os) := by
  refine ⟨pg_sub ho.pe hi.pe hs ha, fun v d σ H δ I as M P Q w en r s => ?_⟩
  unfold gtSub at s
  have lift : ∀ {α β : Type} {rel : Hp → List Addr → β → α → Prop} {I : Hp} {as : List Addr} {r : R α} {f : α → List MO → SR}, SatG X.K [] (fun c H' => lowW X.mg W c σ H') I as P σ Q (r.toS δ f) → ∀ {Q1 : β → Hp → Prop},
      (∀ a M v H' I' as', r = .ok a M → Gr I as I' as' → Wr X.K H' I' as' M P → rel I' as' v a → SatG X.K [] (fun c H' => lowW X.mg W c σ H') I' as' P σ Q (f a M) → Q1 v H') → Sat X.K rel (fun c H' => lowW X.mg W c σ H') I as P Q1 r := by
    intro α β rel I as r f s Q1 k
    cases r with
    | bad => exact s
    | ok d M =>
      refine fun v H2 I2 as2 g2 w r => k d M v H2 I2 as2 rfl g2 w r ?_
      simp only [R.toS_ok] at s
      cases e : f d M with
      | nx δ' M' => rw [e] at s; exact fun σ' H' I' as' g' => s σ' H' I' as' (g2.trans g')
      | ex c δ' M' => rw [e] at s; exact fun H' I' as' g' => s H' I' as' (g2.trans g')
      | _ => rw [e] at s; exact s.elim
    | ex c M => exact s
  refine ho.im σ H δ I as M P _ w en (lift s fun x M1 xv H1 I1 as1 _ g1 w1 r1 s1 => ?_)
  refine hi.im σ H1 δ I1 as1 M1 P _ w1 (en.mono g1) (lift s1 fun iv M2 ivv H2 I2 as2 _ g2 w2 r2 s2 => ?_)
  split at s2
  · rename_i M3 e3
    exact hd H2 I2 as2 M2 M3 P _ _ _ _ _ _ _ w2 (r1.mono g2) r2 (r.mono (g1.trans g2)) e3 fun H' w' => s2 σ H' I2 as2 (Gr.refl _ _) w' (en.mono (g1.trans g2)) (Kept.refl _ _)
  · exact s2.elim
/-- o[i] = v of a list that may change -/
def oSetL : OSet := fun x i v M => match x, i with
  | .ref k, .int j => match M[k]? with
    | some (.lst xs) => match ixN xs.length j with
      | some n => some (M.set k (.lst (xs.set n v)))
      | none => none
    | _ => none
  | _, _ => none
theorem setd_list {K : PySem.W.Frag} : SetD K rSetL oSetL := by
  intro H I as M M' P x i v dx di dv Q w rx ri rv h k
  unfold oSetL at h
  split at h
  · rename_i kk j
    cases ri
    split at h
    · rename_i xs hx
      split at h
      · rename_i n hn
        cases h
        cases rx with
        | @ref _ a h1 =>
          obtain ⟨o, ho, _, fr, m⟩ := w.at h1
          rw [hx] at ho
          cases ho
          obtain ⟨vs, e1, rr⟩ := m
          refine ⟨a, vs, j, n, rfl, rfl, e1, by rw [rr.len]; exact hn, k _ (w.put h1 fr _ _ ⟨_, upd_same, rr.set rv⟩)⟩
      · cases h
    · cases h
  · cases h
theorem xs_asg {tg : Expr} {is : List Nat} {gt : TG} {gg : GG} (he : XE X W e te ge) (hg : XG X W tg is gt gg) (hs : swapsWithSole [tg] e pos.line X.env = pure false := by rfl) (hw : swappedStores [tg] e X.env = pure none := by rfl)
    (h1 : (assignEach [tg] X.env).map (·.2) = [assign tg X.env] := by rfl) : XS X W (.Assign [tg] e pos) (tAsg te gt) (gAsg ge gg) := by
  refine ⟨ps_asg he.pe hg.pe hs hw h1, fun σ H δ I as M P E w en s => ?_⟩
  refine he.im σ H δ I as M P _ w en (SatS.bindE s en fun d M1 v H1 I1 as1 _ g1 w1 r1 s1 => ?_)
  refine hg.im v d σ H1 δ I1 as1 M1 P _ w1 (en.mono g1) r1 ?_
  split at s1
  · rename_i e2
    rw [e2]
    exact fun σ' H' I' as' g' w' en' _ => s1 σ' H' I' as' g' w' en'
  · rename_i e2
    rw [e2]
    exact fun H' I' as' g' w' => s1 σ H' I' as' g' w' (en.mono (g1.trans g'))
  · exact s1.elim
theorem xs_par {i j : Nat} {x y : Str} {px py pt : Pos} {kt k2 pt2} (hc : X.calm = true) (hN : X.N.Nodup) (ha : XE X W a ta ga) (hb : XE X W b tb gb)
    (hi : X.N[i]? = some x := by rfl) (hj : X.N[j]? = some y := by rfl) (hij : i ≠ j := by decide) (hx : X.env.scope.names.lookup x = some .local := by rfl) (hy : X.env.scope.names.lookup y = some .local := by rfl)
    (hw : swappedStores [.Tuple [.Name x px, .Name y py] kt pt] (.Tuple [a, b] k2 pt2) X.env = pure (some [x, y]) := by rfl)
    (hs : swapsWithSole [.Tuple [.Name x px, .Name y py] kt pt] (.Tuple [a, b] k2 pt2) pos.line X.env = pure false := by rfl)
    (h1 : starEach [a, b] X.env = (false, eval a X.env) :: starEach [b] X.env := by rfl) (h2 : starEach [b] X.env = (false, eval b X.env) :: starEach [] X.env := by rfl) :
    XS X W (.Assign [.Tuple [.Name x px, .Name y py] kt pt] (.Tuple [a, b] k2 pt2) pos) (tPar i j (tCons ta (tCons tb tNil))) (gPar i j ga gb) := by
  refine ⟨ps_par hc hN hi hj hij hx hy (pa_cons ha.pe (pa_cons hb.pe pa_nil h2) h1) hw hs, fun σ H δ I as M P E w en s => ?_⟩
  refine ha.im σ H δ I as M P _ w en (SatS.bindE s en fun d M1 v H1 I1 as1 _ g1 w1 r1 s1 => ?_)
  refine hb.im σ H1 δ I1 as1 M1 P _ w1 (en.mono g1) (SatS.bindE s1 (en.mono g1) fun d2 M2 v2 H2 I2 as2 _ g2 w2 r2 s2 => ?_)
  exact ⟨v, v2, rfl, s2 _ H2 I2 as2 (Gr.refl _ _) w2 (((en.mono (g1.trans g2)).set (r1.mono g2) i).set r2 j)⟩
end

/-! ### what is walked -/
structure ITD where
  items : List D
  gd : List MO → Prop
def PLe (P P' : Hp) : Prop := ∀ a ob u, P a = some (.frz ob u) → P' a = some (.frz ob u)
theorem PLe.refl (P : Hp) : PLe P P := fun _ _ _ h => h
theorem PLe.trans {P P' P'' : Hp} (h : PLe P P') (h' : PLe P' P'') : PLe P P'' := fun a ob u e => h' a ob u (h a ob u e)
theorem PLe.put {P : Hp} {p : Addr} {o : HO} (h : ∀ ob u, P p ≠ some (.frz ob u)) : PLe P (L2.upd P p o) := fun b ob u e => by
  have q : b ≠ p := fun z => h ob u (z ▸ e)
  rw [upd_ne q]; exact e
theorem PLe.upd {P : Hp} {p : Addr} {o : HO} (h : P p = none) : PLe P (L2.upd P p o) := fun b ob u e => by
  rw [upd_ne (ne_of_none e h)]; exact e
def ItOk (K : PySem.W.Frag) (P : Hp) (I : Hp) (as : List Addr) (J : It) (it : ITD) : Prop := ∃ (G : Hp → Prop) (Y : Nat → Hp → V → Hp → Prop), Walk J it.items.length G Y ∧
  (∀ H' I' as' M' P', PLe P P' → Gr I as I' as' → Wr K H' I' as' M' P' → it.gd M' → G H') ∧
  (∀ i x H' H2 I' as' M' P', i < it.items.length → PLe P P' → Gr I as I' as' → Wr K H' I' as' M' P' → it.gd M' → Y i H' x H2 → ∃ I2 d, Gr I' as' I2 as' ∧ Wr K H2 I2 as' M' P' ∧ it.items[i]? = some d ∧ Rep K I2 as' x d)
abbrev GI := Ctx → List MO → R ITD
def ImpI (K : PySem.W.Frag) (mg : Str → Option Value) (W : WX) (t : TI) (g : GI) : Prop := ∀ (σ : L2.St) (H : Hp) (δ : Ctx) (I : Hp) (as : List Addr) (M : List MO) (P : Hp) (Q : It → Hp → Prop),
  Wr K H I as M P → Envr K I as σ δ → Sat K (ItOk K P) (fun c H' => lowW mg W c σ H') I as P Q (g δ M) → t σ H Q
structure XI (X : Cx) (W : WX) (tg e : Expr) (t : TI) (g : GI) : Prop where
  pe : PI X tg e t
  im : ImpI X.K X.mg W t g
open Classical in
noncomputable def forL (gd : List MO → Prop) (gg : GG) (gb : GS) : List D → GS
  | [], δ, M => if gd M then .nx δ M else .bad
  | x :: xs, δ, M => if gd M then (match gg x δ M with
      | .nx δ1 M1 => match gb δ1 M1 with
        | .nx δ2 M2 => forL gd gg gb xs δ2 M2
        | .ct δ2 M2 => forL gd gg gb xs δ2 M2
        | .bk δ2 M2 => .nx δ2 M2
        | .rt d M2 => .rt d M2
        | .ex c δ2 M2 => .ex c δ2 M2
        | .bad => .bad
      | _ => .bad) else .bad
noncomputable def gFor (gi : GI) (gg : GG) (gb : GS) : GS := fun δ M => (gi δ M).toS δ fun it M1 => forL it.gd gg gb it.items δ M1
section
variable {X : Cx} {W : WX} {tg iter e : Expr} {es : List Expr} {pos p : Pos} {te : TE} {ge : GE} {t : TA} {g : GA} {K : PySem.W.Frag} {wi : TI} {gi : GI}
theorem forL_gd {gd : List MO → Prop} {gg : GG} {gb : GS} {xs : List D} {δ : Ctx} {M : List MO} (h : forL gd gg gb xs δ M ≠ .bad) : gd M := by
  by_cases c : gd M
  · exact c
  · exfalso
    apply h
    cases xs with
    | nil => unfold forL; rw [if_neg c]
    | cons x xs => unfold forL; rw [if_neg c]
theorem SatS.ne {Wf : Str → L2.St → Hp → Prop} {I P : Hp} {as : List Addr} {E : Ends} {r : SR} (s : SatS K Wf I as P E r) : r ≠ .bad := fun e => by
  rw [e] at s
  exact s
theorem impS_for {mg : Str → Option Value} {is : List Nat} {gt : TG} {gg : GG} {tb : TS} {gb : GS} (hi : ImpI K mg W wi gi) (hg : ImpG K mg W is gt gg) (hb : ImpS K mg W tb gb) : ImpS K mg W (tFor wi gt tb) (gFor gi gg gb) := by
  intro σ H δ I as M P E w en s
  refine hi σ H δ I as M P _ w en (SatS.bindE s en fun it M1 J H1 I1 as1 _ g1 w1 ok s1 => ?_)
  obtain ⟨G, Y, wk, hG, hY⟩ := ok
  refine for_it wk (fun i σ' H' => ∃ δ' M' I' as', Gr I1 as1 I' as' ∧ Wr K H' I' as' M' P ∧ Envr K I' as' σ' δ' ∧ SatS K (lowW mg W) I' as' P E (forL it.gd gg gb (it.items.drop i) δ' M'))
    ⟨δ, M1, I1, as1, Gr.refl _ _, w1, en.mono g1, by rw [List.drop_zero]; exact s1⟩ ?_ ?_ ?_
  · rintro i σ' H' hi ⟨δ', M', I', as', g', w', en', s'⟩
    exact hG H' I' as' M' P (PLe.refl P) g' w' (forL_gd s'.ne)
  · rintro i x σ' H' H2 hi ⟨δ', M', I', as', g', w', en', s'⟩ y
    obtain ⟨I2, d, g2, w2, hd, rd⟩ := hY i x H' H2 I' as' M' P hi (PLe.refl P) g' w' (forL_gd s'.ne) y
    have hgd := forL_gd s'.ne
    have ed : it.items.drop i = d :: it.items.drop (i + 1) := by
      rw [List.drop_eq_getElem_cons hi]
      have := List.getElem?_eq_getElem hi
      rw [hd] at this
      rw [← Option.some.inj this]
    rw [ed] at s'
    unfold forL at s'
    rw [if_pos hgd] at s'
    refine hg x d σ' H2 δ' I2 as' M' P _ w2 (en'.mono g2) rd ?_
    have s2 := SatS.gr g2 s'
    cases e1 : gg d δ' M' with
    | nx δ1 M1 =>
      rw [e1] at s2
      intro σ3 H3 I3 as3 g3 w3 en3 _
      refine hb σ3 H3 δ1 I3 as3 M1 P _ w3 en3 ?_
      have s3 := SatS.gr g3 s2
      cases e2 : gb δ1 M1 with
      | nx δ2 M2 =>
        simp only [e2] at s3
        exact fun σ4 H4 I4 as4 g4 w4 en4 => ⟨δ2, M2, I4, as4, (g'.trans (g2.trans (g3.trans g4))), w4, en4, SatS.gr g4 s3⟩
      | ct δ2 M2 =>
        simp only [e2] at s3
        exact fun σ4 H4 I4 as4 g4 w4 en4 => ⟨δ2, M2, I4, as4, (g'.trans (g2.trans (g3.trans g4))), w4, en4, SatS.gr g4 s3⟩
      | bk δ2 M2 =>
        simp only [e2] at s3
        exact s3
      | rt d2 M2 =>
        simp only [e2] at s3
        exact s3
      | ex c δ2 M2 =>
        simp only [e2] at s3
        exact s3
      | bad =>
        simp only [e2] at s3
        exact s3
    | _ => rw [e1] at s2; exact s2.elim
  · rintro σ' H' ⟨δ', M', I', as', g', w', en', s'⟩
    have hgd := forL_gd s'.ne
    rw [List.drop_length] at s'
    unfold forL at s'
    rw [if_pos hgd] at s'
    exact s' σ' H' I' as' (Gr.refl _ _) w' en'
theorem xs_for {is : List Nat} {gt : TG} {gg : GG} {body : List Stmt} {tb : TS} {gb : GS} (hp : PassesOwn (model X.prog X.w) X.A X.env X.xe) (hc : X.calm = true) (hi : XI X W tg iter wi gi) (hg : XG X W tg is gt gg) (hb : XSs X W body tb gb)
    (hs : ∀ x, foldedSetIterable iter X.env x = pure x := by intro _; rfl) : XS X W (.For tg iter body [] pos) (tFor wi gt tb) (gFor gi gg gb) :=
  ⟨ps_for hp hc hi.pe hg.pe hb.pe hs, impS_for hi.im hg.im hb.im⟩
/-! iterables -/
def itT (xs : List D) : ITD := ⟨xs, fun _ => True⟩
def giTup (ge : GE) : GI := fun δ M => (ge δ M).bind fun x M1 => match tupOf x with
  | some xs => .ok (itT xs) M1
  | none => .bad
def gdOf (x : D) (xs : List D) : List MO → Prop := match x with
  | .ref k => fun M' => M'[k]? = some (.lst xs)
  | _ => fun _ => True
def giList (ge : GE) : GI := fun δ M => (ge δ M).bind fun x M1 => match listOf M1 x with
  | some xs => .ok ⟨xs, gdOf x xs⟩ M1
  | none => .bad
theorem itok_tup {I P0 : Hp} {as : List Addr} {a : Addr} {vs : List V} {xs : List D} (h : SqT K I a vs) (r : Reps K I as vs xs) : ItOk K P0 I as (Itt K a) (itT xs) := by
  refine ⟨fun H => SqT K H a vs, YAt vs, by rw [show (itT xs).items = xs from rfl, ← r.len]; exact walk_tup, fun H' I' as' M' P' _ g w _ => w.seqT (Evl.ex_t g.sub h), fun i x H' H2 I' as' M' P' hi _ g w _ y => ?_⟩
  obtain ⟨rfl, hx⟩ := y
  obtain ⟨d, h1, h2⟩ := r.get' hx
  exact ⟨I', d, Gr.refl _ _, w, h1, h2.mono g⟩
theorem itok_list {I P0 : Hp} {as : List Addr} {a : Addr} {vs : List V} {xs : List D} (h : SqL K I a vs) (r : Reps K I as vs xs) : ItOk K P0 I as (Itl K a) (itT xs) := by
  refine ⟨fun H => SqL K H a vs, YAt vs, by rw [show (itT xs).items = xs from rfl, ← r.len]; exact walk_list, fun H' I' as' M' P' _ g w _ => w.seqL (Evl.ex_l g.sub h), fun i x H' H2 I' as' M' P' hi _ g w _ y => ?_⟩
  obtain ⟨rfl, hx⟩ := y
  obtain ⟨d, h1, h2⟩ := r.get' hx
  exact ⟨I', d, Gr.refl _ _, w, h1, h2.mono g⟩
theorem Reps.inj {I : Hp} {as : List Addr} : True := trivial
theorem xi_tup (h : XE X W e te ge) : XI X W tg e (iTup X.K te) (giTup ge) := by
  refine ⟨pi_tup h.pe, fun σ H δ I as M P Q w en s => ?_⟩
  refine h.im σ H δ I as M P _ w en (Sat.bind s fun d M1 v H1 I1 as1 _ g1 w1 r1 s1 => ?_)
  split at s1
  · rename_i xs hx
    have e : d = .tup xs := by cases d <;> first | (cases hx; rfl) | cases hx
    subst e
    cases r1 with
    | @tup a vs _ h1 rr =>
      exact ⟨a, rfl, ⟨vs, w1.seqT h1⟩, s1 _ H1 I1 as1 (Gr.refl _ _) w1 (itok_tup h1 rr)⟩
  · exact s1.elim
theorem xi_list (h : XE X W e te ge) : XI X W tg e (iList X.K te) (giList ge) := by
  refine ⟨pi_list h.pe, fun σ H δ I as M P Q w en s => ?_⟩
  refine h.im σ H δ I as M P _ w en (Sat.bind s fun d M1 v H1 I1 as1 _ g1 w1 r1 s1 => ?_)
  cases hl : listOf M1 d with
  | none => rw [hl] at s1; exact s1.elim
  | some xs =>
    rw [hl] at s1
    cases r1 with
    | @lst a vs ds h1 rr =>
      cases hl
      exact ⟨a, rfl, ⟨vs, .of (w1.sub _ _ h1)⟩, s1 _ H1 I1 as1 (Gr.refl _ _) w1 (itok_list (.of h1) rr)⟩
    | @rol a vs ds h1 rr =>
      cases hl
      exact ⟨a, rfl, ⟨vs, w1.seqL h1⟩, s1 _ H1 I1 as1 (Gr.refl _ _) w1 (itok_list h1 rr)⟩
    | @ref k a h1 =>
        obtain ⟨o, ho, _, _, m⟩ := w1.at h1
        cases o with
        | dct kvs =>
          unfold listOf at hl
          simp [ho] at hl
        | dlk kvs =>
          unfold listOf at hl
          simp [ho] at hl
        | kd kvs =>
          unfold listOf at hl
          simp [ho] at hl
        | kdl kvs =>
          unfold listOf at hl
          simp [ho] at hl
        | lst ys =>
        unfold listOf at hl
        simp only [ho, Option.some.injEq] at hl
        subst hl
        obtain ⟨vs, e1, rr⟩ := m
        refine ⟨a, rfl, ⟨vs, .of e1⟩, s1 _ H1 I1 as1 (Gr.refl _ _) w1 ⟨fun H => ∃ vs', SqL X.K H a vs' ∧ vs'.length = ys.length, fun i H x H' => H' = H ∧ ∀ vs', SqL X.K H a vs' → vs'[i]? = some x, ?_, ?_, ?_⟩⟩
        · exact ⟨fun i H hi ⟨vs', h', e'⟩ => ⟨vs', vs'[i]'(by rw [e']; exact hi), h', by simp⟩, fun H ⟨vs', h', e'⟩ => ⟨vs', h', Nat.le_of_eq e'⟩, fun i H x H' _ _ y => y⟩
        · intro H' I' as' M' P' _ g w' hgd
          obtain ⟨o', ho', _, _, m'⟩ := w'.at (g.at h1)
          have hgd2 : M'[k]? = some (.lst ys) := hgd
          rw [hgd2] at ho'
          cases ho'
          obtain ⟨vs', e', r'⟩ := m'
          exact ⟨vs', .of e', r'.len⟩
        · intro i x H' H2 I' as' M' P' hi _ g w' hgd y
          obtain ⟨rfl, hy⟩ := y
          obtain ⟨o', ho', _, _, m'⟩ := w'.at (g.at h1)
          have hgd2 : M'[k]? = some (.lst ys) := hgd
          rw [hgd2] at ho'
          cases ho'
          obtain ⟨vs', e', r'⟩ := m'
          obtain ⟨d, hd, rd⟩ := r'.get' (hy vs' (.of e'))
          exact ⟨I', d, Gr.refl _ _, w', hd, rd⟩
    | _ => cases hl
def rngD (lo : Int) (n : Nat) : List D := (List.range n).map fun i => .int (lo + (i : Nat))
theorem itok_rng {I P0 : Hp} {as : List Addr} {lo : Int} {n : Nat} : ItOk K P0 I as (Itr lo n) (itT (rngD lo n)) := by
  refine ⟨fun _ => True, YFn fun i => .int (lo + i), by rw [show (itT (rngD lo n)).items.length = n by simp [itT, rngD]]; exact walk_range, fun _ _ _ _ _ _ _ _ _ => trivial, fun i x H' H2 I' as' M' P' hi _ g w _ y => ?_⟩
  obtain ⟨rfl, rfl⟩ := y
  have hn : i < n := by simpa [itT, rngD] using hi
  exact ⟨I', .int (lo + i), Gr.refl _ _, w, by simp [itT, rngD, hn], .int _⟩
def rngB (i : Int) : Prop := -(2 ^ 62) ≤ i ∧ i < 2 ^ 62
open Classical in
noncomputable def giRng1 (ga : GA) : GI := fun δ M => (ga δ M).bind fun xs M1 => match xs with
  | [.int j] => if rngB j then .ok (itT (rngD 0 j.toNat)) M1 else .bad
  | _ => .bad
open Classical in
noncomputable def giRng2 (ga : GA) : GI := fun δ M => (ga δ M).bind fun xs M1 => match xs with
  | [.int i, .int j] => if rngB i ∧ rngB j then .ok (itT (rngD i (j - i).toNat)) M1 else .bad
  | _ => .bad
theorem Reps.one_inv {I : Hp} {as : List Addr} {vs : List V} {d : D} (r : Reps K I as vs [d]) : ∃ v, vs = [v] ∧ Rep K I as v d := by
  cases r with
  | cons h r => cases r; exact ⟨_, rfl, h⟩
theorem Reps.two_inv {I : Hp} {as : List Addr} {vs : List V} {d d2 : D} (r : Reps K I as vs [d, d2]) : ∃ v v2, vs = [v, v2] ∧ Rep K I as v d ∧ Rep K I as v2 d2 := by
  cases r with
  | cons h r =>
    cases r with
    | cons h2 r => cases r; exact ⟨_, _, rfl, h, h2⟩
theorem xi_rng1 (hm : X.mg "range" = none) (ha : XA X W [e] t g) (hg : Gl X "range" := by rfl) (hs : starEach [e] X.env = [(false, eval e X.env)] := by rfl) : XI X W tg (.Call (.Name "range" p) [e] [] pos) (iRng1 t) (giRng1 g) := by
  refine ⟨pi_range1 hg hm ha.pe hs, fun σ H δ I as M P Q w en s => ?_⟩
  refine ha.im σ H δ I as M P _ w en (Sat.bind s fun d M1 v H1 I1 as1 _ g1 w1 r1 s1 => ?_)
  split at s1
  · split at s1
    · rename_i j _ hb
      obtain ⟨v, rfl, r⟩ := r1.one_inv
      cases r
      exact ⟨j, rfl, hb.1, hb.2, s1 _ H1 I1 as1 (Gr.refl _ _) w1 itok_rng⟩
    · exact s1.elim
  · exact s1.elim
theorem xi_rng2 {e2 : Expr} (hm : X.mg "range" = none) (ha : XA X W [e, e2] t g) (hg : Gl X "range" := by rfl) (hs : starEach [e, e2] X.env = [(false, eval e X.env), (false, eval e2 X.env)] := by rfl) (hs2 : starEach [e2] X.env = [(false, eval e2 X.env)] := by rfl) : XI X W tg (.Call (.Name "range" p) [e, e2] [] pos) (iRng2 t) (giRng2 g) := by
  refine ⟨pi_range2 hg hm ha.pe hs hs2, fun σ H δ I as M P Q w en s => ?_⟩
  refine ha.im σ H δ I as M P _ w en (Sat.bind s fun d M1 v H1 I1 as1 _ g1 w1 r1 s1 => ?_)
  split at s1
  · split at s1
    · rename_i i j _ hb
      obtain ⟨v, v2, rfl, r, r2⟩ := r1.two_inv
      cases r
      cases r2
      exact ⟨i, j, rfl, ⟨hb.1.1, hb.1.2, hb.2.1, hb.2.2⟩, s1 _ H1 I1 as1 (Gr.refl _ _) w1 itok_rng⟩
    · exact s1.elim
  · exact s1.elim
end
end KM
set_option Elab.async false
set_option linter.all false
set_option maxRecDepth 100000
set_option maxHeartbeats 2000000
namespace KM
open PySem L2 PySem.Spec PyProof.Rows

/-! ### comprehensions -/
theorem wipe_in {σ : L2.St} {j : Nat} : ∀ {vs : List Nat}, j ∈ vs → (wipe σ vs)[j]? = if j < σ.length then some none else none
  | [], h => by simp at h
  | v :: vs, h => by
    unfold wipe
    by_cases hv : v = j
    · subst hv
      by_cases hl : v < σ.length
      · rw [List.getElem?_set_self (by rw [wipe_length]; exact hl), if_pos hl]
      · rw [if_neg hl, List.getElem?_eq_none (by simpa [wipe_length] using hl)]
    · rw [List.getElem?_set_ne hv]
      exact wipe_in (by simpa [Ne.symm hv] using h)
theorem wipe_kept {is vs : List Nat} {σ σ2 : L2.St} (hs : ∀ j ∈ is, j ∈ vs) (k : Kept is (wipe σ vs) σ2) : wipe σ2 vs = wipe σ vs := by
  have hl : σ2.length = σ.length := by rw [k.len, wipe_length]
  apply List.ext_getElem?
  intro j
  by_cases hj : j ∈ vs
  · rw [wipe_in hj, wipe_in hj, hl]
  · rw [wipe_out hj, k.at_ j (fun z => hj (hs j z))]
def bigS (n : Nat) : Prop := n < 100000
structure XTs (X : Cx) (W : WX) (es : List Expr) (t : TT) (g : GB) : Prop where
  pe : PTs X es t
  im : ImpT X.K X.mg W t g
def gYes : GB := fun _ M => .ok true M
theorem xts_nil {X : Cx} {W : WX} : XTs X W [] tYes gYes := ⟨pts_nil, fun σ H δ I as M P Q w en s => s _ H I as (Gr.refl _ _) w rfl⟩
theorem xts_one {X : Cx} {W : WX} {c : Expr} {t : TT} {g : GB} (h : XT X W c t g) : XTs X W [c] t g := ⟨pts_one h.pe, h.im⟩
open Classical in
noncomputable def lcL (gd : List MO → Prop) (gg : GG) (gt : GB) (ge : GE) (δ : Ctx) : List D → List D → List MO → R (List D)
  | [], acc, M => if gd M then .ok acc M else .bad
  | x :: xs, acc, M => if gd M then (match gg x δ M with
      | .nx δ1 M1 => match gt δ1 M1 with
        | .ok b M2 => if b = true then (match ge δ1 M2 with
            | .ok d M3 => if bigS acc.length then lcL gd gg gt ge δ xs (acc ++ [d]) M3 else .bad
            | _ => .bad) else lcL gd gg gt ge δ xs acc M2
        | _ => .bad
      | _ => .bad) else .bad
theorem lcL_gd {gd : List MO → Prop} {gg : GG} {gt : GB} {ge : GE} {δ : Ctx} {xs acc : List D} {M : List MO} (h : lcL gd gg gt ge δ xs acc M ≠ .bad) : gd M := by
  by_cases c : gd M
  · exact c
  · exfalso
    apply h
    cases xs with
    | nil => unfold lcL; rw [if_neg c]
    | cons x xs => unfold lcL; rw [if_neg c]
noncomputable def gLcG (fin : List D → List MO → R D) (gi : GI) (gg : GG) (gt : GB) (ge : GE) (vs : List Nat) : GE := fun δ M => (gi δ M).bind fun it M1 => (lcL it.gd gg gt ge (wipeD δ vs) it.items [] M1).bind fin
/-- how the new list is told: as one that never changes, or as one that may -/
def finI : List D → List MO → R D := fun ds M => .ok (.lst ds) M
def finM : List D → List MO → R D := fun ds M => .ok (.ref M.length) (M ++ [.lst ds])
def FinOk (K : PySem.W.Frag) (fin : List D → List MO → R D) : Prop := ∀ (H I : Hp) (as : List Addr) (M : List MO) (P : Hp) (Dl : Addr) (vs : List V) (ds : List D) (Wf : Str → Hp → Prop) (Q : VK),
  P Dl = none → Wr K H I as M (upd P Dl (.lst vs)) → Reps K I as vs ds → Sat K (Rep K) Wf I as P Q (fin ds M) → Q (.ref Dl) H
theorem fin_I {K : PySem.W.Frag} : FinOk K finI := by
  intro H I as M P Dl vs ds Wf Q h0 w r s
  obtain ⟨w', g⟩ := w.giveI h0
  exact s _ _ _ _ g w' (.lst upd_same (r.mono g))
theorem fin_M {K : PySem.W.Frag} : FinOk K finM := by
  intro H I as M P Dl vs ds Wf Q h0 w r s
  have h1 := (w.prv Dl _ upd_same).1
  have w' := w.giveM (m := .lst ds) h0 (fun _ _ z => by cases z) ⟨vs, h1, r⟩
  refine s _ _ _ _ (Gr.more I as [Dl]) w' (.ref ?_)
  rw [← w.len, List.getElem?_append_right (Nat.le_refl _), Nat.sub_self]
  rfl
abbrev W0 : WX := fun _ _ _ _ => False
theorem SatT.ne {α β : Type} {K : PySem.W.Frag} {rel : Hp → List Addr → β → α → Prop} {Wf : Str → Hp → Prop} {I P : Hp} {as : List Addr} {Q : β → Hp → Prop} {r : R α} (s : Sat K rel Wf I as P Q r) : r ≠ .bad := fun e => by
  rw [e] at s
  exact s
theorem impE_lc {K : PySem.W.Frag} {mg : Str → Option Value} {W : WX} {wi : TI} {gi : GI} {is vs : List Nat} {gt : TG} {gg : GG} {tt : TT} {gb : GB} {te : TE} {ge : GE} {fin : List D → List MO → R D} (hf : FinOk K fin) (hs : ∀ j ∈ is, j ∈ vs)
    (hi : ImpI K mg W wi gi) (hg : ImpG K mg W0 is gt gg) (ht : ImpT K mg W0 tt gb) (he : ImpE K mg W0 te ge) : ImpE K mg W (tLc wi gt tt te vs) (gLcG fin gi gg gb ge vs) := by
  intro σ H δ I as M P Q w en s
  refine hi σ H δ I as M P _ w en (Sat.bind s fun it M1 J H1 I1 as1 _ g1 w1 ok s1 => ?_)
  intro Dl hD
  obtain ⟨G, Y, wk, hG, hY⟩ := ok
  obtain ⟨f1, f2, f3⟩ := w1.fresh hD
  have enw := (en.mono g1).wipe vs
  have nb : ∀ {i : Nat} {acc : List D} {M' : List MO} {I' : Hp} {as' : List Addr}, Sat K (Rep K) (fun c H' => lowW mg W c σ H') I' as' P Q ((lcL it.gd gg gb ge (wipeD δ vs) (it.items.drop i) acc M').bind fin) → it.gd M' := fun h => lcL_gd fun e => by
    rw [e] at h
    exact h
  refine lc_it wk (fun i H' => ∃ acc us M' I' as', Gr I1 as1 I' as' ∧ Wr K H' I' as' M' (upd P Dl (.lst us)) ∧ Reps K I' as' us acc ∧ Sat K (Rep K) (fun c H' => lowW mg W c σ H') I' as' P Q ((lcL it.gd gg gb ge (wipeD δ vs) (it.items.drop i) acc M').bind fin))
    ⟨[], [], M1, I1, as1, Gr.refl _ _, w1.newP hD _, .nil, by rw [List.drop_zero]; exact s1⟩ ?_ ?_ ?_
  · rintro i H' hi ⟨acc, us, M', I', as', g', w', r', s'⟩
    exact hG H' I' as' M' _ (PLe.upd f2) g' w' (nb s')
  · rintro i x H' H2 hi ⟨acc, us, M', I', as', g', w', r', s'⟩ y
    have hgd := nb s'
    obtain ⟨I2, d, g2, w2, hd, rd⟩ := hY i x H' H2 I' as' M' _ hi (PLe.upd f2) g' w' hgd y
    have ed : it.items.drop i = d :: it.items.drop (i + 1) := by
      rw [List.drop_eq_getElem_cons hi]
      have := List.getElem?_eq_getElem hi
      rw [hd] at this
      rw [← Option.some.inj this]
    rw [ed] at s'
    unfold lcL at s'
    rw [if_pos hgd] at s'
    refine hg x d (wipe σ vs) H2 (wipeD δ vs) I2 as' M' _ _ w2 (enw.mono (g'.trans g2)) rd ?_
    have s2 := Sat.gr g2 s'
    cases e1 : gg d (wipeD δ vs) M' with
    | nx δ1 M1 =>
      simp only [e1] at s2
      intro σ3 H3 I3 as3 g3 w3 en3 k3
      refine ⟨wipe_kept hs k3, ?_⟩
      refine ht σ3 H3 δ1 I3 as3 M1 _ _ w3 en3 ?_
      have s3 := Sat.gr g3 s2
      cases e2 : gb δ1 M1 with
      | ok b M2 =>
        simp only [e2] at s3
        intro b' H4 I4 as4 g4 w4 eb
        subst eb
        have s4 := Sat.gr g4 s3
        cases b' with
        | true =>
          simp only [if_true] at s4 ⊢
          refine he σ3 H4 δ1 I4 as4 M2 _ _ w4 (en3.mono g4) ?_
          cases e3 : ge δ1 M2 with
          | ok d5 M5 =>
            simp only [e3] at s4
            intro v5 H5 I5 as5 g5 w5 r5
            have s5 := Sat.gr g5 s4
            split at s5
            · rename_i hb
              have ga := (g2.trans (g3.trans (g4.trans g5)))
              have hP := (w5.prv Dl _ upd_same).1
              refine ⟨us, hP, ?_, acc ++ [d5], us ++ [v5], M5, I5, as5, g'.trans ga, ?_, (r'.mono ga).append (.cons r5 .nil), s5⟩
              · rw [r'.len]
                exact Evl.sz_lt hb
              · have z := w5.putP (p := Dl) upd_same (.lst (us ++ [v5]))
                rw [upd_upd] at z
                exact z
            · exact s5.elim
          | bad => simp only [e3] at s4; exact s4.elim
          | ex c M5 => simp only [e3] at s4; exact s4.elim
        | false =>
          simp only [if_neg Bool.false_ne_true] at s4 ⊢
          have ga := (g2.trans (g3.trans g4))
          exact ⟨acc, us, M2, I4, as4, g'.trans ga, w4, r'.mono ga, s4⟩
      | bad => simp only [e2] at s3; exact s3.elim
      | ex c M5 => simp only [e2] at s3; exact s3.elim
    | bad => simp only [e1] at s2; exact s2.elim
    | rt _ _ => simp only [e1] at s2; exact s2.elim
    | bk _ _ => simp only [e1] at s2; exact s2.elim
    | ct _ _ => simp only [e1] at s2; exact s2.elim
    | ex _ _ _ => simp only [e1] at s2; exact s2.elim
  · rintro H' ⟨acc, us, M', I', as', g', w', r', s'⟩
    have hgd := nb s'
    rw [List.drop_length] at s'
    unfold lcL at s'
    rw [if_pos hgd] at s'
    exact hf H' I' as' M' P Dl us acc _ Q f2 w' r' s'
section
variable {X : Cx} {W : WX} {tg iter elt : Expr} {ifs : List Expr} {scope : Scope} {own : List (Str × Nat)} {pos : Pos} {wi : TI} {gi : GI} {is : List Nat} {gt : TG} {gg : GG} {tt : TT} {gb : GB} {te : TE} {ge : GE}
theorem xe_lc (own : List (Str × Nat)) {fin : List D → List MO → R D} (hf : FinOk X.K fin) (hc : X.calm = true) (hN : X.N.Nodup) (hi : XI X W tg iter wi gi) (ok : BlkOk X.N X.env.scope scope own)
    (hg : ∀ (s : Shared) (H : Hp) (C : Addr) (cl : List (Str × Addr)) (fp : List Addr), XG (X.blk s H scope (compEnvC scope cl C X.env) fp) W0 tg is gt gg) (ht : ∀ (s : Shared) (H : Hp) (C : Addr) (cl : List (Str × Addr)) (fp : List Addr), XTs (X.blk s H scope (compEnvC scope cl C X.env) fp) W0 ifs tt gb)
    (he : ∀ (s : Shared) (H : Hp) (C : Addr) (cl : List (Str × Addr)) (fp : List Addr), XE (X.blk s H scope (compEnvC scope cl C X.env) fp) W0 elt te ge) (hsub : ∀ j ∈ is, j ∈ own.map (·.2) := by decide) (hs : ∀ x, foldedSetIterable iter X.env x = pure x := by intro _; rfl) :
    XE X W (.ListComp elt [⟨tg, iter, ifs, 0⟩] scope pos) (tLc wi gt tt te (own.map (·.2))) (gLcG fin gi gg gb ge (own.map (·.2))) :=
  ⟨pe_lc hc hN hi.pe ok (fun s H C cl fp => (hg s H C cl fp).pe) (fun s H C cl fp => (ht s H C cl fp).pe) (fun s H C cl fp => (he s H C cl fp).pe) hs,
    impE_lc hf hsub hi.im (hg X.s_0 X.H_0 0 [] []).im (ht X.s_0 X.H_0 0 [] []).im (he X.s_0 X.H_0 0 [] []).im⟩
/-- name = [..] on one line -/
theorem xs_setLc (i : Nat) {y : Str} {py spos : Pos} (own : List (Str × Nat)) {fin : List D → List MO → R D} (hf : FinOk X.K fin) (hc : X.calm = true) (hN : X.N.Nodup) (hi : XI X W tg iter wi gi) (ok : BlkOk X.N X.env.scope scope own)
    (hg : ∀ (s : Shared) (H : Hp) (C : Addr) (cl : List (Str × Addr)) (fp : List Addr), XG (X.blk s H scope (compEnvC scope cl C X.env) fp) W0 tg is gt gg) (ht : ∀ (s : Shared) (H : Hp) (C : Addr) (cl : List (Str × Addr)) (fp : List Addr), XTs (X.blk s H scope (compEnvC scope cl C X.env) fp) W0 ifs tt gb)
    (he : ∀ (s : Shared) (H : Hp) (C : Addr) (cl : List (Str × Addr)) (fp : List Addr), XE (X.blk s H scope (compEnvC scope cl C X.env) fp) W0 elt te ge)
    (hsw : swapsWith (.ListComp elt [⟨tg, iter, ifs, 0⟩] scope pos) (some (.Name y py)) spos.line X.env = pure true := by exact sw_true rfl rfl rfl (by decide +kernel)) (hy : X.N[i]? = some y := by rfl) (hyl : X.env.scope.names.lookup y = some .local := by rfl)
    (hsub : ∀ j ∈ is, j ∈ own.map (·.2) := by decide) (hs : ∀ x, foldedSetIterable iter X.env x = pure x := by intro _; rfl) :
    XS X W (.Assign [.Name y py] (.ListComp elt [⟨tg, iter, ifs, 0⟩] scope pos) spos) (tAsg (tLc wi gt tt te (own.map (·.2))) (L2.gName i)) (gSet i (gLcG fin gi gg gb ge (own.map (·.2)))) :=
  ⟨ps_setLc hc hN hy hyl hsw hi.pe ok (fun s H C cl fp => (hg s H C cl fp).pe) (fun s H C cl fp => (ht s H C cl fp).pe) (fun s H C cl fp => (he s H C cl fp).pe) hs,
    impS_set (impE_lc hf hsub hi.im (hg X.s_0 X.H_0 0 [] []).im (ht X.s_0 X.H_0 0 [] []).im (he X.s_0 X.H_0 0 [] []).im)⟩
end

/-! ### defs -/
def startD (N : Nat) (ds : List D) : Ctx := ds.map some ++ List.replicate (N - ds.length) none
def fnM (N : Nat) (g : GS) : OC := fun ds M => match g (startD N ds) M with
  | .nx _ M' => .ok .non M'
  | .rt d M' => .ok d M'
  | .ex c _ M' => .ex c M'
  | _ => .bad
theorem envr_start {K : PySem.W.Frag} {I : Hp} {as : List Addr} {N : List Str} {vs : List V} {ds : List D} (r : Reps K I as vs ds) : Envr K I as (L2.start N vs) (startD N.length ds) := by
  have hl := r.len
  refine ⟨by simp [L2.start, startD, hl], fun i d h => ?_⟩
  unfold startD at h
  by_cases hi : i < ds.length
  · rw [List.getElem?_append_left (by simpa using hi), List.getElem?_map] at h
    cases e : ds[i]? with
    | none => rw [e] at h; cases h
    | some d' =>
      rw [e] at h
      have e1 : d' = d := Option.some.inj (Option.some.inj h)
      subst e1
      obtain ⟨v, h1, h2⟩ := r.get e
      refine ⟨v, ?_, h2⟩
      unfold L2.start
      rw [List.getElem?_append_left (by simpa [hl] using hi), List.getElem?_map, h1]
      rfl
  · rw [List.getElem?_append_right (by simpa using hi)] at h
    rw [List.getElem?_replicate] at h
    split at h <;> cases h
section
variable {P : Program} {w : World} {K : PySem.W.Frag} {mg : Str → Option Value} {base : Heap}
theorem fn_okM {x qual : Str} {st : Stmt} {f : Addr} {fd : FuncData} {N ps : List Str} {k : Nat} {g : GS} (F : Fun K x qual st f fd) (S : FnScope N ps (defScope st))
    (hbody : ∀ (cdv : Value) (A : Around) (outer : List Env) (s : Shared) (H : Hp) (E : XK), Room k (A.deeper (envOfC qual (defScope st) s.heap.objs.size f cdv)) →
      Takes (cxOf (L2.CX P w) P w K mg base N qual (defScope st) f cdv A outer s H E) (fun cls d _ H => E cls d H) →
      PassesOwn (model P w) (cxOf (L2.CX P w) P w K mg base N qual (defScope st) f cdv A outer s H E).A (cxOf (L2.CX P w) P w K mg base N qual (defScope st) f cdv A outer s H E).env (cxOf (L2.CX P w) P w K mg base N qual (defScope st) f cdv A outer s H E).xe →
      ∃ t, XSs (cxOf (L2.CX P w) P w K mg base N qual (defScope st) f cdv A outer s H E) (fun cls d _ H => E cls d H) (defBody st) t g) :
    FnOk P w K mg base (L2.CX P w) (k + 1) f fd ps (spM K mg ps.length (fnM N.length g)) := by
  refine F.okX S (fun vs H Q E h => h.1) fun cdv A outer s H vs Q E hr h => ?_
  obtain ⟨hl, ds, I, as, M, P', wr, r, sat⟩ := h
  obtain ⟨t, ht⟩ := hbody cdv A outer s H E hr (takes_of rfl rfl rfl rfl) (passes_of rfl)
  refine ⟨t, ht.pe, ?_⟩
  refine ht.im (L2.start N vs) H (startD N.length ds) I as M P' _ wr (envr_start r) ?_
  unfold fnM at sat
  show SatS K (lowW mg _) I as P' _ _
  cases e : g (startD N.length ds) M with
  | bad => rw [e] at sat; exact sat.elim
  | nx δ1 M1 => rw [e] at sat; exact fun σ' H' I' as' g' w' en' => sat _ H' I' as' g' w' .non
  | rt d M1 => rw [e] at sat; exact fun v H' I' as' g' w' r' => sat _ H' I' as' g' w' r'
  | bk d M1 => rw [e] at sat; exact sat.elim
  | ct d M1 => rw [e] at sat; exact sat.elim
  | ex c d M1 => rw [e] at sat; exact fun σ' H' I' as' g' w' en' => sat H' I' as' g' w'
/-- a promise told otherwise -/
theorem FnOk.m {f : Addr} {fd : FuncData} {ps : List Str} {k n : Nat} {m m' : OC} (F : FnOk P w K mg base (L2.CX P w) k f fd ps (spM K mg n m))
    (h : ∀ (ds : List D) (M : List MO) (H I : Hp) (as : List Addr) (P' : Hp) (Q : VK) (Wf : Str → Hp → Prop), ds.length = n → as.length = M.length → Sat K (Rep K) Wf I as P' Q (m' ds M) → Sat K (Rep K) Wf I as P' Q (m ds M)) : FnOk P w K mg base (L2.CX P w) k f fd ps (spM K mg n m') :=
  F.imp fun vs H Q E ⟨hl, ds, I, as, M, P', wr, r, sat⟩ => ⟨hl, ds, I, as, M, P', wr, r, h ds M H I as P' Q _ (by rw [← r.len]; exact hl) wr.len sat⟩
/-- refined: where m' says something, m says the same -/
theorem Sat.of_eq {α β : Type} {rel : Hp → List Addr → β → α → Prop} {Wf : Str → Hp → Prop} {I P' : Hp} {as : List Addr} {Q : β → Hp → Prop} {r r' : R α} (h : r' ≠ .bad → r = r') (s : Sat K rel Wf I as P' Q r') : Sat K rel Wf I as P' Q r := by
  rw [h (SatT.ne s)]
  exact s
theorem FnOk.toC {x : Str} {f : Addr} {fd : FuncData} {ps : List Str} {k n : Nat} {m : OC} (F : FnOk P w K mg base (L2.CX P w) k f fd ps (spM K mg n m)) (h1 : mg x = some (.ref f)) (h2 : PySem.W.keepIn K (.ref f) = true) (h3 : Binds K fd ps []) (h4 : PySem.W.nsIn K mainGlobals x = some (some (.ref f))) : Callee P w K mg base x k n m :=
  ⟨⟨f, fd, ps, F, h1, h2, h3, h4⟩⟩
end
/-! what nobody can reach any more is dropped -/
mutual
def D.lo (n : Nat) : D → Bool
  | .tup xs => D.los n xs
  | .lst xs => D.los n xs
  | .rol xs => D.los n xs
  | .ref k => decide (k < n)
  | .kdi ks vs => D.los n ks && D.los n vs
  | _ => true
def D.los (n : Nat) : List D → Bool
  | [] => true
  | x :: xs => D.lo n x && D.los n xs
end
def MO.lo (n : Nat) : MO → Bool
  | .lst xs => D.los n xs
  | .dct kvs => D.los n (kvs.map fun p => p.2)
  | .dlk kvs => D.los n (kvs.map fun p => p.2)
  | .kd kvs => D.los n (kvs.map fun p => p.1) && D.los n (kvs.map fun p => p.2)
  | .kdl kvs => D.los n (kvs.map fun p => p.1) && D.los n (kvs.map fun p => p.2)
mutual
theorem Rep.cut {K : PySem.W.Frag} {I : Hp} {as t : List Addr} : ∀ {v : V} {d : D}, Rep K I (as ++ t) v d → D.lo as.length d = true → Rep K I as v d
  | _, _, .non, _ => .non
  | _, _, .bl b, _ => .bl b
  | _, _, .int b, _ => .int b
  | _, _, .str b, _ => .str b
  | _, _, .tup h r, e => .tup h (Reps.cut' r e)
  | _, _, .lst h r, e => .lst h (Reps.cut' r e)
  | _, _, .rol h r, e => .rol h (Reps.cut' r e)
  | _, _, .ref h, e => .ref (by rw [List.getElem?_append_left (of_decide_eq_true e)] at h; exact h)
  | _, _, .obj a, _ => .obj a
  | _, _, .fn h, _ => .fn h
  | _, _, .dct h, _ => .dct h
  | _, _, .kdi h a r, e => .kdi h a (KXs.cut r (by unfold D.lo at e; exact (Bool.and_eq_true _ _ ▸ e).1) (by unfold D.lo at e; exact (Bool.and_eq_true _ _ ▸ e).2))
theorem Reps.cut' {K : PySem.W.Frag} {I : Hp} {as t : List Addr} : ∀ {vs : List V} {ds : List D}, Reps K I (as ++ t) vs ds → D.los as.length ds = true → Reps K I as vs ds
  | _, _, .nil, _ => .nil
  | _, _, .cons h r, e => by
    unfold D.los at e
    rw [Bool.and_eq_true] at e
    exact .cons (Rep.cut h e.1) (Reps.cut' r e.2)
theorem KXs.cut {K : PySem.W.Frag} {I : Hp} {as t : List Addr} : ∀ {xs : List (NestedKey × Addr × Value)} {ks ds : List D}, KXs K I (as ++ t) xs ks ds → D.los as.length ks = true → D.los as.length ds = true → KXs K I as xs ks ds
  | _, _, _, .nil, _, _ => .nil
  | _, _, _, .cons a b c d r, e, f => by
    unfold D.los at e f
    rw [Bool.and_eq_true] at e f
    exact .cons (Rep.cut a e.1) b c (Rep.cut d f.1) (KXs.cut r e.2 f.2)
end
theorem Wr.cut {K : PySem.W.Frag} {H I P : Hp} {as t : List Addr} {M : List MO} (w : Wr K H I (as ++ t) M P) (h : (M.take as.length).all (MO.lo as.length) = true) : Wr K H I as (M.take as.length) P := by
  have hl := w.len
  rw [List.length_append] at hl
  refine ⟨w.sub, by rw [List.length_take]; omega, (List.nodup_append.mp w.nd).1, fun k a o ha ho => ?_, w.prv⟩
  have hk : k < as.length := (List.getElem?_eq_some_iff.mp ha).1
  have ho2 : M[k]? = some o := by
    rw [List.getElem?_take] at ho
    rw [if_pos hk] at ho
    exact ho
  obtain ⟨m1, m2, m3⟩ := w.mu k a o (by rw [List.getElem?_append_left hk]; exact ha) ho2
  refine ⟨m1, m2, ?_⟩
  have hb := List.all_eq_true.mp h o (List.mem_of_getElem? ho)
  cases o with
  | lst xs =>
    obtain ⟨vs, e, r⟩ := m3
    exact ⟨vs, e, r.cut' hb⟩
  | dct xs =>
    obtain ⟨vs, e, e2, r⟩ := m3
    exact ⟨vs, e, e2, r.cut' hb⟩
  | dlk xs =>
    obtain ⟨ob, vs, e, e2, r⟩ := m3
    exact ⟨ob, vs, e, e2, r.cut' hb⟩
  | kd xs =>
    obtain ⟨o, e, ys, e2, r⟩ := m3
    have hb2 := (Bool.and_eq_true _ _ ▸ (show (D.los _ _ && D.los _ _) = true from hb))
    exact ⟨o, e, ys, e2, r.cut hb2.1 hb2.2⟩
  | kdl xs =>
    obtain ⟨ob, o, e, ys, e2, r⟩ := m3
    have hb2 := (Bool.and_eq_true _ _ ▸ (show (D.los _ _ && D.los _ _) = true from hb))
    exact ⟨ob, o, e, ys, e2, r.cut hb2.1 hb2.2⟩
def cutR (n : Nat) : R D → R D
  | .ok d M => if (D.lo n d && (M.take n).all (MO.lo n)) = true then .ok d (M.take n) else .bad
  | .ex c M => if (M.take n).all (MO.lo n) = true then .ex c (M.take n) else .bad
  | .bad => .bad
def cutM (m : OC) : OC := fun ds M => cutR M.length (m ds M)
theorem Sat.cut {K : PySem.W.Frag} {Wf : Str → Hp → Prop} {I P : Hp} {as : List Addr} {Q : VK} {r : R D} {n : Nat} (hn : as.length = n) (s : Sat K (Rep K) Wf I as P Q (cutR n r)) : Sat K (Rep K) Wf I as P Q r := by
  subst hn
  cases r with
  | bad => exact s.elim
  | ok d M =>
    have s2 : Sat K (Rep K) Wf I as P Q (if (D.lo as.length d && (M.take as.length).all (MO.lo as.length)) = true then .ok d (M.take as.length) else .bad) := s
    by_cases hb : (D.lo as.length d && (M.take as.length).all (MO.lo as.length)) = true
    · rw [if_pos hb] at s2
      rw [Bool.and_eq_true] at hb
      rintro v H' I' as' ⟨g1, t, rfl⟩ w' r'
      exact s2 v H' I' as ⟨g1, [], by simp⟩ (w'.cut hb.2) (r'.cut hb.1)
    · rw [if_neg hb] at s2
      exact s2.elim
  | ex c M =>
    have s2 : Sat K (Rep K) Wf I as P Q (if (M.take as.length).all (MO.lo as.length) = true then .ex c (M.take as.length) else .bad) := s
    by_cases hb : (M.take as.length).all (MO.lo as.length) = true
    · rw [if_pos hb] at s2
      rintro H' I' as' ⟨g1, t, rfl⟩ w'
      exact s2 H' I' as ⟨g1, [], by simp⟩ (w'.cut hb)
    · rw [if_neg hb] at s2
      exact s2.elim
section
variable {P : Program} {w : World} {K : PySem.W.Frag} {mg : Str → Option Value} {base : Heap}
theorem FnOk.cut {f : Addr} {fd : FuncData} {ps : List Str} {k n : Nat} {m : OC} (F : FnOk P w K mg base (L2.CX P w) k f fd ps (spM K mg n m)) : FnOk P w K mg base (L2.CX P w) k f fd ps (spM K mg n (cutM m)) :=
  FnOk.m F fun ds M H I as P' Q Wf _ hl s => Sat.cut hl s
/-- .. and told by what it comes to -/
theorem FnOk.re {f : Addr} {fd : FuncData} {ps : List Str} {k n : Nat} {m m' : OC} (F : FnOk P w K mg base (L2.CX P w) k f fd ps (spM K mg n m)) (h : ∀ ds M, ds.length = n → m' ds M ≠ .bad → m ds M = m' ds M) : FnOk P w K mg base (L2.CX P w) k f fd ps (spM K mg n m') :=
  FnOk.m F fun ds M H I as P' Q Wf hd hl s => Sat.of_eq (h ds M hd) s
end
/-! the law's own end -/
theorem law_end {K : PySem.W.Frag} {mg : Str → Option Value} {m : OC} {H : Hp} {a : Addr} {ns : List Int} (hS : SqL K H a (ns.map V.int)) (h : ∃ M, m [.rol (ns.map D.int)] [] = .ok (.bl true) M) :
    spM K mg 1 m [.ref a] H (fun v _ => v = .bl true) fun _ _ _ => False := by
  obtain ⟨M, h⟩ := h
  refine ⟨rfl, [.rol (ns.map D.int)], H, [], [], fun _ => none, ⟨fun _ _ e => e, rfl, List.nodup_nil, fun k a o e => by simp at e, fun a o e => by cases e⟩, .cons (.rol hS (Reps.ints ns rfl)) .nil, ?_⟩
  rw [h]
  intro v H' I' as' g w r
  cases r
  rfl

/-! ### built-ins -/
section
variable {K : PySem.W.Frag} {X : Cx}
def oLen : OC := fun ds M => match ds with
  | [x] => match tupOf x with
    | some xs => .ok (.int (xs.length : Int)) M
    | none => match listOf M x with
      | some xs => .ok (.int (xs.length : Int)) M
      | none => .bad
  | _ => .bad
theorem opc_len : OpC K (fun xs H Q => ∃ p ys, xs = [.ref p] ∧ (SqL K H p ys ∨ SqT K H p ys) ∧ Q (.int ys.length) H) oLen := by
  intro H I as M P xs ds Wf Q w r s
  unfold oLen at s
  split at s
  · obtain ⟨v, rfl, rv⟩ := r.one_inv
    split at s
    · rename_i ys hy
      obtain ⟨a, vs, rfl, h1, r1⟩ := rv.tupl w hy
      exact ⟨a, vs, rfl, .inr h1, by rw [r1.len]; exact s.now w (.int _)⟩
    · split at s
      · rename_i ys hy
        obtain ⟨a, vs, rfl, h1, r1⟩ := rv.list w hy
        exact ⟨a, vs, rfl, .inl h1, by rw [r1.len]; exact s.now w (.int _)⟩
      · exact s.elim
  · exact s.elim
def oInt : OC := fun ds M => match ds with
  | [.int i] => .ok (.int i) M
  | [.bl b] => .ok (.int (if b then 1 else 0)) M
  | _ => .bad
theorem opc_int : OpC K (fun xs H Q => (∃ i, xs = [.int i] ∧ Q (.int i) H) ∨ ∃ k, xs = [.bl k] ∧ Q (.int (if k then 1 else 0)) H) oInt := by
  intro H I as M P xs ds Wf Q w r s
  unfold oInt at s
  split at s
  · obtain ⟨v, rfl, rv⟩ := r.one_inv
    cases rv
    exact .inl ⟨_, rfl, s.now w (.int _)⟩
  · obtain ⟨v, rfl, rv⟩ := r.one_inv
    cases rv
    exact .inr ⟨_, rfl, s.now w (.int _)⟩
  · exact s.elim
def oAbs : OC := fun ds M => match ds with
  | [.int i] => .ok (.int (if i < 0 then -i else i)) M
  | _ => .bad
theorem opc_abs : OpC K (fun xs H Q => ∃ i, xs = [.int i] ∧ Q (.int (if i < 0 then -i else i)) H) oAbs := by
  intro H I as M P xs ds Wf Q w r s
  unfold oAbs at s
  split at s
  · obtain ⟨v, rfl, rv⟩ := r.one_inv
    cases rv
    exact ⟨_, rfl, s.now w (.int _)⟩
  · exact s.elim
def oMin2 : OC := fun ds M => match ds with
  | [.int i, .int j] => .ok (.int (if j < i then j else i)) M
  | _ => .bad
theorem opc_min2 : OpC K (fun xs H Q => ∃ i j, xs = [.int i, .int j] ∧ Q (.int (if j < i then j else i)) H) oMin2 := by
  intro H I as M P xs ds Wf Q w r s
  unfold oMin2 at s
  split at s
  · obtain ⟨v, v2, rfl, rv, rv2⟩ := r.two_inv
    cases rv; cases rv2
    exact ⟨_, _, rfl, s.now w (.int _)⟩
  · exact s.elim
def oGcd : OC := fun ds M => match ds with
  | [.int i, .int j] => .ok (.int ((Nat.gcd i.natAbs j.natAbs : Nat) : Int)) M
  | _ => .bad
theorem opc_gcd : OpC K rGcd oGcd := by
  intro H I as M P xs ds Wf Q w r s
  unfold oGcd at s
  split at s
  · obtain ⟨v, v2, rfl, rv, rv2⟩ := r.two_inv
    cases rv; cases rv2
    exact ⟨_, _, rfl, s.now w (.int _)⟩
  · exact s.elim
/-- lcm of great numbers -/
def CLcm (i j : Int) : Prop := i.natAbs.log2 < 6000 ∧ j.natAbs.log2 < 6000
open Classical in
noncomputable def oLcm : OC := fun ds M => match ds with
  | [.int i, .int j] => if CLcm i j then .ok (.int ((Nat.lcm i.natAbs j.natAbs : Nat) : Int)) M else .bad
  | _ => .bad
def rLcm : List V → Hp → VK → Prop := fun vs H Q => ∃ a b : Int, vs = [.int a, .int b] ∧ CLcm a b ∧ Q (.int ((Nat.lcm a.natAbs b.natAbs : Nat) : Int)) H
theorem log2_lt {n k : Nat} (h : n.log2 < k) : n < 2 ^ k := by
  by_cases h0 : n = 0
  · subst h0; exact Nat.two_pow_pos k
  · exact (Nat.log2_lt h0).mp h
theorem cr_lcm : CallR X (.builtin "math.lcm") rLcm := by
  intro pins s σ H vs us Q I r h
  obtain ⟨a, b, rfl, c, q⟩ := h
  obtain ⟨t, u, rfl⟩ := Vals.int2 r
  unfold CLcm at c
  have ha := log2_lt c.1
  have hb := log2_lt c.2
  have e1 : Nat.lcm 1 a.natAbs = a.natAbs := Nat.lcm_one_left _
  have hz : (Nat.lcm a.natAbs b.natAbs) < 2 ^ 12000 := by
    have h1 : Nat.lcm a.natAbs b.natAbs ≤ a.natAbs * b.natAbs := by
      unfold Nat.lcm
      exact Nat.div_le_self _ _
    exact Nat.lt_of_le_of_lt h1 (Nat.lt_of_lt_of_le (Nat.mul_lt_mul'' ha hb) (by rw [← Nat.pow_add]; exact Nat.le_refl _))
  have hsz : ((((Nat.lcm 1 a.natAbs).lcm b.natAbs : Nat) : Int)).natAbs.log2 < PySem.bitsLine := by
    rw [e1, Int.natAbs_natCast]
    have : (Nat.lcm a.natAbs b.natAbs).log2 < 12000 := PySem.Flt.log2_lt_of (by decide) hz
    have e : PySem.bitsLine = 134217728 := by decide
    omega
  have m1 : (max 1 a.natAbs).log2 ≤ 6000 := by
    rcases Nat.le_total 1 a.natAbs with q | q
    · rw [Nat.max_eq_right q]; omega
    · rw [Nat.max_eq_left q]; decide
  have m2 : (max a.natAbs b.natAbs).log2 ≤ 6000 := by
    rcases Nat.le_total a.natAbs b.natAbs with q | q
    · rw [Nat.max_eq_right q]; omega
    · rw [Nat.max_eq_left q]; omega
  refine PySem.call_function_meets PySem.W.MGF.kind_lcm PySem.W.MGF.plain_lcm PySem.W.MGF.entry_lcm (PySem.W.MGF.args_lcm _ _) (PySem.W.mg_run_lcm a t b u (by omega) (by omega) hsz).meets ?_
  rw [e1]
  exact ⟨.int _, H, I.tok _, ⟨_, rfl⟩, q⟩
theorem opc_lcm : OpC K rLcm oLcm := by
  intro H I as M P xs ds Wf Q w r s
  unfold oLcm at s
  split at s
  · split at s
    · rename_i hc
      obtain ⟨v, v2, rfl, rv, rv2⟩ := r.two_inv
      cases rv; cases rv2
      exact ⟨_, _, rfl, hc, s.now w (.int _)⟩
    · exact s.elim
  · exact s.elim
/-- list(x), tuple(x) -/
def oList : OC := fun ds M => match ds with
  | [x] => match tupOf x with
    | some xs => .ok (.lst xs) M
    | none => match listOf M x with
      | some xs => .ok (.lst xs) M
      | none => .bad
  | _ => .bad
def oListM : OC := fun ds M => match ds with
  | [x] => match tupOf x with
    | some xs => .ok (.ref M.length) (M ++ [.lst xs])
    | none => match listOf M x with
      | some xs => .ok (.ref M.length) (M ++ [.lst xs])
      | none => .bad
  | _ => .bad
abbrev rListC (K : PySem.W.Frag) : List V → Hp → VK → Prop := fun xs H Q => ∃ p ys, xs = [.ref p] ∧ (SqL K H p ys ∨ SqT K H p ys) ∧ ∀ l, H l = none → Q (.ref l) (upd H l (.lst ys))
theorem opc_list : OpC K (rListC K) oList := by
  intro H I as M P xs ds Wf Q w r s
  unfold oList at s
  split at s
  · obtain ⟨v, rfl, rv⟩ := r.one_inv
    split at s
    · rename_i ys hy
      obtain ⟨a, vs, rfl, h1, r1⟩ := rv.tupl w hy
      exact ⟨a, vs, rfl, .inr h1, fun l hl => s.newLst w r1 hl⟩
    · split at s
      · rename_i ys hy
        obtain ⟨a, vs, rfl, h1, r1⟩ := rv.list w hy
        exact ⟨a, vs, rfl, .inl h1, fun l hl => s.newLst w r1 hl⟩
      · exact s.elim
  · exact s.elim
theorem opc_listM : OpC K (rListC K) oListM := by
  intro H I as M P xs ds Wf Q w r s
  unfold oListM at s
  split at s
  · obtain ⟨v, rfl, rv⟩ := r.one_inv
    split at s
    · rename_i ys hy
      obtain ⟨a, vs, rfl, h1, r1⟩ := rv.tupl w hy
      exact ⟨a, vs, rfl, .inr h1, fun l hl => s.newRef w r1 hl⟩
    · split at s
      · rename_i ys hy
        obtain ⟨a, vs, rfl, h1, r1⟩ := rv.list w hy
        exact ⟨a, vs, rfl, .inl h1, fun l hl => s.newRef w r1 hl⟩
      · exact s.elim
  · exact s.elim
def oTuple : OC := fun ds M => match ds with
  | [x] => match tupOf x with
    | some xs => .ok (.tup xs) M
    | none => match listOf M x with
      | some xs => .ok (.tup xs) M
      | none => .bad
  | _ => .bad
abbrev rTupleC (K : PySem.W.Frag) : List V → Hp → VK → Prop := fun xs H Q => ∃ p ys, xs = [.ref p] ∧ ((SqL K H p ys ∧ ∀ l, H l = none → Q (.ref l) (upd H l (.tup ys))) ∨ (SqT K H p ys ∧ Q (.ref p) H))
theorem tupOf_eq {x : D} {xs : List D} (h : tupOf x = some xs) : x = .tup xs := by
  cases x <;> first | (cases h; rfl) | cases h
theorem opc_tuple : OpC K (rTupleC K) oTuple := by
  intro H I as M P xs ds Wf Q w r s
  unfold oTuple at s
  split at s
  · obtain ⟨v, rfl, rv⟩ := r.one_inv
    split at s
    · rename_i ys hy
      have e := tupOf_eq hy
      subst e
      have rv' := rv
      obtain ⟨a, vs, rfl, h1, r1⟩ := rv.tupl w hy
      exact ⟨a, vs, rfl, .inr ⟨h1, s.now w rv'⟩⟩
    · split at s
      · rename_i ys hy
        obtain ⟨a, vs, rfl, h1, r1⟩ := rv.list w hy
        exact ⟨a, vs, rfl, .inl ⟨h1, fun l hl => s.newTup w r1 hl⟩⟩
      · exact s.elim
  · exact s.elim
/-- all, any of a list of flags -/
def bls : List D → Option (List Bool)
  | [] => some []
  | .bl b :: xs => (bls xs).map (b :: ·)
  | _ :: _ => none
theorem Reps.bls {I : Hp} {as : List Addr} : ∀ {vs : List V} {ds : List D} {bs : List Bool}, Reps K I as vs ds → KM.bls ds = some bs → vs = bs.map V.bl
  | _, _, bs, .nil, h => by cases h; rfl
  | _, _, bs, .cons (d := d) (ds := ds) r rr, h => by
    cases d with
    | bl b =>
      unfold KM.bls at h
      cases e : KM.bls ds with
      | none => rw [e] at h; cases h
      | some cs =>
        rw [e] at h
        cases h
        cases r
        rw [Reps.bls rr e]
        rfl
    | _ => cases h
def oAll : OC := fun ds M => match ds with
  | [x] => match listOf M x with
    | some xs => match bls xs with
      | some bs => .ok (.bl (bs.all id)) M
      | none => .bad
    | none => .bad
  | _ => .bad
def oAny : OC := fun ds M => match ds with
  | [x] => match listOf M x with
    | some xs => match bls xs with
      | some bs => .ok (.bl (bs.any id)) M
      | none => .bad
    | none => .bad
  | _ => .bad
theorem opc_all : OpC K (rAll K) oAll := by
  intro H I as M P xs ds Wf Q w r s
  unfold oAll at s
  split at s
  · obtain ⟨v, rfl, rv⟩ := r.one_inv
    split at s
    · rename_i ys hy
      split at s
      · rename_i bs hb
        obtain ⟨a, vs, rfl, h1, r1⟩ := rv.list w hy
        exact ⟨a, bs, rfl, by rw [← r1.bls hb]; exact h1, s.now w (.bl _)⟩
      · exact s.elim
    · exact s.elim
  · exact s.elim
theorem opc_any : OpC K (rAny K) oAny := by
  intro H I as M P xs ds Wf Q w r s
  unfold oAny at s
  split at s
  · obtain ⟨v, rfl, rv⟩ := r.one_inv
    split at s
    · rename_i ys hy
      split at s
      · rename_i bs hb
        obtain ⟨a, vs, rfl, h1, r1⟩ := rv.list w hy
        exact ⟨a, bs, rfl, by rw [← r1.bls hb]; exact h1, s.now w (.bl _)⟩
      · exact s.elim
    · exact s.elim
  · exact s.elim
end

end KM
set_option Elab.async false
set_option linter.all false
set_option maxRecDepth 100000
set_option maxHeartbeats 2000000
namespace KM
open PySem L2 PySem.Spec PyProof.Rows
theorem tuple_mul0 (l : Addr) (items : Array Value) (n : Nat) (dd : Option Addr) (sl : Array (Option Value)) (u : Tok) (hne : items.isEmpty = false) :
    Meets (Builtin.«tuple.__mul__» ⟨[.ref l, .int 0 u], []⟩) (fun _ R s => s.heap.get? l = some { cls := .type "tuple", dict := dd, data := .seq items n, slots := sl } ∧
      R (.ok (.ret (Value.ref s.heap.objs.size))) { s with heap := s.heap.push { cls := Value.type "tuple", data := Data.seq #[] }, toks := s.toks }) :=
  .of_wp fun prog w A R s h => by
    obtain ⟨hp, g, d, tk, os⟩ := s
    obtain ⟨hl, h⟩ := h
    have f1 := AutoSeq1.idx_int
    wp_walk using wpAny_loadPart' hl
    exact ⟨_, rfl, h⟩
theorem tuple_mul1 (l : Addr) (items : Array Value) (n : Nat) (dd : Option Addr) (sl : Array (Option Value)) (u : Tok) :
    Meets (Builtin.«tuple.__mul__» ⟨[.ref l, .int 1 u], []⟩) (fun _ R s => s.heap.get? l = some { cls := .type "tuple", dict := dd, data := .seq items n, slots := sl } ∧
      R (.ok (.ret (Value.ref l))) { s with heap := s.heap, toks := s.toks }) :=
  .of_wp fun prog w A R s h => by
    obtain ⟨hp, g, d, tk, os⟩ := s
    obtain ⟨hl, h⟩ := h
    have f1 := AutoSeq1.idx_int
    wp_walk using wpAny_loadPart' hl
    exact ⟨_, rfl, h⟩
section
variable {X : Cx}
def rRep0 (K : PySem.W.Frag) : R2 := fun x y H Q => ∃ l xs, x = .ref l ∧ y = .int 0 ∧ SqT K H l xs ∧ xs ≠ [] ∧ ∀ p, H p = none → Q (.ref p) (upd H p (.tup []))
def rRep1 (K : PySem.W.Frag) : R2 := fun x y H Q => ∃ l xs, x = .ref l ∧ y = .int 1 ∧ SqT K H l xs ∧ Q (.ref l) H
theorem op_rep0 : OpR X (binaryOp .Mult) (rRep0 X.K) := by
  intro pins s σ H x y v u Q I rx ry h
  obtain ⟨l, xs, rfl, rfl, hT, hne, q⟩ := h
  cases rx
  obtain ⟨t, rfl⟩ := ry
  obtain ⟨its, r, ⟨⟨cls, dd, data, sl⟩, ho, hc, n, hd⟩, hs⟩ := I.tuple hT
  simp only at hc hd
  subst hc hd
  have hle : its.length = xs.length := r.length.symm
  have hn : its ≠ [] := fun e => hne (by
    rw [e] at hle
    exact List.eq_nil_of_length_eq_zero hle.symm)
  have hi : its.toArray.isEmpty = false := by
    cases its with
    | nil => exact absurd rfl hn
    | cons a b => rfl
  refine wpAny_binaryOp_repeat_ref (T := "tuple") (U := "int") (by decide) ⟨_, ho, rfl⟩ (fun s' => typeIs_int s' 0 t) noFill_tuple_mul F.fills_int_mul F.slot_int_rmul repeat_tuple F.slot_int_index.lookup
    (call_meets F.slot_int_rmul (typeIs_int s 0 t) F.entry_int_rmul (F.args_int_rmul_2 _ _) (int_rmul_tuple 0 t l its.toArray n dd sl)
      ⟨ho, rfl, ⟨_, ho, rfl⟩, call_meets F.slot_tuple_mul ⟨_, ho, rfl⟩ F.entry_tuple_mul (F.args_tuple_mul_2 _ _) (tuple_mul0 l its.toArray n dd sl t hi) ⟨ho, ?_⟩⟩)
  refine ⟨.ref s.heap.objs.size, _, I.laid (t' := s.toks) (o := .tup []) (fun b ob q => Heap.get?_push_of_some _ q) (Nat.le_refl _) ?_, rfl, q _ (I.hok.fresh (Nat.le_refl _))⟩
  exact ⟨Nat.zero_le _, [], .nil, IsTup.new _ _⟩
theorem op_rep1 : OpR X (binaryOp .Mult) (rRep1 X.K) := by
  intro pins s σ H x y v u Q I rx ry h
  obtain ⟨l, xs, rfl, rfl, hT, q⟩ := h
  cases rx
  obtain ⟨t, rfl⟩ := ry
  obtain ⟨its, r, ⟨⟨cls, dd, data, sl⟩, ho, hc, n, hd⟩, hs⟩ := I.tuple hT
  simp only at hc hd
  subst hc hd
  refine wpAny_binaryOp_repeat_ref (T := "tuple") (U := "int") (by decide) ⟨_, ho, rfl⟩ (fun s' => typeIs_int s' 1 t) noFill_tuple_mul F.fills_int_mul F.slot_int_rmul repeat_tuple F.slot_int_index.lookup
    (call_meets F.slot_int_rmul (typeIs_int s 1 t) F.entry_int_rmul (F.args_int_rmul_2 _ _) (int_rmul_tuple 1 t l its.toArray n dd sl)
      ⟨ho, rfl, ⟨_, ho, rfl⟩, call_meets F.slot_tuple_mul ⟨_, ho, rfl⟩ F.entry_tuple_mul (F.args_tuple_mul_2 _ _) (tuple_mul1 l its.toArray n dd sl t) ⟨ho, ?_⟩⟩)
  exact ⟨.ref l, H, I, rfl, q⟩
def rMulA (K : PySem.W.Frag) : R2 := fun x y H Q => rI CMulB (fun i j => .int (i * j)) x y H Q ∨ rRepT K x y H Q ∨ rRep0 K x y H Q ∨ rRep1 K x y H Q ∨ rRep x y H Q
theorem op_mulA : OpR X (binaryOp .Mult) (rMulA X.K) := op_mulG.or (op_repT.or (op_rep0.or (op_rep1.or op_rep)))
end
open Classical in
noncomputable def oMul : OD := fun x y M => match x, y with
  | .int i, .int j => if CMulB i j then .ok (.int (i * j)) M else .bad
  | .tup xs, .int k => if xs ≠ [] ∧ 0 ≤ k ∧ k ≤ 1000 ∧ xs.length ≤ 1000 then .ok (.tup (List.replicate k.toNat xs).flatten) M else .bad
  | x, .int k => match listOfT M x with
    | some xs => if 0 ≤ k ∧ k ≤ 1000 ∧ xs.length ≤ 100 then .ok (.lst (List.replicate k.toNat xs).flatten) M else .bad
    | none => .bad
  | _, _ => .bad
/- the same, the new list one that may change -/
open Classical in
noncomputable def oMulM : OD := fun x y M => match y with
  | .int k => match listOfT M x with
    | some xs => if 0 ≤ k ∧ k ≤ 1000 ∧ xs.length ≤ 100 then .ok (.ref M.length) (M ++ [.lst (List.replicate k.toNat xs).flatten]) else .bad
    | none => .bad
  | _ => .bad
theorem opd_mul {K : PySem.W.Frag} : OpD K (rMulA K) oMul := by
  intro H I as M P x y d e Wf Q w rx ry s
  unfold oMul at s
  split at s
  · split at s
    · rename_i c
      cases rx; cases ry
      exact .inl ⟨_, _, rfl, rfl, c, s.now w (.int _)⟩
    · exact s.elim
  · rename_i xs k
    split at s
    · rename_i c
      obtain ⟨c1, c2, c3, c4⟩ := c
      cases ry
      have rx' := rx
      obtain ⟨a, vs, rfl, h1, r1⟩ := rx.tupl w rfl
      have hne : vs ≠ [] := fun e => by
        subst e
        cases r1
        exact c1 rfl
      by_cases h0 : k = 0
      · subst h0
        exact .inr (.inr (.inl ⟨a, vs, rfl, rfl, h1, hne, fun p hp => s.newTup w .nil hp⟩))
      · by_cases h2 : k = 1
        · subst h2
          refine .inr (.inr (.inr (.inl ⟨a, vs, rfl, rfl, h1, ?_⟩)))
          refine s.now w ?_
          rw [show ((1 : Int).toNat) = 1 from rfl, List.replicate_one, List.flatten_cons, List.flatten_nil, List.append_nil]
          exact rx'
        · refine .inr (.inl ⟨a, k, vs, rfl, rfl, h1, hne, by omega, c3, by rw [r1.len]; exact c4, fun p hp => s.newTup w (r1.rep _) hp⟩)
    · exact s.elim
  · split at s
    · rename_i xs hx
      split at s
      · rename_i c
        obtain ⟨c2, c3, c4⟩ := c
        cases ry
        obtain ⟨a, vs, rfl, h1, r1⟩ := rx.listT w hx
        refine .inr (.inr (.inr (.inr ⟨a, _, vs, rfl, rfl, h1, by omega, by omega, ?_, fun p hp => s.newLst w (r1.rep _) hp⟩)))
        rw [r1.len]
        exact Evl.sz_of (Nat.le_trans (Nat.mul_le_mul c4 (by omega : _ ≤ 1000)) (by decide))
      · exact s.elim
    · exact s.elim
  · exact s.elim
theorem opd_mulM {K : PySem.W.Frag} : OpD K (rMulA K) oMulM := by
  intro H I as M P x y d e Wf Q w rx ry s
  unfold oMulM at s
  split at s
  · split at s
    · rename_i xs hx
      split at s
      · rename_i c
        obtain ⟨c2, c3, c4⟩ := c
        cases ry
        obtain ⟨a, vs, rfl, h1, r1⟩ := rx.listT w hx
        refine .inr (.inr (.inr (.inr ⟨a, _, vs, rfl, rfl, h1, by omega, by omega, ?_, fun p hp => s.newRef w (r1.rep _) hp⟩)))
        rw [r1.len]
        exact Evl.sz_of (Nat.le_trans (Nat.mul_le_mul c4 (by omega : _ ≤ 1000)) (by decide))
      · exact s.elim
    · exact s.elim
  · exact s.elim
/-! the other operators -/
def oSub : OD := oI2 fun i j => .int (i - j)
noncomputable def oDiv : OD := oI2c CDivB fun i j => .int (i / j)
noncomputable def oMod : OD := oI2c CModB fun i j => .int (i % j)
noncomputable def oPow : OD := oI2c CPowB fun i j => .int (i ^ j.toNat)
def oLt : OD := oI2 fun i j => .bl (decide (i < j))
def oLe : OD := oI2 fun i j => .bl (decide (i ≤ j))
def oGt : OD := oI2 fun i j => .bl (decide (j < i))
def oGe : OD := oI2 fun i j => .bl (decide (j ≤ i))
section
variable {K : PySem.W.Frag}
theorem opd_sub : OpD K (rI0 fun i j => .int (i - j)) oSub := opd_I0 fun _ _ _ _ => .int _
theorem opd_lt : OpD K (rI0 fun i j => .bl (decide (i < j))) oLt := opd_I0 fun _ _ _ _ => .bl _
theorem opd_le : OpD K (rI0 fun i j => .bl (decide (i ≤ j))) oLe := opd_I0 fun _ _ _ _ => .bl _
theorem opd_gt : OpD K (rI0 fun i j => .bl (decide (j < i))) oGt := opd_I0 fun _ _ _ _ => .bl _
theorem opd_ge : OpD K (rI0 fun i j => .bl (decide (j ≤ i))) oGe := opd_I0 fun _ _ _ _ => .bl _
theorem opd_div : OpD K (rI CDivW fun i j => .int (i / j)) oDiv := opd_I (fun i j h => h) fun _ _ _ _ => .int _
theorem opd_mod : OpD K (rI (fun _ j => 0 < j) fun i j => .int (i % j)) oMod := opd_I (fun i j h => h) fun _ _ _ _ => .int _
theorem opd_pow : OpD K (rI CPow fun i j => .int (i ^ j.toNat)) oPow := opd_I (fun i j h => ⟨h.1.1, h.1.2, h.2⟩) fun _ _ _ _ => .int _
end
/-! in, over flat things -/
def flD : D → Option V
  | .non => some .non
  | .bl b => some (.bl b)
  | .int i => some (.int i)
  | .str s => some (.str s)
  | _ => none
def flDs : List D → Option (List V)
  | [] => some []
  | x :: xs => match flD x, flDs xs with
    | some v, some vs => some (v :: vs)
    | _, _ => none
def inD (x : D) (y : D) (M : List MO) : Option Bool := match flD x with
  | some v => match (match tupOf y with
      | some xs => flDs xs
      | none => match listOf M y with
        | some xs => flDs xs
        | none => none) with
    | some vs => if (flatV v && vs.all flatV) = true then some (inV v vs) else none
    | none => none
  | none => none
def oIn : OD := fun x y M => match inD x y M with
  | some b => .ok (.bl b) M
  | none => .bad
def oNotIn : OD := fun x y M => match inD x y M with
  | some b => .ok (.bl (!b)) M
  | none => .bad
section
variable {K : PySem.W.Frag} {H I P : Hp} {as : List Addr} {M : List MO}
theorem Rep.fl {v u : V} {d : D} (r : Rep K I as v d) (h : flD d = some u) : v = u := by
  cases r <;> first | (cases h; rfl) | cases h
theorem Reps.fl : ∀ {vs us : List V} {ds : List D}, Reps K I as vs ds → flDs ds = some us → vs = us
  | _, _, _, .nil, h => by cases h; rfl
  | _, us, _, .cons (d := d) (ds := ds) r rr, h => by
    unfold flDs at h
    cases e : flD d with
    | none => rw [e] at h; cases h
    | some v =>
      cases e2 : flDs ds with
      | none => rw [e, e2] at h; cases h
      | some ws =>
        rw [e, e2] at h
        cases h
        rw [r.fl e, Reps.fl rr e2]
theorem inD_ok (w : Wr K H I as M P) {x y : V} {d e : D} {b : Bool} (rx : Rep K I as x d) (ry : Rep K I as y e) (h : inD d e M = some b) : ∃ p xs, y = .ref p ∧ (SqL K H p xs ∨ SqT K H p xs) ∧ flatV x = true ∧ xs.all flatV = true ∧ inV x xs = b := by
  unfold inD at h
  split at h
  · rename_i v hv
    have e1 := rx.fl hv
    subst e1
    split at h
    · rename_i vs hvs
      split at h
      · rename_i c
        rw [Bool.and_eq_true] at c
        cases h
        split at hvs
        · rename_i xs hx
          obtain ⟨a, us, rfl, h1, r1⟩ := ry.tupl w hx
          rw [r1.fl hvs] at h1
          exact ⟨a, vs, rfl, .inr h1, c.1, c.2, rfl⟩
        · split at hvs
          · rename_i xs hx
            obtain ⟨a, us, rfl, h1, r1⟩ := ry.list w hx
            rw [r1.fl hvs] at h1
            exact ⟨a, vs, rfl, .inl h1, c.1, c.2, rfl⟩
          · cases hvs
      · cases h
    · cases h
  · cases h
theorem opd_in : OpD K (rIn K false) oIn := by
  intro H I as M P x y d e Wf Q w rx ry s
  unfold oIn at s
  split at s
  · rename_i b hb
    obtain ⟨p, xs, rfl, h1, h2, h3, rfl⟩ := inD_ok w rx ry hb
    exact ⟨p, xs, rfl, h1, h2, h3, by rw [if_neg Bool.false_ne_true]; exact s.now w (.bl _)⟩
  · exact s.elim
theorem opd_notIn : OpD K (rIn K true) oNotIn := by
  intro H I as M P x y d e Wf Q w rx ry s
  unfold oNotIn at s
  split at s
  · rename_i b hb
    obtain ⟨p, xs, rfl, h1, h2, h3, rfl⟩ := inD_ok w rx ry hb
    exact ⟨p, xs, rfl, h1, h2, h3, by rw [if_pos rfl]; exact s.now w (.bl _)⟩
  · exact s.elim
end
/-! isinstance(x, T) -/
def tyN : D → Option String
  | .non => some "NoneType"
  | .bl _ => some "bool"
  | .int _ => some "int"
  | .str _ => some "str"
  | .tup _ => some "tuple"
  | .lst _ => some "list"
  | .rol _ => some "list"
  | .ref _ => some "list"
  | .obj _ => none
  | .fn _ => none
  | .dct => some "dict"
  | .kdi _ _ => none
def isiB (a T : String) : Bool := a == T || (a == "bool" && T == "int")
def tyOk (T : String) : Bool := ["NoneType", "bool", "int", "str", "tuple", "list", "dict"].all fun a => kitB a T == some (isiB a T)
def tyM (M : List MO) (d : D) : Option String := match d with
  | .ref k => match M[k]? with
    | some (.lst _) => some "list"
    | _ => none
  | d => tyN d
def oIsi (T : String) : OU := fun x M => match tyM M x with
  | some a => if tyOk T = true then .ok (.bl (isiB a T)) M else .bad
  | none => .bad
theorem Rep.ty {K : PySem.W.Frag} {H I P : Hp} {as : List Addr} {M : List MO} (w : Wr K H I as M P) {v : V} {d : D} {a : String} (r : Rep K I as v d) (h : tyM M d = some a) : TyX K H v (.type a) ∧ a ∈ ["NoneType", "bool", "int", "str", "tuple", "list", "dict"] := by
  have lst : ∀ {p : Addr} {xs : List V}, SqL K H p xs → TyX K H (.ref p) (.type "list") := fun {p xs} hl => by
    rcases hl with (h | ⟨o, h⟩) | ⟨o, its, n, h, c, _⟩
    · exact .base (.lst h)
    · exact .base (.frz h)
    · exact .kList h c
  cases r with
  | non => cases h; exact ⟨.base .non, by decide⟩
  | bl b => cases h; exact ⟨.base (.bl b), by decide⟩
  | int b => cases h; exact ⟨.base (.int b), by decide⟩
  | str b => cases h; exact ⟨.base (.str b), by decide⟩
  | tup h1 h2 =>
    cases h
    refine ⟨?_, by decide⟩
    rcases w.seqT h1 with (h | ⟨o, h⟩) | ⟨o, its, n, h, c, _⟩
    · exact .base (.tup h)
    · exact .fTuple h
    · exact .kTuple h c
  | lst h1 h2 => cases h; exact ⟨lst (.of (w.sub _ _ h1)), by decide⟩
  | rol h1 h2 => cases h; exact ⟨lst (w.seqL h1), by decide⟩
  | @ref k p h1 =>
    obtain ⟨o, ho, _, _, m⟩ := w.at h1
    unfold tyM at h
    cases o with
    | dct kvs => simp [ho] at h
    | dlk kvs => simp [ho] at h
    | kd kvs => simp [ho] at h
    | kdl kvs => simp [ho] at h
    | lst xs =>
      simp only [ho] at h
      cases h
      exact ⟨lst (.of m.choose_spec.1), by decide⟩
  | obj a => cases h
  | fn _ => cases h
  | kdi h1 h2 h3 => cases h
  | dct h1 => cases h; exact ⟨.base (.dK (w.sub _ _ h1)), by decide⟩
section
variable {X : Cx} {W : WX} {e : Expr} {pos p p2 : Pos} {te : TE} {ge : GE}
theorem xe_isi {T : String} {y : Str} (hm : X.mg "isinstance" = none) (hm2 : X.mg y = none) (hv2 : bootBuiltins y = some (.type T)) (he : XE X W e te ge) (hg : Gl X "isinstance" := by rfl) (hg2 : Gl X y := by rfl) (hn2 : y ≠ "__name__" := by decide) (hd2 : (y == ("__debug__" : Str)) = false := by decide)
    (h1 : starEach [e, .Name y p2] X.env = (false, eval e X.env) :: starEach [.Name y p2] X.env := by rfl) (h2 : starEach [.Name y p2] X.env = (false, eval (.Name y p2) X.env) :: starEach [] X.env := by rfl) (hpl : (backTo pos (starEach [.Name y p2] X.env)).any (·.1) = false := by rfl) :
    XE X W (.Call (.Name "isinstance" p) [e, .Name y p2] [] pos) (tCB (rIsi X.K) (tCons te (tCons (tC (.ty T)) tNil))) (gUn (oIsi T) ge) := by
  refine ⟨pe_callB call_isi hg hm PyProof.Rows.boot_isinstance (pa_cons he.pe (pa_cons (pe_bltn hg2 hm2 hv2 rfl hn2 hd2) pa_nil h2) h1) (by decide) (by decide) h1 hpl, fun σ H δ I as M P Q w en s => ?_⟩
  refine he.im σ H δ I as M P _ w en (Sat.bind s fun d M1 v H1 I1 as1 _ g1 w1 r1 s1 => ?_)
  unfold oIsi at s1
  split at s1
  · rename_i a ha
    split at s1
    · rename_i hT
      obtain ⟨t1, t2⟩ := r1.ty w1 ha
      have hk := List.all_eq_true.mp hT a t2
      exact ⟨v, .ty T, .type a, .type T, isiB a T, rfl, .ty T, t1, kit_ty (by simpa using hk), s1.now w1 (.bl _)⟩
    · exact s1.elim
  · exact s1.elim
end
/-! methods of lists -/
abbrev OM := D → List D → List MO → R D
def OpM (K : PySem.W.Frag) (r : V → List V → Hp → VK → Prop) (o : OM) : Prop := ∀ (H I : Hp) (as : List Addr) (M : List MO) (P : Hp) (x : V) (xs : List V) (d : D) (ds : List D) (Wf : Str → Hp → Prop) (Q : VK),
  Wr K H I as M P → Rep K I as x d → Reps K I as xs ds → Sat K (Rep K) Wf I as P Q (o d ds M) → r x xs H Q
def gBM (o : OM) (ga : GE) (g : GA) : GE := fun δ M => (ga δ M).bind fun x M1 => match listOf M1 x with
  | some _ => (g δ M1).bind fun ds M2 => o x ds M2
  | none => .bad
section
variable {K : PySem.W.Frag} {mg : Str → Option Value} {W : WX} {to : TE} {go : GE} {t : TA} {g : GA}
theorem impE_BM {r : V → List V → Hp → VK → Prop} {o : OM} (ho : OpM K r o) (h1 : ImpE K mg W to go) (h2 : ImpA K mg W t g) : ImpE K mg W (tBM K "list" r to t) (gBM o go g) := by
  intro σ H δ I as M P Q w en s
  refine h1 σ H δ I as M P _ w en (Sat.bind s fun d M1 v H1 I1 as1 _ g1 w1 r1 s1 => ?_)
  split at s1
  · rename_i xs hx
    have r1' := r1
    obtain ⟨a, vs, rfl, hl, rr⟩ := r1.list w1 hx
    refine ⟨.inl ⟨rfl, vs, hl⟩, ?_⟩
    refine h2 σ H1 δ I1 as1 M1 P _ w1 (en.mono g1) (Sat.bind s1 fun ds M2 us H2 I2 as2 _ g2 w2 r2 s2 => ?_)
    exact ho H2 I2 as2 M2 P _ us d ds _ Q w2 (r1'.mono g2) r2 s2
  · exact s1.elim
open Classical in
noncomputable def oAppend : OM := fun x ds M => match x, ds with
  | .ref k, [d] => match M[k]? with
    | some (.lst xs) => if bigS xs.length then .ok .non (M.set k (.lst (xs ++ [d]))) else .bad
    | _ => .bad
  | _, _ => .bad
theorem opm_append : OpM K rAppend oAppend := by
  intro H I as M P x xs d ds Wf Q w rx rs s
  unfold oAppend at s
  split at s
  · rename_i k d1
    cases rx with
    | @ref _ a h1 =>
      obtain ⟨o, ho, _, fr, m⟩ := w.at h1
      cases o with
      | dct kvs => simp only [ho] at s; exact s.elim
      | dlk kvs => simp only [ho] at s; exact s.elim
      | kd kvs => simp only [ho] at s; exact s.elim
      | kdl kvs => simp only [ho] at s; exact s.elim
      | lst ys =>
        simp only [ho] at s
        split at s
        · rename_i hb
          obtain ⟨v, rfl, rv⟩ := rs.one_inv
          obtain ⟨vs, e1, rr⟩ := m
          refine ⟨a, vs, v, rfl, rfl, e1, by rw [rr.len]; exact Evl.sz_lt hb, ?_⟩
          exact s _ _ I as (Gr.refl _ _) (w.put h1 fr _ _ ⟨_, upd_same, rr.append (.cons rv .nil)⟩) .non
        · exact s.elim
  · exact s.elim
/- xs.pop(i), 0 ≤ i -/
open Classical in
noncomputable def oPopAt : OM := fun x ds M => match x, ds with
  | .ref k, [.int i] => match M[k]? with
    | some (.lst xs) => if 0 ≤ i ∧ i < 1000 then (match xs[i.toNat]? with
      | some d => .ok d (M.set k (.lst (xs.eraseIdx i.toNat)))
      | none => .bad) else .bad
    | _ => .bad
  | _, _ => .bad
theorem opm_popAt : OpM K rPopAt oPopAt := by
  intro H I as M P x xs d ds Wf Q w rx rs s
  unfold oPopAt at s
  split at s
  · rename_i k i
    cases rx with
    | @ref _ a h1 =>
      obtain ⟨o, ho, _, fr, m⟩ := w.at h1
      cases o with
      | dct kvs => simp only [ho] at s; exact s.elim
      | dlk kvs => simp only [ho] at s; exact s.elim
      | kd kvs => simp only [ho] at s; exact s.elim
      | kdl kvs => simp only [ho] at s; exact s.elim
      | lst ys =>
        simp only [ho] at s
        split at s
        · rename_i hb
          split at s
          · rename_i d2 hd
            obtain ⟨v, rfl, rv⟩ := rs.one_inv
            cases rv
            obtain ⟨vs, e1, rr⟩ := m
            obtain ⟨y, hy, ry⟩ := rr.get hd
            have hlt : i.toNat < vs.length := (List.getElem?_eq_some_iff.mp hy).1
            refine ⟨a, vs, i, i.toNat, y, rfl, rfl, e1, by omega, by omega, ?_, hy, ?_⟩
            · unfold seqIndex?
              simp only [show ¬ i < 0 by omega, if_false]
              first
                | (rw [if_pos (by omega)])
                | (simp; omega)
            · exact s _ _ I as (Gr.refl _ _) (w.put h1 fr _ _ ⟨_, upd_same, rr.eraseIdx _⟩) (ry.mono (Gr.refl _ _))
          · exact s.elim
        · exact s.elim
  · exact s.elim
/-- xs.index(x), x one of the ints xs -/
def intsD : List D → Option (List Int)
  | [] => some []
  | .int i :: xs => (intsD xs).map (i :: ·)
  | _ :: _ => none
def oIndex : OM := fun x ds M => match ds with
  | [.int i] => match listOf M x with
    | some xs => match intsD xs with
      | some ns => match ns.findIdx? (· == i) with
        | some j => .ok (.int (j : Int)) M
        | none => .bad
      | none => .bad
    | none => .bad
  | _ => .bad
theorem Reps.intsD {I : Hp} {as : List Addr} : ∀ {vs : List V} {ds : List D} {ns : List Int}, Reps K I as vs ds → KM.intsD ds = some ns → vs = ns.map V.int
  | _, _, ns, .nil, h => by cases h; rfl
  | _, _, ns, .cons (d := d) (ds := ds) r rr, h => by
    cases d with
    | int b =>
      unfold KM.intsD at h
      cases e : KM.intsD ds with
      | none => rw [e] at h; cases h
      | some cs =>
        rw [e] at h
        cases h
        cases r
        rw [Reps.intsD rr e]
        rfl
    | _ => cases h
end
end KM
set_option Elab.async false
set_option linter.all false
set_option maxRecDepth 100000
set_option maxHeartbeats 2000000
namespace KM
open PySem L2 PySem.Spec PyProof.Rows
section
variable {X : Cx} {W : WX} {tg e : Expr} {te : TE} {ge : GE}
theorem pi_or {wi wj : TI} (h : PI X tg e wi) (k : PI X tg e wj) : PI X tg e (fun σ H R => wi σ H R ∨ wj σ H R) := ⟨fun pins s σ H R I x => x.elim (h.run pins s σ H R I) (k.run pins s σ H R I)⟩
/-- a list or a tuple -/
def giSeq (ge : GE) : GI := fun δ M => (ge δ M).bind fun x M1 => match tupOf x with
  | some xs => .ok (itT xs) M1
  | none => match listOf M1 x with
    | some xs => .ok ⟨xs, gdOf x xs⟩ M1
    | none => .bad
theorem xi_seq (h : XE X W e te ge) : XI X W tg e (fun σ H R => iTup X.K te σ H R ∨ iList X.K te σ H R) (giSeq ge) := by
  refine ⟨pi_or (pi_tup h.pe) (pi_list h.pe), fun σ H δ I as M P Q w en s => ?_⟩
  unfold giSeq at s
  cases e1 : ge δ M with
  | bad => rw [e1] at s; exact s.elim
  | ex c M1 =>
    refine .inl ((xi_tup (tg := tg) h).im σ H δ I as M P Q w en ?_)
    unfold giTup
    rw [e1] at s ⊢
    exact s
  | ok x M1 =>
    rw [e1] at s
    simp only [R.bind_ok] at s
    cases e2 : tupOf x with
    | some xs =>
      refine .inl ((xi_tup (tg := tg) h).im σ H δ I as M P Q w en ?_)
      unfold giTup
      rw [e1]
      simp only [R.bind_ok, e2] at s ⊢
      exact s
    | none =>
      refine .inr ((xi_list (tg := tg) h).im σ H δ I as M P Q w en ?_)
      unfold giList
      rw [e1]
      simp only [R.bind_ok, e2] at s ⊢
      exact s
variable {o : Expr} {es : List Expr} {to : TE} {t : TA} {go : GE} {g : GA} {cpos apos : Pos} {name : Str} {id : String} {r : V → List V → Hp → VK → Prop} {om : OM}
theorem xe_bm (slot : Slot "list" name id) (hty : typeOf (.builtin id) = pure (.type "method_descriptor")) (hm : MtR X id r) (hd : OpM X.K r om) (ho : XE X W o to go) (ha : XA X W (e :: es) t g)
    (hbase : attributeBase o name X.env (eval o X.env) = eval o X.env := by rfl)
    (hfew : ((backTo cpos (starEach (e :: es) X.env)).all (fun x => !x.1) && (backToKw cpos (keywordEach [] X.env)).all (fun x => x.1.isSome)
      && decide ((e :: es).length + ([] : List Keyword).length + (if ([] : List Keyword).isEmpty then 0 else 1) < 30)) = true := by rfl)
    (hline : (apos.endLine == cpos.line) = true := by rfl) (hs : starEach (e :: es) X.env = (false, eval e X.env) :: starEach es X.env := by rfl) (hplain : (backTo cpos (starEach es X.env)).any (·.1) = false := by rfl) :
    XE X W (.Call (.Attribute o name apos) (e :: es) [] cpos) (tBM X.K "list" r to t) (gBM om go g) :=
  ⟨pe_bm PySem.F.plainAttrs_list slot hty hm ho.pe ha.pe hbase hfew hline hs hplain, impE_BM hd ho.im ha.im⟩
theorem eqV_int (i j : Int) : eqV (.int i) (.int j) = (i == j) := by
  first
    | rfl
    | simp [eqV]
theorem opm_index {K : PySem.W.Frag} : OpM K (rIndex K) oIndex := by
  intro H I as M P x xs d ds Wf Q w rx rs s
  unfold oIndex at s
  split at s
  · rename_i i
    split at s
    · rename_i ys hy
      split at s
      · rename_i ns hn
        split at s
        · rename_i j hj
          obtain ⟨v, rfl, rv⟩ := rs.one_inv
          cases rv
          obtain ⟨a, vs, rfl, h1, r1⟩ := rx.list w hy
          have e := r1.intsD hn
          subst e
          obtain ⟨hlt, hp, hq⟩ := List.findIdx?_eq_some_iff_getElem.mp hj
          refine ⟨a, ns.map V.int, .int i, j, .int ns[j], rfl, rfl, h1, rfl, ?_, ?_, ?_, ?_, s.now w (.int _)⟩
          · rw [List.all_map]
            exact List.all_eq_true.mpr fun _ _ => rfl
          · rw [List.getElem?_map, List.getElem?_eq_getElem hlt]
            rfl
          · rw [eqV_int]
            exact hp
          · intro m z hm hz
            rw [List.getElem?_map, List.getElem?_eq_getElem (Nat.lt_trans hm hlt)] at hz
            have e := Option.some.inj hz
            rw [← e, eqV_int]
            simpa using hq m hm
        · exact s.elim
      · exact s.elim
    · exact s.elim
  · exact s.elim
/-- sum of ints -/
def oSum : OC := fun ds M => match ds with
  | [x] => match listOf M x with
    | some xs => match intsD xs with
      | some ns => .ok (.int ns.sum) M
      | none => .bad
    | none => .bad
  | _ => .bad
theorem opc_sum {K : PySem.W.Frag} : OpC K (rSum K) oSum := by
  intro H I as M P xs ds Wf Q w r s
  unfold oSum at s
  split at s
  · obtain ⟨v, rfl, rv⟩ := r.one_inv
    split at s
    · rename_i ys hy
      split at s
      · rename_i ns hn
        obtain ⟨a, vs, rfl, h1, r1⟩ := rv.list w hy
        have e := r1.intsD hn
        subst e
        exact ⟨a, ns, rfl, h1, s.now w (.int _)⟩
      · exact s.elim
    · exact s.elim
  · exact s.elim
end
end KM
set_option Elab.async false
set_option linter.all false
set_option maxRecDepth 100000
set_option maxHeartbeats 2000000
namespace KM
open PySem L2 PySem.Spec PyProof.Rows
section
variable {X : Cx} {W : WX} {a e : Expr} {es : List Expr} {pos p p2 : Pos} {ta te : TE} {ga ge : GE} {t : TA} {g : GA}
theorem ke_slice (K : PySem.W.Frag) {lo hi : Option Expr} {tl th : TO} {gl gh : GO} (he : XE X W a ta ga) (hl : XO X W lo tl gl) (hh : XO X W hi th gh) (hK : X.K = K := by rfl) : XE X W (.Subscript a (.Slice lo hi none p2) pos) (tSl (rSlG K) ta tl th) (gSl ga gl gh) := by
  subst hK; exact xe_slice he hl hh
theorem ki_seq (K : PySem.W.Frag) {tg : Expr} (h : XE X W e te ge) (hK : X.K = K := by rfl) : XI X W tg e (fun σ H R => iTup K te σ H R ∨ iList K te σ H R) (giSeq ge) := by
  subst hK; exact xi_seq h
theorem ke_isi (K : PySem.W.Frag) {T : String} {y : Str} (hm : X.mg "isinstance" = none) (hm2 : X.mg y = none) (hv2 : bootBuiltins y = some (.type T)) (he : XE X W e te ge) (hK : X.K = K := by rfl) (hg : Gl X "isinstance" := by rfl) (hg2 : Gl X y := by rfl) (hn2 : y ≠ "__name__" := by decide) (hd2 : (y == ("__debug__" : Str)) = false := by decide)
    (h1 : starEach [e, .Name y p2] X.env = (false, eval e X.env) :: starEach [.Name y p2] X.env := by rfl) (h2 : starEach [.Name y p2] X.env = (false, eval (.Name y p2) X.env) :: starEach [] X.env := by rfl) (hpl : (backTo pos (starEach [.Name y p2] X.env)).any (·.1) = false := by rfl) :
    XE X W (.Call (.Name "isinstance" p) [e, .Name y p2] [] pos) (tCB (rIsi K) (tCons te (tCons (tC (.ty T)) tNil))) (gUn (oIsi T) ge) := by
  subst hK; exact xe_isi hm hm2 hv2 he hg hg2 hn2 hd2 h1 h2 hpl
theorem kg_tup (K : PySem.W.Frag) {is : List Nat} {k n : Nat} {t : TGs} {g : List D → GS} (hc : X.calm = true) (h : XGs X W es is t g) (hK : X.K = K := by rfl)
    (hn : (assignEach es X.env).length = n := by rfl) (hst : (assignEach es X.env).findIdx? (·.1) = none := by rfl) : XG X W (.Tuple es k pos) is (L2.gTup K n t) (gtTup n g) := by
  subst hK; exact xg_tup hc h hn hst
theorem kt_tru (K : PySem.W.Frag) (ha : XE X W a ta ga) (hK : X.K = K := by rfl) (he : ∀ whole, isTrue a X.env whole = (do let v ← whole; standAt a.pos; holding [v] (truthy v)) := by intro _; rfl) : XT X W a (fun σ H Q => ta σ H fun x H' => ∃ k, TruV K x H' k ∧ Q k H') (gTru ga) := by
  subst hK; exact xt_tru ha he
theorem ke_call (K : PySem.W.Frag) (mg : Str → Option Value) {x : Str} {k n : Nat} {m : OC} (C : Callee X.prog X.w X.K X.mg X.base x k n m) (hr : Room k X.A) (tk : Takes X W) (ha : XA X W (e :: es) t g) (hK : X.K = K := by rfl) (hmg : X.mg = mg := by rfl) (hl : ∀ δ M ds M', g δ M = .ok ds M' → ds.length = n := by first | exact fun _ _ _ _ h => gCons_len (fun _ _ _ _ h => gNil_len h) h | exact fun _ _ _ _ h => gCons_len (fun _ _ _ _ h => gCons_len (fun _ _ _ _ h => gNil_len h) h) h | exact fun _ _ _ _ h => gCons_len (fun _ _ _ _ h => gCons_len (fun _ _ _ _ h => gCons_len (fun _ _ _ _ h => gNil_len h) h) h) h | exact fun _ _ _ _ h => gCons_len (fun _ _ _ _ h => gCons_len (fun _ _ _ _ h => gCons_len (fun _ _ _ _ h => gCons_len (fun _ _ _ _ h => gNil_len h) h) h) h) h)
    (hg : Gl X x := by rfl) (hdb : (x == ("__debug__" : Str)) = false := by decide)
    (he : starEach (e :: es) X.env = (false, eval e X.env) :: starEach es X.env := by rfl) (hpl : (backTo pos (starEach es X.env)).any (·.1) = false := by rfl) :
    XE X W (.Call (.Name x p) (e :: es) [] pos) (tCallS (spM K mg n m) (WE W) t) (gCall m g) := by
  subst hK hmg; exact xe_call C hr tk ha hl hg hdb he hpl
variable {o : Expr} {to : TE} {go : GE} {cpos apos : Pos} {name : Str} {id : String} {r : V → List V → Hp → VK → Prop} {om : OM}
theorem ke_bm (K : PySem.W.Frag) (slot : Slot "list" name id) (hty : typeOf (.builtin id) = pure (.type "method_descriptor")) (hm : MtR X id r) (hd : OpM X.K r om) (ho : XE X W o to go) (ha : XA X W (e :: es) t g) (hK : X.K = K := by rfl)
    (hbase : attributeBase o name X.env (eval o X.env) = eval o X.env := by rfl)
    (hfew : ((backTo cpos (starEach (e :: es) X.env)).all (fun x => !x.1) && (backToKw cpos (keywordEach [] X.env)).all (fun x => x.1.isSome)
      && decide ((e :: es).length + ([] : List Keyword).length + (if ([] : List Keyword).isEmpty then 0 else 1) < 30)) = true := by rfl)
    (hline : (apos.endLine == cpos.line) = true := by rfl) (hs : starEach (e :: es) X.env = (false, eval e X.env) :: starEach es X.env := by rfl) (hplain : (backTo cpos (starEach es X.env)).any (·.1) = false := by rfl) :
    XE X W (.Call (.Attribute o name apos) (e :: es) [] cpos) (tBM K "list" r to t) (gBM om go g) := by
  subst hK; exact xe_bm slot hty hm hd ho ha hbase hfew hline hs hplain
end
abbrev rLenC (K : PySem.W.Frag) : List V → Hp → VK → Prop := fun xs H Q => ∃ p ys, xs = [.ref p] ∧ (SqL K H p ys ∨ SqT K H p ys) ∧ Q (.int ys.length) H
end KM
set_option Elab.async false
set_option linter.all false
set_option maxRecDepth 100000
set_option maxHeartbeats 2000000
namespace KM
open PySem L2 PySem.Spec PyProof.Rows
/-! ### the end -/
def DefAt (K : PySem.W.Frag) (mg : Str → Option Value) (x : Str) (st : Stmt) : Prop := ∃ (f : Addr) (fd : FuncData), Fun K x x st f fd ∧ mg x = some (.ref f) ∧ PySem.W.keepIn K (.ref f) = true ∧ PySem.W.nsIn K mainGlobals x = some (some (.ref f))
theorem def_mk {K : PySem.W.Frag} {mg : Str → Option Value} {h : Heap} (X : K.In h) (G : h.Ns mainGlobals mg) {x : Str} {st : Stmt} {f : Addr} {oc : Value} {od an : Option Addr} {osl : Array (Option Value)} {kV doc pm cdv ct : Value}
    (a : PySem.W.nsIn K mainGlobals x = some (some (.ref f))) (l : K.lookup f = some ⟨oc, od, .func (PySem.W.fnOf x x (defArgs st) (defBody st) (defScope st) .none kV doc pm an cdv ct), osl⟩)
    (c : PySem.W.codeIn K cdv x = true) (k : PySem.W.keepIn K (.ref f) = true) : DefAt K mg x st := ⟨f, _, fun_mk (st := st) l c k, PySem.W.mg_of X G a, k, a⟩
theorem globI_mk {K : PySem.W.Frag} {mg : Str → Option Value} {h : Heap} (X : K.In h) (G : h.Ns mainGlobals mg) {x : Str} {i : Int} {t : Tok} (a : PySem.W.nsIn K mainGlobals x = some (some (.int i t))) : GlobC K mg x (.int i) :=
  ⟨⟨.int i, _, PySem.W.mg_of X G a, ⟨t, rfl⟩, fun _ _ => .int i⟩⟩
theorem globT_mk {K : PySem.W.Frag} {mg : Str → Option Value} {h : Heap} (X : K.In h) (G : h.Ns mainGlobals mg) {x : Str} {p : Addr} {i j : Int} {t u : Tok} {dd : Option Addr} {n : Nat} {sl : Array (Option Value)} (a : PySem.W.nsIn K mainGlobals x = some (some (.ref p)))
    (l : K.lookup p = some ⟨.type "tuple", dd, .seq #[.int i t, .int j u] n, sl⟩) : GlobC K mg x (.tup [.int i, .int j]) :=
  ⟨⟨.ref p, _, PySem.W.mg_of X G a, rfl, fun I as => .tup (xs := [.int i, .int j]) (.inr ⟨_, _, _, l, rfl, rfl, by show 2 ≤ sizeLine; decide, .cons ⟨t, rfl⟩ (.cons ⟨u, rfl⟩ .nil)⟩) (.cons (.int i) (.cons (.int j) .nil))⟩⟩
def spLaw (K : PySem.W.Frag) : Sp := fun vs H Q _ => ∃ (a : Addr) (ns : List Int), vs = [.ref a] ∧ SqL K H a (ns.map V.int) ∧ ns.length ≤ 63 ∧ (∀ z ∈ ns, Builtin.Int.intBits z ≤ 1048576) ∧ ∀ H', Q (.bl true) H'
def LawTrue (m : OC) : Prop := ∀ ns : List Int, ns.length ≤ 63 → (∀ z ∈ ns, Builtin.Int.intBits z ≤ 1048576) → ∃ M, m [.rol (ns.map D.int)] [] = .ok (.bl true) M
theorem law_imp {K : PySem.W.Frag} {mg : Str → Option Value} {m : OC} (hm : LawTrue m) : ∀ vs H Q E, spLaw K vs H Q E → spM K mg 1 m vs H Q E := by
  rintro vs H Q E ⟨a, ns, rfl, hS, hl, hb, q⟩
  obtain ⟨rfl', ds, I, as, M, P, w, r, s⟩ := law_end (mg := mg) hS (hm ns hl hb)
  refine ⟨rfl, [.rol (ns.map D.int)], H, [], [], fun _ => none, ⟨fun _ _ e => e, rfl, List.nodup_nil, fun k a o e => by simp at e, fun a o e => by cases e⟩, .cons (.rol hS (Reps.ints ns rfl)) .nil, ?_⟩
  obtain ⟨M, h⟩ := hm ns hl hb
  rw [h]
  intro v H' I' as' g w r
  cases r
  exact q H'
theorem law_walk {l : PySem.W.OpenLaw} {k : Nat} {q : Program} {loose : List Str} {XP : (Str → Option Value) → Heap → Prop} {YP : World → Heap → Prop} {d : DefRec} {K : Params → PySem.W.Frag} {x : Str}
    (hn : l.most = some 63) (hdf : d.params.defaults = []) (hr : Room k callerA)
    (hY : ∀ (w : World) (h : Heap), YP w h → (K w.params).In h)
    (F : ∀ (w : World) (mg : Str → Option Value) (fa : Addr) (h : Heap), (K w.params).In h → h.Ns mainGlobals mg → mg d.name = some (.ref fa) →
      ∃ fd : FuncData, (∀ (s : Shared) (u : Value), BindsTo s fd ⟨[u], []⟩ [(x, u)]) ∧
        ∀ base : Heap, (K w.params).In base → base.Ns mainGlobals mg → FnOk l.prog w (K w.params) mg base (L2.CX l.prog w) k fa fd [x] (spLaw (K w.params))) :
    PySem.W.WalkO q loose XP YP l.row.toRowW d [] (fun f vs => PySem.call f vs) :=
  walk_ofB (K := K) (CX := fun w => L2.CX l.prog w) (sp := fun w => spLaw (K w.params)) hn (by decide) hdf hr hY F (fun w H a ns hl hb _ hS => ⟨a, ns, rfl, hS, hl, hb, fun _ => rfl⟩) fun w H s e s' h => by
    obtain ⟨_, _, _, _, _, _, _, _, _, _, _, _, z⟩ := h
    exact z
theorem bind1 {K : PySem.W.Frag} : True := trivial
end KM
set_option Elab.async false
set_option linter.all false
set_option maxRecDepth 100000
set_option maxHeartbeats 2000000
namespace KM
open PySem L2 PySem.Spec PyProof.Rows
/-! ### while, x += e, sorted -/
noncomputable def whileL (gc : GB) (gb : GS) : Nat → GS
  | 0, _, _ => .bad
  | n + 1, δ, M => (gc δ M).toS δ fun b M1 => if b = true then (match gb δ M1 with
      | .nx δ2 M2 => whileL gc gb n δ2 M2
      | .ct δ2 M2 => whileL gc gb n δ2 M2
      | .bk δ2 M2 => .nx δ2 M2
      | .rt d M2 => .rt d M2
      | .ex c δ2 M2 => .ex c δ2 M2
      | .bad => .bad) else .nx δ M1
def fuel : Nat := 1000000
noncomputable def gWhile (gc : GB) (gb : GS) : GS := fun δ M => whileL gc gb fuel δ M
section
variable {X : Cx} {W : WX} {e : Expr} {pos : Pos} {te : TE} {ge : GE} {K : PySem.W.Frag}
theorem impS_while {mg : Str → Option Value} {tc : TT} {gc : GB} {tb : TS} {gb : GS} (hc : ImpT K mg W tc gc) (hb : ImpS K mg W tb gb) : ImpS K mg W (tWhile tc tb) (gWhile gc gb) := by
  intro σ H δ I as M P E w en s
  refine ⟨fun m σ' H' => ∃ δ' M' I' as', Gr I as I' as' ∧ Wr K H' I' as' M' P ∧ Envr K I' as' σ' δ' ∧ SatS K (lowW mg W) I' as' P E (whileL gc gb m δ' M'), ⟨fuel, δ, M, I, as, Gr.refl _ _, w, en, s⟩, ?_⟩
  rintro m σ1 H1 ⟨δ', M', I', as', g', w', en', s'⟩
  cases m with
  | zero => exact s'.elim
  | succ m =>
    unfold whileL at s'
    refine hc σ1 H1 δ' I' as' M' P _ w' en' (SatS.bindE s' en' fun b M1 v H2 I2 as2 _ g2 w2 r2 s2 => ?_)
    subst r2
    cases v with
    | false =>
      rw [if_neg Bool.false_ne_true]
      exact s2 _ H2 I2 as2 (Gr.refl _ _) w2 (en'.mono g2)
    | true =>
      rw [if_pos rfl]
      rw [if_pos rfl] at s2
      refine ⟨_, fun σ3 H3 n3 => ⟨m, Nat.lt_succ_self m, n3⟩, hb σ1 H2 δ' I2 as2 M1 P _ w2 (en'.mono g2) ?_⟩
      cases e2 : gb δ' M1 with
      | nx δ2 M2 =>
        simp only [e2] at s2
        exact fun σ4 H4 I4 as4 g4 w4 en4 => ⟨δ2, M2, I4, as4, g'.trans (g2.trans g4), w4, en4, SatS.gr g4 s2⟩
      | ct δ2 M2 =>
        simp only [e2] at s2
        exact fun σ4 H4 I4 as4 g4 w4 en4 => ⟨δ2, M2, I4, as4, g'.trans (g2.trans g4), w4, en4, SatS.gr g4 s2⟩
      | bk δ2 M2 =>
        simp only [e2] at s2
        exact s2
      | rt d2 M2 =>
        simp only [e2] at s2
        exact s2
      | ex c δ2 M2 =>
        simp only [e2] at s2
        exact s2
      | bad =>
        simp only [e2] at s2
        exact s2
theorem xs_while {c : Expr} {body : List Stmt} {tc : TT} {gc : GB} {tb : TS} {gb : GS} (hp : PassesOwn (model X.prog X.w) X.A X.env X.xe) (hc : XT X W c tc gc) (hb : XSs X W body tb gb) : XS X W (.While c body [] pos) (tWhile tc tb) (gWhile gc gb) :=
  ⟨ps_while hp hc.pe hb.pe, impS_while hc.im hb.im⟩
def oAddI : OD := fun x y M => match x, y with
  | .int i, .int j => .ok (.int (i + j)) M
  | _, _ => .bad
theorem opd_addI {K : PySem.W.Frag} : OpD K (ipI fun i j => i + j) oAddI := by
  intro H I as M P x y d e Wf Q w rx ry s
  unfold oAddI at s
  split at s
  · cases rx
    cases ry
    exact ⟨_, _, rfl, rfl, s.now w (.int _)⟩
  · exact s.elim
/-- name op= e -/
def gAug (i : Nat) (o : OD) (ge : GE) : GS := fun δ M => match δ[i]? with
  | some (some x) => (ge δ M).toS δ fun y M1 => (o x y M1).toS δ fun z M2 => .nx (δ.set i (some z)) M2
  | _ => .bad
theorem xs_aug (i : Nat) {x : Str} {op : Operator} {pos' : Pos} {ti : TIp} {o : OD} (hN : X.N.Nodup) (ho : PIp X op ti) (hd : OpD X.K ti o) (he : XE X W e te ge) (hi : X.N[i]? = some x := by rfl) (hx : Loc X.env.scope x := by first | exact .inl rfl | exact .inr rfl)
    (hf : X.fn x = true ∨ X.env.scope.names.lookup x = some .local := by first | exact .inl rfl | exact .inr rfl | assumption) : XS X W (.AugAssign (.Name x pos') op e pos) (tAug i te ti) (gAug i o ge) := by
  refine ⟨ps_aug hN hi hx he.pe ho hf, fun σ H δ I as M P E w en s => ?_⟩
  unfold gAug at s
  split at s
  · rename_i d hd1
    obtain ⟨v, h1, h2⟩ := en.at_ i d hd1
    refine ⟨v, h1, he.im σ H δ I as M P _ w en (SatS.bindE s en fun y M1 u H1 I1 as1 _ g1 w1 r1 s1 => ?_)⟩
    refine hd H1 I1 as1 M1 P v u d y _ _ w1 (h2.mono g1) r1 (SatS.bindE s1 (en.mono g1) fun z M2 u2 H2 I2 as2 _ g2 w2 r2 s2 => ?_)
    exact s2 _ H2 I2 as2 (Gr.refl _ _) w2 ((en.mono (g1.trans g2)).set r2 i)
  · exact s.elim
end
def srtI (ns : List Int) : List Int := ns.mergeSort (fun a b => decide (a ≤ b))
theorem srtI_perm (ns : List Int) : (srtI ns).Perm ns := List.mergeSort_perm ..
theorem srtI_sorted (ns : List Int) : (srtI ns).Pairwise (· ≤ ·) := by
  have h := List.pairwise_mergeSort (le := fun (a b : Int) => decide (a ≤ b)) (fun a b c h1 h2 => by simp at *; omega) (fun a b => by simp; omega) ns
  exact h.imp fun h => by simpa using h
def oSorted : OC := fun ds M => match ds with
  | [x] => match listOf M x with
    | some xs => match intsD xs with
      | some ns => .ok (.lst ((srtI ns).map D.int)) M
      | none => .bad
    | none => .bad
  | _ => .bad
theorem opc_sorted {K : PySem.W.Frag} : OpC K (rSortedI K) oSorted := by
  intro H I as M P xs ds Wf Q w r s
  unfold oSorted at s
  split at s
  · obtain ⟨v, rfl, rv⟩ := r.one_inv
    split at s
    · rename_i ys hy
      split at s
      · rename_i ns hn
        obtain ⟨a, vs, rfl, h1, r1⟩ := rv.list w hy
        have e := r1.intsD hn
        subst e
        refine ⟨a, ns, rfl, h1, fun ns' p hp hs hf => ?_⟩
        have e : ns' = srtI ns := List.Perm.eq_of_pairwise (le := (· ≤ ·)) (fun a b _ _ h1 h2 => Int.le_antisymm h1 h2) hs (srtI_sorted ns) (hp.trans (srtI_perm ns).symm)
        subst e
        exact s.newLst w (Reps.ints _ rfl) hf
      · exact s.elim
    · exact s.elim
  · exact s.elim
end KM
set_option Elab.async false
set_option linter.all false
set_option maxRecDepth 100000
set_option maxHeartbeats 2000000
namespace KM
open PySem L2 PySem.Spec PyProof.Rows
/-! ### raise -/
theorem pmk_own0 {X : Cx} {C : Addr} {bmB : List Value} {B newId initId : String} {x : Str} {p pos : Pos} (F : ExcBaseFacts B newId initId bmB) (q : PySem.W.excIn X.K C bmB newId = true) (gC : X.mg x = some (.ref C)) (kC : PySem.W.keepIn X.K (.ref C) = true) (r : Raises X (.ref C)) (hg : Gl X x)
    (hdb : (x == ("__debug__" : Str)) = false := by decide) : PMk X (.Call (.Name x p) [] [] pos) (fun _ H Q => Q (.ref C) none H) := by
  intro pins s σ H Q I h
  refine wpAny_Call_Name_kw (ld_glob I hg gC ?_ hdb)
  refine PySem.W.callWith_K0 I.kIn kC ?_
  show wpAny _ _ (call (.ref C) []) _ _ _
  obtain ⟨bm, N, nm, qn, bs, hdct, sn, sub, ab, col, dd, k0, k1, k2, k3, k5, mN, hC, hN, hni, T⟩ := exc_obj I.kIn q
  refine wpAny_call_exc_subT F T hC hN hni (fun h' e hm => ?_) (Nat.zero_le _)
  exact mk_of I hm r h (I.hok.gone hm.new)
abbrev VB : List Value := [.type "ValueError", .type "Exception", .type "BaseException", .type "object"]
/-- a class of errors of the program's own -/
structure ExcAt (K : PySem.W.Frag) (mg : Str → Option Value) (x : Str) : Prop where
  ex : ∃ C : Addr, mg x = some (.ref C) ∧ PySem.W.excIn K C VB "ValueError.__new__" = true ∧ PySem.W.keepIn K (.ref C) = true ∧ PySem.W.subIn K (.ref C) (.type "BaseException") = some true ∧ PySem.W.typeIn K (.ref C) = some (.type "type")
section
variable {X : Cx} {W : WX}
theorem xs_raise {x : Str} {C : Addr} {p pos pos' : Pos} (hc : X.calm = true) (tk : Takes X W) (gC : X.mg x = some (.ref C)) (q : PySem.W.excIn X.K C VB "ValueError.__new__" = true) (kC : PySem.W.keepIn X.K (.ref C) = true)
    (b : PySem.W.subIn X.K (.ref C) (.type "BaseException") = some true) (t : PySem.W.typeIn X.K (.ref C) = some (.type "type")) (hg : Gl X x := by rfl) (hdb : (x == ("__debug__" : Str)) = false := by decide) :
    XS X W (.Raise (some (.Call (.Name x p) [] [] pos)) none pos') (fun _ σ H => W (.ref C) none σ H) (gRaise x) := by
  refine ⟨ps_raise hc tk (pmk_own0 PySem.F.excBase_ValueError q gC kC (raises_own b t) hg hdb), fun σ H δ I as M P E w en s => ?_⟩
  exact s σ H I as (Gr.refl _ _) w en _ gC
end
/-! ### try -/
def exSub (c n : Str) : Bool := c == n || n == ("MissError" : Str)
def noEx : SR → SR
  | .ex _ _ _ => .bad
  | r => r
def handL : List (Str × GS) → Str → GS
  | [], c => fun δ M => .ex c δ M
  | (n, g) :: r, c => fun δ M => if exSub c n = true then noEx (g δ M) else handL r c δ M
def gTry (cs : List Str) (hs : List (Str × GS)) (gb : GS) : GS := fun δ M => match gb δ M with
  | .ex c δ1 M1 => if cs.contains c = true then handL hs c δ1 M1 else .bad
  | r => r
inductive XHs (X : Cx) (cs : List Str) : List ExceptHandler → List (Value × (Addr → Value → Option Addr → TS)) → List (Str × GS) → Prop
  | nil : XHs X cs [] [] []
  | cons {x : Str} {c : Value} {ts : TS} {g : GS} {b₀ : Stmt} {suite : List Stmt} {np pos' : Pos} {hds : List ExceptHandler} {l : List (Value × (Addr → Value → Option Addr → TS))} {hs : List (Str × GS)} (hc : Names X x c)
      (hsub : ∀ d ∈ cs, ∀ cls, X.mg d = some cls → PySem.W.exmOne X.K cls c = some (exSub d x))
      (hsu : ∀ (a : Addr) (oe : Obj) (pn : List (Addr × Obj)), XSs (X.suite a ((a, oe) :: pn)) W0 (b₀ :: suite) ts g) (r : XHs X cs hds l hs) :
      XHs X cs (.ExceptHandler (some (.Name x np)) none (b₀ :: suite) pos' :: hds) ((c, fun _ _ _ => ts) :: l) ((x, g) :: hs)
theorem XHs.ok {X : Cx} {cs : List Str} {hds : List ExceptHandler} {l : List (Value × (Addr → Value → Option Addr → TS))} {hs : List (Str × GS)} (h : XHs X cs hds l hs) : HdsOk X hds l := by
  induction h with
  | nil => exact .nil
  | cons hc hsub hsu r ih => exact .cons hc (fun a oe cls d pn _ _ => (hsu a oe pn).pe) ih
theorem XHs.im {X : Cx} {W : WX} {cs : List Str} {hds : List ExceptHandler} {l : List (Value × (Addr → Value → Option Addr → TS))} {hs : List (Str × GS)} (h : XHs X cs hds l hs) {c : Str} (hcs : c ∈ cs) {σ : L2.St} {H I P : Hp} {δ : Ctx} {as : List Addr} {M : List MO} {E : Ends}
    (w : Wr X.K H I as M P) (en : Envr X.K I as σ δ) (s : SatS X.K (lowW X.mg W) I as P E (handL hs c δ M)) (cls : Value) (hm : X.mg c = some cls) : wMany X.K W E l cls none σ H := by
  induction h with
  | nil => exact s σ H I as (Gr.refl _ _) w en cls hm
  | @cons x cv ts g b₀ suite np pos' hds l hs hc hsub hsu r ih =>
    refine ⟨exSub c x, hsub c hcs cls hm, fun hb a hn => ?_, fun hb => ?_⟩
    · unfold handL at s
      simp only [hb, if_true] at s
      refine (hsu 0 { cls := .none, data := .fields #[] } []).im σ H δ I as M P E w en ?_
      cases e : g δ M with
      | ex c2 d2 M2 => rw [e] at s; exact s.elim
      | _ => rw [e] at s; exact s
    · unfold handL at s
      rw [hb, if_neg Bool.false_ne_true] at s
      exact ih s
section
variable {X : Cx} {W : WX}
theorem takes_dummy (hs : X.stack = X.env :: X.outer) (hf : X.env.frame = some X.env.locals) (W' : WX) : ∃ (pn : List (Addr × Obj)) (xe : Value → Shared → Prop), Takes (X.tr pn xe) W' ∧ PassesOwn (model X.prog X.w) X.A X.env xe := by
  refine ⟨[], fun e s₁ => wpAny (model X.prog X.w) X.A (noteFrame e X.env) (fun _ s₂ => wpAny (model X.prog X.w) X.A (setFlight e none) (fun _ _ => True) (fun _ _ => True) s₂) (fun _ _ => True) s₁, fun u s' xx => ?_, PassesOwn.looking⟩
  obtain ⟨a, B, sI, pins', σ', H', cls, d, rfl, J', nb, up, sky, na, os, ag, w⟩ := xx
  have ok := J'.ok
  have hfr : X.A.frames = some (X.env :: X.outer) := by
    have := ok.frames
    rw [← hs]
    exact this
  have sky' : Sky B (X.env :: X.outer) a (Zc cls d) X.env.locals s'.heap := by rw [← hs]; exact sky
  show wpAny (model X.prog X.w) X.A (noteFrame (.ref a) X.env) _ _ _
  exact Sky.land Zc.steady hfr hf sky' fun h3 fl3 up3 => True.intro
theorem xs_try {cs : List Str} {hs : List (Str × GS)} {body : List Stmt} {h₀ : ExceptHandler} {hds : List ExceptHandler} {l : List (Value × (Addr → Value → Option Addr → TS))} {pos : Pos} {tb : WX → TS} {gb : GS}
    (hs1 : X.stack = X.env :: X.outer) (hf : X.env.frame = some X.env.locals) (tk : Takes X W)
    (hb : ∀ (W' : WX) (pn : List (Addr × Obj)) (xe : Value → Shared → Prop), Takes (X.tr pn xe) W' → PassesOwn (model X.prog X.w) X.A X.env xe → XSs (X.tr pn xe) W' body (tb W') gb)
    (hh : XHs X cs (h₀ :: hds) l hs) : XS X W (.Try body (h₀ :: hds) [] [] pos) (fun D σ H => tb (wMany X.K W D l) D σ H) (gTry cs hs gb) := by
  refine ⟨ps_try_many hs1 hf tk (fun W' pn xe tk' po => (hb W' pn xe tk' po).pe) hh.ok, fun σ H δ I as M P E w en s => ?_⟩
  obtain ⟨pn, xe, tk', po'⟩ := takes_dummy hs1 hf (wMany X.K W E l)
  refine (hb (wMany X.K W E l) pn xe tk' po').im σ H δ I as M P E w en ?_
  unfold gTry at s
  cases e : gb δ M with
  | bad => rw [e] at s; exact s
  | nx δ1 M1 => rw [e] at s; exact s
  | rt d M1 => rw [e] at s; exact s
  | bk δ1 M1 => rw [e] at s; exact s
  | ct δ1 M1 => rw [e] at s; exact s
  | ex c δ1 M1 =>
    rw [e] at s
    simp only at s
    split at s
    · rename_i hc
      have hc' : c ∈ cs := by simpa using hc
      exact fun σ' H' I' as' g' w' en' cls hm => hh.im hc' w' en' (SatS.gr g' s) cls hm
    · exact s.elim
end
/-- what an except clause may be asked -/
structure ExcH (K : PySem.W.Frag) (mg : Str → Option Value) (cs : List Str) (n : Str) : Prop where
  ex : ∃ v : Value, mg n = some v ∧ ∀ d ∈ cs, ∀ cls, mg d = some cls → PySem.W.exmOne K cls v = some (exSub d n)
/-! ### a def that a local name holds -/
def gCallL (i : Nat) (tb : List (Str × OC)) (ga : GA) : GE := fun δ M => match δ[i]? with
  | some (some (.fn x)) => match tb.lookup x with
    | some m => (ga δ M).bind fun ds M1 => m ds M1
    | none => .bad
  | _ => .bad
def tCallF (P : Program) (w : World) (K : PySem.W.Frag) (mg : Str → Option Value) (base : Heap) (W : WX) (k i : Nat) (t : TA) : TE := fun σ H Q => ∃ (f : Addr) (fd : FuncData) (ps : List Str) (sp : Sp), σ[i]? = some (some (.ref f)) ∧ FnOk P w K mg base (L2.CX P w) k f fd ps sp ∧ PySem.W.keepIn K (.ref f) = true ∧ Binds K fd ps [] ∧
  t σ H fun vs H1 => sp vs H1 Q (WE W σ)
section
variable {X : Cx} {W : WX} {e : Expr} {es : List Expr} {pos p : Pos} {t : TA} {g : GA}
theorem Callee.mono {P : Program} {w : World} {K : PySem.W.Frag} {mg : Str → Option Value} {base : Heap} {x : Str} {j k n : Nat} {m : OC} (C : Callee P w K mg base x j n m) (h : j ≤ k) : Callee P w K mg base x k n m := by
  obtain ⟨f, fd, ps, F, r⟩ := C.ex
  exact ⟨f, fd, ps, F.mono h, r⟩
theorem lookup_mem {x : Str} {m : OC} : ∀ {tb : List (Str × OC)}, tb.lookup x = some m → (x, m) ∈ tb
  | [], h => by simp at h
  | (y, n) :: tb, h => by
    rw [List.lookup_cons] at h
    split at h
    · rename_i e
      have e1 := eq_of_beq e
      subst e1
      cases h
      exact List.mem_cons_self ..
    · exact List.mem_cons_of_mem _ (lookup_mem h)
theorem xe_callF (i : Nat) {y : Str} {k n : Nat} {tb : List (Str × OC)} (hC : ∀ p ∈ tb, Callee X.prog X.w X.K X.mg X.base p.1 k n p.2) (hr : Room k X.A) (tk : Takes X W) (ha : XA X W (e :: es) t g)
    (hl : ∀ δ M ds M', g δ M = .ok ds M' → ds.length = n := by first | exact fun _ _ _ _ h => gCons_len (fun _ _ _ _ h => gNil_len h) h | exact fun _ _ _ _ h => gCons_len (fun _ _ _ _ h => gCons_len (fun _ _ _ _ h => gNil_len h) h) h | exact fun _ _ _ _ h => gCons_len (fun _ _ _ _ h => gCons_len (fun _ _ _ _ h => gCons_len (fun _ _ _ _ h => gNil_len h) h) h) h)
    (hN : X.N[i]? = some y := by rfl) (hv : Vis X.env.scope y := by first | exact Or.inl rfl | exact Or.inr (Or.inl rfl) | exact Or.inr (Or.inr rfl)) (hdb : (y == ("__debug__" : Str)) = false := by decide) (hcd : (y == ("__classdict__" : Str)) = false := by decide)
    (he : starEach (e :: es) X.env = (false, eval e X.env) :: starEach es X.env := by rfl) (hpl : (backTo pos (starEach es X.env)).any (·.1) = false := by rfl) :
    XE X W (.Call (.Name y p) (e :: es) [] pos) (tCallF X.prog X.w X.K X.mg X.base W k i t) (gCallL i tb g) := by
  refine ⟨⟨fun pins s σ H Q I h => ?_⟩, fun σ H δ I as M P Q w en s => ?_⟩
  · obtain ⟨f, fd, ps, sp, hs, F, hk, hb, ht⟩ := h
    refine wpAny_Call_Name_kw (thn ((pe_var (pos := p) hN hv hdb hcd).run pins s σ H (fun v H1 => v = .ref f ∧ H1 = H) I ⟨.ref f, hs, rfl, rfl⟩) fun u s1 ⟨v, H1, I1, r1, q1⟩ => ?_)
    obtain ⟨rfl, rfl⟩ := q1
    cases r1
    refine PySem.W.callWith_K (h₀ := X.base) I.ok.mod.kin hk (thn (ha.pe.run pos pins s1 σ _ _ I1 ht) fun us s2 ⟨vs, H2, I2, r, q⟩ => ⟨I2.kIn, ?_⟩) he hpl
    exact run_fnS F hr hb (passAt tk σ) I2 r q
  · unfold gCallL at s
    split at s
    · rename_i x hx
      split at s
      · rename_i m hm
        obtain ⟨v, hv1, rv⟩ := en.at_ i _ hx
        cases rv with
        | @fn a _ hn =>
          obtain ⟨f, fd, ps, F, h1, h2, h3, h4⟩ := (hC (x, m) (lookup_mem hm)).ex
          have ef : f = a := by
            rw [h4] at hn
            cases hn
            rfl
          subst ef
          refine ⟨f, fd, ps, _, hv1, F, h2, h3, ?_⟩
          refine ha.im σ H δ I as M P _ w en (Sat.bind s fun xs M1 vs H1 I1 as1 e1 g1 w1 r1 s1 => ?_)
          exact ⟨by rw [r1.len]; exact hl _ _ _ _ e1, xs, I1, as1, M1, P, w1, r1, s1⟩
      · exact s.elim
    · exact s.elim
/-- a def's name, as a value -/
theorem xe_fn {x : Str} {f : Addr} (h1 : X.mg x = some (.ref f)) (h4 : PySem.W.nsIn X.K mainGlobals x = some (some (.ref f))) (hg : Gl X x := by rfl) (hd : (x == ("__debug__" : Str)) = false := by decide) : XE X W (.Name x pos) (tC (.ref f)) (gC (.fn x)) :=
  xe_glob (v := .ref f) h1 rfl (fun _ _ => .fn h4) hg hd
end
/-! ### isinstance(x, (T, U)) -/
def oIsi2 (T U : String) : OU := fun x M => match tyM M x with
  | some a => if tyOk T = true ∧ tyOk U = true then .ok (.bl (isiB a T || isiB a U)) M else .bad
  | none => .bad
section
variable {X : Cx} {W : WX} {e : Expr} {pos p p2 p3 p4 : Pos} {te : TE} {ge : GE} {kk : Nat}
theorem xe_isi2 {T U : String} {y z : Str} (hm : X.mg "isinstance" = none) (hm2 : X.mg y = none) (hv2 : bootBuiltins y = some (.type T)) (hm3 : X.mg z = none) (hv3 : bootBuiltins z = some (.type U)) (he : XE X W e te ge) (hg : Gl X "isinstance" := by rfl)
    (hg2 : Gl X y := by rfl) (hn2 : y ≠ "__name__" := by decide) (hd2 : (y == ("__debug__" : Str)) = false := by decide) (hg3 : Gl X z := by rfl) (hn3 : z ≠ "__name__" := by decide) (hd3 : (z == ("__debug__" : Str)) = false := by decide)
    (h1 : starEach [e, .Tuple [.Name y p2, .Name z p3] kk p4] X.env = (false, eval e X.env) :: starEach [.Tuple [.Name y p2, .Name z p3] kk p4] X.env := by rfl)
    (h2 : starEach [.Tuple [.Name y p2, .Name z p3] kk p4] X.env = (false, eval (.Tuple [.Name y p2, .Name z p3] kk p4) X.env) :: starEach [] X.env := by rfl)
    (h3 : starEach [.Name y p2, .Name z p3] X.env = (false, eval (.Name y p2) X.env) :: starEach [.Name z p3] X.env := by rfl) (h4 : starEach [.Name z p3] X.env = (false, eval (.Name z p3) X.env) :: starEach [] X.env := by rfl)
    (hpl : (backTo pos (starEach [.Tuple [.Name y p2, .Name z p3] kk p4] X.env)).any (·.1) = false := by rfl) :
    XE X W (.Call (.Name "isinstance" p) [e, .Tuple [.Name y p2, .Name z p3] kk p4] [] pos) (tCB (rIsiT X.K) (tCons te (tCons (tTup (tCons (tC (.ty T)) (tCons (tC (.ty U)) tNil))) tNil))) (gUn (oIsi2 T U) ge) := by
  refine ⟨pe_callB call_isiT hg hm PyProof.Rows.boot_isinstance (pa_cons he.pe (pa_cons (pe_tup (pa_cons (pe_bltn hg2 hm2 hv2 rfl hn2 hd2) (pa_cons (pe_bltn hg3 hm3 hv3 rfl hn3 hd3) pa_nil h4) h3)) pa_nil h2) h1) (by decide) (by decide) h1 hpl, fun σ H δ I as M P Q w en s => ?_⟩
  refine he.im σ H δ I as M P _ w en (Sat.bind s fun d M1 v H1 I1 as1 _ g1 w1 r1 s1 => ?_)
  unfold oIsi2 at s1
  split at s1
  · rename_i a ha
    split at s1
    · rename_i hT
      refine ⟨by show 2 ≤ sizeLine; decide, fun tp htp => ?_⟩
      obtain ⟨w2, g2⟩ := w1.newI htp (.tup [.ty T, .ty U])
      obtain ⟨t1, t2⟩ := (r1.mono g2).ty w2 ha
      have hk1 := List.all_eq_true.mp hT.1 a t2
      have hk2 := List.all_eq_true.mp hT.2 a t2
      refine ⟨v, tp, [.ty T, .ty U], .type a, [.type T, .type U], isiB a T || isiB a U, rfl, upd_same, .cons (.ty T) (.cons (.ty U) .nil), t1, ?_, s1 _ _ _ _ g2 w2 (.bl _)⟩
      refine kitAny_cons (kit_ty (by simpa using hk1)) (fun e1 => ?_) (fun e1 => by rw [e1]; rfl)
      refine kitAny_cons (kit_ty (by simpa using hk2)) (fun e2 => ?_) (fun e2 => by rw [e1, e2]; rfl)
      rw [e1, e2]
      exact kitAny_nil
    · exact s1.elim
  · exact s1.elim
/-! ### a dict that is only carried about -/
def gDct2 (ga gb : GE) : GE := fun δ M => match ga δ M with
  | .ok _ M1 => match gb δ M1 with
    | .ok _ M2 => .ok .dct M2
    | _ => .bad
  | _ => .bad
theorem xe_dct2 {a b : Expr} {ta tb : TE} {ga gb : GE} {s1 : Str} {i2 : Int} {j1 j2} (ha : XE X W a ta ga) (hb : XE X W b tb gb) : XE X W (.Dict [some (.Constant (.str s1) j1 p), some (.Constant (.int i2) j2 p2)] [a, b] pos) (tDisp [(tC (.str s1), ta), (tC (.int i2), tb)]) (gDct2 ga gb) := by
  refine ⟨pe_disp (pps_cons pe_str ha.pe (pps_cons pe_int hb.pe pps_nil)) rfl rfl (by simp) (by show 2 ≤ 15; omega), fun σ H δ I as M P Q w en s => ?_⟩
  intro q hq
  obtain ⟨f1, f2, f3⟩ := w.fresh hq
  have w0 := w.newP hq (.dK [])
  unfold gDct2 at s
  cases e1 : ga δ M with
  | bad => rw [e1] at s; exact s.elim
  | ex c M1 => rw [e1] at s; exact s.elim
  | ok x1 M1 =>
    simp only [e1] at s
    cases e2 : gb δ M1 with
    | bad => rw [e2] at s; exact s.elim
    | ex c M2 => rw [e2] at s; exact s.elim
    | ok x2 M2 =>
      simp only [e2] at s
      refine ha.im σ _ δ I as M _ _ w0 en ?_
      rw [e1]
      intro y H1 I1 as1 g1 w1 r1
      refine hb.im σ H1 δ I1 as1 M1 _ _ w1 (en.mono g1) ?_
      rw [e2]
      intro y2 H2 I2 as2 g2 w2 r2
      refine ⟨(w2.prv q _ upd_same).1, [(.inr s1, y), (.inl i2, y2)], rfl, by show 2 ≤ 15; omega, ?_⟩
      have w3 := w2.putP upd_same (.dK (mergeK [] [(.inr s1, y), (.inl i2, y2)]))
      rw [upd_upd] at w3
      obtain ⟨w4, g4⟩ := w3.giveI f2
      exact s _ _ _ _ (g1.trans (g2.trans g4)) w4 (.dct upd_same)
end
/-! ### () * k -/
theorem tuple_mulE (l : Addr) (n : Nat) (dd : Option Addr) (sl : Array (Option Value)) (x : Int) (u : Tok) (c0 : (decide (x < -(2 ^ 63)) || decide (x ≥ 2 ^ 63)) = false) :
    Meets (Builtin.«tuple.__mul__» ⟨[.ref l, .int x u], []⟩) (fun _ R s => s.heap.get? l = some { cls := .type "tuple", dict := dd, data := .seq #[] n, slots := sl } ∧
      R (.ok (.ret (Value.ref l))) { s with heap := s.heap, toks := s.toks }) :=
  .of_wp fun prog w A R s h => by
    obtain ⟨hp, g, d, tk, os⟩ := s
    obtain ⟨hl, h⟩ := h
    have f1 := AutoSeq1.idx_int
    wp_walk using wpAny_loadPart' hl
    repeat (first
      | (refine wpAny_ite_false (decide_eq_false (by rw [c0]; exact Bool.false_ne_true)) ?_; wp_walk using wpAny_loadPart' hl))
    exact ⟨_, rfl, h⟩
def rRepE (K : PySem.W.Frag) : R2 := fun x y H Q => ∃ l k, x = .ref l ∧ y = .int k ∧ SqT K H l [] ∧ 0 ≤ k ∧ k ≤ 1000 ∧ Q (.ref l) H
theorem op_repE {X : Cx} : OpR X (binaryOp .Mult) (rRepE X.K) := by
  intro pins s σ H x y v u Q I rx ry h
  obtain ⟨l, k, rfl, rfl, hT, k0, k1, q⟩ := h
  cases rx
  obtain ⟨t, rfl⟩ := ry
  obtain ⟨its, r, ⟨⟨cls, dd, data, sl⟩, ho, hc, n, hd⟩, hs⟩ := I.tuple hT
  simp only at hc hd
  subst hc hd
  cases r
  have c0 : (decide (k < -(2 ^ 63)) || decide (k ≥ 2 ^ 63)) = false := by
    rw [decide_eq_false (by omega), decide_eq_false (by omega)] <;> rfl
  refine wpAny_binaryOp_repeat_ref (T := "tuple") (U := "int") (by decide) ⟨_, ho, rfl⟩ (fun s' => typeIs_int s' k t) noFill_tuple_mul F.fills_int_mul F.slot_int_rmul repeat_tuple F.slot_int_index.lookup
    (call_meets F.slot_int_rmul (typeIs_int s k t) F.entry_int_rmul (F.args_int_rmul_2 _ _) (int_rmul_tuple k t l [].toArray n dd sl)
      ⟨ho, rfl, ⟨_, ho, rfl⟩, call_meets F.slot_tuple_mul ⟨_, ho, rfl⟩ F.entry_tuple_mul (F.args_tuple_mul_2 _ _) (tuple_mulE l n dd sl k t c0) ⟨ho, ?_⟩⟩)
  exact ⟨.ref l, H, I, rfl, q⟩
def rMulE (K : PySem.W.Frag) : R2 := fun x y H Q => rMulA K x y H Q ∨ rRepE K x y H Q
theorem op_mulE {X : Cx} : OpR X (binaryOp .Mult) (rMulE X.K) := op_mulA.or op_repE
noncomputable def oMulE : OD := fun x y M => match x, y with
  | .tup [], .int k => if 0 ≤ k ∧ k ≤ 1000 then .ok (.tup []) M else .bad
  | x, y => oMul x y M
theorem opd_mulE {K : PySem.W.Frag} : OpD K (rMulE K) oMulE := by
  intro H I as M P x y d e Wf Q w rx ry s
  unfold oMulE at s
  split at s
  · split at s
    · rename_i hc
      cases ry
      have rx' := rx
      obtain ⟨a, vs, rfl, h1, r1⟩ := rx.tupl w rfl
      cases r1
      exact .inr ⟨a, _, rfl, rfl, h1, hc.1, hc.2, s.now w rx'⟩
    · exact s.elim
  · exact .inl (opd_mul H I as M P x y d e Wf Q w rx ry s)
/-! ### defs that call themselves -/
section
variable {P : Program} {w : World} {K : PySem.W.Frag} {mg : Str → Option Value} {base : Heap}
theorem fn_bad {f : Addr} {fd : FuncData} {ps : List Str} {k n : Nat} (hn : n = ps.length) : FnOk P w K mg base (L2.CX P w) k f fd ps (spM K mg n fun _ _ => .bad) :=
  ⟨fun vs H Q E h => h.1.trans hn, fun A outer s H args us vs Q E _ _ _ _ h => by
    obtain ⟨_, ds, I, as, M, P', wr, r, sat⟩ := h
    exact sat.elim⟩
end
/-! ### the facts of the classes -/
theorem excAt_mk {K : PySem.W.Frag} {mg : Str → Option Value} {h : Heap} (X : K.In h) (G : h.Ns mainGlobals mg) {x : Str} {C : Addr} (a : PySem.W.nsIn K mainGlobals x = some (some (.ref C))) (q : PySem.W.excIn K C VB "ValueError.__new__" = true)
    (k : PySem.W.keepIn K (.ref C) = true) (b : PySem.W.subIn K (.ref C) (.type "BaseException") = some true) (t : PySem.W.typeIn K (.ref C) = some (.type "type")) : ExcAt K mg x := ⟨C, PySem.W.mg_of X G a, q, k, b, t⟩
inductive ExcL (K : PySem.W.Frag) (mg : Str → Option Value) (D : Addr) (n : Str) : List Str → Prop
  | nil : ExcL K mg D n []
  | cons {d : Str} {C : Addr} {cs : List Str} (a : mg d = some (.ref C)) (b : PySem.W.exmOne K (.ref C) (.ref D) = some (exSub d n)) (r : ExcL K mg D n cs) : ExcL K mg D n (d :: cs)
theorem ExcL.at {K : PySem.W.Frag} {mg : Str → Option Value} {D : Addr} {n : Str} {cs : List Str} (h : ExcL K mg D n cs) : ∀ d ∈ cs, ∀ cls, mg d = some cls → PySem.W.exmOne K cls (.ref D) = some (exSub d n) := by
  induction h with
  | nil => intro d hd; cases hd
  | cons a b r ih =>
    intro d hd cls hm
    rcases List.mem_cons.mp hd with e | e
    · subst e
      rw [a] at hm
      cases hm
      exact b
    · exact ih d e cls hm
theorem excH_mk {K : PySem.W.Frag} {mg : Str → Option Value} {n : Str} {D : Addr} {cs : List Str} (a : mg n = some (.ref D)) (r : ExcL K mg D n cs) : ExcH K mg cs n := ⟨.ref D, a, r.at⟩
end KM
set_option Elab.async false
set_option linter.all false
set_option maxRecDepth 100000
set_option maxHeartbeats 2000000
namespace KM
open PySem L2 PySem.Spec PyProof.Rows
section
variable {X : Cx} {W : WX} {e : Expr} {pos p p2 p3 p4 : Pos} {te : TE} {ge : GE} {kk : Nat}
theorem ke_isi2 (K : PySem.W.Frag) {T U : String} {y z : Str} (hm : X.mg "isinstance" = none) (hm2 : X.mg y = none) (hv2 : bootBuiltins y = some (.type T)) (hm3 : X.mg z = none) (hv3 : bootBuiltins z = some (.type U)) (he : XE X W e te ge) (hK : X.K = K := by rfl) (hg : Gl X "isinstance" := by rfl)
    (hg2 : Gl X y := by rfl) (hn2 : y ≠ "__name__" := by decide) (hd2 : (y == ("__debug__" : Str)) = false := by decide) (hg3 : Gl X z := by rfl) (hn3 : z ≠ "__name__" := by decide) (hd3 : (z == ("__debug__" : Str)) = false := by decide)
    (h1 : starEach [e, .Tuple [.Name y p2, .Name z p3] kk p4] X.env = (false, eval e X.env) :: starEach [.Tuple [.Name y p2, .Name z p3] kk p4] X.env := by rfl)
    (h2 : starEach [.Tuple [.Name y p2, .Name z p3] kk p4] X.env = (false, eval (.Tuple [.Name y p2, .Name z p3] kk p4) X.env) :: starEach [] X.env := by rfl)
    (h3 : starEach [.Name y p2, .Name z p3] X.env = (false, eval (.Name y p2) X.env) :: starEach [.Name z p3] X.env := by rfl) (h4 : starEach [.Name z p3] X.env = (false, eval (.Name z p3) X.env) :: starEach [] X.env := by rfl)
    (hpl : (backTo pos (starEach [.Tuple [.Name y p2, .Name z p3] kk p4] X.env)).any (·.1) = false := by rfl) :
    XE X W (.Call (.Name "isinstance" p) [e, .Tuple [.Name y p2, .Name z p3] kk p4] [] pos) (tCB (rIsiT K) (tCons te (tCons (tTup (tCons (tC (.ty T)) (tCons (tC (.ty U)) tNil))) tNil))) (gUn (oIsi2 T U) ge) := by
  subst hK; exact xe_isi2 hm hm2 hv2 hm3 hv3 he hg hg2 hn2 hd2 hg3 hn3 hd3 h1 h2 h3 h4 hpl
end
section
variable {X : Cx} {W : WX} {e : Expr} {es : List Expr} {pos p : Pos} {t : TA} {g : GA}
theorem ke_callF (P : Program) (w : World) (K : PySem.W.Frag) (mg : Str → Option Value) (base : Heap) (i : Nat) {y : Str} {k n : Nat} {tb : List (Str × OC)} (hC : ∀ p ∈ tb, Callee P w K mg base p.1 k n p.2) (hr : Room k X.A) (tk : Takes X W) (ha : XA X W (e :: es) t g)
    (hP : X.prog = P := by rfl) (hw : X.w = w := by rfl) (hK : X.K = K := by rfl) (hmg : X.mg = mg := by rfl) (hba : X.base = base := by rfl)
    (hl : ∀ δ M ds M', g δ M = .ok ds M' → ds.length = n := by first | exact fun _ _ _ _ h => gCons_len (fun _ _ _ _ h => gNil_len h) h | exact fun _ _ _ _ h => gCons_len (fun _ _ _ _ h => gCons_len (fun _ _ _ _ h => gNil_len h) h) h | exact fun _ _ _ _ h => gCons_len (fun _ _ _ _ h => gCons_len (fun _ _ _ _ h => gCons_len (fun _ _ _ _ h => gNil_len h) h) h) h)
    (hN : X.N[i]? = some y := by rfl) (hv : Vis X.env.scope y := by first | exact Or.inl rfl | exact Or.inr (Or.inl rfl) | exact Or.inr (Or.inr rfl)) (hdb : (y == ("__debug__" : Str)) = false := by decide) (hcd : (y == ("__classdict__" : Str)) = false := by decide)
    (he : starEach (e :: es) X.env = (false, eval e X.env) :: starEach es X.env := by rfl) (hpl : (backTo pos (starEach es X.env)).any (·.1) = false := by rfl) :
    XE X W (.Call (.Name y p) (e :: es) [] pos) (tCallF P w K mg base W k i t) (gCallL i tb g) := by
  subst hP hw hK hmg hba; exact xe_callF i hC hr tk ha hl hN hv hdb hcd he hpl
end
end KM
namespace KM
open PySem L2 PySem.Spec PyProof.Rows
/-- what an except clause makes of a class, by the facts of both -/
theorem exm_two {K : PySem.W.Frag} {h : Heap} (X : K.In h) {C D : Addr} {b : Bool} (h1 : PySem.W.subIn K (.ref D) (.type "BaseException") = some true) (h2 : PySem.W.isClsIn K D = true) (h3 : PySem.W.typeIn K (.ref D) = some (.type "type")) (h4 : PySem.W.subIn K (.ref C) (.ref D) = some b) : PySem.W.exmOne K (.ref C) (.ref D) = some b := by
  unfold PySem.W.exmOne PySem.W.kitCls
  unfold PySem.W.isClsIn at h2
  simp [h1, h2, h3, h4]
end KM
set_option Elab.async false
set_option linter.all false
set_option maxRecDepth 100000
set_option maxHeartbeats 2000000
/-! max of a tuple of ints; zip -/
namespace SkE
open PySem PySem.Spec PyProof.Rows L2
section
variable {prog : Program} {w : World} {A : Around} {E : Value → Shared → Prop} {s : Shared} {l : Addr} {its : List Value} {ns : List Int}
theorem max_intTuple {xs : Array (Int × Tok)} {Q : Value → Shared → Prop} (hh : A.handled = none) (hl : s.heap.IsTuple l (intItems xs)) (hne : 0 < xs.size)
    (h : ∀ v h' tk, (intItems xs)[argBest (fun i j => decide (numAt xs i > numAt xs j)) (xs.size - 1)]? = some v → (∀ b o, s.heap.get? b = some o → h'.get? b = some o) → Q v { s with heap := h', toks := tk }) :
    wpAny (model prog w) A (call (.builtin "max") [.ref l]) Q E s := by
  have hlt : l < s.heap.objs.size := by obtain ⟨_, e, _⟩ := hl; exact Heap.lt_size e
  refine call_max_walk (wpAny_pyIter_tuple hl ?_)
  refine ⟨_, _, _, _, _, _, _, rfl, Walks.tuple (A := A.in1) hh _ l (Nat.ne_of_lt hlt) (intItems xs), ⟨⟨_, Heap.get?_push_size _ rfl, rfl, rfl⟩, hl.push _⟩, fun b hb => ?_, by simpa [intItems] using hne, CmpOf.ints_gt (numAt xs) (fun _ _ => intItems_at), fun v h' tk hP hk => ?_⟩
  · show b < (s.heap.push _).objs.size
    rw [Heap.size_push]
    rcases List.mem_cons.mp hb with rfl | hb
    · exact Nat.lt_succ_self _
    · rcases List.mem_cons.mp hb with rfl | hb
      · exact Nat.lt_succ_of_lt hlt
      · cases hb
  · exact h v h' tk (by simpa [intItems] using hP) (fun b o e => hk b o (fun hb => absurd (Heap.lt_size e) ((List.mem_singleton.mp hb) ▸ Nat.lt_irrefl _)) (Heap.get?_push_of_some _ e))
theorem max_rawT {Q : Value → Shared → Prop} (hh : A.handled = none) (hl : s.heap.IsTuple l its.toArray) (hi : IntsAre its ns) (hne : 0 < ns.length)
    (h : ∀ h' tk M t', (∀ b o, s.heap.get? b = some o → h'.get? b = some o) → M ∈ ns → (∀ a, a ∈ ns → a ≤ M) → Q (.int M t') { s with heap := h', toks := tk }) : wpAny (model prog w) A (call (.builtin "max") [.ref l]) Q E s := by
  obtain ⟨xs, e⟩ := hi.allInts.items
  have hn : numsOf (intItems xs).toList = ns := by rw [← e]; exact hi.numsOf
  rw [nums_intItems] at hn
  subst hn
  rw [e] at hl
  have hsz : 0 < xs.size := by simpa using hne
  refine max_intTuple hh hl hsz fun v h' tk hv hk => ?_
  obtain ⟨t, rfl⟩ := intItems_at hv
  obtain ⟨h1, h2⟩ := argBest_gt (numAt xs) (xs.size - 1)
  refine h h' tk _ t hk ?_ fun a ha => ?_
  · rw [numAt_eq]; exact PySem.getD_mem (by rw [List.length_map, Array.length_toList]; omega)
  · obtain ⟨j, hj, rfl⟩ := mem_getD ha
    rw [List.length_map, Array.length_toList] at hj
    rw [← numAt_eq]; exact h2 j (by omega)
end
end SkE
namespace KM
open PySem L2 PySem.Spec PyProof.Rows
def rMaxT (K : PySem.W.Frag) : List V → Hp → VK → Prop := fun vs H Q => ∃ (a : Addr) (ns : List Int), vs = [V.ref a] ∧ SqT K H a (ns.map V.int) ∧ 0 < ns.length ∧ ∀ m, m ∈ ns → (∀ y, y ∈ ns → y ≤ m) → Q (.int m) H
theorem cr_maxT {X : Cx} (hc : X.calm = true) : CallR X (.builtin "max") (rMaxT X.K) := by
  intro pins s σ H vs us Q I r h
  obtain ⟨a, ns, rfl, hs, hne, q⟩ := h
  obtain ⟨its, rv, pl, hz⟩ := I.tuple hs
  rw [Vals.ref1 r]
  exact SkE.max_rawT (I.ok.hd hc) pl rv.ints hne fun h' tk m t' hk h1 h2 => ⟨.int _, H, I.kept hk, ⟨_, rfl⟩, q m h1 h2⟩
def maxL (n : Int) (ns : List Int) : Int := ns.foldl (fun a b => if a < b then b else a) n
theorem maxL_spec : ∀ (ns : List Int) (n : Int), maxL n ns ∈ n :: ns ∧ ∀ y ∈ n :: ns, y ≤ maxL n ns
  | [], n => ⟨by simp [maxL], by simp [maxL]⟩
  | m :: ns, n => by
    have e : maxL n (m :: ns) = maxL (if n < m then m else n) ns := rfl
    obtain ⟨h1, h2⟩ := maxL_spec ns (if n < m then m else n)
    rw [e]
    constructor
    · rcases List.mem_cons.mp h1 with q | q
      · rw [q]
        split <;> simp
      · exact List.mem_cons_of_mem _ (List.mem_cons_of_mem _ q)
    · intro y hy
      have h0 := h2 _ (List.mem_cons_self ..)
      have h0' : n ≤ maxL (if n < m then m else n) ns ∧ m ≤ maxL (if n < m then m else n) ns := by
        by_cases c : n < m
        · rw [if_pos c] at h0 ⊢
          omega
        · rw [if_neg c] at h0 ⊢
          omega
      rcases List.mem_cons.mp hy with q | q
      · subst q
        exact h0'.1
      · rcases List.mem_cons.mp q with q | q
        · subst q
          exact h0'.2
        · exact h2 y (List.mem_cons_of_mem _ q)
def oMax : OC := fun ds M => match ds with
  | [x] => match tupOf x with
    | some xs => match intsD xs with
      | some (n :: ns) => .ok (.int (maxL n ns)) M
      | _ => .bad
    | none => .bad
  | _ => .bad
theorem opc_max {K : PySem.W.Frag} : OpC K (rMaxT K) oMax := by
  intro H I as M P xs ds Wf Q w r s
  unfold oMax at s
  split at s
  · obtain ⟨v, rfl, rv⟩ := r.one_inv
    split at s
    · rename_i ys hy
      split at s
      · rename_i n ns hn
        obtain ⟨a, vs, rfl, h1, r1⟩ := rv.tupl w hy
        have e := r1.intsD hn
        subst e
        refine ⟨a, n :: ns, rfl, h1, by simp, fun m hm hb => ?_⟩
        obtain ⟨q1, q2⟩ := maxL_spec ns n
        have em : m = maxL n ns := Int.le_antisymm (q2 m hm) (hb _ q1)
        subst em
        exact s.now w (.int _)
      · exact s.elim
    · exact s.elim
  · exact s.elim
/-! ### zip of two tuples -/
def zipD : List D → List D → List D
  | x :: xs, y :: ys => .tup [x, y] :: zipD xs ys
  | _, _ => []
theorem zipD_len : ∀ xs ys : List D, (zipD xs ys).length = min xs.length ys.length
  | [], _ => by simp [zipD]
  | _ :: _, [] => by simp [zipD]
  | x :: xs, y :: ys => by
    show (zipD xs ys).length + 1 = min (xs.length + 1) (ys.length + 1)
    rw [zipD_len xs ys]
    omega
theorem zipD_at : ∀ (xs ys : List D) (i : Nat) (x y : D), xs[i]? = some x → ys[i]? = some y → (zipD xs ys)[i]? = some (.tup [x, y])
  | [], _, i, x, y, h, _ => by simp at h
  | _ :: _, [], i, x, y, _, h => by simp at h
  | a :: xs, b :: ys, 0, x, y, h1, h2 => by
    cases h1
    cases h2
    rfl
  | a :: xs, b :: ys, i + 1, x, y, h1, h2 => zipD_at xs ys i x y h1 h2
def giZip (ga : GA) : GI := fun δ M => (ga δ M).bind fun ds M1 => match ds with
  | [x, y] => match tupOf x, tupOf y with
    | some xs, some ys => .ok (itT (zipD xs ys)) M1
    | _, _ => .bad
  | _ => .bad
theorem walk_zipT {K : PySem.W.Frag} {a b : Addr} {xs ys : List V} {n : Nat} (hn : n = min xs.length ys.length) : Walk (RZ.ItzT K a b) n (fun H => SqT K H a xs ∧ SqT K H b ys) (YPair (fun i => xs[i]?) (fun i => ys[i]?)) := by
  subst hn
  refine ⟨fun i _ hi q => ?_, fun _ q => ⟨xs, ys, q.1, q.2, by omega⟩, fun i H v H' _ q y => ?_⟩
  · have h1 : i < xs.length := by omega
    have h2 : i < ys.length := by omega
    exact ⟨xs, ys, xs[i], ys[i], q.1, q.2, by simp [h1], by simp [h2]⟩
  · obtain ⟨T, x, z, h1, h2, h3, h4, h5⟩ := y
    exact ⟨T, x, z, h1, h2, h3, h4 xs q.1, h5 ys q.2⟩
theorem itok_zip {K : PySem.W.Frag} {I P0 : Hp} {as : List Addr} {a b : Addr} {us vs : List V} {xs ys : List D} (h : SqT K I a us) (h' : SqT K I b vs) (r : Reps K I as us xs) (r' : Reps K I as vs ys) : ItOk K P0 I as (RZ.ItzT K a b) (itT (zipD xs ys)) := by
  have hl : (itT (zipD xs ys)).items.length = min us.length vs.length := by
    show (zipD xs ys).length = _
    rw [zipD_len, r.len, r'.len]
  refine ⟨fun H => SqT K H a us ∧ SqT K H b vs, YPair (fun i => us[i]?) (fun i => vs[i]?), by rw [hl]; exact walk_zipT (xs := us) (ys := vs) rfl, fun H' I' as' M' P' _ g w _ => ⟨w.seqT (Evl.ex_t g.sub h), w.seqT (Evl.ex_t g.sub h')⟩, fun i x H' H2 I' as' M' P' hi _ g w _ y => ?_⟩
  obtain ⟨T, x1, y1, rfl, hT, rfl, hx, hy⟩ := y
  obtain ⟨w2, g2⟩ := w.newI hT (.tup [x1, y1])
  obtain ⟨d, hd, rd⟩ := r.get' hx
  obtain ⟨e, he, re⟩ := r'.get' hy
  exact ⟨_, .tup [d, e], g2, w2, zipD_at _ _ _ _ _ hd he, .tup (.of upd_same) (.cons (rd.mono (g.trans g2)) (.cons (re.mono (g.trans g2)) .nil))⟩
section
variable {X : Cx} {W : WX} {e e2 : Expr} {p pos tpos : Pos} {elts : List Expr} {kk : Nat} {t : TA} {g : GA}
theorem xi_zip (hm : X.mg "zip" = none) (ha : XA X W [e, e2] t g) (hg : Gl X "zip" := by rfl)
    (hs : starEach [e, e2] X.env = (false, eval e X.env) :: starEach [e2] X.env := by rfl) (hpl : (backTo pos (starEach [e2] X.env)).any (·.1) = false := by rfl) : XI X W (.Tuple elts kk tpos) (.Call (.Name "zip" p) [e, e2] [] pos) (RZ.iZipA X.K t) (giZip g) := by
  refine ⟨RZ.pi_zipA hg hm ha.pe hs hpl, fun σ H δ I as M P Q w en s => ?_⟩
  refine ha.im σ H δ I as M P _ w en (Sat.bind s fun d M1 v H1 I1 as1 _ g1 w1 r1 s1 => ?_)
  split at s1
  · obtain ⟨v1, v2, rfl, q1, q2⟩ := r1.two_inv
    split at s1
    · rename_i xs ys h1 h2
      have e1 := tupOf_eq h1
      have e2 := tupOf_eq h2
      subst e1 e2
      cases q1 with
      | @tup a us _ k1 rr1 =>
        cases q2 with
        | @tup b vs _ k2 rr2 =>
          exact ⟨a, b, us, vs, rfl, .inr ⟨w1.seqT k1, w1.seqT k2, s1 _ H1 I1 as1 (Gr.refl _ _) w1 (itok_zip k1 k2 rr1 rr2)⟩⟩
    · exact s1.elim
  · exact s1.elim
theorem ki_zip (K : PySem.W.Frag) (hm : X.mg "zip" = none) (ha : XA X W [e, e2] t g) (hK : X.K = K := by rfl) (hg : Gl X "zip" := by rfl)
    (hs : starEach [e, e2] X.env = (false, eval e X.env) :: starEach [e2] X.env := by rfl) (hpl : (backTo pos (starEach [e2] X.env)).any (·.1) = false := by rfl) : XI X W (.Tuple elts kk tpos) (.Call (.Name "zip" p) [e, e2] [] pos) (RZ.iZipA K t) (giZip g) := by
  subst hK; exact xi_zip hm ha hg hs hpl
end
end KM
set_option Elab.async false
set_option linter.all false
set_option maxRecDepth 100000
set_option maxHeartbeats 2000000
/-! dicts with ints as keys -/
namespace KM
open PySem L2 PySem.Spec PyProof.Rows
theorem u1 {n c : Nat} (h : n + 64 < c) : n + 1 < c := by omega
def dget : List (Int × D) → Int → Option D
  | [], _ => none
  | p :: r, i => if p.1 = i then some p.2 else dget r i
section
variable {K : PySem.W.Frag} {H I P : Hp} {as : List Addr} {M : List MO}
theorem dval : ∀ {vs : List (L2.Key × V)} {kvs : List (Int × D)}, vs.map (fun p => p.1) = kvs.map (fun p => Sum.inl p.1) → Reps K I as (vs.map fun p => p.2) (kvs.map fun p => p.2) → ∀ i : Int,
    (dget kvs i = none → valV vs (Sum.inl i) = none) ∧ ∀ d, dget kvs i = some d → ∃ v, valV vs (Sum.inl i) = some v ∧ Rep K I as v d
  | [], [], _, _, i => ⟨fun _ => valV_nil, fun d h => by cases h⟩
  | [], _ :: _, h, _, _ => by cases h
  | _ :: _, [], h, _, _ => by cases h
  | q :: vs, p :: kvs, h, r, i => by
    rw [List.map_cons, List.map_cons] at h r
    injection h with h1 h2
    cases r with
    | cons r1 r2 =>
      obtain ⟨a1, a2⟩ := dval h2 r2 i
      unfold dget
      by_cases c : p.1 = i
      · rw [if_pos c]
        refine ⟨fun e => by (cases e), fun d e => ?_⟩
        cases e
        exact ⟨q.2, valV_pos (by rw [h1, c]), r1⟩
      · rw [if_neg c]
        have n : ¬ q.1 = Sum.inl i := by
          rw [h1]
          exact fun z => c (Sum.inl.inj z)
        rw [valV_neg n]
        exact ⟨a1, a2⟩
theorem Rep.dict (w : Wr K H I as M P) {v : V} {k : Nat} {kvs : List (Int × D)} (r : Rep K I as v (.ref k)) (h : M[k]? = some (.dct kvs)) : ∃ a, ∃ vs : List (L2.Key × V), v = .ref a ∧ as[k]? = some a ∧ H a = some (.dK vs) ∧ vs.map (fun p => p.1) = kvs.map (fun p => Sum.inl p.1) ∧ Reps K I as (vs.map fun p => p.2) (kvs.map fun p => p.2) ∧ P a = none := by
  cases r with
  | @ref _ a h1 =>
    obtain ⟨o, ho, _, fr, m⟩ := w.at h1
    rw [h] at ho
    cases ho
    obtain ⟨vs, e1, e2, rr⟩ := m
    exact ⟨a, vs, rfl, h1, e1, e2, rr, fr⟩
end
/-! x not in d -/
def oDNotIn : OD := fun x y M => match x, y with
  | .int i, .ref k => match M[k]? with
    | some (.dct kvs) => .ok (.bl (!(dget kvs i).isSome)) M
    | _ => .bad
  | _, _ => .bad
def rDNotIn : R2 := fun x y H Q => ∃ a o, y = .ref a ∧ DGet H a x o ∧ Q (.bl (!o.isSome)) H
theorem op_dnotin {X : Cx} (hu : X.A.units + 1 < cLine) : OpR X (compareOp .NotIn) rDNotIn := by
  intro pins s σ H x y v u Q I rx ry h
  obtain ⟨a, o, rfl, g, q⟩ := h
  cases (show u = Value.ref a from ry)
  exact d_notIn hu I g rx fun s' I' => ⟨.bl (!o.isSome), H, I', rfl, q⟩
theorem opd_dnotin {K : PySem.W.Frag} : OpD K rDNotIn oDNotIn := by
  intro H I as M P x y d e Wf Q w rx ry s
  unfold oDNotIn at s
  split at s
  · rename_i i k
    split at s
    · rename_i kvs hk
      cases rx
      obtain ⟨a, vs, rfl, _, h1, h2, h3, _⟩ := ry.dict w hk
      obtain ⟨a1, a2⟩ := dval h2 h3 i
      cases hg : dget kvs i with
      | none =>
        rw [hg] at s
        exact ⟨a, none, rfl, by rw [← a1 hg]; exact DGet.k (k := Sum.inl i) h1, s.now w (.bl _)⟩
      | some d =>
        rw [hg] at s
        obtain ⟨v, e1, e2⟩ := a2 d hg
        exact ⟨a, some v, rfl, by rw [← e1]; exact DGet.k (k := Sum.inl i) h1, s.now w (.bl _)⟩
    · exact s.elim
  · exact s.elim
/-! d[i] -/
def oDGet : OD := fun x y M => match x, y with
  | .ref k, .int i => match M[k]? with
    | some (.dct kvs) => match dget kvs i with
      | some d => .ok d M
      | none => .bad
    | _ => .bad
  | _, _ => .bad
def rDGet : R2 := fun x y H Q => ∃ a v, x = .ref a ∧ DGet H a y (some v) ∧ Q v H
theorem opd_dget {K : PySem.W.Frag} : OpD K rDGet oDGet := by
  intro H I as M P x y d e Wf Q w rx ry s
  unfold oDGet at s
  split at s
  · rename_i k i
    split at s
    · rename_i kvs hk
      split at s
      · rename_i dd hg
        cases ry
        obtain ⟨a, vs, rfl, _, h1, h2, h3, _⟩ := rx.dict w hk
        obtain ⟨v, e1, e2⟩ := (dval h2 h3 i).2 dd hg
        exact ⟨a, v, rfl, by rw [← e1]; exact DGet.k (k := Sum.inl i) h1, s.now w e2⟩
      · exact s.elim
    · exact s.elim
  · exact s.elim
section
variable {X : Cx} {W : WX} {a b e : Expr} {pos p p2 : Pos} {ta tb te : TE} {ga gb ge : GE}
theorem xe_dget (hu : X.A.units + 1 < cLine) (ha : XE X W a ta ga) (hb : XE X W b tb gb) (hs : NoSl b := by exact fun _ _ => rfl) : XE X W (.Subscript a b pos) (tDGet ta tb) (gOp oDGet ga gb) := by
  refine ⟨pe_dget hu ha.pe hb.pe hs, fun σ H δ I as M P Q w en s => ?_⟩
  refine ha.im σ H δ I as M P _ w en (Sat.bind s fun x M1 v H1 I1 as1 _ g1 w1 r1 s1 => ?_)
  refine hb.im σ H1 δ I1 as1 M1 P _ w1 (en.mono g1) (Sat.bind s1 fun y M2 u H2 I2 as2 _ g2 w2 r2 s2 => ?_)
  exact opd_dget (K := X.K) H2 I2 as2 M2 P v u x y _ Q w2 (r1.mono g2) r2 s2
/-! {i: x} -/
def gDct1 (i : Int) (gb : GE) : GE := fun δ M => match gb δ M with
  | .ok x M1 => .ok (.ref M1.length) (M1 ++ [.dct [(i, x)]])
  | _ => .bad
theorem xe_dct1 {i2 : Int} {j2} (hb : XE X W b tb gb) : XE X W (.Dict [some (.Constant (.int i2) j2 p2)] [b] pos) (tDisp [(tC (.int i2), tb)]) (gDct1 i2 gb) := by
  refine ⟨pe_disp (pps_cons pe_int hb.pe pps_nil) rfl rfl (by simp) (by show 1 ≤ 15; omega), fun σ H δ I as M P Q w en s => ?_⟩
  intro q hq
  obtain ⟨f1, f2, f3⟩ := w.fresh hq
  have w0 := w.newP hq (.dK [])
  unfold gDct1 at s
  cases e2 : gb δ M with
  | bad => rw [e2] at s; exact s.elim
  | ex c M2 => rw [e2] at s; exact s.elim
  | ok x2 M2 =>
    rw [e2] at s
    refine hb.im σ _ δ I as M _ _ w0 en ?_
    rw [e2]
    intro y2 H2 I2 as2 g2 w2 r2
    refine ⟨(w2.prv q _ upd_same).1, [(.inl i2, y2)], rfl, by show 1 ≤ 15; omega, ?_⟩
    have w3 := w2.putP upd_same (.dK (mergeK [] [(.inl i2, y2)]))
    rw [upd_upd] at w3
    have w4 := w3.giveM (m := .dct [(i2, x2)]) f2 (fun _ _ z => by cases z) ⟨[(.inl i2, y2)], upd_same, rfl, .cons r2 .nil⟩
    refine s _ _ _ _ (g2.trans (Gr.more I2 as2 [q])) w4 (.ref ?_)
    rw [← w2.len, List.getElem?_append_right (Nat.le_refl _), Nat.sub_self]
    rfl
end
/-! d[i] = x, i a new key -/
def oSetD : OSet := fun x i v M => match x, i with
  | .ref k, .int j => match M[k]? with
    | some (.dct kvs) => match dget kvs j with
      | none => if kvs.length < 1000 then some (M.set k (.dct (kvs ++ [(j, v)]))) else none
      | some _ => none
    | _ => none
  | _, _ => none
theorem setd_dict {K : PySem.W.Frag} : SetD K rSetD oSetD := by
  intro H I as M M' P x i v dx di dv Q w rx ri rv h k
  unfold oSetD at h
  split at h
  · rename_i kk j
    split at h
    · rename_i kvs hk
      split at h
      · rename_i hg
        split at h
        · rename_i hl
          cases h
          cases ri
          obtain ⟨a, vs, rfl, ha, h1, h2, h3, h4⟩ := rx.dict w hk
          have hv := (dval h2 h3 j).1 hg
          have hlen : vs.length = kvs.length := by
            have := congrArg List.length h2
            simpa using this
          refine ⟨a, _, rfl, DPut.k (k := Sum.inl j) h1 (by rw [hlen, sizeLine_eq]; omega), k _ ?_⟩
          rw [putK_new _ hv]
          refine w.put ha h4 _ _ ⟨_, upd_same, ?_, ?_⟩
          · simp [h2]
          · rw [List.map_append, List.map_append]
            exact h3.append (.cons rv .nil)
        · cases h
      · cases h
    · cases h
  · cases h
/-! sorted(d) -/
def oSortedD : OC := fun ds M => match ds with
  | [.ref k] => match M[k]? with
    | some (.dct kvs) => if kvs.length < 64 then .ok (.lst ((srtI (kvs.map fun p => p.1)).map D.int)) M else .bad
    | _ => .bad
  | _ => .bad
def rSortedD : List V → Hp → VK → Prop := fun xs H Q => ∃ (a : Addr) (kvs : List (L2.Key × V)) (ks : List Int), xs = [.ref a] ∧ Rd H a (.dK kvs) ∧ kvs.map (·.1) = ks.map Sum.inl ∧ ks.length < 64 ∧
    ∀ (ys : List Int) (p : Addr), ys.Perm ks → ys.Pairwise (· ≤ ·) → H p = none → Q (.ref p) (upd H p (.lst (ys.map V.int)))
theorem opc_sortedD {K : PySem.W.Frag} : OpC K rSortedD oSortedD := by
  intro H I as M P xs ds Wf Q w r s
  unfold oSortedD at s
  split at s
  · rename_i k
    obtain ⟨v, rfl, rv⟩ := r.one_inv
    split at s
    · rename_i kvs hk
      split at s
      · rename_i hl
        obtain ⟨a, vs, rfl, ha, h1, h2, h3⟩ := rv.dict w hk
        refine ⟨a, vs, kvs.map fun p => p.1, rfl, .inl h1, by rw [List.map_map]; exact h2, by rw [List.length_map]; exact hl, fun ns' p hp hs hf => ?_⟩
        have e : ns' = srtI (kvs.map fun p => p.1) := List.Perm.eq_of_pairwise (le := (· ≤ ·)) (fun a b _ _ h1 h2 => Int.le_antisymm h1 h2) hs (srtI_sorted _) (hp.trans (srtI_perm _).symm)
        subst e
        exact s.newLst w (Reps.ints _ rfl) hf
      · exact s.elim
    · exact s.elim
  · exact s.elim
/-! list(range(a, b)) -/
def gListRgM (ga gb : GE) : GE := fun δ M => (ga δ M).bind fun x M1 => (gb δ M1).bind fun y M2 => match x, y with
  | .int i, .int j => if -1000 ≤ i ∧ i ≤ 1000 ∧ -1000 ≤ j ∧ j ≤ 1000 then .ok (.ref M2.length) (M2 ++ [.lst (rngD i (j - i).toNat)]) else .bad
  | _, _ => .bad
theorem rg_ints (i : Int) (n : Nat) : rngD i n = ((List.range n).map fun (k : Nat) => i + (k : Int)).map D.int := by
  unfold rngD
  rw [List.map_map]
  rfl
section
variable {X : Cx} {W : WX} {a b : Expr} {pos p p2 pos2 : Pos} {ta tb : TE} {ga gb : GE}
theorem xe_listRgM (hc : X.calm = true) (hm : X.mg "list" = none) (hm2 : X.mg "range" = none) (ha : XE X W a ta ga) (hb : XE X W b tb gb) (hg : Gl X "list" := by rfl) (hg2 : Gl X "range" := by rfl)
    (na : starEach [a, b] X.env = (false, eval a X.env) :: starEach [b] X.env := by rfl) (nb : starEach [b] X.env = (false, eval b X.env) :: starEach [] X.env := by rfl) (hp : (backTo pos2 (starEach [b] X.env)).any (·.1) = false := by rfl)
    (nc : starEach [.Call (.Name "range" p2) [a, b] [] pos2] X.env = (false, eval (.Call (.Name "range" p2) [a, b] [] pos2) X.env) :: starEach [] X.env := by rfl) :
    XE X W (.Call (.Name "list" p) [.Call (.Name "range" p2) [a, b] [] pos2] [] pos) (tLstRg (tRg2 ta tb)) (gListRgM ga gb) := by
  refine ⟨pe_listRg hc hg hm (prg_2 hg2 hm2 ha.pe hb.pe na nb hp) nc, fun σ H δ I as M P Q w en s => ?_⟩
  refine ha.im σ H δ I as M P _ w en (Sat.bind s fun x M1 v H1 I1 as1 _ g1 w1 r1 s1 => ?_)
  refine hb.im σ H1 δ I1 as1 M1 P _ w1 (en.mono g1) (Sat.bind s1 fun y M2 u H2 I2 as2 _ g2 w2 r2 s2 => ?_)
  split at s2
  · rename_i i j
    split at s2
    · rename_i hc
      cases r1
      cases r2
      refine ⟨_, _, rfl, rfl, ⟨by omega, by omega, by omega, by omega, by omega⟩, fun q hq => ?_⟩
      refine s2.newRef w2 ?_ hq
      rw [rg_ints]
      refine Reps.ints _ ?_
      unfold rgV
      rw [List.map_map]
      rfl
    · exact s2.elim
  · exact s2.elim
end
end KM
set_option Elab.async false
set_option linter.all false
set_option maxRecDepth 100000
set_option maxHeartbeats 2000000
/-! sorted of pairs of ints; enumerate -/
namespace KM
open PySem L2 PySem.Spec PyProof.Rows
inductive PrA (K : PySem.W.Frag) (H : Hp) : List V → List (Int × Int) → Prop
  | nil : PrA K H [] []
  | cons {t : Addr} {p : Int × Int} {xs : List V} {ps : List (Int × Int)} : SqT K H t [.int p.1, .int p.2] → PrA K H xs ps → PrA K H (.ref t :: xs) (p :: ps)
def rSortedPT (K : PySem.W.Frag) : List V → Hp → VK → Prop := fun vs H Q => ∃ (a : Addr) (xs : List V) (ps : List (Int × Int)), vs = [V.ref a] ∧ SqL K H a xs ∧ PrA K H xs ps ∧
  ∀ (ys : List V) (qs : List (Int × Int)) (p : Addr), (ys.zip qs).Perm (xs.zip ps) → ys.length = qs.length → qs.Pairwise (fun x y => SrtO.lexB y x = false) → H p = none → Q (.ref p) (upd H p (.lst ys))
section
variable {X : Cx}
open Classical in
noncomputable def prK (K : PySem.W.Frag) (H : Hp) (x : V) : Int × Int := if h : ∃ (p : Int × Int) (t : Addr), x = .ref t ∧ SqT K H t [.int p.1, .int p.2] then h.choose else (0, 0)
theorem prK_at {pins : List (Addr × Obj)} {σ : L2.St} {H : Hp} {s : Shared} (I : Inv X pins σ H s) {t : Addr} {p : Int × Int} (h : SqT X.K H t [.int p.1, .int p.2]) : prK X.K H (.ref t) = p := by
  have ex : ∃ (p : Int × Int) (t' : Addr), V.ref t = .ref t' ∧ SqT X.K H t' [.int p.1, .int p.2] := ⟨p, t, rfl, h⟩
  unfold prK
  rw [dif_pos ex]
  obtain ⟨t', e, h2⟩ := ex.choose_spec
  cases e
  have q := I.tuple_inj h2 h
  simp only [List.cons.injEq, V.int.injEq, and_true] at q
  exact Prod.ext q.1 q.2
theorem PrA.keys {pins : List (Addr × Obj)} {σ : L2.St} {H : Hp} {s : Shared} (I : Inv X pins σ H s) : ∀ {xs : List V} {ps : List (Int × Int)}, PrA X.K H xs ps → xs.map (prK X.K H) = ps
  | _, _, .nil => rfl
  | _, _, .cons h r => by rw [List.map_cons, prK_at I h, PrA.keys I r]
theorem PrA.mem {K : PySem.W.Frag} {H : Hp} : ∀ {xs : List V} {ps : List (Int × Int)}, PrA K H xs ps → ∀ x ∈ xs, ∃ (t : Addr) (p : Int × Int), x = .ref t ∧ SqT K H t [.int p.1, .int p.2]
  | _, _, .nil, x, hx => by cases hx
  | _, _, .cons h r, x, hx => by
    rcases List.mem_cons.mp hx with e | e
    · exact ⟨_, _, e, h⟩
    · exact PrA.mem r x e
theorem zip_map_self (f : V → Int × Int) : ∀ xs : List V, xs.zip (xs.map f) = xs.map fun x => (x, f x)
  | [] => rfl
  | x :: xs => by rw [List.map_cons, List.map_cons, List.zip_cons_cons, zip_map_self f xs]
theorem cr_sortedPT : CallR X (.builtin "sorted") (rSortedPT X.K) := by
  intro pins s σ H vs us Q I r h
  obtain ⟨a, xs, ps, rfl, hs, hx, q⟩ := h
  obtain ⟨its, rv, hl, hz⟩ := I.list hs
  obtain ⟨u, rfl, ru⟩ := vals1 r
  obtain rfl : u = Value.ref a := ru
  obtain ⟨e1, e2⟩ := refs_back rv fun x m => by
    obtain ⟨t, _, e, _⟩ := hx.mem x m
    exact ⟨t, e⟩
  refine SrtO.sorted_pairsO (k := fun u => prK X.K H (backV u)) hl.isList (by rw [← rv.length]; exact hz) (fun v hv => ?_) fun h' d out h1 h2 kp hd hn => ?_
  · obtain ⟨t, rfl⟩ := e2 v hv
    have hm : V.ref t ∈ xs := by rw [e1]; exact List.mem_map.mpr ⟨_, hv, rfl⟩
    obtain ⟨t', p, e, ht⟩ := hx.mem _ hm
    cases e
    have ep : prK X.K H (backV (Value.ref t)) = p := prK_at I ht
    obtain ⟨its2, r2, ⟨o, ho, hc, n, hd⟩, _⟩ := I.tuple ht
    obtain ⟨u1, u2, rfl, ri, rj⟩ := vals2 r2
    obtain ⟨t1, rfl⟩ := ri
    obtain ⟨t2, rfl⟩ := rj
    refine ⟨t, o, t1, t2, n, rfl, ho, hc, ?_⟩
    show o.data = .seq #[.int (prK X.K H (backV (Value.ref t))).1 t1, .int (prK X.K H (backV (Value.ref t))).2 t2] n
    rw [ep]
    exact hd
  · have h3 : ∀ u ∈ out, ∃ a, u = Value.ref a := fun u hu => e2 u (h2.perm.mem_iff.mp hu)
    obtain ⟨n, hn⟩ := hn
    have hp : (out.map backV).Perm xs := by rw [e1]; exact h2.perm.map _
    refine ⟨.ref d, upd H d (.lst (out.map backV)), I.laid (t' := s.toks) kp hd ⟨?_, out, n, vals_back h3, hn⟩, rfl, q _ ((out.map backV).map (prK X.K H)) d ?_ (by simp) ?_ (I.hok.fresh hd)⟩
    · rw [hp.length_eq]
      exact hz
    · rw [← hx.keys I, zip_map_self, zip_map_self]
      exact hp.map _
    · rw [List.map_map]
      exact List.pairwise_map.mpr h1
end
def pD (p : Int × Int) : D := .tup [.int p.1, .int p.2]
def prsD : List D → Option (List (Int × Int))
  | [] => some []
  | .tup [.int i, .int j] :: xs => (prsD xs).map ((i, j) :: ·)
  | _ :: _ => none
def srtP (ps : List (Int × Int)) : List (Int × Int) := ps.mergeSort (fun x y => !SrtO.lexB y x)
theorem srtP_perm (ps : List (Int × Int)) : (srtP ps).Perm ps := List.mergeSort_perm ..
theorem lex_tot (x y : Int × Int) : SrtO.lexB y x = false ∨ SrtO.lexB x y = false := by
  rw [SrtO.lexB_no, SrtO.lexB_no]
  omega
theorem srtP_sorted (ps : List (Int × Int)) : (srtP ps).Pairwise (fun x y => SrtO.lexB y x = false) := by
  have h := List.pairwise_mergeSort (le := fun (x y : Int × Int) => !SrtO.lexB y x) (fun a b c h1 h2 => by
    simp only [Bool.not_eq_true'] at *
    rw [SrtO.lexB_no] at *
    omega) (fun a b => by
    simp only [Bool.or_eq_true, Bool.not_eq_true']
    exact lex_tot a b) ps
  exact h.imp fun h => by simpa using h
theorem lex_anti {x y : Int × Int} (h1 : SrtO.lexB y x = false) (h2 : SrtO.lexB x y = false) : x = y := by
  rw [SrtO.lexB_no] at h1 h2
  exact Prod.ext (by omega) (by omega)
theorem srtP_uniq {qs ps : List (Int × Int)} (h : qs.Perm ps) (hs : qs.Pairwise (fun x y => SrtO.lexB y x = false)) : qs = srtP ps :=
  List.Perm.eq_of_pairwise (le := fun x y => SrtO.lexB y x = false) (fun a b _ _ h1 h2 => lex_anti h1 h2) hs (srtP_sorted ps) (h.trans (srtP_perm ps).symm)
def oSortedP : OC := fun ds M => match ds with
  | [x] => match listOf M x with
    | some xs => match prsD xs with
      | some ps => .ok (.lst ((srtP ps).map pD)) M
      | none => .bad
    | none => .bad
  | _ => .bad
section
variable {K : PySem.W.Frag} {H I P : Hp} {as : List Addr} {M : List MO}
theorem Reps.prs (w : Wr K H I as M P) : ∀ {vs : List V} {ds : List D} {ps : List (Int × Int)}, Reps K I as vs ds → prsD ds = some ps → PrA K H vs ps ∧ ds = ps.map pD ∧ ∀ z ∈ vs.zip ps, Rep K I as z.1 (pD z.2)
  | _, _, ps, .nil, h => by
    cases h
    exact ⟨.nil, rfl, fun z hz => by cases hz⟩
  | _, _, ps, .cons (d := d) (ds := ds) r rr, h => by
    unfold prsD at h
    split at h
    · rename_i e
      cases e
    · rename_i i j xs e
      cases e
      cases e2 : prsD ds with
      | none => rw [e2] at h; cases h
      | some qs =>
        rw [e2] at h
        cases h
        obtain ⟨q1, q2, q3⟩ := Reps.prs w rr e2
        have r0 := r
        cases r with
        | @tup a vs _ h1 h2 =>
          obtain ⟨v1, v2, rfl, z1, z2⟩ := h2.two_inv
          cases z1
          cases z2
          refine ⟨.cons (p := (i, j)) (w.seqT h1) q1, by rw [q2]; rfl, fun z hz => ?_⟩
          rcases List.mem_cons.mp hz with e | e
          · subst e
            exact r0
          · exact q3 z e
    · cases h
theorem Reps.of_zip : ∀ {ys : List V} {qs : List (Int × Int)}, ys.length = qs.length → (∀ z ∈ ys.zip qs, Rep K I as z.1 (pD z.2)) → Reps K I as ys (qs.map pD)
  | [], [], _, _ => .nil
  | [], _ :: _, h, _ => by cases h
  | _ :: _, [], h, _ => by cases h
  | y :: ys, q :: qs, h, f => by
    rw [List.zip_cons_cons] at f
    exact .cons (f (y, q) (List.mem_cons_self ..)) (Reps.of_zip (by simpa using h) fun z hz => f z (List.mem_cons_of_mem _ hz))
end
theorem zip_snd : ∀ {ys : List V} {qs : List (Int × Int)}, ys.length = qs.length → (ys.zip qs).map (fun z => z.2) = qs
  | [], [], _ => rfl
  | [], _ :: _, h => by cases h
  | _ :: _, [], h => by cases h
  | y :: ys, q :: qs, h => by
    rw [List.zip_cons_cons, List.map_cons, zip_snd (by simpa using h)]
theorem PrA.len {K : PySem.W.Frag} {H : Hp} : ∀ {xs : List V} {ps : List (Int × Int)}, PrA K H xs ps → xs.length = ps.length
  | _, _, .nil => rfl
  | _, _, .cons h r => by rw [List.length_cons, List.length_cons, PrA.len r]
theorem opc_sortedP {K : PySem.W.Frag} : OpC K (rSortedPT K) oSortedP := by
  intro H I as M P xs ds Wf Q w r s
  unfold oSortedP at s
  split at s
  · obtain ⟨v, rfl, rv⟩ := r.one_inv
    split at s
    · rename_i zs hz
      split at s
      · rename_i ps hp
        obtain ⟨a, vs, rfl, h1, r1⟩ := rv.list w hz
        obtain ⟨q1, q2, q3⟩ := r1.prs w hp
        refine ⟨a, vs, ps, rfl, h1, q1, fun ys qs p hpm hl hs hf => ?_⟩
        have e : qs = srtP ps := srtP_uniq (by
          have := hpm.map fun z => z.2
          rwa [zip_snd hl, zip_snd q1.len] at this) hs
        subst e
        exact s.newLst w (Reps.of_zip hl fun z hz => q3 z (hpm.mem_iff.mp hz)) hf
      · exact s.elim
    · exact s.elim
  · exact s.elim
/-! ### enumerate -/
def enumD : Nat → List D → List D
  | _, [] => []
  | i, x :: xs => .tup [.int (i : Int), x] :: enumD (i + 1) xs
theorem enumD_len : ∀ (xs : List D) (i : Nat), (enumD i xs).length = xs.length
  | [], _ => rfl
  | x :: xs, i => by
    unfold enumD
    rw [List.length_cons, List.length_cons, enumD_len xs]
theorem enumD_at : ∀ (xs : List D) (i j : Nat) (x : D), xs[j]? = some x → (enumD i xs)[j]? = some (.tup [.int ((i + j : Nat) : Int), x])
  | [], _, _, _, h => by simp at h
  | y :: xs, i, 0, x, h => by
    cases h
    rfl
  | y :: xs, i, j + 1, x, h => by
    have := enumD_at xs (i + 1) j x h
    rw [show i + 1 + j = i + (j + 1) by omega] at this
    exact this
def giEnum (ga : GA) : GI := fun δ M => (ga δ M).bind fun ds M1 => match ds with
  | [.lst xs] => .ok (itT (enumD 0 xs)) M1
  | [.rol xs] => .ok (itT (enumD 0 xs)) M1
  | _ => .bad
theorem itok_enum {K : PySem.W.Frag} {I P0 : Hp} {as : List Addr} {a : Addr} {us : List V} {xs : List D} (h : SqL K I a us) (r : Reps K I as us xs) : ItOk K P0 I as (Ite K a) (itT (enumD 0 xs)) := by
  have hl : (itT (enumD 0 xs)).items.length = us.length := by
    show (enumD 0 xs).length = _
    rw [enumD_len, r.len]
  refine ⟨fun H => SqL K H a us, YPair (fun i => some (.int (i : Nat))) (fun i => us[i]?), by rw [hl]; exact walk_enum, fun H' I' as' M' P' _ g w _ => w.seqL (Evl.ex_l g.sub h), fun i x H' H2 I' as' M' P' hi _ g w _ y => ?_⟩
  obtain ⟨T, x1, y1, rfl, hT, rfl, hx, hy⟩ := y
  obtain ⟨w2, g2⟩ := w.newI hT (.tup [x1, y1])
  cases hx
  obtain ⟨d, hd, rd⟩ := r.get' hy
  refine ⟨_, .tup [.int (i : Int), d], g2, w2, ?_, .tup (.of upd_same) (.cons (.int _) (.cons (rd.mono (g.trans g2)) .nil))⟩
  have := enumD_at xs 0 i d hd
  rw [Nat.zero_add] at this
  exact this
section
variable {X : Cx} {W : WX} {e : Expr} {p pos tpos : Pos} {elts : List Expr} {kk : Nat} {t : TA} {g : GA}
theorem xi_enum (hm : X.mg "enumerate" = none) (ha : XA X W [e] t g) (hg : Gl X "enumerate" := by rfl) (hs : starEach [e] X.env = [(false, eval e X.env)] := by rfl) : XI X W (.Tuple elts kk tpos) (.Call (.Name "enumerate" p) [e] [] pos) (iEnum X.K t) (giEnum g) := by
  refine ⟨pi_enum hg hm ha.pe hs, fun σ H δ I as M P Q w en s => ?_⟩
  refine ha.im σ H δ I as M P _ w en (Sat.bind s fun d M1 v H1 I1 as1 _ g1 w1 r1 s1 => ?_)
  split at s1
  · obtain ⟨v, rfl, rv⟩ := r1.one_inv
    cases rv with
    | @lst a us _ h1 rr => exact ⟨a, us, rfl, .of (w1.sub _ _ h1), s1 _ H1 I1 as1 (Gr.refl _ _) w1 (itok_enum (.of h1) rr)⟩
  · obtain ⟨v, rfl, rv⟩ := r1.one_inv
    cases rv with
    | @rol a us _ h1 rr => exact ⟨a, us, rfl, w1.seqL h1, s1 _ H1 I1 as1 (Gr.refl _ _) w1 (itok_enum h1 rr)⟩
  · exact s1.elim
theorem ki_enum (K : PySem.W.Frag) (hm : X.mg "enumerate" = none) (ha : XA X W [e] t g) (hK : X.K = K := by rfl) (hg : Gl X "enumerate" := by rfl) (hs : starEach [e] X.env = [(false, eval e X.env)] := by rfl) : XI X W (.Tuple elts kk tpos) (.Call (.Name "enumerate" p) [e] [] pos) (iEnum K t) (giEnum g) := by
  subst hK; exact xi_enum hm ha hg hs
end
/-! a, b, c = x, y, z -/
def gPar3 (i j l : Nat) (ga gb gc : GE) : GS := fun δ M => (ga δ M).toS δ fun x M1 => (gb δ M1).toS δ fun y M2 => (gc δ M2).toS δ fun z M3 => .nx (((δ.set i (some x)).set j (some y)).set l (some z)) M3
section
variable {X : Cx} {W : WX} {a b c : Expr} {pos p p2 pos2 : Pos} {ta tb tc : TE} {ga gb gc : GE}
theorem xs_par3 {i j l : Nat} {x y z : Str} {px py pz pt : Pos} {kt k2 pt2} (hc : X.calm = true) (hN : X.N.Nodup) (ha : XE X W a ta ga) (hb : XE X W b tb gb) (hcc : XE X W c tc gc)
    (hi : X.N[i]? = some x := by rfl) (hj : X.N[j]? = some y := by rfl) (hl : X.N[l]? = some z := by rfl) (hij : i ≠ j := by decide) (hil : i ≠ l := by decide) (hjl : j ≠ l := by decide)
    (hx : X.env.scope.names.lookup x = some .local := by rfl) (hy : X.env.scope.names.lookup y = some .local := by rfl) (hz : X.env.scope.names.lookup z = some .local := by rfl)
    (hw : swappedStores [.Tuple [.Name x px, .Name y py, .Name z pz] kt pt] (.Tuple [a, b, c] k2 pt2) X.env = pure (some [x, y, z]) := by rfl)
    (hs : swapsWithSole [.Tuple [.Name x px, .Name y py, .Name z pz] kt pt] (.Tuple [a, b, c] k2 pt2) pos.line X.env = pure false := by rfl)
    (h1 : starEach [a, b, c] X.env = (false, eval a X.env) :: starEach [b, c] X.env := by rfl) (h2 : starEach [b, c] X.env = (false, eval b X.env) :: starEach [c] X.env := by rfl) (h3 : starEach [c] X.env = (false, eval c X.env) :: starEach [] X.env := by rfl) :
    XS X W (.Assign [.Tuple [.Name x px, .Name y py, .Name z pz] kt pt] (.Tuple [a, b, c] k2 pt2) pos) (tPar3 i j l (tCons ta (tCons tb (tCons tc tNil)))) (gPar3 i j l ga gb gc) := by
  refine ⟨ps_par3 hc hN hi hj hl hij hil hjl hx hy hz (pa_cons ha.pe (pa_cons hb.pe (pa_cons hcc.pe pa_nil h3) h2) h1) hw hs, fun σ H δ I as M P E w en s => ?_⟩
  refine ha.im σ H δ I as M P _ w en (SatS.bindE s en fun d M1 v H1 I1 as1 _ g1 w1 r1 s1 => ?_)
  refine hb.im σ H1 δ I1 as1 M1 P _ w1 (en.mono g1) (SatS.bindE s1 (en.mono g1) fun d2 M2 v2 H2 I2 as2 _ g2 w2 r2 s2 => ?_)
  refine hcc.im σ H2 δ I2 as2 M2 P _ w2 (en.mono (g1.trans g2)) (SatS.bindE s2 (en.mono (g1.trans g2)) fun d3 M3 v3 H3 I3 as3 _ g3 w3 r3 s3 => ?_)
  exact ⟨v, v2, v3, rfl, s3 _ H3 I3 as3 (Gr.refl _ _) w3 ((((en.mono (g1.trans (g2.trans g3))).set (r1.mono (g2.trans g3)) i).set (r2.mono g3) j).set r3 l)⟩
/-! list(range(b)) -/
def gListRg1M (gb : GE) : GE := fun δ M => (gb δ M).bind fun y M2 => match y with
  | .int j => if -1000 ≤ j ∧ j ≤ 1000 then .ok (.ref M2.length) (M2 ++ [.lst (rngD 0 j.toNat)]) else .bad
  | _ => .bad
theorem xe_listRg1M (hc : X.calm = true) (hm : X.mg "list" = none) (hm2 : X.mg "range" = none) (hb : XE X W b tb gb) (hg : Gl X "list" := by rfl) (hg2 : Gl X "range" := by rfl)
    (nb : starEach [b] X.env = (false, eval b X.env) :: starEach [] X.env := by rfl)
    (nc : starEach [.Call (.Name "range" p2) [b] [] pos2] X.env = (false, eval (.Call (.Name "range" p2) [b] [] pos2) X.env) :: starEach [] X.env := by rfl) :
    XE X W (.Call (.Name "list" p) [.Call (.Name "range" p2) [b] [] pos2] [] pos) (tLstRg (tRg1 tb)) (gListRg1M gb) := by
  refine ⟨pe_listRg hc hg hm (prg_1 hg2 hm2 hb.pe nb) nc, fun σ H δ I as M P Q w en s => ?_⟩
  refine hb.im σ H δ I as M P _ w en (Sat.bind s fun y M2 u H2 I2 as2 _ g2 w2 r2 s2 => ?_)
  split at s2
  · split at s2
    · rename_i hc
      cases r2
      refine ⟨_, rfl, ⟨by omega, by omega, by omega, by omega, by omega⟩, fun q hq => ?_⟩
      refine s2.newRef w2 ?_ hq
      rw [rg_ints]
      refine Reps.ints _ ?_
      unfold rgV
      rw [List.map_map, Int.sub_zero]
      rfl
    · exact s2.elim
  · exact s2.elim
end
end KM
set_option Elab.async false
set_option linter.all false
set_option maxRecDepth 100000
set_option maxHeartbeats 2000000
/-! zip of three, lists or tuples; len(set(..)); {} and {0: x} that are only carried -/
namespace KM
open PySem L2 PySem.Spec PyProof.Rows
def sqK (k : Bool) (K : PySem.W.Frag) (H : Hp) (a : Addr) (xs : List V) : Prop := match k with | true => SqL K H a xs | false => SqT K H a xs
def itK (k : Bool) (h : Heap) (it a : Addr) (i : Nat) : Prop := match k with | true => h.IsListIter it a i | false => h.IsTupleIter it a i
def lsK (k : Bool) (h : Heap) (a : Addr) (items : Array Value) : Prop := match k with | true => h.IsList a items | false => h.IsTuple a items
def obK (k : Bool) (a : Addr) : Obj := match k with | true => { cls := .type "list_iterator", data := .fields #[.ref a, .int 0 0] } | false => { cls := .type "tuple_iterator", data := .fields #[.ref a, .int 0 0] }
theorem itK.lt {k : Bool} {h : Heap} {it a : Addr} {i : Nat} (x : itK k h it a i) : it < h.objs.size := by
  cases k with
  | true => obtain ⟨o, e, _⟩ := x; exact Heap.lt_size e
  | false => obtain ⟨o, e, _⟩ := x; exact Heap.lt_size e
theorem itK.obj {k : Bool} {h : Heap} {it a : Addr} {i : Nat} (x : itK k h it a i) : ∃ o, h.get? it = some o ∧ ∀ v, o.data ≠ .cell v := by
  cases k with
  | true => obtain ⟨o, e, _, d⟩ := x; exact ⟨o, e, fun v q => by rw [d] at q; cases q⟩
  | false => obtain ⟨o, e, _, d⟩ := x; exact ⟨o, e, fun v q => by rw [d] at q; cases q⟩
theorem itK.at {k : Bool} {h h' : Heap} {it a : Addr} {i : Nat} (x : itK k h it a i) (e : ∀ o, h.get? it = some o → h'.get? it = some o) : itK k h' it a i := by
  cases k with
  | true => exact Heap.IsListIter.at x e
  | false => exact Heap.IsTupleIter.at x e
theorem lsK.at {k : Bool} {h h' : Heap} {a : Addr} {items : Array Value} (x : lsK k h a items) (e : ∀ o, h.get? a = some o → h'.get? a = some o) : lsK k h' a items := by
  cases k with
  | true => exact Heap.IsList.at x e
  | false => exact Heap.IsTuple.at x e
theorem lsK.lt {k : Bool} {h : Heap} {a : Addr} {items : Array Value} (x : lsK k h a items) : a < h.objs.size := by
  cases k with
  | true => obtain ⟨o, e, _⟩ := x; exact Heap.lt_size e
  | false => obtain ⟨o, e, _⟩ := x; exact Heap.lt_size e
theorem drawsK {P : Program} {w : World} {A : Around} (hh : A.handled = none) (k : Bool) (it a : Addr) (hne : a ≠ it) (items : Array Value) :
    Draws P w A it [it, a] items.size (fun i v => items[i]? = some v) (fun i h => itK k h it a i ∧ lsK k h a items) := by
  cases k with
  | true => exact Draws.list hh it a hne items
  | false => exact Draws.tuple hh it a hne items
theorem beginsK (k : Bool) (a : Addr) (items : Array Value) : Begins (.ref a) (obK k a) fun h => lsK k h a items := by
  cases k with
  | true => exact begins_list a items
  | false => exact begins_tuple a items
theorem obK_it {k : Bool} {h : Heap} {it a : Addr} (e : h.get? it = some (obK k a)) : itK k h it a 0 := by
  cases k with
  | true => exact ⟨_, e, rfl, rfl⟩
  | false => exact ⟨_, e, rfl, rfl⟩
section
variable {X : Cx} {pins : List (Addr × Obj)} {σ : L2.St} {H : Hp} {s : Shared} {a : Addr} {xs : List V}
theorem inv_sqK {k : Bool} (I : Inv X pins σ H s) (h : sqK k X.K H a xs) : ∃ its : List Value, Vals xs its ∧ lsK k s.heap a its.toArray ∧ xs.length ≤ sizeLine := by
  cases k with
  | true => obtain ⟨its, r, p, z⟩ := I.list h; exact ⟨its, r, p.isList, z⟩
  | false => obtain ⟨its, r, p, z⟩ := I.tuple h; exact ⟨its, r, p, z⟩
theorem inv_sqK_inj {k : Bool} {ys : List V} (I : Inv X pins σ H s) (h : sqK k X.K H a xs) (h' : sqK k X.K H a ys) : xs = ys := by
  cases k with
  | true => exact I.list_inj h h'
  | false => exact I.tuple_inj h h'
end
/-- three sequences as they stand at each turn, the items in new triples -/
def ItzN (K : PySem.W.Frag) (k1 k2 k3 : Bool) (a b c : Addr) : It :=
  ⟨fun i H => ∃ (xs ys zs : List V), sqK k1 K H a xs ∧ sqK k2 K H b ys ∧ sqK k3 K H c zs ∧ i < xs.length ∧ i < ys.length ∧ i < zs.length,
    fun i H v H' => ∃ T x y z, v = .ref T ∧ H T = none ∧ H' = upd H T (.tup [x, y, z]) ∧ (∀ xs, sqK k1 K H a xs → xs[i]? = some x) ∧ (∀ ys, sqK k2 K H b ys → ys[i]? = some y) ∧ ∀ zs, sqK k3 K H c zs → zs[i]? = some z,
    fun i H => ∃ xs ys zs : List V, sqK k1 K H a xs ∧ sqK k2 K H b ys ∧ sqK k3 K H c zs ∧ i = min (min xs.length ys.length) zs.length⟩
def tnz (k1 k2 k3 : Bool) (a b c z TI TO i1 i2 i3 : Addr) (i : Nat) (h : Heap) : Prop := IsZip h z TI TO .none ∧ IsTupOf3 h TI (.ref i1) (.ref i2) (.ref i3) ∧ (∃ a1 a2 a3, IsTupOf3 h TO a1 a2 a3) ∧ itK k1 h i1 a i ∧ itK k2 h i2 b i ∧ itK k3 h i3 c i
theorem turn_zip3 {P : Program} {w : World} {K : PySem.W.Frag} {elts : List Expr} {kk : Nat} {tpos : Pos} {k1 k2 k3 : Bool} {a b c z TI TO i1 i2 i3 : Addr} (D : ZipSep3 z TI TO i1 i2 i3 [i1, a] [i2, b] [i3, c]) (n1 : a ≠ i1) (n2 : b ≠ i2) (n3 : c ≠ i3) :
    Turn P w K (.Tuple elts kk tpos) (ItzN K k1 k2 k3 a b c) [z, TI, TO, i1, i2, i3] z (tnz k1 k2 k3 a b c z TI TO i1 i2 i3) where
  mem := by simp
  obj := fun i h st q hq => by
    obtain ⟨hz, hTI, ⟨x, y, u, hTO⟩, h1, h2, h3⟩ := st
    have e' : q = z ∨ q = TI ∨ q = TO ∨ q = i1 ∨ q = i2 ∨ q = i3 := by simpa using hq
    rcases e' with q | q | q | q | q | q
    · rw [q]; exact ⟨_, hz, fun v q => nomatch q⟩
    · rw [q]; exact ⟨_, hTI, fun v q => nomatch q⟩
    · rw [q]; exact ⟨_, hTO, fun v q => nomatch q⟩
    · rw [q]; exact h1.obj
    · rw [q]; exact h2.obj
    · rw [q]; exact h3.obj
  keep := fun i h h' st k => by
    obtain ⟨hz, hTI, ⟨x, y, u, hTO⟩, h1, h2, h3⟩ := st
    exact ⟨k z (by simp) _ hz, k TI (by simp) _ hTI, ⟨x, y, u, k TO (by simp) _ hTO⟩, h1.at fun o q => k i1 (by simp) o q, h2.at fun o q => k i2 (by simp) o q, h3.at fun o q => k i3 (by simp) o q⟩
  item := by
    intro X hP hw hK hc i pins s σ H E I hf st hg
    subst hP hw hK
    obtain ⟨hz, hTI, hTO, h1, h2, h3⟩ := st
    obtain ⟨xs, ys, zs, q1, q2, q3, l1, l2, l3⟩ := hg
    obtain ⟨its1, r1, p1, _⟩ := inv_sqK I q1
    obtain ⟨its2, r2, p2, _⟩ := inv_sqK I q2
    obtain ⟨its3, r3, p3, _⟩ := inv_sqK I q3
    have g1 := r1.length
    have g2 := r2.length
    have g3 := r3.length
    have hd : X.A.in1.handled = none := I.ok.hd hc
    have G := GoesN.zip3 (elts := elts) (x1 := kk) (pos := tpos) D (drawsK (P := X.prog) (w := X.w) hd k1 i1 a n1 its1.toArray) (drawsK (P := X.prog) (w := X.w) hd k2 i2 b n2 its2.toArray) (drawsK (P := X.prog) (w := X.w) hd k3 i3 c n3 its3.toArray)
    refine wpAny_mono (G.goes i s (fun v s2 => ∃ x H', Inv X pins σ H' s2 ∧ RelV x v ∧ (ItzN X.K k1 k2 k3 a b c).yld i H x H' ∧ tnz k1 k2 k3 a b c z TI TO i1 i2 i3 (i + 1) s2.heap ∧ ∀ b ∈ [z, TI, TO, i1, i2, i3], H' b = none) E (by simp; omega) ⟨hz, hTI, hTO, ⟨h1, p1⟩, ⟨h2, p2⟩, ⟨h3, p3⟩⟩ ?_) (fun r s1 h => h) fun _ _ e => e
    intro v h' tk hY st' hk htk
    obtain ⟨T, x, y, u, rfl, hT, hx, hy, hu, hit⟩ := hY
    obtain ⟨hz', hTI', hTO', ⟨h1', _⟩, ⟨h2', _⟩, ⟨h3', _⟩⟩ := st'
    have hx' : its1[i]? = some x := by simpa using hx
    have hy' : its2[i]? = some y := by simpa using hy
    have hu' : its3[i]? = some u := by simpa using hu
    have m1 : xs[i]? = some xs[i] := by simp [l1]
    have m2 : ys[i]? = some ys[i] := by simp [l2]
    have m3 : zs[i]? = some zs[i] := by simp [l3]
    obtain ⟨x', e1, rx⟩ := r1.get m1
    obtain ⟨y', e2, ry⟩ := r2.get m2
    obtain ⟨u', e3, ru⟩ := r3.get m3
    rw [hx'] at e1; cases e1
    rw [hy'] at e2; cases e2
    rw [hu'] at e3; cases e3
    have hwr : ∀ b : Addr, b ∉ [z, TI, TO, i1, i2, i3] → b ∉ [z, TO, i1, i2, i3] := fun b hb hm => hb (by
      have e' : b = z ∨ b = TO ∨ b = i1 ∨ b = i2 ∨ b = i3 := by simpa using hm
      rcases e' with e | e | e | e | e <;> simp [e])
    have new : ObjOk X.prog X.w (upd H T (.tup [xs[i], ys[i], zs[i]])) h' T (.tup [xs[i], ys[i], zs[i]]) :=
      ⟨by show 3 ≤ sizeLine; decide, [x, y, u], .cons rx (.cons ry (.cons ru .nil)), hit⟩
    have I1 : Inv X pins σ (upd H T (.tup [xs[i], ys[i], zs[i]])) { s with heap := h', toks := tk } :=
      I.turnedNew (t' := tk) (ch := [z, TI, TO, i1, i2, i3]) (fun c o hb q => hk c o (hwr c hb) q) hf hT new
    have fr : H T = none := I.hok.fresh hT
    refine ⟨.ref T, _, I1, rfl, ⟨T, xs[i], ys[i], zs[i], rfl, fr, rfl, fun l hl => by rw [inv_sqK_inj I hl q1]; exact m1, fun l hl => by rw [inv_sqK_inj I hl q2]; exact m2, fun l hl => by rw [inv_sqK_inj I hl q3]; exact m3⟩, ⟨hz', hTI', hTO', h1', h2', h3'⟩, fun c hcm => ?_⟩
    have hlt : c < s.heap.objs.size := by
      have e' : c = z ∨ c = TI ∨ c = TO ∨ c = i1 ∨ c = i2 ∨ c = i3 := by simpa using hcm
      obtain ⟨_, _, _, hTO⟩ := hTO
      rcases e' with q | q | q | q | q | q
      · rw [q]; exact Heap.lt_size hz
      · rw [q]; exact Heap.lt_size hTI
      · rw [q]; exact Heap.lt_size hTO
      · rw [q]; exact h1.lt
      · rw [q]; exact h2.lt
      · rw [q]; exact h3.lt
    rw [upd_ne (Nat.ne_of_lt (Nat.lt_of_lt_of_le hlt hT))]
    exact (hf c hcm).1
  done := by
    intro X hP hw hK hc i pins s σ H E I hf st hg
    subst hP hw hK
    obtain ⟨hz, hTI, hTO, h1, h2, h3⟩ := st
    obtain ⟨xs, ys, zs, q1, q2, q3, hi⟩ := hg
    obtain ⟨its1, r1, p1, _⟩ := inv_sqK I q1
    obtain ⟨its2, r2, p2, _⟩ := inv_sqK I q2
    obtain ⟨its3, r3, p3, _⟩ := inv_sqK I q3
    have g1 := r1.length
    have g2 := r2.length
    have g3 := r3.length
    have hd : X.A.in1.handled = none := I.ok.hd hc
    have G := GoesN.zip3 (elts := elts) (x1 := kk) (pos := tpos) D (drawsK (P := X.prog) (w := X.w) hd k1 i1 a n1 its1.toArray) (drawsK (P := X.prog) (w := X.w) hd k2 i2 b n2 its2.toArray) (drawsK (P := X.prog) (w := X.w) hd k3 i3 c n3 its3.toArray)
    have hn : i = min (min its1.toArray.size its2.toArray.size) its3.toArray.size := by
      rw [hi, g1, g2, g3]; simp
    subst hn
    refine G.stops s _ E ⟨hz, hTI, hTO, ⟨h1, p1⟩, ⟨h2, p2⟩, ⟨h3, p3⟩⟩ fun h' tk hk htk => ?_
    exact I.turnedL (t' := tk) (ch := [z, TI, TO, i1, i2, i3]) (fun c o hb q => hk c o (fun hm => hb (by
      have e' : c = z ∨ c = TO ∨ c = i1 ∨ c = i2 ∨ c = i3 := by simpa using hm
      rcases e' with e | e | e | e | e <;> simp [e])) q) hf
  self := fun A i s Q E st h => wpAny_pyIter_zip st.1 h
def iZip3 (K : PySem.W.Frag) (ta : TA) : TI := fun σ H R => ta σ H fun vs H1 => ∃ a b c xs ys zs k1 k2 k3, vs = [.ref a, .ref b, .ref c] ∧ sqK k1 K H1 a xs ∧ sqK k2 K H1 b ys ∧ sqK k3 K H1 c zs ∧ R (ItzN K k1 k2 k3 a b c) H1
theorem pi_zip3 {X : Cx} {e e2 e3 : Expr} {ta : TA} {p pos tpos : Pos} {elts : List Expr} {kk : Nat} (hg : Gl X "zip") (hm : X.mg "zip" = none) (ha : PA X [e, e2, e3] ta)
    (hs : starEach [e, e2, e3] X.env = (false, eval e X.env) :: starEach [e2, e3] X.env := by rfl) (hpl : (backTo pos (starEach [e2, e3] X.env)).any (·.1) = false := by rfl) :
    PI X (.Tuple elts kk tpos) (.Call (.Name "zip" p) [e, e2, e3] [] pos) (iZip3 X.K ta) := by
  refine ⟨fun pins s σ H R I h => ?_⟩
  refine Call_ (ld_blt I hg hm PyProof.Rows.boot_zip (PyProof.Rows.callWith_type1 (thn (ha.run pos pins s σ H _ I h) fun us s1 ⟨vs, H1, I1, r1, q1⟩ => ?_) hs hpl))
  obtain ⟨a, b, c, xs, ys, zs, k1, k2, k3, ex, hx, hy, hz, q⟩ := q1
  subst ex
  cases r1 with
  | cons r rr =>
    cases rr with
    | cons r' rr =>
      cases rr with
      | cons r'' rr =>
        cases rr
        cases r
        cases r'
        cases r''
        obtain ⟨its1, v1, p1, _⟩ := inv_sqK I1 hx
        obtain ⟨its2, v2, p2, _⟩ := inv_sqK I1 hy
        obtain ⟨its3, v3, p3, _⟩ := inv_sqK I1 hz
        have la := p1.lt
        have lb := p2.lt
        have lc := p3.lt
        refine zip_begins3 (beginsK k1 a its1.toArray) (beginsK k2 b its2.toArray) (beginsK k3 c its3.toArray) p1 p2 p3 fun h' hz hTI hTO h1 h2 h3 hsz hk => wpAny_pyIter_zip hz ?_
        have I2 : Inv X pins σ H1 { s1 with heap := h' } := I1.kept (t' := s1.toks) hk
        refine ⟨s1.heap.objs.size + 5, [s1.heap.objs.size + 5, s1.heap.objs.size + 3, s1.heap.objs.size + 4, s1.heap.objs.size, s1.heap.objs.size + 1, s1.heap.objs.size + 2], _, _, H1, rfl, I2,
          turn_zip3 (zip_sep3 (fp1 := [a]) (fp2 := [b]) (fp3 := [c]) (by simpa using la) (by simpa using lb) (by simpa using lc)) (Nat.ne_of_lt la) (Nat.ne_of_lt (Nat.lt_succ_of_lt lb)) (Nat.ne_of_lt (Nat.lt_succ_of_lt (Nat.lt_succ_of_lt lc))), ⟨hz, hTI, ⟨_, _, _, hTO⟩, obK_it h1, obK_it h2, obK_it h3⟩, fun c hcm => ?_, q⟩
        have hle : s1.heap.objs.size ≤ c := by
          have e' : c = s1.heap.objs.size + 5 ∨ c = s1.heap.objs.size + 3 ∨ c = s1.heap.objs.size + 4 ∨ c = s1.heap.objs.size ∨ c = s1.heap.objs.size + 1 ∨ c = s1.heap.objs.size + 2 := by simpa using hcm
          rcases e' with z | z | z | z | z | z
          · rw [z]; exact Nat.le_add_right _ _
          · rw [z]; exact Nat.le_add_right _ _
          · rw [z]; exact Nat.le_add_right _ _
          · rw [z]; exact Nat.le_refl _
          · rw [z]; exact Nat.le_add_right _ _
          · rw [z]; exact Nat.le_add_right _ _
        exact I1.fpOk hle (I1.hok.fresh hle)
/-! by data -/
def zipD3 : List D → List D → List D → List D
  | x :: xs, y :: ys, z :: zs => .tup [x, y, z] :: zipD3 xs ys zs
  | _, _, _ => []
theorem zipD3_len : ∀ xs ys zs : List D, (zipD3 xs ys zs).length = min (min xs.length ys.length) zs.length
  | [], _, _ => by simp [zipD3]
  | _ :: _, [], _ => by simp [zipD3]
  | _ :: _, _ :: _, [] => by simp [zipD3]
  | x :: xs, y :: ys, z :: zs => by
    show (zipD3 xs ys zs).length + 1 = min (min (xs.length + 1) (ys.length + 1)) (zs.length + 1)
    rw [zipD3_len xs ys zs]
    omega
theorem zipD3_at : ∀ (xs ys zs : List D) (i : Nat) (x y z : D), xs[i]? = some x → ys[i]? = some y → zs[i]? = some z → (zipD3 xs ys zs)[i]? = some (.tup [x, y, z])
  | [], _, _, i, x, y, z, h, _, _ => by simp at h
  | _ :: _, [], _, i, x, y, z, _, h, _ => by simp at h
  | _ :: _, _ :: _, [], i, x, y, z, _, _, h => by simp at h
  | a :: xs, b :: ys, c :: zs, 0, x, y, z, h1, h2, h3 => by
    cases h1; cases h2; cases h3; rfl
  | a :: xs, b :: ys, c :: zs, i + 1, x, y, z, h1, h2, h3 => zipD3_at xs ys zs i x y z h1 h2 h3
/-- what is never changed, as a list or a tuple -/
def sqOf : D → Option (Bool × List D)
  | .tup xs => some (false, xs)
  | .lst xs => some (true, xs)
  | .rol xs => some (true, xs)
  | _ => none
theorem Rep.sq {K : PySem.W.Frag} {I : Hp} {as : List Addr} {v : V} {d : D} {k : Bool} {xs : List D} (r : Rep K I as v d) (h : sqOf d = some (k, xs)) : ∃ a us, v = .ref a ∧ sqK k K I a us ∧ Reps K I as us xs := by
  cases r with
  | tup h1 h2 => cases h; exact ⟨_, _, rfl, h1, h2⟩
  | lst h1 h2 => cases h; exact ⟨_, _, rfl, SqL.of h1, h2⟩
  | rol h1 h2 => cases h; exact ⟨_, _, rfl, h1, h2⟩
  | _ => cases h
theorem sqK.mono {K : PySem.W.Frag} {I I' : Hp} {k : Bool} {a : Addr} {xs : List V} (g : ∀ a o, I a = some o → I' a = some o) (h : sqK k K I a xs) : sqK k K I' a xs := by
  cases k with
  | true => exact Evl.ex_l g h
  | false => exact Evl.ex_t g h
def giZip3 (ga : GA) : GI := fun δ M => (ga δ M).bind fun ds M1 => match ds with
  | [x, y, z] => match sqOf x, sqOf y, sqOf z with
    | some p, some q, some r => .ok (itT (zipD3 p.2 q.2 r.2)) M1
    | _, _, _ => .bad
  | _ => .bad
theorem itok_zip3 {K : PySem.W.Frag} {I P0 : Hp} {as : List Addr} {a b c : Addr} {k1 k2 k3 : Bool} {us vs ws : List V} {xs ys zs : List D} (h1 : sqK k1 K I a us) (h2 : sqK k2 K I b vs) (h3 : sqK k3 K I c ws) (r1 : Reps K I as us xs) (r2 : Reps K I as vs ys) (r3 : Reps K I as ws zs) : ItOk K P0 I as (ItzN K k1 k2 k3 a b c) (itT (zipD3 xs ys zs)) := by
  have hl : (itT (zipD3 xs ys zs)).items.length = min (min us.length vs.length) ws.length := by
    show (zipD3 xs ys zs).length = _
    rw [zipD3_len, r1.len, r2.len, r3.len]
  refine ⟨fun H => sqK k1 K H a us ∧ sqK k2 K H b vs ∧ sqK k3 K H c ws, fun i H v H' => ∃ T x y z, v = .ref T ∧ H T = none ∧ H' = upd H T (.tup [x, y, z]) ∧ us[i]? = some x ∧ vs[i]? = some y ∧ ws[i]? = some z, ?_, ?_, ?_⟩
  · rw [hl]
    refine ⟨fun i H hi q => ⟨us, vs, ws, q.1, q.2.1, q.2.2, by omega, by omega, by omega⟩, fun H q => ⟨us, vs, ws, q.1, q.2.1, q.2.2, rfl⟩, fun i H v H' _ q y => ?_⟩
    obtain ⟨T, x, y, z, e1, e2, e3, e4, e5, e6⟩ := y
    exact ⟨T, x, y, z, e1, e2, e3, e4 us q.1, e5 vs q.2.1, e6 ws q.2.2⟩
  · exact fun H' I' as' M' P' _ g w _ => ⟨(h1.mono g.sub).mono w.sub, (h2.mono g.sub).mono w.sub, (h3.mono g.sub).mono w.sub⟩
  · intro i v H' H2 I' as' M' P' hi _ g w _ y
    obtain ⟨T, x1, y1, z1, rfl, hT, rfl, hx, hy, hz⟩ := y
    obtain ⟨w2, g2⟩ := w.newI hT (.tup [x1, y1, z1])
    obtain ⟨d, hd, rd⟩ := r1.get' hx
    obtain ⟨e, he, re⟩ := r2.get' hy
    obtain ⟨f, hf, rf⟩ := r3.get' hz
    exact ⟨_, .tup [d, e, f], g2, w2, zipD3_at _ _ _ _ _ _ _ hd he hf, .tup (.of upd_same) (.cons (rd.mono (g.trans g2)) (.cons (re.mono (g.trans g2)) (.cons (rf.mono (g.trans g2)) .nil)))⟩
theorem Reps.three_inv {K : PySem.W.Frag} {I : Hp} {as : List Addr} {vs : List V} {d d2 d3 : D} (r : Reps K I as vs [d, d2, d3]) : ∃ v v2 v3, vs = [v, v2, v3] ∧ Rep K I as v d ∧ Rep K I as v2 d2 ∧ Rep K I as v3 d3 := by
  cases r with
  | cons h1 r =>
    obtain ⟨v2, v3, rfl, h2, h3⟩ := r.two_inv
    exact ⟨_, _, _, rfl, h1, h2, h3⟩
section
variable {X : Cx} {W : WX} {a b e e2 e3 : Expr} {p p2 q pos tpos : Pos} {elts : List Expr} {kk : Nat} {t : TA} {g : GA} {ta tb : TE} {ga gb : GE}
theorem ki_zip3 (K : PySem.W.Frag) (hm : X.mg "zip" = none) (ha : XA X W [e, e2, e3] t g) (hK : X.K = K := by rfl) (hg : Gl X "zip" := by rfl)
    (hs : starEach [e, e2, e3] X.env = (false, eval e X.env) :: starEach [e2, e3] X.env := by rfl) (hpl : (backTo pos (starEach [e2, e3] X.env)).any (·.1) = false := by rfl) : XI X W (.Tuple elts kk tpos) (.Call (.Name "zip" p) [e, e2, e3] [] pos) (iZip3 K t) (giZip3 g) := by
  subst hK
  refine ⟨pi_zip3 hg hm ha.pe hs hpl, fun σ H δ I as M P Q w en s => ?_⟩
  refine ha.im σ H δ I as M P _ w en (Sat.bind s fun d M1 v H1 I1 as1 _ g1 w1 r1 s1 => ?_)
  split at s1
  · obtain ⟨v1, v2, v3, rfl, q1, q2, q3⟩ := r1.three_inv
    split at s1
    · rename_i o1 o2 o3 h1 h2 h3
      obtain ⟨k1, xs⟩ := o1
      obtain ⟨k2, ys⟩ := o2
      obtain ⟨k3, zs⟩ := o3
      obtain ⟨a1, us, rfl, z1, m1⟩ := q1.sq h1
      obtain ⟨a2, vs, rfl, z2, m2⟩ := q2.sq h2
      obtain ⟨a3, ws, rfl, z3, m3⟩ := q3.sq h3
      exact ⟨a1, a2, a3, us, vs, ws, k1, k2, k3, rfl, z1.mono w1.sub, z2.mono w1.sub, z3.mono w1.sub, s1 _ H1 I1 as1 (Gr.refl _ _) w1 (itok_zip3 z1 z2 z3 m1 m2 m3)⟩
    · exact s1.elim
  · exact s1.elim
/-! ### len(set(ints)) -/
def setL (ns : List Int) : List Int := firstMet (fun i => ns.getD i 0) ns.length
theorem pe_lenSetG (hg : Gl X "len") (hm : X.mg "len" = none) (hg2 : Gl X "set") (hm2 : X.mg "set" = none) (ha : PE X a ta) (hc : X.calm = true := by rfl)
    (na : starEach [a] X.env = (false, eval a X.env) :: starEach [] X.env := by rfl) : PE X (.Call (.Name "len" p) [.Call (.Name "set" p2) [a] [] q] [] pos)
      (fun σ H Q => ta σ H fun x H1 => ∃ (l : Addr) (ns : List Int), x = .ref l ∧ SqL X.K H1 l (ns.map V.int) ∧ ns.length ≤ 4000 ∧ Q (.int ((setL ns).length : Nat)) H1) := by
  refine ⟨fun pins s σ H Q I h => ?_⟩
  refine Call_ (ld_blt I hg hm boot_len ?_)
  refine PyProof.Rows.callWith_builtin1 (PyProof.Rows.args_cons ?_ rfl) rfl rfl
  refine Call_ (ld_blt I hg2 hm2 boot_set ?_)
  refine PyProof.Rows.callWith_type1 (PyProof.Rows.args_cons (thn (ha.run pins s σ H _ I h) fun v s1 ⟨x, H1, I1, r1, q1⟩ => PyProof.Rows.args_nil ?_) na) na rfl
  obtain ⟨l, ns, rfl, hq, hl, q1⟩ := q1
  cases r1
  obtain ⟨its, r, pl, hz⟩ := I1.list hq
  have hlen : its.toArray.size = ns.length := by rw [List.size_toArray, ← r.length, List.length_map]
  refine call_set_list (I1.ok.hd hc) pl.isList (by simpa using RZ.intsAre_vals r) (by rw [hlen]; unfold scanBound; omega) fun h' tk hS hk => ?_
  refine PyProof.Rows.args_nil ?_
  rw [hlen, show firstMet (fun i => ns.getD i 0) ns.length = setL ns from rfl] at hS
  have hle : (setL ns).length ≤ ns.length := by
    exact firstMet_length_le (fun i => ns.getD i 0) ns.length
  obtain ⟨o, es, ep, t, ho, hex, hd, _, _, _, hf, hn⟩ := hS
  have I2 : Inv X pins σ H1 { s1 with heap := h', toks := tk } := I1.kept fun b o e => hk b o (Heap.lt_size e) e
  exact call_len_set ho hex hd hf (by rw [hn] <;> omega) ⟨.int (setL ns).length, H1, I2.tok _, ⟨_, by rw [hn]⟩, q1⟩
open Classical in
noncomputable def gLenSet (ga : GE) : GE := fun δ M => (ga δ M).bind fun x M1 => match listOf M1 x with
  | some xs => match intsD xs with
    | some ns => if ns.length ≤ 4000 then .ok (.int ((setL ns).length : Nat)) M1 else .bad
    | none => .bad
  | none => .bad
theorem xe_lenSet (hm : X.mg "len" = none) (hm2 : X.mg "set" = none) (ha : XE X W a ta ga) (hc : X.calm = true) (hg : Gl X "len" := by rfl) (hg2 : Gl X "set" := by rfl)
    (na : starEach [a] X.env = (false, eval a X.env) :: starEach [] X.env := by rfl) : XE X W (.Call (.Name "len" p) [.Call (.Name "set" p2) [a] [] q] [] pos)
      (fun σ H Q => ta σ H fun x H1 => ∃ (l : Addr) (ns : List Int), x = .ref l ∧ SqL X.K H1 l (ns.map V.int) ∧ ns.length ≤ 4000 ∧ Q (.int ((setL ns).length : Nat)) H1) (gLenSet ga) := by
  refine ⟨pe_lenSetG hg hm hg2 hm2 ha.pe hc na, fun σ H δ I as M P Q w en s => ?_⟩
  refine ha.im σ H δ I as M P _ w en (Sat.bind s fun x M1 v H1 I1 as1 _ g1 w1 r1 s1 => ?_)
  split at s1
  · rename_i xs hx
    split at s1
    · rename_i ns hns
      split at s1
      · rename_i hl
        obtain ⟨l, vs, rfl, h1, rr⟩ := r1.list w1 hx
        have e := rr.intsD hns
        subst e
        exact ⟨l, ns, rfl, h1, hl, s1.now w1 (.int _)⟩
      · exact s1.elim
    · exact s1.elim
  · exact s1.elim
/-! ### {} and {0: x}, carried -/
def gDctO (gb : GE) : GE := fun δ M => match gb δ M with
  | .ok _ M1 => .ok .dct M1
  | _ => .bad
theorem xe_dct1O {i2 : Int} {j2} (hb : XE X W b tb gb) : XE X W (.Dict [some (.Constant (.int i2) j2 p2)] [b] pos) (tDisp [(tC (.int i2), tb)]) (gDctO gb) := by
  refine ⟨pe_disp (pps_cons pe_int hb.pe pps_nil) rfl rfl (by simp) (by show 1 ≤ 15; omega), fun σ H δ I as M P Q w en s => ?_⟩
  intro q hq
  obtain ⟨f1, f2, f3⟩ := w.fresh hq
  have w0 := w.newP hq (.dK [])
  unfold gDctO at s
  cases e2 : gb δ M with
  | bad => rw [e2] at s; exact s.elim
  | ex c M2 => rw [e2] at s; exact s.elim
  | ok x2 M2 =>
    rw [e2] at s
    refine hb.im σ _ δ I as M _ _ w0 en ?_
    rw [e2]
    intro y2 H2 I2 as2 g2 w2 r2
    refine ⟨(w2.prv q _ upd_same).1, [(.inl i2, y2)], rfl, by show 1 ≤ 15; omega, ?_⟩
    have w3 := w2.putP upd_same (.dK (mergeK [] [(.inl i2, y2)]))
    rw [upd_upd] at w3
    obtain ⟨w4, g4⟩ := w3.giveI f2
    exact s _ _ _ _ (g2.trans g4) w4 (.dct upd_same)
theorem xe_dct0O : XE X W (.Dict [] [] pos) (fun σ H Q => ∀ d, H d = none → Q (.ref d) (upd H d (.dK []))) (gC .dct) := by
  refine ⟨pe_dnewK, fun σ H δ I as M P Q w en s => ?_⟩
  intro d hd
  obtain ⟨w', g⟩ := w.newI hd (.dK [])
  exact s _ _ _ _ g w' (.dct upd_same)
end
end KM
set_option Elab.async false
set_option linter.all false
set_option maxRecDepth 100000
set_option maxHeartbeats 2000000
/-! dicts with ints as keys: read, written, walked under a lock -/
namespace KM
open PySem L2 PySem.Spec PyProof.Rows
def dctOf (M : List MO) (k : Nat) : Option (List (Int × D)) := match M[k]? with
  | some (.dct kvs) => some kvs
  | some (.dlk kvs) => some kvs
  | _ => none
section
variable {K : PySem.W.Frag} {H I P : Hp} {as : List Addr} {M : List MO}
theorem Rep.dictR (w : Wr K H I as M P) {v : V} {k : Nat} {kvs : List (Int × D)} (r : Rep K I as v (.ref k)) (h : dctOf M k = some kvs) : ∃ a, ∃ vs : List (L2.Key × V), v = .ref a ∧ as[k]? = some a ∧ Rd H a (.dK vs) ∧ vs.map (fun p => p.1) = kvs.map (fun p => Sum.inl p.1) ∧ Reps K I as (vs.map fun p => p.2) (kvs.map fun p => p.2) := by
  cases r with
  | @ref _ a h1 =>
    obtain ⟨o, ho, _, fr, m⟩ := w.at h1
    unfold dctOf at h
    rw [ho] at h
    cases o with
    | lst xs => cases h
    | dct ks =>
      cases h
      obtain ⟨vs, e1, e2, rr⟩ := m
      exact ⟨a, vs, rfl, h1, .inl e1, e2, rr⟩
    | dlk ks =>
      cases h
      obtain ⟨ob, vs, e1, e2, rr⟩ := m
      exact ⟨a, vs, rfl, h1, .inr ⟨ob, e1⟩, e2, rr⟩
    | kd ks => cases h
    | kdl ks => cases h
end
theorem DGet.kR {H : Hp} {a : Addr} {kvs : List (L2.Key × V)} {k : L2.Key} (e : Rd H a (.dK kvs)) : DGet H a (kV k) (valV kvs k) := .inl ⟨kvs, k, e, rfl, rfl⟩
/-! d[i], of a dict, a list, a tuple -/
def oIxG : OD := fun x y M => match x, y with
  | .ref k, .int i => match dctOf M k with
    | some kvs => match dget kvs i with
      | some d => .ok d M
      | none => .bad
    | none => oIx x y M
  | x, y => oIx x y M
theorem ix_dict {X : Cx} (hu : X.A.units + 1 < cLine) : IxR X rDGet := by
  intro value slice pins s σ H x y v u Q I rx ry h hs
  obtain ⟨a, w, rfl, g, q⟩ := h
  cases (show v = Value.ref a from rx)
  have hT := dict_typeIs I g
  unfold subscriptTail
  refine wpAny_bind ?_
  rw [getitemInPython_of_ne hT.not_modules]
  refine wpAny_bind (wpAny_specialOf hT PySem.F.slot_dict_getitem.lookup ?_)
  have fin : wpAny (model X.prog X.w) X.A (subscripted slice false (.ref a) u) (fun r s₃ => wpAny (model X.prog X.w) X.A (letTemporaryGo value (.ref a) r >>= fun _ => pure r) (EP X pins σ Q) X.xe s₃) X.xe s := by
    rw [hs]
    refine wpAny_operating (wpAny_mono (d_getItem (Q := EP X pins σ Q) hu I g ry fun w' s3 I3 rw' => ⟨w, H, I3, rw', q⟩) (fun r s₃ h₃ => wpAny_bind (wpAny_letTemporaryGo (wpAny_pure h₃))) fun _ _ x => x)
  first
    | exact wpAny_pure (wpAny_bind fin)
    | exact wpAny_bind (wpAny_pure (wpAny_bind fin))
    | exact wpAny_bind fin
def rIxG (K : PySem.W.Frag) : R2 := fun x y H Q => rIx K x y H Q ∨ rDGet x y H Q
theorem ix_G {X : Cx} (hu : X.A.units + 1 < cLine) : IxR X (rIxG X.K) := ix_seq.or (ix_dict hu)
theorem opd_ixG {K : PySem.W.Frag} : OpD K (rIxG K) oIxG := by
  intro H I as M P x y d e Wf Q w rx ry s
  unfold oIxG at s
  split at s
  · rename_i k i
    split at s
    · rename_i kvs hk
      split at s
      · rename_i dd hg
        cases ry
        obtain ⟨a, vs, rfl, _, h1, h2, h3⟩ := rx.dictR w hk
        obtain ⟨v, e1, e2⟩ := (dval h2 h3 i).2 dd hg
        exact .inr ⟨a, v, rfl, by rw [← e1]; exact DGet.kR (k := Sum.inl i) h1, s.now w e2⟩
      · exact s.elim
    · exact .inl (opd_ix H I as M P x y _ _ Wf Q w rx ry s)
  · exact .inl (opd_ix H I as M P x y _ _ Wf Q w rx ry s)
/-! i in d, i not in d; else in a list or tuple -/
def oInG : OD := fun x y M => match x, y with
  | .int i, .ref k => match dctOf M k with
    | some kvs => .ok (.bl (dget kvs i).isSome) M
    | none => oIn x y M
  | x, y => oIn x y M
def oNotInG : OD := fun x y M => match x, y with
  | .int i, .ref k => match dctOf M k with
    | some kvs => .ok (.bl (!(dget kvs i).isSome)) M
    | none => oNotIn x y M
  | x, y => oNotIn x y M
def rDIn : R2 := fun x y H Q => ∃ a o, y = .ref a ∧ DGet H a x o ∧ Q (.bl o.isSome) H
theorem op_din {X : Cx} (hu : X.A.units + 1 < cLine) : OpR X (compareOp .In) rDIn := by
  intro pins s σ H x y v u Q I rx ry h
  obtain ⟨a, o, rfl, g, q⟩ := h
  cases (show u = Value.ref a from ry)
  exact d_in hu I g rx fun s' I' => ⟨.bl o.isSome, H, I', rfl, q⟩
def rInG (K : PySem.W.Frag) (b : Bool) : R2 := fun x y H Q => rIn K b x y H Q ∨ (if b then rDNotIn x y H Q else rDIn x y H Q)
theorem op_inG {X : Cx} (hu : X.A.units + 1 < cLine) : OpR X (compareOp .In) (rInG X.K false) := op_in_seq.or (op_din hu)
theorem op_notInG {X : Cx} (hu : X.A.units + 1 < cLine) : OpR X (compareOp .NotIn) (rInG X.K true) := op_notIn_seq.or (op_dnotin hu)
theorem opd_inG {K : PySem.W.Frag} : OpD K (rInG K false) oInG := by
  intro H I as M P x y d e Wf Q w rx ry s
  unfold oInG at s
  split at s
  · rename_i i k
    split at s
    · rename_i kvs hk
      cases rx
      obtain ⟨a, vs, rfl, _, h1, h2, h3⟩ := ry.dictR w hk
      obtain ⟨a1, a2⟩ := dval h2 h3 i
      refine .inr ?_
      show rDIn _ _ _ _
      cases hg : dget kvs i with
      | none =>
        rw [hg] at s
        exact ⟨a, none, rfl, by rw [← a1 hg]; exact DGet.kR (k := Sum.inl i) h1, s.now w (.bl _)⟩
      | some d =>
        rw [hg] at s
        obtain ⟨v, e1, e2⟩ := a2 d hg
        exact ⟨a, some v, rfl, by rw [← e1]; exact DGet.kR (k := Sum.inl i) h1, s.now w (.bl _)⟩
    · exact .inl (opd_in H I as M P x y _ _ Wf Q w rx ry s)
  · exact .inl (opd_in H I as M P x y _ _ Wf Q w rx ry s)
theorem opd_notInG {K : PySem.W.Frag} : OpD K (rInG K true) oNotInG := by
  intro H I as M P x y d e Wf Q w rx ry s
  unfold oNotInG at s
  split at s
  · rename_i i k
    split at s
    · rename_i kvs hk
      cases rx
      obtain ⟨a, vs, rfl, _, h1, h2, h3⟩ := ry.dictR w hk
      obtain ⟨a1, a2⟩ := dval h2 h3 i
      refine .inr ?_
      show rDNotIn _ _ _ _
      cases hg : dget kvs i with
      | none =>
        rw [hg] at s
        exact ⟨a, none, rfl, by rw [← a1 hg]; exact DGet.kR (k := Sum.inl i) h1, s.now w (.bl _)⟩
      | some d =>
        rw [hg] at s
        obtain ⟨v, e1, e2⟩ := a2 d hg
        exact ⟨a, some v, rfl, by rw [← e1]; exact DGet.kR (k := Sum.inl i) h1, s.now w (.bl _)⟩
    · exact .inl (opd_notIn H I as M P x y _ _ Wf Q w rx ry s)
  · exact .inl (opd_notIn H I as M P x y _ _ Wf Q w rx ry s)
end KM
set_option Elab.async false
set_option linter.all false
set_option maxRecDepth 100000
set_option maxHeartbeats 2000000
namespace KM
open PySem L2 PySem.Spec PyProof.Rows
/-! ### d[i] = x -/
def dput : List (Int × D) → Int → D → List (Int × D)
  | [], i, d => [(i, d)]
  | p :: r, i, d => if p.1 = i then (i, d) :: r else p :: dput r i d
theorem dput_new {kvs : List (Int × D)} {i : Int} {d : D} (h : dget kvs i = none) : dput kvs i d = kvs ++ [(i, d)] := by
  induction kvs with
  | nil => rfl
  | cons p r ih =>
    unfold dget at h
    unfold dput
    by_cases c : p.1 = i
    · rw [if_pos c] at h; cases h
    · rw [if_neg c] at h ⊢
      rw [ih h]
      rfl
theorem any_keys : ∀ {vs : List (L2.Key × V)} {kvs : List (Int × D)}, vs.map (fun p => p.1) = kvs.map (fun p => Sum.inl p.1) → ∀ i : Int, (vs.any fun kv => decide (kv.1 = Sum.inl i)) = (kvs.any fun p => decide (p.1 = i))
  | [], [], _, _ => rfl
  | [], _ :: _, h, _ => by cases h
  | _ :: _, [], h, _ => by cases h
  | q :: vs, p :: kvs, h, i => by
    rw [List.map_cons, List.map_cons] at h
    injection h with h1 h2
    rw [List.any_cons, List.any_cons, any_keys h2 i, h1]
    congr 1
    exact decide_eq_decide.mpr ⟨fun z => Sum.inl.inj z, fun z => by rw [z]⟩
section
variable {K : PySem.W.Frag} {I : Hp} {as : List Addr}
theorem put_off : ∀ {vs : List (L2.Key × V)} {i : Int} {v : V}, (∀ p ∈ vs, p.1 ≠ Sum.inl i) → vs.map (fun kv => if kv.1 = Sum.inl i then (kv.1, v) else kv) = vs
  | [], _, _, _ => rfl
  | q :: vs, i, v, h => by
    rw [List.map_cons, if_neg (h q (by simp)), put_off fun p hp => h p (by simp [hp])]
theorem put_rel : ∀ {vs : List (L2.Key × V)} {kvs : List (Int × D)} {i : Int} {v : V} {d : D}, vs.map (fun p => p.1) = kvs.map (fun p => Sum.inl p.1) → Reps K I as (vs.map fun p => p.2) (kvs.map fun p => p.2) → Rep K I as v d → (kvs.map fun p => p.1).Nodup →
    (putK vs (Sum.inl i) v).map (fun p => p.1) = (dput kvs i d).map (fun p => Sum.inl p.1) ∧ Reps K I as ((putK vs (Sum.inl i) v).map fun p => p.2) ((dput kvs i d).map fun p => p.2) := by
  intro vs kvs i v d h r rv nd
  unfold putK
  rw [any_keys h i]
  by_cases c : (kvs.any fun p => decide (p.1 = i)) = true
  · rw [if_pos c]
    induction kvs generalizing vs with
    | nil => simp at c
    | cons p kvs ih =>
      cases vs with
      | nil => cases h
      | cons q vs =>
        rw [List.map_cons, List.map_cons] at h r
        injection h with h1 h2
        rw [List.map_cons, List.nodup_cons] at nd
        cases r with
        | cons r1 r2 =>
          unfold dput
          by_cases e : p.1 = i
          · have eq1 : q.1 = Sum.inl i := by rw [h1, e]
            have off : ∀ z ∈ vs, z.1 ≠ Sum.inl i := by
              intro z hz hzi
              have hm : z.1 ∈ vs.map (fun p => p.1) := List.mem_map.mpr ⟨z, hz, rfl⟩
              rw [h2] at hm
              obtain ⟨y, hy, ey⟩ := List.mem_map.mp hm
              have : y.1 = p.1 := by
                have := ey.trans hzi
                rw [e]
                exact Sum.inl.inj this
              exact nd.1 (List.mem_map.mpr ⟨y, hy, this⟩)
            rw [if_pos e, List.map_cons, if_pos eq1, put_off off]
            refine ⟨?_, ?_⟩
            · rw [List.map_cons, List.map_cons, eq1, h2]
            · rw [List.map_cons, List.map_cons]
              exact .cons rv r2
          · have ne1 : ¬ q.1 = Sum.inl i := by
              rw [h1]
              exact fun z => e (Sum.inl.inj z)
            have c2 : (kvs.any fun p => decide (p.1 = i)) = true := by
              rw [List.any_cons] at c
              simpa [e] using c
            obtain ⟨a1, a2⟩ := ih h2 r2 nd.2 c2
            rw [if_neg e, List.map_cons, if_neg ne1]
            refine ⟨?_, ?_⟩
            · rw [List.map_cons, List.map_cons, h1, a1]
            · rw [List.map_cons, List.map_cons]
              exact .cons r1 a2
  · rw [if_neg c]
    have hn : dget kvs i = none := by
      clear h r nd
      induction kvs with
      | nil => rfl
      | cons p r ih =>
        rw [List.any_cons] at c
        simp at c
        unfold dget
        rw [if_neg c.1]
        exact ih (by simpa using c.2)
    rw [dput_new hn]
    refine ⟨by simp [h], ?_⟩
    rw [List.map_append, List.map_append]
    exact r.append (.cons rv .nil)
end
open Classical in
noncomputable def oSetDG : OSet := fun x i v M => match x, i with
  | .ref k, .int j => match M[k]? with
    | some (.dct kvs) => if kvs.length < 1000 ∧ (kvs.map fun p => p.1).Nodup then some (M.set k (.dct (dput kvs j v))) else none
    | _ => none
  | _, _ => none
theorem setd_dictG {K : PySem.W.Frag} : SetD K rSetD oSetDG := by
  intro H I as M M' P x i v dx di dv Q w rx ri rv h k
  unfold oSetDG at h
  split at h
  · rename_i kk j
    split at h
    · rename_i kvs hk
      split at h
      · rename_i hl
        cases h
        cases ri
        obtain ⟨a, vs, rfl, ha, h1, h2, h3, h4⟩ := rx.dict w hk
        have hlen : vs.length = kvs.length := by
          have := congrArg List.length h2
          simpa using this
        refine ⟨a, _, rfl, DPut.k (k := Sum.inl j) h1 (by rw [hlen, sizeLine_eq]; omega), k _ ?_⟩
        obtain ⟨p1, p2⟩ := put_rel (i := j) h2 h3 rv hl.2
        exact w.put ha h4 _ _ ⟨_, upd_same, p1, p2⟩
      · cases h
    · cases h
  · cases h
/-! ### len(d), list(d), d.get(i, x) -/
def oLenG : OC := fun ds M => match ds with
  | [.ref k] => match dctOf M k with
    | some kvs => .ok (.int (kvs.length : Int)) M
    | none => oLen ds M
  | ds => oLen ds M
def rLenG (K : PySem.W.Frag) : List V → Hp → VK → Prop := fun xs H Q => rLenC K xs H Q ∨ ∃ a kvs, xs = [V.ref a] ∧ Rd H a (.dK kvs) ∧ Q (.int kvs.length) H
theorem call_lenDR {X : Cx} : CallR X (.builtin "len") (fun xs H Q => ∃ a kvs, xs = [V.ref a] ∧ Rd H a (.dK kvs) ∧ Q (.int kvs.length) H) := by
  intro pins s σ H xs us Q I r h
  obtain ⟨a, kvs, rfl, ha, q⟩ := h
  obtain ⟨u, rfl, ru⟩ := vals1 r
  cases ru
  exact d_len I ha fun t s' I' => ⟨.int kvs.length, H, I', ⟨t, rfl⟩, q⟩
theorem call_or {X : Cx} {c : Value} {r r' : List V → Hp → VK → Prop} (h : CallR X c r) (h' : CallR X c r') : CallR X c (fun xs H Q => r xs H Q ∨ r' xs H Q) := by
  intro pins s σ H xs us Q I rr q
  rcases q with q | q
  · exact h pins s σ H xs us Q I rr q
  · exact h' pins s σ H xs us Q I rr q
theorem call_lenG {X : Cx} : CallR X (.builtin "len") (rLenG X.K) := call_or call_len_seq call_lenDR
theorem opc_lenG {K : PySem.W.Frag} : OpC K (rLenG K) oLenG := by
  intro H I as M P xs ds Wf Q w r s
  unfold oLenG at s
  split at s
  · rename_i k
    split at s
    · rename_i kvs hk
      obtain ⟨v, rfl, rv⟩ := r.one_inv
      obtain ⟨a, vs, rfl, _, h1, h2, h3⟩ := rv.dictR w hk
      have hlen : vs.length = kvs.length := by
        have := congrArg List.length h2
        simpa using this
      exact .inr ⟨a, vs, rfl, h1, by rw [hlen]; exact s.now w (.int _)⟩
    · exact .inl (opc_len H I as M P xs _ Wf Q w r s)
  · exact .inl (opc_len H I as M P xs _ Wf Q w r s)
def oListG : OC := fun ds M => match ds with
  | [.ref k] => match dctOf M k with
    | some kvs => .ok (.lst (kvs.map fun p => .int p.1)) M
    | none => oList ds M
  | ds => oList ds M
def oListGM : OC := fun ds M => match ds with
  | [.ref k] => match dctOf M k with
    | some kvs => .ok (.ref M.length) (M ++ [.lst (kvs.map fun p => .int p.1)])
    | none => oListM ds M
  | ds => oListM ds M
def rListG (K : PySem.W.Frag) : List V → Hp → VK → Prop := fun xs H Q => rListC K xs H Q ∨ ∃ (a : Addr) (kvs : List (L2.Key × V)), xs = [.ref a] ∧ Rd H a (.dK kvs) ∧ ∀ p, H p = none → Q (.ref p) (upd H p (.lst (kvs.map fun kv => kV kv.1)))
theorem call_listG {X : Cx} (hc : X.calm = true) : CallR X (.type "list") (rListG X.K) := call_or call_list_of (call_listD hc)
theorem keys_vals {vs : List (L2.Key × V)} {kvs : List (Int × D)} (h : vs.map (fun p => p.1) = kvs.map (fun p => Sum.inl p.1)) : (vs.map fun kv => kV kv.1) = (kvs.map fun p => p.1).map V.int := by
  have e : (vs.map fun kv => kV kv.1) = (vs.map (fun p => p.1)).map kV := by rw [List.map_map]; rfl
  rw [e, h, List.map_map, List.map_map]
  rfl
theorem opc_listG {K : PySem.W.Frag} : OpC K (rListG K) oListG := by
  intro H I as M P xs ds Wf Q w r s
  unfold oListG at s
  split at s
  · rename_i k
    split at s
    · rename_i kvs hk
      obtain ⟨v, rfl, rv⟩ := r.one_inv
      obtain ⟨a, vs, rfl, _, h1, h2, h3⟩ := rv.dictR w hk
      refine .inr ⟨a, vs, rfl, h1, fun p hp => ?_⟩
      refine s.newLst w ?_ hp
      rw [keys_vals h2]
      have : (kvs.map fun p => D.int p.1) = (kvs.map fun p => p.1).map D.int := by rw [List.map_map]; rfl
      rw [this]
      exact Reps.ints _ rfl
    · exact .inl (opc_list H I as M P xs _ Wf Q w r s)
  · exact .inl (opc_list H I as M P xs _ Wf Q w r s)
theorem opc_listGM {K : PySem.W.Frag} : OpC K (rListG K) oListGM := by
  intro H I as M P xs ds Wf Q w r s
  unfold oListGM at s
  split at s
  · rename_i k
    split at s
    · rename_i kvs hk
      obtain ⟨v, rfl, rv⟩ := r.one_inv
      obtain ⟨a, vs, rfl, _, h1, h2, h3⟩ := rv.dictR w hk
      refine .inr ⟨a, vs, rfl, h1, fun p hp => ?_⟩
      refine s.newRef w ?_ hp
      rw [keys_vals h2]
      have : (kvs.map fun p => D.int p.1) = (kvs.map fun p => p.1).map D.int := by rw [List.map_map]; rfl
      rw [this]
      exact Reps.ints _ rfl
    · exact .inl (opc_listM H I as M P xs _ Wf Q w r s)
  · exact .inl (opc_listM H I as M P xs _ Wf Q w r s)
def gDGet2 (go ge gf : GE) : GE := fun δ M => (go δ M).bind fun x M1 => match x with
  | .ref k => match dctOf M1 k with
    | some _ => (ge δ M1).bind fun y M2 => (gf δ M2).bind fun z M3 => match y with
      | .int i => match dctOf M3 k with
        | some kvs => .ok ((dget kvs i).getD z) M3
        | none => .bad
      | _ => .bad
    | none => .bad
  | _ => .bad
section
variable {X : Cx} {W : WX} {o e f : Expr} {apos cpos : Pos} {td ty tx : TE} {go ge gf : GE}
theorem xe_dget2 (hu : X.A.units + 1 < cLine) (ho : XE X W o td go) (he : XE X W e ty ge) (hf : XE X W f tx gf) (m : M2 X o "get" apos e f cpos := by exact ⟨rfl, rfl, rfl, rfl⟩) : XE X W (.Call (.Attribute o "get" apos) [e, f] [] cpos) (tDGet2 td ty tx) (gDGet2 go ge gf) := by
  refine ⟨pe_dget2 hu ho.pe he.pe hf.pe m, fun σ H δ I as M P Q w en s => ?_⟩
  refine ho.im σ H δ I as M P _ w en (Sat.bind s fun x M1 v H1 I1 as1 _ g1 w1 r1 s1 => ?_)
  split at s1
  · rename_i k
    split at s1
    · rename_i ks hk
      obtain ⟨a, vs, rfl, _, h1, h2, h3⟩ := r1.dictR w1 hk
      refine ⟨a, rfl, .inl ⟨vs, h1⟩, ?_⟩
      refine he.im σ H1 δ I1 as1 M1 P _ w1 (en.mono g1) (Sat.bind s1 fun y M2 u H2 I2 as2 _ g2 w2 r2 s2 => ?_)
      refine hf.im σ H2 δ I2 as2 M2 P _ w2 (en.mono (g1.trans g2)) (Sat.bind s2 fun z M3 u3 H3 I3 as3 _ g3 w3 r3 s3 => ?_)
      split at s3
      · rename_i i _
        cases r2
        split at s3
        · rename_i kvs hk3
          obtain ⟨a', vs', e', _, h1', h2', h3'⟩ := (r1.mono (g2.trans g3)).dictR w3 hk3
          cases e'
          refine ⟨valV vs' (Sum.inl i), DGet.kR (k := Sum.inl i) h1', ?_⟩
          obtain ⟨a1, a2⟩ := dval h2' h3' i
          cases hg : dget kvs i with
          | none =>
            rw [hg] at s3
            rw [a1 hg]
            exact s3.now w3 r3
          | some d =>
            rw [hg] at s3
            obtain ⟨v, e1, e2⟩ := a2 d hg
            rw [e1]
            exact s3.now w3 e2
        · exact s3.elim
      · exact s3.elim
    · exact s1.elim
  · exact s1.elim
end
/-! ### locks -/
def unlS (k : Nat) (kvs : List (Int × D)) (M : List MO) : Option (List MO) := match M[k]? with
  | some (.dlk _) => some (M.set k (.dct kvs))
  | _ => none
def unlockS (k : Nat) (kvs : List (Int × D)) : SR → SR
  | .bad => .bad
  | .nx δ M => match unlS k kvs M with | some M' => .nx δ M' | none => .bad
  | .rt d M => match unlS k kvs M with | some M' => .rt d M' | none => .bad
  | .bk δ M => match unlS k kvs M with | some M' => .bk δ M' | none => .bad
  | .ct δ M => match unlS k kvs M with | some M' => .ct δ M' | none => .bad
  | .ex _ _ _ => .bad
def unlockR (k : Nat) (kvs : List (Int × D)) : R D → R D
  | .bad => .bad
  | .ok d M => match unlS k kvs M with | some M' => .ok d M' | none => .bad
  | .ex _ _ => .bad
def gLockS (i : Nat) (g : GS) : GS := fun δ M => match δ[i]? with
  | some (some (.ref k)) => match M[k]? with
    | some (.dct kvs) => unlockS k kvs (g δ (M.set k (.dlk kvs)))
    | _ => .bad
  | _ => .bad
def gLockE (i : Nat) (g : GE) : GE := fun δ M => match δ[i]? with
  | some (some (.ref k)) => match M[k]? with
    | some (.dct kvs) => unlockR k kvs (g δ (M.set k (.dlk kvs)))
    | _ => .bad
  | _ => .bad
section
variable {X : Cx} {W : WX} {K : PySem.W.Frag} {mg : Str → Option Value}
theorem unl_wr {H I P : Hp} {as as1 : List Addr} {M : List MO} {I1 : Hp} {k : Nat} {a : Addr} {kvs : List (Int × D)} {vs : List (L2.Key × V)} {od : Obj} {M' : List MO} (g : Gr I as I1 as1) (w : Wr K H I1 as1 M (upd P a (.frz od (.dK vs)))) (ha : as[k]? = some a) (h2 : vs.map (fun p => p.1) = kvs.map (fun p => Sum.inl p.1)) (h3 : Reps K I as (vs.map fun p => p.2) (kvs.map fun p => p.2)) (hp : P a = none) (e : unlS k kvs M = some M') :
    H a = some (.frz od (.dK vs)) ∧ Wr K (upd H a (.dK vs)) I1 as1 M' P := by
  unfold unlS at e
  split at e
  · cases e
    exact w.unlock (g.at ha) h2 (h3.mono g) hp
  · cases e
theorem impS_lock {i : Nat} {t : TS} {g : GS} (h : ImpS K mg W t g) : ImpS K mg W (tLock t) (gLockS i g) := by
  intro σ H δ I as M P E w en s
  unfold gLockS at s
  split at s
  · rename_i k hi
    split at s
    · rename_i kvs hk
      obtain ⟨v, hv, rv⟩ := en.at_ i _ hi
      obtain ⟨a, vs, rfl, ha, h1, h2, h3, h4⟩ := rv.dict w hk
      refine ⟨a, .dK vs, h1, trivial, fun od => ?_⟩
      have w2 := w.lock ha h1 h2 h3 h4 od
      refine h σ _ δ I as _ _ _ w2 en ?_
      generalize g δ (M.set k (.dlk kvs)) = r at s
      cases r with
      | bad => exact s
      | nx δ' M' =>
        unfold unlockS at s
        intro σ' H' I' as' g' w' en'
        cases e : unlS k kvs M' with
        | none => simp only [e] at s; exact s.elim
        | some M2 =>
          simp only [e] at s
          obtain ⟨q1, q2⟩ := unl_wr g' w' ha h2 h3 h4 e
          exact ⟨q1, s σ' _ I' as' g' q2 en'⟩
      | rt d M' =>
        unfold unlockS at s
        intro v' H' I' as' g' w' r'
        cases e : unlS k kvs M' with
        | none => simp only [e] at s; exact s.elim
        | some M2 =>
          simp only [e] at s
          obtain ⟨q1, q2⟩ := unl_wr g' w' ha h2 h3 h4 e
          exact ⟨q1, s v' _ I' as' g' q2 r'⟩
      | bk δ' M' =>
        unfold unlockS at s
        intro σ' H' I' as' g' w' en'
        cases e : unlS k kvs M' with
        | none => simp only [e] at s; exact s.elim
        | some M2 =>
          simp only [e] at s
          obtain ⟨q1, q2⟩ := unl_wr g' w' ha h2 h3 h4 e
          exact ⟨q1, s σ' _ I' as' g' q2 en'⟩
      | ct δ' M' =>
        unfold unlockS at s
        intro σ' H' I' as' g' w' en'
        cases e : unlS k kvs M' with
        | none => simp only [e] at s; exact s.elim
        | some M2 =>
          simp only [e] at s
          obtain ⟨q1, q2⟩ := unl_wr g' w' ha h2 h3 h4 e
          exact ⟨q1, s σ' _ I' as' g' q2 en'⟩
      | ex c δ' M' => exact s.elim
    · exact s.elim
  · exact s.elim
theorem xs_lock (i : Nat) {st : Stmt} {t : TS} {g : GS} (h : XS X W st t g) : XS X W st (tLock t) (gLockS i g) := ⟨ps_lock h.pe, impS_lock h.im⟩
theorem impE_lock {i : Nat} {t : TE} {g : GE} (h : ImpE K mg W t g) : ImpE K mg W (tLockE t) (gLockE i g) := by
  intro σ H δ I as M P Q w en s
  unfold gLockE at s
  split at s
  · rename_i k hi
    split at s
    · rename_i kvs hk
      obtain ⟨v, hv, rv⟩ := en.at_ i _ hi
      obtain ⟨a, vs, rfl, ha, h1, h2, h3, h4⟩ := rv.dict w hk
      refine ⟨a, .dK vs, h1, trivial, fun od => ?_⟩
      have w2 := w.lock ha h1 h2 h3 h4 od
      refine h σ _ δ I as _ _ _ w2 en ?_
      generalize g δ (M.set k (.dlk kvs)) = r at s
      cases r with
      | bad => exact s
      | ok d M' =>
        unfold unlockR at s
        intro v' H' I' as' g' w' r'
        cases e : unlS k kvs M' with
        | none => simp only [e] at s; exact s.elim
        | some M2 =>
          simp only [e] at s
          obtain ⟨q1, q2⟩ := unl_wr g' w' ha h2 h3 h4 e
          exact ⟨q1, s v' _ I' as' g' q2 r'⟩
      | ex c M' => exact s.elim
    · exact s.elim
  · exact s.elim
theorem xe_lock (i : Nat) {e : Expr} {t : TE} {g : GE} (h : XE X W e t g) : XE X W e (tLockE t) (gLockE i g) := ⟨pe_lock h.pe, impE_lock h.im⟩
/-! ### walks of a locked dict -/
def dkeys (kvs : List (Int × D)) : List D := kvs.map fun p => .int p.1
def dvals (kvs : List (Int × D)) : List D := kvs.map fun p => p.2
def ditems (kvs : List (Int × D)) : List D := kvs.map fun p => .tup [.int p.1, p.2]
def giDict (f : List (Int × D) → List D) (ge : GE) : GI := fun δ M => (ge δ M).bind fun x M1 => match x with
  | .ref k => match M1[k]? with
    | some (.dlk kvs) => .ok (itT (f kvs)) M1
    | _ => .bad
  | _ => .bad
theorem pin {H I P : Hp} {as : List Addr} {M : List MO} (w : Wr K H I as M P) {v : V} {k : Nat} {kvs : List (Int × D)} (r : Rep K I as v (.ref k)) (h : M[k]? = some (.dlk kvs)) : ∃ (a : Addr) (od : Obj) (vs : List (L2.Key × V)), v = .ref a ∧ P a = some (.frz od (.dK vs)) ∧ vs.map (fun p => p.1) = kvs.map (fun p => Sum.inl p.1) ∧ Reps K I as (vs.map fun p => p.2) (kvs.map fun p => p.2) := by
  cases r with
  | @ref _ a h1 =>
    obtain ⟨o, ho, _, fr, m⟩ := w.at h1
    rw [h] at ho
    cases ho
    obtain ⟨od, vs, hp⟩ := fr
    obtain ⟨ob, us, e1, e2, rr⟩ := m
    rw [(w.prv a _ hp).1] at e1
    cases e1
    exact ⟨a, od, vs, rfl, hp, e2, rr⟩
theorem key_at {vs : List (L2.Key × V)} {kvs : List (Int × D)} (h : vs.map (fun p => p.1) = kvs.map (fun p => Sum.inl p.1)) {i : Nat} {q : L2.Key × V} (hq : vs[i]? = some q) : ∃ p, kvs[i]? = some p ∧ q.1 = Sum.inl p.1 := by
  have e : (vs.map (fun p => p.1))[i]? = some q.1 := by rw [List.getElem?_map, hq]; rfl
  rw [h, List.getElem?_map] at e
  cases hk : kvs[i]? with
  | none => rw [hk] at e; cases e
  | some p => rw [hk] at e; exact ⟨p, rfl, (Option.some.inj e).symm⟩
theorem itok_dkeys {I P : Hp} {as : List Addr} {a : Addr} {od : Obj} {vs : List (L2.Key × V)} {kvs : List (Int × D)} (hp : P a = some (.frz od (.dK vs))) (h2 : vs.map (fun p => p.1) = kvs.map (fun p => Sum.inl p.1)) : ItOk K P I as (Itk a od vs) (itT (dkeys kvs)) := by
  have hl : (itT (dkeys kvs)).items.length = vs.length := by
    have := congrArg List.length h2
    simpa [itT, dkeys] using this.symm
  refine ⟨fun H => H a = some (.frz od (.dK vs)), fun i H x H' => H' = H ∧ ∃ k v, vs[i]? = some (k, v) ∧ x = kV k, by rw [hl]; exact walk_keys, fun H' I' as' M' P' pl g w _ => (w.prv a _ (pl a _ _ hp)).1, fun i x H' H2 I' as' M' P' hi pl g w _ y => ?_⟩
  obtain ⟨rfl, k, v, hq, rfl⟩ := y
  obtain ⟨p, e1, e2⟩ := key_at h2 hq
  refine ⟨I', .int p.1, Gr.refl _ _, w, by show (kvs.map _)[i]? = _; rw [List.getElem?_map, e1]; rfl, ?_⟩
  rw [show k = Sum.inl p.1 from e2]
  exact .int _
theorem itok_dvals {I P : Hp} {as : List Addr} {a : Addr} {od : Obj} {vs : List (L2.Key × V)} {kvs : List (Int × D)} (hp : P a = some (.frz od (.dK vs))) (h2 : vs.map (fun p => p.1) = kvs.map (fun p => Sum.inl p.1)) (h3 : Reps K I as (vs.map fun p => p.2) (kvs.map fun p => p.2)) : ItOk K P I as (Itd a od vs) (itT (dvals kvs)) := by
  have hl : (itT (dvals kvs)).items.length = vs.length := by
    have := congrArg List.length h2
    simpa [itT, dvals] using this.symm
  refine ⟨fun H => H a = some (.frz od (.dK vs)), fun i H x H' => H' = H ∧ ∃ k, vs[i]? = some (k, x), by rw [hl]; exact walk_values, fun H' I' as' M' P' pl g w _ => (w.prv a _ (pl a _ _ hp)).1, fun i x H' H2 I' as' M' P' hi pl g w _ y => ?_⟩
  obtain ⟨rfl, k, hq⟩ := y
  obtain ⟨d, e1, e2⟩ := h3.get' (i := i) (v := x) (by rw [List.getElem?_map, hq]; rfl)
  exact ⟨I', d, Gr.refl _ _, w, e1, e2.mono g⟩
theorem itok_ditems {I P : Hp} {as : List Addr} {a : Addr} {od : Obj} {vs : List (L2.Key × V)} {kvs : List (Int × D)} (hp : P a = some (.frz od (.dK vs))) (h2 : vs.map (fun p => p.1) = kvs.map (fun p => Sum.inl p.1)) (h3 : Reps K I as (vs.map fun p => p.2) (kvs.map fun p => p.2)) : ItOk K P I as (Iti a od vs) (itT (ditems kvs)) := by
  have hl : (itT (ditems kvs)).items.length = vs.length := by
    have := congrArg List.length h2
    simpa [itT, ditems] using this.symm
  refine ⟨fun H => H a = some (.frz od (.dK vs)), YPair (fun i => vs[i]?.map fun kv => kV kv.1) (fun i => vs[i]?.map Prod.snd), by rw [hl]; exact walk_items, fun H' I' as' M' P' pl g w _ => (w.prv a _ (pl a _ _ hp)).1, fun i x H' H2 I' as' M' P' hi pl g w _ y => ?_⟩
  obtain ⟨T, x1, y1, rfl, hT, rfl, hx, hy⟩ := y
  have hx' : vs[i]?.map (fun kv => kV kv.1) = some x1 := hx
  have hy' : vs[i]?.map Prod.snd = some y1 := hy
  clear hx hy
  have hx := hx'
  have hy := hy'
  cases hq : vs[i]? with
  | none => rw [hq] at hx; cases hx
  | some q =>
    rw [hq] at hx hy
    cases hx
    cases hy
    obtain ⟨p, e1, e2⟩ := key_at h2 hq
    obtain ⟨d, e3, e4⟩ := h3.get' (i := i) (v := q.2) (by rw [List.getElem?_map, hq]; rfl)
    rw [List.getElem?_map, e1] at e3
    cases e3
    obtain ⟨w2, g2⟩ := w.newI hT (.tup [kV q.1, q.2])
    refine ⟨_, .tup [.int p.1, p.2], g2, w2, by show (kvs.map _)[i]? = _; rw [List.getElem?_map, e1]; rfl, .tup (.of upd_same) (.cons ?_ (.cons (e4.mono (g.trans g2)) .nil))⟩
    rw [e2]
    exact .int _
variable {e : Expr} {te : TE} {ge : GE} {apos cpos tpos : Pos} {elts : List Expr} {kk : Nat} {tg : Expr}
theorem xi_dkeys (he : XE X W e te ge) : XI X W tg e (iKeys te) (giDict dkeys ge) := by
  refine ⟨pi_keys he.pe, fun σ H δ I as M P Q w en s => ?_⟩
  refine he.im σ H δ I as M P _ w en (Sat.bind s fun d M1 v H1 I1 as1 _ g1 w1 r1 s1 => ?_)
  split at s1
  · split at s1
    · rename_i kvs hk
      obtain ⟨a, od, vs, rfl, hp, h2, h3⟩ := pin w1 r1 hk
      exact ⟨a, od, rfl, .inl ⟨vs, (w1.prv a _ hp).1, s1 _ H1 I1 as1 (Gr.refl _ _) w1 (itok_dkeys hp h2)⟩⟩
    · exact s1.elim
  · exact s1.elim
theorem xi_dkeysM (he : XE X W e te ge) (hbase : attributeBase e "keys" X.env (eval e X.env) = eval e X.env := by rfl) (hline : (apos.endLine == cpos.line) = true := by rfl) : XI X W tg (.Call (.Attribute e "keys" apos) [] [] cpos) (iKeysM te) (giDict dkeys ge) := by
  refine ⟨pi_keysM he.pe hbase hline, fun σ H δ I as M P Q w en s => ?_⟩
  refine he.im σ H δ I as M P _ w en (Sat.bind s fun d M1 v H1 I1 as1 _ g1 w1 r1 s1 => ?_)
  split at s1
  · split at s1
    · rename_i kvs hk
      obtain ⟨a, od, vs, rfl, hp, h2, h3⟩ := pin w1 r1 hk
      exact ⟨a, od, vs, rfl, (w1.prv a _ hp).1, s1 _ H1 I1 as1 (Gr.refl _ _) w1 (itok_dkeys hp h2)⟩
    · exact s1.elim
  · exact s1.elim
theorem xi_dvals (he : XE X W e te ge) (hbase : attributeBase e "values" X.env (eval e X.env) = eval e X.env := by rfl) (hline : (apos.endLine == cpos.line) = true := by rfl) : XI X W tg (.Call (.Attribute e "values" apos) [] [] cpos) (iVals te) (giDict dvals ge) := by
  refine ⟨pi_values he.pe hbase hline, fun σ H δ I as M P Q w en s => ?_⟩
  refine he.im σ H δ I as M P _ w en (Sat.bind s fun d M1 v H1 I1 as1 _ g1 w1 r1 s1 => ?_)
  split at s1
  · split at s1
    · rename_i kvs hk
      obtain ⟨a, od, vs, rfl, hp, h2, h3⟩ := pin w1 r1 hk
      exact ⟨a, od, vs, rfl, (w1.prv a _ hp).1, s1 _ H1 I1 as1 (Gr.refl _ _) w1 (itok_dvals hp h2 h3)⟩
    · exact s1.elim
  · exact s1.elim
theorem xi_ditems (he : XE X W e te ge) (hbase : attributeBase e "items" X.env (eval e X.env) = eval e X.env := by rfl) (hline : (apos.endLine == cpos.line) = true := by rfl) : XI X W (.Tuple elts kk tpos) (.Call (.Attribute e "items" apos) [] [] cpos) (iItems te) (giDict ditems ge) := by
  refine ⟨pi_items he.pe hbase hline, fun σ H δ I as M P Q w en s => ?_⟩
  refine he.im σ H δ I as M P _ w en (Sat.bind s fun d M1 v H1 I1 as1 _ g1 w1 r1 s1 => ?_)
  split at s1
  · split at s1
    · rename_i kvs hk
      obtain ⟨a, od, vs, rfl, hp, h2, h3⟩ := pin w1 r1 hk
      exact ⟨a, od, vs, rfl, (w1.prv a _ hp).1, s1 _ H1 I1 as1 (Gr.refl _ _) w1 (itok_ditems hp h2 h3)⟩
    · exact s1.elim
  · exact s1.elim
end
end KM
set_option Elab.async false
set_option linter.all false
set_option maxRecDepth 100000
set_option maxHeartbeats 2000000
/-! dict comprehensions -/
namespace KM
open PySem L2 PySem.Spec PyProof.Rows
theorem dc_it {J : It} {n : Nat} {G : Hp → Prop} {Y : Nat → Hp → V → Hp → Prop} (w : Walk J n G Y) {g : TG} {tt : TT} {tk tv : TE} {vs : List Nat} {σ : L2.St} {H1 : Hp} {D : Addr} {Qd : Hp → Prop} (Pv : Nat → Hp → Prop) (h0 : Pv 0 (upd H1 D (.dK []))) (hG : ∀ i H, i ≤ n → Pv i H → G H)
    (hs : ∀ i x H H', i < n → Pv i H → Y i H x H' → g x (wipe σ vs) H' fun σ2 H2 => wipe σ2 vs = wipe σ vs ∧ tt σ2 H2 fun b H3 =>
      if b = true then tk σ2 H3 fun y H4 => tv σ2 H4 fun z H5 => ∃ kvs k, y = kV k ∧ H5 D = some (.dK kvs) ∧ kvs.length < sizeLine ∧ Pv (i + 1) (upd H5 D (.dK (putK kvs k z))) else Pv (i + 1) H3) (hd : ∀ H, Pv n H → Qd H) :
    ∃ W : Nat → Nat → Hp → Prop, (∃ m, W 0 m (upd H1 D (.dK []))) ∧ ∀ i m H, W i m H →
      (J.stop i H ∧ Qd H) ∨ (J.go i H ∧ ∃ Nx : Hp → Prop, (∀ H', Nx H' → ∃ m', m' < m ∧ W (i + 1) m' H') ∧ ∀ x H', J.yld i H x H' → g x (wipe σ vs) H' fun σ2 H2 => wipe σ2 vs = wipe σ vs ∧ tt σ2 H2 fun b H3 =>
        if b = true then tk σ2 H3 fun y H4 => tv σ2 H4 fun z H5 => ∃ kvs k, y = kV k ∧ H5 D = some (.dK kvs) ∧ kvs.length < sizeLine ∧ Nx (upd H5 D (.dK (putK kvs k z))) else Nx H3) := by
  refine ⟨fun i m H => m = n - i ∧ i ≤ n ∧ Pv i H, ⟨n, by simp, Nat.zero_le _, h0⟩, ?_⟩
  rintro i m H ⟨rfl, hi, p⟩
  have q := hG i H hi p
  by_cases hlt : i < n
  · refine .inr ⟨w.goes i H hlt q, Pv (i + 1), fun H' p' => ⟨n - (i + 1), by omega, rfl, hlt, p'⟩, fun x H' y => hs i x H H' hlt p (w.yields i H x H' hlt q y)⟩
  · have e : i = n := by omega
    subst e
    exact .inl ⟨w.stops H q, hd H p⟩
open Classical in
noncomputable def dcL (gd : List MO → Prop) (gg : GG) (gt : GB) (gk gv : GE) (δ : Ctx) : List D → List (Int × D) → List MO → R (List (Int × D))
  | [], acc, M => if gd M then .ok acc M else .bad
  | x :: xs, acc, M => if gd M then (match gg x δ M with
      | .nx δ1 M1 => match gt δ1 M1 with
        | .ok b M2 => if b = true then (match gk δ1 M2 with
            | .ok (.int i) M3 => match gv δ1 M3 with
              | .ok d M4 => if bigS acc.length ∧ (acc.map fun p => p.1).Nodup then dcL gd gg gt gk gv δ xs (dput acc i d) M4 else .bad
              | _ => .bad
            | _ => .bad) else dcL gd gg gt gk gv δ xs acc M2
        | _ => .bad
      | _ => .bad) else .bad
theorem dcL_gd {gd : List MO → Prop} {gg : GG} {gt : GB} {gk gv : GE} {δ : Ctx} {xs : List D} {acc : List (Int × D)} {M : List MO} (h : dcL gd gg gt gk gv δ xs acc M ≠ .bad) : gd M := by
  by_cases c : gd M
  · exact c
  · exfalso
    apply h
    cases xs with
    | nil => unfold dcL; rw [if_neg c]
    | cons x xs => unfold dcL; rw [if_neg c]
def finD (kvs : List (Int × D)) (M : List MO) : R D := .ok (.ref M.length) (M ++ [.dct kvs])
noncomputable def gDc (gi : GI) (gg : GG) (gt : GB) (gk gv : GE) (vs : List Nat) : GE := fun δ M => (gi δ M).bind fun it M1 => (dcL it.gd gg gt gk gv (wipeD δ vs) it.items [] M1).bind finD
theorem impE_dc {K : PySem.W.Frag} {mg : Str → Option Value} {W : WX} {wi : TI} {gi : GI} {is vs : List Nat} {gt : TG} {gg : GG} {tt : TT} {gb : GB} {tk tv : TE} {gk gv : GE} (hs : ∀ j ∈ is, j ∈ vs)
    (hi : ImpI K mg W wi gi) (hg : ImpG K mg W0 is gt gg) (ht : ImpT K mg W0 tt gb) (hk : ImpE K mg W0 tk gk) (he : ImpE K mg W0 tv gv) : ImpE K mg W (tDc wi gt tt tk tv vs) (gDc gi gg gb gk gv vs) := by
  intro σ H δ I as M P Q w en s
  refine hi σ H δ I as M P _ w en (Sat.bind s fun it M1 J H1 I1 as1 _ g1 w1 ok s1 => ?_)
  intro Dl hD
  obtain ⟨G, Y, wk, hG, hY⟩ := ok
  obtain ⟨f1, f2, f3⟩ := w1.fresh hD
  have enw := (en.mono g1).wipe vs
  have nb : ∀ {i : Nat} {acc : List (Int × D)} {M' : List MO} {I' : Hp} {as' : List Addr}, Sat K (Rep K) (fun c H' => lowW mg W c σ H') I' as' P Q ((dcL it.gd gg gb gk gv (wipeD δ vs) (it.items.drop i) acc M').bind finD) → it.gd M' := fun h => dcL_gd fun e => by
    rw [e] at h
    exact h
  refine dc_it wk (fun i H' => ∃ acc us M' I' as', Gr I1 as1 I' as' ∧ Wr K H' I' as' M' (upd P Dl (.dK us)) ∧ us.map (fun p => p.1) = acc.map (fun p => Sum.inl p.1) ∧ Reps K I' as' (us.map fun p => p.2) (acc.map fun p => p.2) ∧ Sat K (Rep K) (fun c H' => lowW mg W c σ H') I' as' P Q ((dcL it.gd gg gb gk gv (wipeD δ vs) (it.items.drop i) acc M').bind finD))
    ⟨[], [], M1, I1, as1, Gr.refl _ _, w1.newP hD _, rfl, .nil, by rw [List.drop_zero]; exact s1⟩ ?_ ?_ ?_
  · rintro i H' hi ⟨acc, us, M', I', as', g', w', q', r', s'⟩
    exact hG H' I' as' M' _ (PLe.upd f2) g' w' (nb s')
  · rintro i x H' H2 hi ⟨acc, us, M', I', as', g', w', q', r', s'⟩ y
    have hgd := nb s'
    obtain ⟨I2, d, g2, w2, hd, rd⟩ := hY i x H' H2 I' as' M' _ hi (PLe.upd f2) g' w' hgd y
    have ed : it.items.drop i = d :: it.items.drop (i + 1) := by
      rw [List.drop_eq_getElem_cons hi]
      have := List.getElem?_eq_getElem hi
      rw [hd] at this
      rw [← Option.some.inj this]
    rw [ed] at s'
    unfold dcL at s'
    rw [if_pos hgd] at s'
    refine hg x d (wipe σ vs) H2 (wipeD δ vs) I2 as' M' _ _ w2 (enw.mono (g'.trans g2)) rd ?_
    have s2 := Sat.gr g2 s'
    cases e1 : gg d (wipeD δ vs) M' with
    | nx δ1 M1 =>
      simp only [e1] at s2
      intro σ3 H3 I3 as3 g3 w3 en3 k3
      refine ⟨wipe_kept hs k3, ?_⟩
      refine ht σ3 H3 δ1 I3 as3 M1 _ _ w3 en3 ?_
      have s3 := Sat.gr g3 s2
      cases e2 : gb δ1 M1 with
      | ok b M2 =>
        simp only [e2] at s3
        intro b' H4 I4 as4 g4 w4 eb
        subst eb
        have s4 := Sat.gr g4 s3
        cases b' with
        | true =>
          simp only [if_true] at s4 ⊢
          refine hk σ3 H4 δ1 I4 as4 M2 _ _ w4 (en3.mono g4) ?_
          cases e3 : gk δ1 M2 with
          | ok d5 M5 =>
            simp only [e3] at s4
            intro v5 H5 I5 as5 g5 w5 r5
            have s5 := Sat.gr g5 s4
            refine he σ3 H5 δ1 I5 as5 M5 _ _ w5 (en3.mono (g4.trans g5)) ?_
            cases d5 with
            | int j =>
              simp only at s5
              cases r5
              cases e4 : gv δ1 M5 with
              | ok d6 M6 =>
                simp only [e4] at s5
                intro v6 H6 I6 as6 g6 w6 r6
                have s6 := Sat.gr g6 s5
                split at s6
                · rename_i hb
                  have ga := (g2.trans (g3.trans (g4.trans (g5.trans g6))))
                  have hP := (w6.prv Dl _ upd_same).1
                  obtain ⟨p1, p2⟩ := put_rel (i := j) q' (r'.mono ga) r6 hb.2
                  have hlen : us.length = acc.length := by
                    have := congrArg List.length q'
                    simpa using this
                  refine ⟨us, .inl j, rfl, hP, ?_, dput acc j d6, putK us (.inl j) v6, M6, I6, as6, g'.trans ga, ?_, p1, p2, s6⟩
                  · rw [hlen]
                    exact Evl.sz_lt hb.1
                  · have z := w6.putP (p := Dl) upd_same (.dK (putK us (.inl j) v6))
                    rw [upd_upd] at z
                    exact z
                · exact s6.elim
              | bad => simp only [e4] at s5; exact s5.elim
              | ex c M6 => simp only [e4] at s5; exact s5.elim
            | _ => exact s5.elim
          | bad => simp only [e3] at s4; exact s4.elim
          | ex c M5 => simp only [e3] at s4; exact s4.elim
        | false =>
          simp only [if_neg Bool.false_ne_true] at s4 ⊢
          have ga := (g2.trans (g3.trans g4))
          exact ⟨acc, us, M2, I4, as4, g'.trans ga, w4, q', r'.mono ga, s4⟩
      | bad => simp only [e2] at s3; exact s3.elim
      | ex c M5 => simp only [e2] at s3; exact s3.elim
    | bad => simp only [e1] at s2; exact s2.elim
    | rt _ _ => simp only [e1] at s2; exact s2.elim
    | bk _ _ => simp only [e1] at s2; exact s2.elim
    | ct _ _ => simp only [e1] at s2; exact s2.elim
    | ex _ _ _ => simp only [e1] at s2; exact s2.elim
  · rintro H' ⟨acc, us, M', I', as', g', w', q', r', s'⟩
    have hgd := nb s'
    rw [List.drop_length] at s'
    unfold dcL at s'
    rw [if_pos hgd] at s'
    have w'' := w'.giveM (m := .dct acc) f2 (fun _ _ z => by cases z) ⟨us, (w'.prv Dl _ upd_same).1, q', r'⟩
    refine s' _ _ _ _ (Gr.more I' as' [Dl]) w'' (.ref ?_)
    rw [← w'.len, List.getElem?_append_right (Nat.le_refl _), Nat.sub_self]
    rfl
section
variable {X : Cx} {W : WX} {tg iter kx vx : Expr} {ifs : List Expr} {scope : Scope} {pos : Pos} {wi : TI} {gi : GI} {is : List Nat} {gt : TG} {gg : GG} {tt : TT} {gb : GB} {tk tv : TE} {gk gv : GE}
theorem xe_dc (own : List (Str × Nat)) (hc : X.calm = true) (hN : X.N.Nodup) (hi : XI X W tg iter wi gi) (ok : BlkOk X.N X.env.scope scope own)
    (hg : ∀ (s : Shared) (H : Hp) (C : Addr) (cl : List (Str × Addr)) (fp : List Addr), XG (X.blk s H scope (compEnvC scope cl C X.env) fp) W0 tg is gt gg) (ht : ∀ (s : Shared) (H : Hp) (C : Addr) (cl : List (Str × Addr)) (fp : List Addr), XTs (X.blk s H scope (compEnvC scope cl C X.env) fp) W0 ifs tt gb)
    (hk : ∀ (s : Shared) (H : Hp) (C : Addr) (cl : List (Str × Addr)) (fp : List Addr), XE (X.blk s H scope (compEnvC scope cl C X.env) fp) W0 kx tk gk)
    (he : ∀ (s : Shared) (H : Hp) (C : Addr) (cl : List (Str × Addr)) (fp : List Addr), XE (X.blk s H scope (compEnvC scope cl C X.env) fp) W0 vx tv gv) (hsub : ∀ j ∈ is, j ∈ own.map (·.2) := by decide) (hs : ∀ x, foldedSetIterable iter X.env x = pure x := by intro _; rfl) :
    XE X W (.DictComp kx vx [⟨tg, iter, ifs, 0⟩] scope pos) (tDc wi gt tt tk tv (own.map (·.2))) (gDc gi gg gb gk gv (own.map (·.2))) :=
  ⟨pe_dc hc hN hi.pe ok (fun s H C cl fp => (hg s H C cl fp).pe) (fun s H C cl fp => (ht s H C cl fp).pe) (fun s H C cl fp => (hk s H C cl fp).pe) (fun s H C cl fp => (he s H C cl fp).pe) hs,
    impE_dc hsub hi.im (hg X.s_0 X.H_0 0 [] []).im (ht X.s_0 X.H_0 0 [] []).im (hk X.s_0 X.H_0 0 [] []).im (he X.s_0 X.H_0 0 [] []).im⟩
end
end KM
set_option Elab.async false
set_option linter.all false
set_option maxRecDepth 100000
set_option maxHeartbeats 2000000
/-! zip of two, lists or tuples; xs[i] += .. -/
namespace KM
open PySem L2 PySem.Spec PyProof.Rows
def ItzM (K : PySem.W.Frag) (k1 k2 : Bool) (a b : Addr) : It :=
  ⟨fun i H => ∃ (xs ys : List V), sqK k1 K H a xs ∧ sqK k2 K H b ys ∧ i < xs.length ∧ i < ys.length,
    fun i H v H' => ∃ T x y, v = .ref T ∧ H T = none ∧ H' = upd H T (.tup [x, y]) ∧ (∀ xs, sqK k1 K H a xs → xs[i]? = some x) ∧ (∀ ys, sqK k2 K H b ys → ys[i]? = some y),
    fun i H => ∃ xs ys : List V, sqK k1 K H a xs ∧ sqK k2 K H b ys ∧ i = min xs.length ys.length⟩
def tnz2 (k1 k2 : Bool) (a b z TI TO i1 i2 : Addr) (i : Nat) (h : Heap) : Prop := IsZip h z TI TO .none ∧ IsTupOf2 h TI (.ref i1) (.ref i2) ∧ (∃ a1 a2, IsTupOf2 h TO a1 a2) ∧ itK k1 h i1 a i ∧ itK k2 h i2 b i
theorem turn_zip2 {P : Program} {w : World} {K : PySem.W.Frag} {elts : List Expr} {kk : Nat} {tpos : Pos} {k1 k2 : Bool} {a b z TI TO i1 i2 : Addr} (D : ZipSep2 z TI TO i1 i2 [i1, a] [i2, b]) (n1 : a ≠ i1) (n2 : b ≠ i2) :
    Turn P w K (.Tuple elts kk tpos) (ItzM K k1 k2 a b) [z, TI, TO, i1, i2] z (tnz2 k1 k2 a b z TI TO i1 i2) where
  mem := by simp
  obj := fun i h st q hq => by
    obtain ⟨hz, hTI, ⟨x, y, hTO⟩, h1, h2⟩ := st
    have e' : q = z ∨ q = TI ∨ q = TO ∨ q = i1 ∨ q = i2 := by simpa using hq
    rcases e' with q | q | q | q | q
    · rw [q]; exact ⟨_, hz, fun v q => nomatch q⟩
    · rw [q]; exact ⟨_, hTI, fun v q => nomatch q⟩
    · rw [q]; exact ⟨_, hTO, fun v q => nomatch q⟩
    · rw [q]; exact h1.obj
    · rw [q]; exact h2.obj
  keep := fun i h h' st k => by
    obtain ⟨hz, hTI, ⟨x, y, hTO⟩, h1, h2⟩ := st
    exact ⟨k z (by simp) _ hz, k TI (by simp) _ hTI, ⟨x, y, k TO (by simp) _ hTO⟩, h1.at fun o q => k i1 (by simp) o q, h2.at fun o q => k i2 (by simp) o q⟩
  item := by
    intro X hP hw hK hc i pins s σ H E I hf st hg
    subst hP hw hK
    obtain ⟨hz, hTI, hTO, h1, h2⟩ := st
    obtain ⟨xs, ys, q1, q2, l1, l2⟩ := hg
    obtain ⟨its1, r1, p1, _⟩ := inv_sqK I q1
    obtain ⟨its2, r2, p2, _⟩ := inv_sqK I q2
    have g1 := r1.length
    have g2 := r2.length
    have hd : X.A.in1.handled = none := I.ok.hd hc
    have G := GoesN.zip2 (elts := elts) (x1 := kk) (pos := tpos) D (drawsK (P := X.prog) (w := X.w) hd k1 i1 a n1 its1.toArray) (drawsK (P := X.prog) (w := X.w) hd k2 i2 b n2 its2.toArray)
    refine wpAny_mono (G.goes i s (fun v s2 => ∃ x H', Inv X pins σ H' s2 ∧ RelV x v ∧ (ItzM X.K k1 k2 a b).yld i H x H' ∧ tnz2 k1 k2 a b z TI TO i1 i2 (i + 1) s2.heap ∧ ∀ b ∈ [z, TI, TO, i1, i2], H' b = none) E (by simp; omega) ⟨hz, hTI, hTO, ⟨h1, p1⟩, ⟨h2, p2⟩⟩ ?_) (fun r s1 h => h) fun _ _ e => e
    intro v h' tk hY st' hk htk
    obtain ⟨T, x, y, rfl, hT, hx, hy, hit⟩ := hY
    obtain ⟨hz', hTI', hTO', ⟨h1', _⟩, ⟨h2', _⟩⟩ := st'
    have hx' : its1[i]? = some x := by simpa using hx
    have hy' : its2[i]? = some y := by simpa using hy
    have m1 : xs[i]? = some xs[i] := by simp [l1]
    have m2 : ys[i]? = some ys[i] := by simp [l2]
    obtain ⟨x', e1, rx⟩ := r1.get m1
    obtain ⟨y', e2, ry⟩ := r2.get m2
    rw [hx'] at e1; cases e1
    rw [hy'] at e2; cases e2
    have hwr : ∀ b : Addr, b ∉ [z, TI, TO, i1, i2] → b ∉ [z, TO, i1, i2] := fun b hb hm => hb (by
      have e' : b = z ∨ b = TO ∨ b = i1 ∨ b = i2 := by simpa using hm
      rcases e' with e | e | e | e <;> simp [e])
    have new : ObjOk X.prog X.w (upd H T (.tup [xs[i], ys[i]])) h' T (.tup [xs[i], ys[i]]) :=
      ⟨by show 2 ≤ sizeLine; decide, [x, y], .cons rx (.cons ry .nil), hit⟩
    have I1 : Inv X pins σ (upd H T (.tup [xs[i], ys[i]])) { s with heap := h', toks := tk } :=
      I.turnedNew (t' := tk) (ch := [z, TI, TO, i1, i2]) (fun c o hb q => hk c o (hwr c hb) q) hf hT new
    have fr : H T = none := I.hok.fresh hT
    refine ⟨.ref T, _, I1, rfl, ⟨T, xs[i], ys[i], rfl, fr, rfl, fun l hl => by rw [inv_sqK_inj I hl q1]; exact m1, fun l hl => by rw [inv_sqK_inj I hl q2]; exact m2⟩, ⟨hz', hTI', hTO', h1', h2'⟩, fun c hcm => ?_⟩
    have hlt : c < s.heap.objs.size := by
      have e' : c = z ∨ c = TI ∨ c = TO ∨ c = i1 ∨ c = i2 := by simpa using hcm
      obtain ⟨_, _, hTO⟩ := hTO
      rcases e' with q | q | q | q | q
      · rw [q]; exact Heap.lt_size hz
      · rw [q]; exact Heap.lt_size hTI
      · rw [q]; exact Heap.lt_size hTO
      · rw [q]; exact h1.lt
      · rw [q]; exact h2.lt
    rw [upd_ne (Nat.ne_of_lt (Nat.lt_of_lt_of_le hlt hT))]
    exact (hf c hcm).1
  done := by
    intro X hP hw hK hc i pins s σ H E I hf st hg
    subst hP hw hK
    obtain ⟨hz, hTI, hTO, h1, h2⟩ := st
    obtain ⟨xs, ys, q1, q2, hi⟩ := hg
    obtain ⟨its1, r1, p1, _⟩ := inv_sqK I q1
    obtain ⟨its2, r2, p2, _⟩ := inv_sqK I q2
    have g1 := r1.length
    have g2 := r2.length
    have hd : X.A.in1.handled = none := I.ok.hd hc
    have G := GoesN.zip2 (elts := elts) (x1 := kk) (pos := tpos) D (drawsK (P := X.prog) (w := X.w) hd k1 i1 a n1 its1.toArray) (drawsK (P := X.prog) (w := X.w) hd k2 i2 b n2 its2.toArray)
    have hn : i = min its1.toArray.size its2.toArray.size := by
      rw [hi, g1, g2]; simp
    subst hn
    refine G.stops s _ E ⟨hz, hTI, hTO, ⟨h1, p1⟩, ⟨h2, p2⟩⟩ fun h' tk hk htk => ?_
    exact I.turnedL (t' := tk) (ch := [z, TI, TO, i1, i2]) (fun c o hb q => hk c o (fun hm => hb (by
      have e' : c = z ∨ c = TO ∨ c = i1 ∨ c = i2 := by simpa using hm
      rcases e' with e | e | e | e <;> simp [e])) q) hf
  self := fun A i s Q E st h => wpAny_pyIter_zip st.1 h
def iZipG (K : PySem.W.Frag) (ta : TA) : TI := fun σ H R => ta σ H fun vs H1 => ∃ a b xs ys k1 k2, vs = [.ref a, .ref b] ∧ sqK k1 K H1 a xs ∧ sqK k2 K H1 b ys ∧ R (ItzM K k1 k2 a b) H1
theorem pi_zipG {X : Cx} {e e2 : Expr} {ta : TA} {p pos tpos : Pos} {elts : List Expr} {kk : Nat} (hg : Gl X "zip") (hm : X.mg "zip" = none) (ha : PA X [e, e2] ta)
    (hs : starEach [e, e2] X.env = (false, eval e X.env) :: starEach [e2] X.env := by rfl) (hpl : (backTo pos (starEach [e2] X.env)).any (·.1) = false := by rfl) :
    PI X (.Tuple elts kk tpos) (.Call (.Name "zip" p) [e, e2] [] pos) (iZipG X.K ta) := by
  refine ⟨fun pins s σ H R I h => ?_⟩
  refine Call_ (ld_blt I hg hm PyProof.Rows.boot_zip (PyProof.Rows.callWith_type1 (thn (ha.run pos pins s σ H _ I h) fun us s1 ⟨vs, H1, I1, r1, q1⟩ => ?_) hs hpl))
  obtain ⟨a, b, xs, ys, k1, k2, ex, hx, hy, q⟩ := q1
  subst ex
  cases r1 with
  | cons r rr =>
    cases rr with
    | cons r' rr =>
      cases rr
      cases r
      cases r'
      obtain ⟨its1, v1, p1, _⟩ := inv_sqK I1 hx
      obtain ⟨its2, v2, p2, _⟩ := inv_sqK I1 hy
      have la := p1.lt
      have lb := p2.lt
      refine zip_begins2 (beginsK k1 a its1.toArray) (beginsK k2 b its2.toArray) p1 p2 fun h' hz hTI hTO h1 h2 hsz hk => wpAny_pyIter_zip hz ?_
      have I2 : Inv X pins σ H1 { s1 with heap := h' } := I1.kept (t' := s1.toks) hk
      refine ⟨s1.heap.objs.size + 4, [s1.heap.objs.size + 4, s1.heap.objs.size + 2, s1.heap.objs.size + 3, s1.heap.objs.size, s1.heap.objs.size + 1], _, _, H1, rfl, I2,
        turn_zip2 (zip_sep2 (fp1 := [a]) (fp2 := [b]) (by simpa using la) (by simpa using lb)) (Nat.ne_of_lt la) (Nat.ne_of_lt (Nat.lt_succ_of_lt lb)), ⟨hz, hTI, ⟨_, _, hTO⟩, obK_it h1, obK_it h2⟩, fun c hcm => ?_, q⟩
      have hle : s1.heap.objs.size ≤ c := by
        have e' : c = s1.heap.objs.size + 4 ∨ c = s1.heap.objs.size + 2 ∨ c = s1.heap.objs.size + 3 ∨ c = s1.heap.objs.size ∨ c = s1.heap.objs.size + 1 := by simpa using hcm
        rcases e' with z | z | z | z | z
        · rw [z]; exact Nat.le_add_right _ _
        · rw [z]; exact Nat.le_add_right _ _
        · rw [z]; exact Nat.le_add_right _ _
        · rw [z]; exact Nat.le_refl _
        · rw [z]; exact Nat.le_add_right _ _
      exact I1.fpOk hle (I1.hok.fresh hle)
def giZipG (ga : GA) : GI := fun δ M => (ga δ M).bind fun ds M1 => match ds with
  | [x, y] => match sqOf x, sqOf y with
    | some p, some q => .ok (itT (zipD p.2 q.2)) M1
    | _, _ => .bad
  | _ => .bad
theorem itok_zipG {K : PySem.W.Frag} {I P0 : Hp} {as : List Addr} {a b : Addr} {k1 k2 : Bool} {us vs : List V} {xs ys : List D} (h1 : sqK k1 K I a us) (h2 : sqK k2 K I b vs) (r1 : Reps K I as us xs) (r2 : Reps K I as vs ys) : ItOk K P0 I as (ItzM K k1 k2 a b) (itT (zipD xs ys)) := by
  have hl : (itT (zipD xs ys)).items.length = min us.length vs.length := by
    show (zipD xs ys).length = _
    rw [zipD_len, r1.len, r2.len]
  refine ⟨fun H => sqK k1 K H a us ∧ sqK k2 K H b vs, fun i H v H' => ∃ T x y, v = .ref T ∧ H T = none ∧ H' = upd H T (.tup [x, y]) ∧ us[i]? = some x ∧ vs[i]? = some y, ?_, ?_, ?_⟩
  · rw [hl]
    refine ⟨fun i H hi q => ⟨us, vs, q.1, q.2, by omega, by omega⟩, fun H q => ⟨us, vs, q.1, q.2, rfl⟩, fun i H v H' _ q y => ?_⟩
    obtain ⟨T, x, y, e1, e2, e3, e4, e5⟩ := y
    exact ⟨T, x, y, e1, e2, e3, e4 us q.1, e5 vs q.2⟩
  · exact fun H' I' as' M' P' _ g w _ => ⟨(h1.mono g.sub).mono w.sub, (h2.mono g.sub).mono w.sub⟩
  · intro i v H' H2 I' as' M' P' hi _ g w _ y
    obtain ⟨T, x1, y1, rfl, hT, rfl, hx, hy⟩ := y
    obtain ⟨w2, g2⟩ := w.newI hT (.tup [x1, y1])
    obtain ⟨d, hd, rd⟩ := r1.get' hx
    obtain ⟨e, he, re⟩ := r2.get' hy
    exact ⟨_, .tup [d, e], g2, w2, zipD_at _ _ _ _ _ hd he, .tup (.of upd_same) (.cons (rd.mono (g.trans g2)) (.cons (re.mono (g.trans g2)) .nil))⟩
section
variable {X : Cx} {W : WX} {a b e e2 o i : Expr} {p p2 q pos tpos : Pos} {elts : List Expr} {kk : Nat} {t : TA} {g : GA} {to ti te : TE} {go gi ge : GE}
theorem ki_zipG (K : PySem.W.Frag) (hm : X.mg "zip" = none) (ha : XA X W [e, e2] t g) (hK : X.K = K := by rfl) (hg : Gl X "zip" := by rfl)
    (hs : starEach [e, e2] X.env = (false, eval e X.env) :: starEach [e2] X.env := by rfl) (hpl : (backTo pos (starEach [e2] X.env)).any (·.1) = false := by rfl) : XI X W (.Tuple elts kk tpos) (.Call (.Name "zip" p) [e, e2] [] pos) (iZipG K t) (giZipG g) := by
  subst hK
  refine ⟨pi_zipG hg hm ha.pe hs hpl, fun σ H δ I as M P Q w en s => ?_⟩
  refine ha.im σ H δ I as M P _ w en (Sat.bind s fun d M1 v H1 I1 as1 _ g1 w1 r1 s1 => ?_)
  split at s1
  · obtain ⟨v1, v2, rfl, q1, q2⟩ := r1.two_inv
    split at s1
    · rename_i o1 o2 h1 h2
      obtain ⟨k1, xs⟩ := o1
      obtain ⟨k2, ys⟩ := o2
      obtain ⟨a1, us, rfl, z1, m1⟩ := q1.sq h1
      obtain ⟨a2, vs, rfl, z2, m2⟩ := q2.sq h2
      exact ⟨a1, a2, us, vs, k1, k2, rfl, z1.mono w1.sub, z2.mono w1.sub, s1 _ H1 I1 as1 (Gr.refl _ _) w1 (itok_zipG z1 z2 m1 m2)⟩
    · exact s1.elim
  · exact s1.elim
/-! ### xs[i] += e -/
def rGetL (K : PySem.W.Frag) : V → V → Hp → VK → Prop := fun x y H Q => ∃ p xs i v, x = .ref p ∧ y = .int i ∧ H p = some (.lst xs) ∧ 0 ≤ i ∧ xs[i.toNat]? = some v ∧ Q v H
theorem get_lst : PGet X (rGetL X.K) := by
  intro pins s σ H o i ov iv Q I ro ri h
  obtain ⟨p, xs, j, v, rfl, rfl, hp, h0, hx, q⟩ := h
  cases (show ov = Value.ref p from ro)
  obtain ⟨t, rfl⟩ := ri
  obtain ⟨its, r, pl, hz⟩ := I.list (SqL.of hp)
  obtain ⟨w, ew, rw'⟩ := r.get hx
  have hl := r.length
  have hlt : j.toNat < xs.length := (List.getElem?_eq_some_iff.mp hx).1
  have hn := line63
  have e : j = ((j.toNat : Nat) : Int) := by omega
  refine wpAny_getItem_list pl.isList h0 ?_ (x := w) ?_ ⟨v, H, I, rw', q⟩
  · omega
  · simpa using ew
end
end KM
set_option Elab.async false
set_option linter.all false
set_option maxRecDepth 100000
set_option maxHeartbeats 2000000
namespace KM
open PySem L2 PySem.Spec PyProof.Rows
def oSubI : OD := fun x y M => match x, y with
  | .int i, .int j => .ok (.int (i - j)) M
  | _, _ => .bad
theorem opd_subI {K : PySem.W.Frag} : OpD K (ipI fun i j => i - j) oSubI := by
  intro H I as M P x y d e Wf Q w rx ry s
  unfold oSubI at s
  split at s
  · cases rx; cases ry
    exact ⟨_, _, rfl, rfl, s.now w (.int _)⟩
  · exact s.elim
/-- o[i] op= e, o a list that may change -/
def gAugL (o : OD) (go gi ge : GE) : GS := fun δ M => (go δ M).toS δ fun x M1 => (gi δ M1).toS δ fun j M2 => match x, j with
  | .ref k, .int n => match M2[k]? with
    | some (.lst xs) => if 0 ≤ n then (match xs[n.toNat]? with
      | some d => (ge δ M2).toS δ fun y M3 => (o d y M3).toS δ fun z M4 => match oSetL x j z M4 with
        | some M5 => .nx δ M5
        | none => .bad
      | none => .bad) else .bad
    | _ => .bad
  | _, _ => .bad
section
variable {X : Cx} {W : WX} {o i e : Expr} {pos tpos : Pos} {to ti te : TE} {go gi ge : GE}
theorem xs_augL {op : Operator} {tip : TIp} {od : OD} (ho : XE X W o to go) (hi : XE X W i ti gi) (he : XE X W e te ge) (hp : PIp X op tip) (hd : OpD X.K tip od)
    (ha : ∀ ov iv new, augStore i ov iv new = (do holding [new, ov, iv] (setItem ov iv new); release [new, ov, iv] []; pure .next) := by intros; rfl) :
    XS X W (.AugAssign (.Subscript o i tpos) op e pos) (tAugS to ti te (rGetL X.K) tip rSetL) (gAugL od go gi ge) := by
  refine ⟨ps_augS ho.pe hi.pe get_lst he.pe hp set_list ha, fun σ H δ I as M P E w en s => ?_⟩
  refine ho.im σ H δ I as M P _ w en (SatS.bindE s en fun x M1 xv H1 I1 as1 _ g1 w1 r1 s1 => ?_)
  refine hi.im σ H1 δ I1 as1 M1 P _ w1 (en.mono g1) (SatS.bindE s1 (en.mono g1) fun j M2 jv H2 I2 as2 _ g2 w2 r2 s2 => ?_)
  split at s2
  · rename_i k n _ _
    split at s2
    · rename_i xs hk
      split at s2
      · rename_i h0
        split at s2
        · rename_i d hd'
          cases r2
          have r1' := r1.mono g2
          cases r1' with
          | @ref _ a h1 =>
            obtain ⟨ob, hob, _, fr, m⟩ := w2.at h1
            rw [hk] at hob
            cases hob
            obtain ⟨vs, e1, rr⟩ := m
            obtain ⟨v, hv, rv⟩ := rr.get hd'
            refine ⟨a, vs, n, v, rfl, rfl, e1, h0, hv, ?_⟩
            refine he.im σ H2 δ I2 as2 M2 P _ w2 (en.mono (g1.trans g2)) (SatS.bindE s2 (en.mono (g1.trans g2)) fun y M3 yv H3 I3 as3 _ g3 w3 r3 s3 => ?_)
            refine hd H3 I3 as3 M3 P v yv d y _ _ w3 (rv.mono g3) r3 (SatS.bindE s3 (en.mono (g1.trans (g2.trans g3))) fun z M4 zv H4 I4 as4 _ g4 w4 r4 s4 => ?_)
            split at s4
            · rename_i M5 e5
              exact setd_list H4 I4 as4 M4 M5 P _ _ _ _ _ _ _ w4 (.ref ((g3.trans g4).at h1)) (.int n) r4 e5 fun H' w' => s4 σ H' I4 as4 (Gr.refl _ _) w' (en.mono (g1.trans (g2.trans (g3.trans g4))))
            · exact s4.elim
        · exact s2.elim
      · exact s2.elim
    · exact s2.elim
  · exact s2.elim
end
/-! ### a comprehension with two fors -/
open Classical in
noncomputable def lc2I (gd1 : List MO → Prop) (gg1 : GG) (gt1 : GB) (ge : GE) (δ0 : Ctx) : List D → List D → List MO → R (List D) := lcL gd1 gg1 gt1 ge δ0
open Classical in
noncomputable def lc2L (gd : List MO → Prop) (gg : GG) (gt : GB) (gi1 : GI) (gg1 : GG) (gt1 : GB) (ge : GE) (vs1 : List Nat) (δ : Ctx) : List D → List D → List MO → R (List D)
  | [], acc, M => if gd M then .ok acc M else .bad
  | x :: xs, acc, M => if gd M then (match gg x δ M with
      | .nx δ1 M1 => match gt δ1 M1 with
        | .ok b M2 => if b = true then (match gi1 δ1 M2 with
            | .ok it M3 => match lcL it.gd gg1 gt1 ge (wipeD δ1 vs1) it.items acc M3 with
              | .ok acc' M4 => lc2L gd gg gt gi1 gg1 gt1 ge vs1 δ xs acc' M4
              | _ => .bad
            | _ => .bad) else lc2L gd gg gt gi1 gg1 gt1 ge vs1 δ xs acc M2
        | _ => .bad
      | _ => .bad) else .bad
theorem lc2L_gd {gd : List MO → Prop} {gg : GG} {gt : GB} {gi1 : GI} {gg1 : GG} {gt1 : GB} {ge : GE} {vs1 : List Nat} {δ : Ctx} {xs acc : List D} {M : List MO} (h : lc2L gd gg gt gi1 gg1 gt1 ge vs1 δ xs acc M ≠ .bad) : gd M := by
  by_cases c : gd M
  · exact c
  · exfalso
    apply h
    cases xs with
    | nil => unfold lc2L; rw [if_neg c]
    | cons x xs => unfold lc2L; rw [if_neg c]
noncomputable def gLc2G (fin : List D → List MO → R D) (gi : GI) (gg : GG) (gt : GB) (gi1 : GI) (gg1 : GG) (gt1 : GB) (ge : GE) (vs vs1 : List Nat) : GE := fun δ M => (gi δ M).bind fun it M1 => (lc2L it.gd gg gt gi1 gg1 gt1 ge vs1 (wipeD δ vs) it.items [] M1).bind fin
theorem in_it {J : It} {n : Nat} {G : Hp → Prop} {Y : Nat → Hp → V → Hp → Prop} (w : Walk J n G Y) {g : TG} {tt : TT} {te : TE} {vs : List Nat} {σ : L2.St} {H1 : Hp} {D : Addr} {Qd : Hp → Prop} (Pv : Nat → Hp → Prop) (h0 : Pv 0 H1) (hG : ∀ i H, i ≤ n → Pv i H → G H)
    (hs : ∀ i x H H', i < n → Pv i H → Y i H x H' → g x (wipe σ vs) H' fun σ2 H2 => wipe σ2 vs = wipe σ vs ∧ tt σ2 H2 fun b H3 =>
      if b = true then te σ2 H3 fun y H4 => ∃ acc, H4 D = some (.lst acc) ∧ acc.length < sizeLine ∧ Pv (i + 1) (upd H4 D (.lst (acc ++ [y]))) else Pv (i + 1) H3) (hd : ∀ H, Pv n H → Qd H) :
    ∃ W : Nat → Nat → Hp → Prop, (∃ m, W 0 m H1) ∧ ∀ i m H, W i m H →
      (J.stop i H ∧ Qd H) ∨ (J.go i H ∧ ∃ Nx : Hp → Prop, (∀ H', Nx H' → ∃ m', m' < m ∧ W (i + 1) m' H') ∧ ∀ x H', J.yld i H x H' → g x (wipe σ vs) H' fun σ2 H2 => wipe σ2 vs = wipe σ vs ∧ tt σ2 H2 fun b H3 =>
        if b = true then te σ2 H3 fun y H4 => ∃ acc, H4 D = some (.lst acc) ∧ acc.length < sizeLine ∧ Nx (upd H4 D (.lst (acc ++ [y]))) else Nx H3) := by
  refine ⟨fun i m H => m = n - i ∧ i ≤ n ∧ Pv i H, ⟨n, by simp, Nat.zero_le _, h0⟩, ?_⟩
  rintro i m H ⟨rfl, hi, p⟩
  have q := hG i H hi p
  by_cases hlt : i < n
  · refine .inr ⟨w.goes i H hlt q, Pv (i + 1), fun H' p' => ⟨n - (i + 1), by omega, rfl, hlt, p'⟩, fun x H' y => hs i x H H' hlt p (w.yields i H x H' hlt q y)⟩
  · have e : i = n := by omega
    subst e
    exact .inl ⟨w.stops H q, hd H p⟩
theorem out_it {J : It} {n : Nat} {G : Hp → Prop} {Y : Nat → Hp → V → Hp → Prop} (w : Walk J n G Y) {H1 : Hp} {D : Addr} {Qd : Hp → Prop} {T : Nat → Hp → V → Hp → (Hp → Prop) → Prop} (Pv : Nat → Hp → Prop) (h0 : Pv 0 (upd H1 D (.lst []))) (hG : ∀ i H, i ≤ n → Pv i H → G H)
    (hs : ∀ i x H H', i < n → Pv i H → Y i H x H' → T i H x H' (Pv (i + 1))) (hd : ∀ H, Pv n H → Qd H) :
    ∃ W : Nat → Nat → Hp → Prop, (∃ m, W 0 m (upd H1 D (.lst []))) ∧ ∀ i m H, W i m H →
      (J.stop i H ∧ Qd H) ∨ (J.go i H ∧ ∃ Nx : Hp → Prop, (∀ H', Nx H' → ∃ m', m' < m ∧ W (i + 1) m' H') ∧ ∀ x H', J.yld i H x H' → T i H x H' Nx) := by
  refine ⟨fun i m H => m = n - i ∧ i ≤ n ∧ Pv i H, ⟨n, by simp, Nat.zero_le _, h0⟩, ?_⟩
  rintro i m H ⟨rfl, hi, p⟩
  have q := hG i H hi p
  by_cases hlt : i < n
  · exact .inr ⟨w.goes i H hlt q, Pv (i + 1), fun H' p' => ⟨n - (i + 1), by omega, rfl, hlt, p'⟩, fun x H' y => hs i x H H' hlt p (w.yields i H x H' hlt q y)⟩
  · have e : i = n := by omega
    subst e
    exact .inl ⟨w.stops H q, hd H p⟩
/-- the inner walk -/
theorem inner_lc {K : PySem.W.Frag} {mg : Str → Option Value} {is vs : List Nat} {gt : TG} {gg : GG} {tt : TT} {gb : GB} {te : TE} {ge : GE} (hs : ∀ j ∈ is, j ∈ vs) (hg : ImpG K mg W0 is gt gg) (ht : ImpT K mg W0 tt gb) (he : ImpE K mg W0 te ge)
    {α : Type} {Wf : Str → Hp → Prop} {rel : Hp → List Addr → V → α → Prop} {Q : V → Hp → Prop}
    {σ : L2.St} {δ : Ctx} {H1 I1 P P1 : Hp} {as1 : List Addr} {M1 : List MO} {Dl : Addr} {J : It} {it : ITD} {Qd : Hp → Prop} {us0 : List V} {acc0 : List D} {f : List D → List MO → R α} (f2 : P Dl = none) (hP1 : ∀ ob u, P1 Dl ≠ some (.frz ob u)) (pl : ∀ us, PLe P1 (upd P Dl (.lst us))) (ok : ItOk K P1 I1 as1 J it)
    (w1 : Wr K H1 I1 as1 M1 (upd P Dl (.lst us0))) (en : Envr K I1 as1 σ δ) (r0 : Reps K I1 as1 us0 acc0) (s : Sat K rel Wf I1 as1 P Q ((lcL it.gd gg gb ge (wipeD δ vs) it.items acc0 M1).bind f))
    (hd : ∀ H' I' as' M' us acc, Gr I1 as1 I' as' → Wr K H' I' as' M' (upd P Dl (.lst us)) → Reps K I' as' us acc → Sat K rel Wf I' as' P Q (f acc M') → Qd H') :
    ∃ W : Nat → Nat → Hp → Prop, (∃ m, W 0 m H1) ∧ ∀ i m H, W i m H →
      (J.stop i H ∧ Qd H) ∨ (J.go i H ∧ ∃ Nx : Hp → Prop, (∀ H', Nx H' → ∃ m', m' < m ∧ W (i + 1) m' H') ∧ ∀ x H', J.yld i H x H' → gt x (wipe σ vs) H' fun σ2 H2 => wipe σ2 vs = wipe σ vs ∧ tt σ2 H2 fun b H3 =>
        if b = true then te σ2 H3 fun y H4 => ∃ acc, H4 Dl = some (.lst acc) ∧ acc.length < sizeLine ∧ Nx (upd H4 Dl (.lst (acc ++ [y]))) else Nx H3) := by
  obtain ⟨G, Y, wk, hG, hY⟩ := ok
  have enw := en.wipe vs
  have nb : ∀ {i : Nat} {acc : List D} {M' : List MO} {I' : Hp} {as' : List Addr}, Sat K rel Wf I' as' P Q ((lcL it.gd gg gb ge (wipeD δ vs) (it.items.drop i) acc M').bind f) → it.gd M' := fun h => lcL_gd fun e => by
    rw [e] at h
    exact h
  refine in_it wk (fun i H' => ∃ acc us M' I' as', Gr I1 as1 I' as' ∧ Wr K H' I' as' M' (upd P Dl (.lst us)) ∧ Reps K I' as' us acc ∧ Sat K rel Wf I' as' P Q ((lcL it.gd gg gb ge (wipeD δ vs) (it.items.drop i) acc M').bind f))
    ⟨acc0, us0, M1, I1, as1, Gr.refl _ _, w1, r0, by rw [List.drop_zero]; exact s⟩ ?_ ?_ ?_
  · rintro i H' hi ⟨acc, us, M', I', as', g', w', r', s'⟩
    exact hG H' I' as' M' _ (pl us) g' w' (nb s')
  · rintro i x H' H2 hi ⟨acc, us, M', I', as', g', w', r', s'⟩ y
    have hgd := nb s'
    obtain ⟨I2, d, g2, w2, hd2, rd⟩ := hY i x H' H2 I' as' M' _ hi (pl us) g' w' hgd y
    have ed : it.items.drop i = d :: it.items.drop (i + 1) := by
      rw [List.drop_eq_getElem_cons hi]
      have := List.getElem?_eq_getElem hi
      rw [hd2] at this
      rw [← Option.some.inj this]
    rw [ed] at s'
    unfold lcL at s'
    rw [if_pos hgd] at s'
    refine hg x d (wipe σ vs) H2 (wipeD δ vs) I2 as' M' _ _ w2 (enw.mono (g'.trans g2)) rd ?_
    have s2 := Sat.gr g2 s'
    cases e1 : gg d (wipeD δ vs) M' with
    | nx δ1 M1 =>
      simp only [e1] at s2
      intro σ3 H3 I3 as3 g3 w3 en3 k3
      refine ⟨wipe_kept hs k3, ?_⟩
      refine ht σ3 H3 δ1 I3 as3 M1 _ _ w3 en3 ?_
      have s3 := Sat.gr g3 s2
      cases e2 : gb δ1 M1 with
      | ok b M2 =>
        simp only [e2] at s3
        intro b' H4 I4 as4 g4 w4 eb
        subst eb
        have s4 := Sat.gr g4 s3
        cases b' with
        | true =>
          simp only [if_true] at s4 ⊢
          refine he σ3 H4 δ1 I4 as4 M2 _ _ w4 (en3.mono g4) ?_
          cases e3 : ge δ1 M2 with
          | ok d5 M5 =>
            simp only [e3] at s4
            intro v5 H5 I5 as5 g5 w5 r5
            have s5 := Sat.gr g5 s4
            split at s5
            · rename_i hb
              have ga := (g2.trans (g3.trans (g4.trans g5)))
              have hP := (w5.prv Dl _ upd_same).1
              refine ⟨us, hP, ?_, acc ++ [d5], us ++ [v5], M5, I5, as5, g'.trans ga, ?_, (r'.mono ga).append (.cons r5 .nil), s5⟩
              · rw [r'.len]
                exact Evl.sz_lt hb
              · have z := w5.putP (p := Dl) upd_same (.lst (us ++ [v5]))
                rw [upd_upd] at z
                exact z
            · exact s5.elim
          | bad => simp only [e3] at s4; exact s4.elim
          | ex c M5 => simp only [e3] at s4; exact s4.elim
        | false =>
          simp only [if_neg Bool.false_ne_true] at s4 ⊢
          have ga := (g2.trans (g3.trans g4))
          exact ⟨acc, us, M2, I4, as4, g'.trans ga, w4, r'.mono ga, s4⟩
      | bad => simp only [e2] at s3; exact s3.elim
      | ex c M5 => simp only [e2] at s3; exact s3.elim
    | bad => simp only [e1] at s2; exact s2.elim
    | rt _ _ => simp only [e1] at s2; exact s2.elim
    | bk _ _ => simp only [e1] at s2; exact s2.elim
    | ct _ _ => simp only [e1] at s2; exact s2.elim
    | ex _ _ _ => simp only [e1] at s2; exact s2.elim
  · rintro H' ⟨acc, us, M', I', as', g', w', r', s'⟩
    have hgd := nb s'
    rw [List.drop_length] at s'
    unfold lcL at s'
    rw [if_pos hgd] at s'
    exact hd H' I' as' M' us acc g' w' r' s'
theorem impE_lc2 {K : PySem.W.Frag} {mg : Str → Option Value} {W : WX} {wi wi1 : TI} {gi gi1 : GI} {is is1 vs vs1 : List Nat} {gt gt1 : TG} {gg gg1 : GG} {tt tt1 : TT} {gb gb1 : GB} {te : TE} {ge : GE} {fin : List D → List MO → R D} (hf : FinOk K fin) (hs : ∀ j ∈ is, j ∈ vs) (hs1 : ∀ j ∈ is1, j ∈ vs1)
    (hi : ImpI K mg W wi gi) (hg : ImpG K mg W0 is gt gg) (ht : ImpT K mg W0 tt gb) (hi1 : ImpI K mg W0 wi1 gi1) (hg1 : ImpG K mg W0 is1 gt1 gg1) (ht1 : ImpT K mg W0 tt1 gb1) (he : ImpE K mg W0 te ge) : ImpE K mg W (tLc2 wi gt tt wi1 gt1 tt1 te vs vs1) (gLc2G fin gi gg gb gi1 gg1 gb1 ge vs vs1) := by
  intro σ H δ I as M P Q w en s
  refine hi σ H δ I as M P _ w en (Sat.bind s fun it M1 J H1 I1 as1 _ g1 w1 ok s1 => ?_)
  intro Dl hD
  obtain ⟨G, Y, wk, hG, hY⟩ := ok
  obtain ⟨f1, f2, f3⟩ := w1.fresh hD
  have enw := (en.mono g1).wipe vs
  have nb : ∀ {i : Nat} {acc : List D} {M' : List MO} {I' : Hp} {as' : List Addr}, Sat K (Rep K) (fun c H' => lowW mg W c σ H') I' as' P Q ((lc2L it.gd gg gb gi1 gg1 gb1 ge vs1 (wipeD δ vs) (it.items.drop i) acc M').bind fin) → it.gd M' := fun h => lc2L_gd fun e => by
    rw [e] at h
    exact h
  refine out_it wk (T := fun i H x H' Nx => gt x (wipe σ vs) H' fun σ2 H2 => wipe σ2 vs = wipe σ vs ∧ tt σ2 H2 fun b H3 =>
    if b = true then wi1 σ2 H3 fun J1 H4 => ∃ W1 : Nat → Nat → Hp → Prop, (∃ m, W1 0 m H4) ∧ ∀ j k H, W1 j k H →
      (J1.stop j H ∧ Nx H) ∨ (J1.go j H ∧ ∃ Nx1 : Hp → Prop, (∀ H', Nx1 H' → ∃ k', k' < k ∧ W1 (j + 1) k' H') ∧ ∀ x H', J1.yld j H x H' → gt1 x (wipe σ2 vs1) H' fun σ3 H5 => wipe σ3 vs1 = wipe σ2 vs1 ∧ tt1 σ3 H5 fun b H6 =>
        if b = true then te σ3 H6 fun y H7 => ∃ acc, H7 Dl = some (.lst acc) ∧ acc.length < sizeLine ∧ Nx1 (upd H7 Dl (.lst (acc ++ [y]))) else Nx1 H6)
    else Nx H3) (fun i H' => ∃ acc us M' I' as', Gr I1 as1 I' as' ∧ Wr K H' I' as' M' (upd P Dl (.lst us)) ∧ Reps K I' as' us acc ∧ Sat K (Rep K) (fun c H' => lowW mg W c σ H') I' as' P Q ((lc2L it.gd gg gb gi1 gg1 gb1 ge vs1 (wipeD δ vs) (it.items.drop i) acc M').bind fin))
    ⟨[], [], M1, I1, as1, Gr.refl _ _, w1.newP hD _, .nil, by rw [List.drop_zero]; exact s1⟩ ?_ ?_ ?_
  · rintro i H' hi ⟨acc, us, M', I', as', g', w', r', s'⟩
    exact hG H' I' as' M' _ (PLe.upd f2) g' w' (nb s')
  · rintro i x H' H2 hi ⟨acc, us, M', I', as', g', w', r', s'⟩ y
    have hgd := nb s'
    obtain ⟨I2, d, g2, w2, hd, rd⟩ := hY i x H' H2 I' as' M' _ hi (PLe.upd f2) g' w' hgd y
    have ed : it.items.drop i = d :: it.items.drop (i + 1) := by
      rw [List.drop_eq_getElem_cons hi]
      have := List.getElem?_eq_getElem hi
      rw [hd] at this
      rw [← Option.some.inj this]
    rw [ed] at s'
    unfold lc2L at s'
    rw [if_pos hgd] at s'
    refine hg x d (wipe σ vs) H2 (wipeD δ vs) I2 as' M' _ _ w2 (enw.mono (g'.trans g2)) rd ?_
    have s2 := Sat.gr g2 s'
    cases e1 : gg d (wipeD δ vs) M' with
    | nx δ1 M1 =>
      simp only [e1] at s2
      intro σ3 H3 I3 as3 g3 w3 en3 k3
      refine ⟨wipe_kept hs k3, ?_⟩
      refine ht σ3 H3 δ1 I3 as3 M1 _ _ w3 en3 ?_
      have s3 := Sat.gr g3 s2
      cases e2 : gb δ1 M1 with
      | ok b M2 =>
        simp only [e2] at s3
        intro b' H4 I4 as4 g4 w4 eb
        subst eb
        have s4 := Sat.gr g4 s3
        cases b' with
        | true =>
          simp only [if_true] at s4 ⊢
          refine hi1 σ3 H4 δ1 I4 as4 M2 _ _ w4 (en3.mono g4) ?_
          cases e3 : gi1 δ1 M2 with
          | ok it1 M5 =>
            simp only [e3] at s4
            intro J1 H5 I5 as5 g5 w5 ok1
            have s5 := Sat.gr g5 s4
            have ga := (g2.trans (g3.trans (g4.trans g5)))
            have s5' : Sat K (Rep K) (fun c H' => lowW mg W c σ H') I5 as5 P Q ((lcL it1.gd gg1 gb1 ge (wipeD δ1 vs1) it1.items acc M5).bind fun acc' M4 => (lc2L it.gd gg gb gi1 gg1 gb1 ge vs1 (wipeD δ vs) (it.items.drop (i + 1)) acc' M4).bind fin) := by
              cases e5 : lcL it1.gd gg1 gb1 ge (wipeD δ1 vs1) it1.items acc M5 with
              | ok acc' M4 => simp only [e5] at s5; exact s5
              | bad => simp only [e5] at s5; exact s5.elim
              | ex c M4 => simp only [e5] at s5; exact s5.elim
            refine inner_lc hs1 hg1 ht1 he f2 (P1 := upd P Dl (.lst us)) (fun ob u z => by rw [upd_same] at z; cases z) (fun us' => ?_) ok1 w5 (en3.mono (g4.trans g5)) (r'.mono ga) s5' ?_
            · intro b ob u e
              have q : b ≠ Dl := fun z => by rw [z, upd_same] at e; cases e
              rw [upd_ne q] at e ⊢
              exact e
            · intro H6 I6 as6 M6 us6 acc6 g6 w6 r6 s6
              exact ⟨acc6, us6, M6, I6, as6, g'.trans (ga.trans g6), w6, r6, s6⟩
          | bad => simp only [e3] at s4; exact s4.elim
          | ex c M5 => simp only [e3] at s4; exact s4.elim
        | false =>
          simp only [if_neg Bool.false_ne_true] at s4 ⊢
          have ga := (g2.trans (g3.trans g4))
          exact ⟨acc, us, M2, I4, as4, g'.trans ga, w4, r'.mono ga, s4⟩
      | bad => simp only [e2] at s3; exact s3.elim
      | ex c M5 => simp only [e2] at s3; exact s3.elim
    | bad => simp only [e1] at s2; exact s2.elim
    | rt _ _ => simp only [e1] at s2; exact s2.elim
    | bk _ _ => simp only [e1] at s2; exact s2.elim
    | ct _ _ => simp only [e1] at s2; exact s2.elim
    | ex _ _ _ => simp only [e1] at s2; exact s2.elim
  · rintro H' ⟨acc, us, M', I', as', g', w', r', s'⟩
    have hgd := nb s'
    rw [List.drop_length] at s'
    unfold lc2L at s'
    rw [if_pos hgd] at s'
    exact hf H' I' as' M' P Dl us acc _ Q f2 w' r' s'
section
variable {X : Cx} {W : WX} {tg iter tg1 iter1 elt : Expr} {ifs ifs1 : List Expr} {scope : Scope} {pos : Pos} {wi wi1 : TI} {gi gi1 : GI} {is is1 : List Nat} {gt gt1 : TG} {gg gg1 : GG} {tt tt1 : TT} {gb gb1 : GB} {te : TE} {ge : GE}
theorem xe_lc2 (own : List (Str × Nat)) (vs1 : List Nat) {fin : List D → List MO → R D} (hf : FinOk X.K fin) (hc : X.calm = true) (hN : X.N.Nodup) (hi : XI X W tg iter wi gi) (ok : BlkOk X.N X.env.scope scope own)
    (hg : ∀ (s : Shared) (H : Hp) (C : Addr) (cl : List (Str × Addr)) (fp : List Addr), XG (X.blk s H scope (compEnvC scope cl C X.env) fp) W0 tg is gt gg) (ht : ∀ (s : Shared) (H : Hp) (C : Addr) (cl : List (Str × Addr)) (fp : List Addr), XTs (X.blk s H scope (compEnvC scope cl C X.env) fp) W0 ifs tt gb)
    (hi1 : ∀ (s : Shared) (H : Hp) (C : Addr) (cl : List (Str × Addr)) (fp : List Addr), XI (X.blk s H scope (compEnvC scope cl C X.env) fp) W0 tg1 iter1 wi1 gi1)
    (hg1 : ∀ (s : Shared) (H : Hp) (C : Addr) (cl : List (Str × Addr)) (fp : List Addr), XG (X.blk s H scope (compEnvC scope cl C X.env) fp) W0 tg1 is1 gt1 gg1) (ht1 : ∀ (s : Shared) (H : Hp) (C : Addr) (cl : List (Str × Addr)) (fp : List Addr), XTs (X.blk s H scope (compEnvC scope cl C X.env) fp) W0 ifs1 tt1 gb1)
    (he : ∀ (s : Shared) (H : Hp) (C : Addr) (cl : List (Str × Addr)) (fp : List Addr), XE (X.blk s H scope (compEnvC scope cl C X.env) fp) W0 elt te ge) (hv : ∀ i ∈ vs1, i ∈ own.map (·.2) := by decide) (hsub : ∀ j ∈ is, j ∈ own.map (·.2) := by decide) (hsub1 : ∀ j ∈ is1, j ∈ vs1 := by decide) (hs : ∀ x, foldedSetIterable iter X.env x = pure x := by intro _; rfl) (hs1 : ∀ env x, foldedSetIterable iter1 env x = pure x := by intro _ _; rfl) :
    XE X W (.ListComp elt [⟨tg, iter, ifs, 0⟩, ⟨tg1, iter1, ifs1, 0⟩] scope pos) (tLc2 wi gt tt wi1 gt1 tt1 te (own.map (·.2)) vs1) (gLc2G fin gi gg gb gi1 gg1 gb1 ge (own.map (·.2)) vs1) :=
  ⟨pe_lc2 hc hN hi.pe ok hv (fun s H C cl fp => (hg s H C cl fp).pe) (fun s H C cl fp => (ht s H C cl fp).pe) (fun s H C cl fp => (hi1 s H C cl fp).pe) (fun s H C cl fp => (hg1 s H C cl fp).pe) (fun s H C cl fp => (ht1 s H C cl fp).pe) (fun s H C cl fp => (he s H C cl fp).pe) hs hs1,
    impE_lc2 hf hsub hsub1 hi.im (hg X.s_0 X.H_0 0 [] []).im (ht X.s_0 X.H_0 0 [] []).im (hi1 X.s_0 X.H_0 0 [] []).im (hg1 X.s_0 X.H_0 0 [] []).im (ht1 X.s_0 X.H_0 0 [] []).im (he X.s_0 X.H_0 0 [] []).im⟩
end
end KM
set_option Elab.async false
set_option linter.all false
set_option maxRecDepth 100000
set_option maxHeartbeats 2000000
/-! dicts whose keys are tuples of ints, nested: read and written -/
namespace KM
open PySem L2 PySem.Spec PyProof.Rows
/-! ### keys -/
mutual
inductive KeyV (K : PySem.W.Frag) (H : Hp) : V → NestedKey → Prop
  | int (i : Int) : KeyV K H (.int i) (.num i)
  | tup {a : Addr} {vs : List V} {ks : List NestedKey} : SqT K H a vs → KeyVs K H vs ks → KeyV K H (.ref a) (.tup ks)
inductive KeyVs (K : PySem.W.Frag) (H : Hp) : List V → List NestedKey → Prop
  | nil : KeyVs K H [] []
  | cons {v : V} {vs : List V} {k : NestedKey} {ks : List NestedKey} : KeyV K H v k → KeyVs K H vs ks → KeyVs K H (v :: vs) (k :: ks)
end
mutual
theorem KeyV.nest {X : Cx} {pins : List (Addr × Obj)} {σ : L2.St} {H : Hp} {s : Shared} (I : Inv X pins σ H s) : ∀ {v : V} {k : NestedKey} {u : Value}, KeyV X.K H v k → RelV v u → NestedIs s.heap k u
  | _, _, _, .int i, r => by
    obtain ⟨t, rfl⟩ := r
    exact .int i t
  | _, _, _, .tup h ks, r => by
    cases r
    obtain ⟨its, h1, ⟨o, h2, h3, n, h4⟩, _⟩ := I.tuple h
    exact .tup h2 h3 h4 (by simpa using KeyVs.nest I ks h1)
theorem KeyVs.nest {X : Cx} {pins : List (Addr × Obj)} {σ : L2.St} {H : Hp} {s : Shared} (I : Inv X pins σ H s) : ∀ {vs : List V} {ks : List NestedKey} {us : List Value}, KeyVs X.K H vs ks → Vals vs us → NestedAll s.heap ks us
  | _, _, _, .nil, .nil => .nil
  | _, _, _, .cons h t, .cons r q => .cons (KeyV.nest I h r) (KeyVs.nest I t q)
end
section
variable {K : PySem.W.Frag} {H I P : Hp} {as : List Addr} {M : List MO}
mutual
theorem Rep.key (w : Wr K H I as M P) : ∀ {v : V} {d : D} {k : NestedKey}, Rep K I as v d → keyOf d = some k → KeyV K H v k
  | _, .int i, _, .int _, h => by
    unfold keyOf at h
    cases h
    exact .int i
  | _, .tup ds, _, .tup h1 r, h => by
    unfold keyOf at h
    cases e : keysOf ds with
    | none => rw [e] at h; cases h
    | some ks =>
      rw [e] at h
      cases h
      exact .tup (w.seqT h1) (Reps.key w r e)
  | _, .non, _, _, h => by simp [keyOf] at h
  | _, .bl _, _, _, h => by simp [keyOf] at h
  | _, .str _, _, _, h => by simp [keyOf] at h
  | _, .lst _, _, _, h => by simp [keyOf] at h
  | _, .rol _, _, _, h => by simp [keyOf] at h
  | _, .ref _, _, _, h => by simp [keyOf] at h
  | _, .obj _, _, _, h => by simp [keyOf] at h
  | _, .fn _, _, _, h => by simp [keyOf] at h
  | _, .dct, _, _, h => by simp [keyOf] at h
  | _, .kdi _ _, _, _, h => by simp [keyOf] at h
theorem Reps.key (w : Wr K H I as M P) : ∀ {vs : List V} {ds : List D} {ks : List NestedKey}, Reps K I as vs ds → keysOf ds = some ks → KeyVs K H vs ks
  | _, _, _, .nil, h => by
    unfold keysOf at h
    cases h
    exact .nil
  | _, d :: ds, _, .cons h1 r, h => by
    unfold keysOf at h
    cases e : keyOf d with
    | none => rw [e] at h; simp at h
    | some k =>
      cases e2 : keysOf ds with
      | none => rw [e, e2] at h; simp at h
      | some ks =>
        rw [e, e2] at h
        cases h
        exact .cons (Rep.key w h1 e) (Reps.key w r e2)
end
theorem tkey_of {d : D} {k : NestedKey} (h : tkey d = some k) : ∃ ds, d = .tup ds ∧ keyOf d = some k ∧ k.depth ≤ 8 := by
  unfold tkey at h
  split at h
  · rename_i ds
    split at h
    · rename_i k' e
      split at h
      · rename_i hd
        cases h
        exact ⟨ds, rfl, e, hd⟩
      · cases h
    · cases h
  · cases h
mutual
theorem key_hash : ∀ {d : D} {k : NestedKey}, keyOf d = some k → ∀ w w', k.hash w = k.hash w'
  | .int i, _, h, w, w' => by
    unfold keyOf at h
    cases h
    rfl
  | .tup ds, _, h, w, w' => by
    unfold keyOf at h
    cases e : keysOf ds with
    | none => rw [e] at h; cases h
    | some ks =>
      rw [e] at h
      cases h
      show reduceHash _ = reduceHash _
      rw [keys_hash e w w']
  | .non, _, h, _, _ => by simp [keyOf] at h
  | .bl _, _, h, _, _ => by simp [keyOf] at h
  | .str _, _, h, _, _ => by simp [keyOf] at h
  | .lst _, _, h, _, _ => by simp [keyOf] at h
  | .rol _, _, h, _, _ => by simp [keyOf] at h
  | .ref _, _, h, _, _ => by simp [keyOf] at h
  | .obj _, _, h, _, _ => by simp [keyOf] at h
  | .fn _, _, h, _, _ => by simp [keyOf] at h
  | .dct, _, h, _, _ => by simp [keyOf] at h
  | .kdi _ _, _, h, _, _ => by simp [keyOf] at h
theorem keys_hash : ∀ {ds : List D} {ks : List NestedKey}, keysOf ds = some ks → ∀ w w', NestedKey.hashes w ks = NestedKey.hashes w' ks
  | [], _, h, _, _ => by
    unfold keysOf at h
    cases h
    rfl
  | d :: ds, _, h, w, w' => by
    unfold keysOf at h
    cases e : keyOf d with
    | none => rw [e] at h; simp at h
    | some k =>
      cases e2 : keysOf ds with
      | none => rw [e, e2] at h; simp at h
      | some ks =>
        rw [e, e2] at h
        cases h
        show _ :: _ = _ :: _
        rw [key_hash e w w', keys_hash e2 w w']
end
theorem KXs.hash : ∀ {xs : List (NestedKey × Addr × Value)} {ks ds : List D}, KXs K I as xs ks ds → ∀ w w', xs.map (ent w) = xs.map (ent w')
  | _, _, _, .nil, _, _ => rfl
  | _, _, _, .cons (x := x) a b c d r, w, w' => by
    obtain ⟨_, _, e, _⟩ := tkey_of b
    rw [List.map_cons, List.map_cons, KXs.hash r w w', show ent w x = ent w' x by unfold ent; rw [key_hash e w w']]
theorem KXs.len : ∀ {xs : List (NestedKey × Addr × Value)} {ks ds : List D}, KXs K I as xs ks ds → ks.length = xs.length ∧ ds.length = xs.length
  | _, _, _, .nil => ⟨rfl, rfl⟩
  | _, _, _, .cons a b c d r => ⟨by simp [(KXs.len r).1], by simp [(KXs.len r).2]⟩
/-! ### what a dict holds -/
structure DKV (K : PySem.W.Frag) (H : Hp) (a : Addr) (o : Obj) (xs : List (NestedKey × Addr × Value)) : Prop where
  rd : Rd H a (ObO a o)
  ka : KdA a o xs
  ky : ∀ x ∈ xs, KeyV K H (.ref x.2.1) x.1 ∧ x.1.depth ≤ 8
theorem KXs.keys (w : Wr K H I as M P) : ∀ {xs : List (NestedKey × Addr × Value)} {ks ds : List D}, KXs K I as xs ks ds → ∀ x ∈ xs, KeyV K H (.ref x.2.1) x.1 ∧ x.1.depth ≤ 8
  | _, _, _, .nil, _, h => by simp at h
  | _, _, _, .cons a b c d r, y, h => by
    rcases List.mem_cons.mp h with rfl | h
    · obtain ⟨_, _, e, e2⟩ := tkey_of b
      exact ⟨a.key w e, e2⟩
    · exact KXs.keys w r y h
def kdOf (M : List MO) : D → Option (List (D × D))
  | .kdi ks ds => some (ks.zip ds)
  | .ref k => match M[k]? with
    | some (.kd kvs) => some kvs
    | some (.kdl kvs) => some kvs
    | _ => none
  | _ => none
theorem Rep.kd (w : Wr K H I as M P) {v : V} {d : D} {kvs : List (D × D)} (r : Rep K I as v d) (h : kdOf M d = some kvs) : ∃ a o xs, v = .ref a ∧ DKV K H a o xs ∧ KXs K I as xs (kvs.map fun p => p.1) (kvs.map fun p => p.2) := by
  cases r with
  | @kdi a o xs ks ds h1 h2 h3 =>
    cases h
    obtain ⟨l1, l2⟩ := h3.len
    have e1 : (ks.zip ds).map (fun p => p.1) = ks := by rw [show (fun p : D × D => p.1) = Prod.fst from rfl, List.map_fst_zip (by omega)]
    have e2 : (ks.zip ds).map (fun p => p.2) = ds := by rw [show (fun p : D × D => p.2) = Prod.snd from rfl, List.map_snd_zip (by omega)]
    rw [e1, e2]
    exact ⟨a, o, xs, rfl, ⟨.inl (w.sub _ _ h1), h2, h3.keys w⟩, h3⟩
  | @ref k a h1 =>
    obtain ⟨o, ho, _, fr, m⟩ := w.at h1
    have h : (match M[k]? with
      | some (.kd kvs) => some kvs
      | some (.kdl kvs) => some kvs
      | _ => none) = some kvs := h
    rw [ho] at h
    cases o with
    | lst xs => cases h
    | dct ks => cases h
    | dlk ks => cases h
    | kd ks =>
      cases h
      obtain ⟨o, e1, xs, e2, rr⟩ := m
      exact ⟨a, o, xs, rfl, ⟨.inl e1, e2, rr.keys w⟩, rr⟩
    | kdl ks =>
      cases h
      obtain ⟨ob, o, e1, xs, e2, rr⟩ := m
      exact ⟨a, o, xs, rfl, ⟨.inr ⟨ob, e1⟩, e2, rr.keys w⟩, rr⟩
  | _ => cases h
end
section
variable {X : Cx} {pins : List (Addr × Obj)} {σ : L2.St} {H : Hp} {s : Shared}
theorem obo_at (I : Inv X pins σ H s) {a : Addr} {o : Obj} (r : Rd H a (ObO a o)) : s.heap.get? a = some o := (r.ok I.hok).1
theorem DKV.dictOfH (I : Inv X pins σ H s) {a : Addr} {o : Obj} {xs : List (NestedKey × Addr × Value)} (d : DKV X.K H a o xs) : s.heap.DictOfH (nestedKind X.prog X.w) a xs := by
  obtain ⟨es, ep, e1, e2⟩ := d.ka.da
  exact ⟨o, es, ep, obo_at I d.rd, d.ka.ex, e1, e2 X.w, fun x hx => ⟨(d.ky x hx).1.nest I rfl, (d.ky x hx).2⟩, d.ka.nd⟩
end
/-! ### look up -/
def kget : List (D × D) → NestedKey → Option D
  | [], _ => none
  | p :: r, k => if tkey p.1 = some k then some p.2 else kget r k
def kput : List (D × D) → NestedKey → D → D → List (D × D)
  | [], _, kd, d => [(kd, d)]
  | p :: r, k, kd, d => if tkey p.1 = some k then (p.1, d) :: r else p :: kput r k kd d
section
variable {K : PySem.W.Frag} {H I P : Hp} {as : List Addr} {M : List MO}
theorem atKey_cons {x : NestedKey × Addr × Value} {xs : List (NestedKey × Addr × Value)} {k : NestedKey} : atKey (x :: xs) k = if x.1 = k then some x.2 else atKey xs k := by
  unfold atKey
  rw [List.find?_cons]
  by_cases h : x.1 = k
  · simp [h]
  · simp [h]
theorem KXs.get : ∀ {kvs : List (D × D)} {xs : List (NestedKey × Addr × Value)}, KXs K I as xs (kvs.map fun p => p.1) (kvs.map fun p => p.2) → ∀ k, (kget kvs k = none → atKey xs k = none) ∧ ∀ d, kget kvs k = some d → ∃ p v, atKey xs k = some p ∧ RelV v p.2 ∧ Rep K I as v d
  | [], _, .nil, k => ⟨fun _ => rfl, fun d h => by cases h⟩
  | p :: kvs, _, .cons (x := x) a b c d r, k => by
    obtain ⟨i1, i2⟩ := KXs.get r k
    unfold kget
    rw [atKey_cons]
    by_cases h : x.1 = k
    · rw [if_pos (by rw [b, h]), if_pos h]
      exact ⟨(fun z => by cases z), (fun d' z => by cases z; exact ⟨x.2, _, rfl, c, d⟩)⟩
    · rw [if_neg (by rw [b]; exact fun z => h (Option.some.inj z)), if_neg h]
      exact ⟨i1, i2⟩
/-- V-level: d[k] -/
def rKGet (K : PySem.W.Frag) : R2 := fun x y H Q => ∃ a o xs k b p v, x = V.ref a ∧ y = .ref b ∧ DKV K H a o xs ∧ KeyV K H (.ref b) k ∧ k.depth ≤ 8 ∧ atKey xs k = some p ∧ RelV v p.2 ∧ Q v H
def KRoom (X : Cx) : Prop := X.A.units + 16 < cLine
theorem KRoom.in1 {X : Cx} (h : KRoom X) : (nestedKind X.prog X.w).room X.A.in1 := by
  show X.A.units + 1 + 8 < cLine
  unfold KRoom at h
  omega
theorem ix_kdict {X : Cx} (hu : KRoom X) : IxR X (rKGet X.K) := by
  intro value slice pins s σ H x y v u Q I rx ry h hs
  obtain ⟨a, o, xs, k, b, p, w, rfl, rfl, dk, kv, kd, hp, rw', q⟩ := h
  cases (show v = Value.ref a from rx)
  cases (show u = Value.ref b from ry)
  have dd := dk.dictOfH I
  have hT := dd.typeIs (s := s)
  unfold subscriptTail
  refine wpAny_bind ?_
  rw [getitemInPython_of_ne hT.not_modules]
  refine wpAny_bind (wpAny_specialOf hT PySem.F.slot_dict_getitem.lookup ?_)
  have fin : wpAny (model X.prog X.w) X.A (subscripted slice false (.ref a) (.ref b)) (fun r s₃ => wpAny (model X.prog X.w) X.A (letTemporaryGo value (.ref a) r >>= fun _ => pure r) (EP X pins σ Q) X.xe s₃) X.xe s := by
    rw [hs]
    refine wpAny_operating (wpAny_mono (wpAny_getItem_heap (Q := EP X pins σ Q) (knd := nestedKind X.prog X.w) hu.in1 ⟨kv.nest I rfl, kd⟩ dd hp ⟨w, H, I.tok _, rw', q⟩) (fun r s₃ h₃ => wpAny_bind (wpAny_letTemporaryGo (wpAny_pure h₃))) fun _ _ x => x)
  first
    | exact wpAny_pure (wpAny_bind fin)
    | exact wpAny_bind (wpAny_pure (wpAny_bind fin))
    | exact wpAny_bind fin
def oIxK : OD := fun x y M => match kdOf M x, tkey y with
  | some kvs, some k => match kget kvs k with
    | some d => .ok d M
    | none => .bad
  | _, _ => oIxG x y M
def rIxK (K : PySem.W.Frag) : R2 := fun x y H Q => rIxG K x y H Q ∨ rKGet K x y H Q
theorem ix_K {X : Cx} (hu : KRoom X) : IxR X (rIxK X.K) := (ix_G (by unfold KRoom at hu; omega)).or (ix_kdict hu)
theorem opd_ixK {K : PySem.W.Frag} : OpD K (rIxK K) oIxK := by
  intro H I as M P x y d e Wf Q w rx ry s
  unfold oIxK at s
  split at s
  · rename_i kvs k h1 h2
    split at s
    · rename_i dd hg
      obtain ⟨a, o, xs, rfl, dk, kx⟩ := rx.kd w h1
      obtain ⟨ds, rfl, e1, e2⟩ := tkey_of h2
      have ky := ry.key w e1
      cases ry with
      | @tup b vs _ hb rb =>
        obtain ⟨p, v, p1, p2, p3⟩ := (kx.get k).2 _ hg
        exact .inr ⟨a, o, xs, k, b, p, v, rfl, rfl, dk, ky, e2, p1, p2, s.now w p3⟩
    · exact s.elim
  · exact .inl (opd_ixG H I as M P x y _ _ Wf Q w rx ry s)
/-! k in d, k not in d -/
def rKIn (K : PySem.W.Frag) (neg : Bool) : R2 := fun x y H Q => ∃ a o xs k b, y = V.ref a ∧ x = .ref b ∧ DKV K H a o xs ∧ KeyV K H (.ref b) k ∧ k.depth ≤ 8 ∧ Q (.bl (if neg then !(atKey xs k).isSome else (atKey xs k).isSome)) H
theorem op_kin {X : Cx} (hu : KRoom X) : OpR X (compareOp .In) (rKIn X.K false) := by
  intro pins s σ H x y v u Q I rx ry h
  obtain ⟨a, o, xs, k, b, rfl, rfl, dk, kv, kd, q⟩ := h
  cases (show u = Value.ref a from ry)
  cases (show v = Value.ref b from rx)
  exact wpAny_in_heap (knd := nestedKind X.prog X.w) hu.in1 ⟨kv.nest I rfl, kd⟩ dk.ka.ns (dk.dictOfH I) ⟨.bl (atKey xs k).isSome, H, I.tok _, rfl, q⟩
theorem op_knotin {X : Cx} (hu : KRoom X) : OpR X (compareOp .NotIn) (rKIn X.K true) := by
  intro pins s σ H x y v u Q I rx ry h
  obtain ⟨a, o, xs, k, b, rfl, rfl, dk, kv, kd, q⟩ := h
  cases (show u = Value.ref a from ry)
  cases (show v = Value.ref b from rx)
  refine notIn_keyed (knd := nestedKind X.prog X.w) hu.in1 ⟨kv.nest I rfl, kd⟩ dk.ka.ns ⟨xs, dk.dictOfH I, rfl⟩ ?_
  rw [valueAt_pairsH, Option.isSome_map]
  exact ⟨.bl (!(atKey xs k).isSome), H, I.tok _, rfl, q⟩
def oInK (neg : Bool) (o : OD) : OD := fun x y M => match kdOf M y, tkey x with
  | some kvs, some k => .ok (.bl (if neg then !(kget kvs k).isSome else (kget kvs k).isSome)) M
  | _, _ => o x y M
theorem KXs.isSome {kvs : List (D × D)} {xs : List (NestedKey × Addr × Value)} (kx : KXs K I as xs (kvs.map fun p => p.1) (kvs.map fun p => p.2)) (k : NestedKey) : (atKey xs k).isSome = (kget kvs k).isSome := by
  obtain ⟨i1, i2⟩ := kx.get k
  cases h : kget kvs k with
  | none => rw [i1 h]; rfl
  | some d =>
    obtain ⟨p, v, e, _⟩ := i2 d h
    rw [e]; rfl
theorem opd_inK {K : PySem.W.Frag} (neg : Bool) {r : R2} {o : OD} (h : OpD K r o) : OpD K (fun x y H Q => r x y H Q ∨ rKIn K neg x y H Q) (oInK neg o) := by
  intro H I as M P x y d e Wf Q w rx ry s
  unfold oInK at s
  split at s
  · rename_i kvs k h1 h2
    obtain ⟨a, o, xs, rfl, dk, kx⟩ := ry.kd w h1
    obtain ⟨ds, rfl, e1, e2⟩ := tkey_of h2
    have ky := rx.key w e1
    cases rx with
    | @tup b vs _ hb rb =>
      refine .inr ⟨a, o, xs, k, b, rfl, rfl, dk, ky, e2, ?_⟩
      rw [kx.isSome k]
      exact s.now w (.bl _)
  · exact .inl (h H I as M P x y _ _ Wf Q w rx ry s)
theorem op_inK {X : Cx} (hu : KRoom X) : OpR X (compareOp .In) (fun x y H Q => rInG X.K false x y H Q ∨ rKIn X.K false x y H Q) := (op_inG (by unfold KRoom at hu; omega)).or (op_kin hu)
theorem op_notInK {X : Cx} (hu : KRoom X) : OpR X (compareOp .NotIn) (fun x y H Q => rInG X.K true x y H Q ∨ rKIn X.K true x y H Q) := (op_notInG (by unfold KRoom at hu; omega)).or (op_knotin hu)
theorem opd_inKG {K : PySem.W.Frag} : OpD K (fun x y H Q => rInG K false x y H Q ∨ rKIn K false x y H Q) (oInK false oInG) := opd_inK false opd_inG
theorem opd_notInKG {K : PySem.W.Frag} : OpD K (fun x y H Q => rInG K true x y H Q ∨ rKIn K true x y H Q) (oInK true oNotInG) := opd_inK true opd_notInG
end
end KM
set_option Elab.async false
set_option linter.all false
set_option maxRecDepth 100000
set_option maxHeartbeats 2000000
namespace KM
open PySem L2 PySem.Spec PyProof.Rows
/-! ### d[k] = v -/
mutual
theorem KeyV.hash {K : PySem.W.Frag} {H : Hp} : ∀ {v : V} {k : NestedKey}, KeyV K H v k → ∀ w w', k.hash w = k.hash w'
  | _, _, .int i, _, _ => rfl
  | _, _, .tup h ks, w, w' => by
    show reduceHash _ = reduceHash _
    rw [KeyVs.hash ks w w']
theorem KeyVs.hash {K : PySem.W.Frag} {H : Hp} : ∀ {vs : List V} {ks : List NestedKey}, KeyVs K H vs ks → ∀ w w', NestedKey.hashes w ks = NestedKey.hashes w' ks
  | _, _, .nil, _, _ => rfl
  | _, _, .cons h t, w, w' => by
    show _ :: _ = _ :: _
    rw [KeyV.hash h w w', KeyVs.hash t w w']
end
theorem ents_all {xs : List (NestedKey × Addr × Value)} (h : ∀ x ∈ xs, ∀ w w', x.1.hash w = x.1.hash w') (w w' : World) : xs.map (ent w) = xs.map (ent w') := by
  refine List.map_congr_left fun x hx => ?_
  unfold ent
  rw [h x hx w w']
theorem storedH_mem {xs : List (NestedKey × Addr × Value)} {k : NestedKey} {b : Addr} {u : Value} {x : NestedKey × Addr × Value} (h : x ∈ storedH xs k b u) : (∃ y ∈ xs, x.1 = y.1 ∧ x.2.1 = y.2.1) ∨ x = (k, b, u) := by
  unfold storedH at h
  split at h
  · obtain ⟨y, hy, e⟩ := List.mem_map.mp h
    refine .inl ⟨y, hy, ?_⟩
    unfold putAt at e
    split at e
    · subst e; exact ⟨rfl, rfl⟩
    · subst e; exact ⟨rfl, rfl⟩
  · rcases List.mem_append.mp h with h | h
    · exact .inl ⟨x, h, rfl, rfl⟩
    · exact .inr (by simpa using h)
theorem kda_of {X : Cx} {H : Hp} {a : Addr} {h' : Heap} {xs : List (NestedKey × Addr × Value)} (dd : h'.DictOfH (nestedKind X.prog X.w) a xs) (ns : (a == sysModules) = false) (hh : ∀ x ∈ xs, ∀ w w', x.1.hash w = x.1.hash w') (hz : xs.length ≤ sizeLine) :
    ∃ o, h'.get? a = some o ∧ KdA a o xs := by
  obtain ⟨o, es, ep, h1, h2, h3, h4, h5, h6⟩ := dd
  refine ⟨o, h1, ns, h2, ⟨es, ep, h3, fun w => ?_⟩, h6, hz⟩
  rw [ents_all hh w X.w]
  exact h4
theorem obo_ok {P : Program} {w : World} {H : Hp} {h : Heap} {a : Addr} {o : Obj} (e : h.get? a = some o) : ObjOk P w H h a (ObO a o) := ⟨e, ⟨o, e⟩, fun h1 h2 e1 st => st _ e1⟩
def rKPut (K : PySem.W.Frag) : TSet := fun x i v H Q => ∃ a o xs k b, x = V.ref a ∧ i = .ref b ∧ H a = some (ObO a o) ∧ DKV K H a o xs ∧ KeyV K H (.ref b) k ∧ k.depth ≤ 8 ∧ xs.length < 1000000 ∧ ∀ o' u, RelV v u → KdA a o' (storedH xs k b u) → Q (upd H a (ObO a o'))
theorem set_kdict {X : Cx} (hu : KRoom X) : PSet X (rKPut X.K) := by
  intro pins s σ H o i v ov iv u Q I ro ri rv h
  obtain ⟨a, o1, xs, k, b, rfl, rfl, hH, dk, kv, kd, hz, q⟩ := h
  cases (show ov = Value.ref a from ro)
  cases (show iv = Value.ref b from ri)
  have hl : (storedH xs k b u).length ≤ sizeLine := by
    have := storedH_length xs k b u
    rw [sizeLine_eq]
    omega
  refine wpAny_setItem_heap (knd := nestedKind X.prog X.w) (hsz := by rw [sizeLine_eq]; omega) hu.in1 ⟨kv.nest I rfl, kd⟩ (dk.dictOfH I) fun h' dd' hs => ?_
  obtain ⟨o', e1, e2⟩ := kda_of (H := H) dd' dk.ka.ns (fun x hx w w' => by
    rcases storedH_mem hx with ⟨y, hy, e, _⟩ | rfl
    · rw [e]
      exact (dk.ky y hy).1.hash w w'
    · exact kv.hash w w') hl
  exact ⟨_, d_write I (by rw [hH]; exact True.intro) hs ⟨o', e1⟩ (obo_ok e1), q o' u rv e2⟩
section
variable {K : PySem.W.Frag} {H I P : Hp} {as : List Addr} {M : List MO}
theorem put_id : ∀ {xs : List (NestedKey × Addr × Value)} {k : NestedKey} {u : Value}, k ∉ xs.map (fun x => x.1) → xs.map (putAt k u) = xs
  | [], _, _, _ => rfl
  | x :: xs, k, u, h => by
    rw [List.map_cons, put_id fun z => h (by simp at z ⊢; exact .inr z)]
    unfold putAt
    rw [if_neg fun e => h (by simp [e])]
theorem kput_none : ∀ {kvs : List (D × D)} {k : NestedKey} {kd d : D}, kget kvs k = none → kput kvs k kd d = kvs ++ [(kd, d)]
  | [], _, _, _, _ => rfl
  | p :: r, k, kd, d, h => by
    unfold kget at h
    unfold kput
    by_cases c : tkey p.1 = some k
    · rw [if_pos c] at h; cases h
    · rw [if_neg c] at h ⊢
      rw [kput_none h]
      rfl
theorem KXs.app : ∀ {xs ys : List (NestedKey × Addr × Value)} {ks ls ds es : List D}, KXs K I as xs ks ds → KXs K I as ys ls es → KXs K I as (xs ++ ys) (ks ++ ls) (ds ++ es)
  | _, _, _, _, _, _, .nil, h => h
  | _, _, _, _, _, _, .cons a b c d r, h => .cons a b c d (KXs.app r h)
theorem KXs.put_old : ∀ {kvs : List (D × D)} {xs : List (NestedKey × Addr × Value)} {k : NestedKey} {kd d : D} {v : V} {u : Value}, KXs K I as xs (kvs.map fun p => p.1) (kvs.map fun p => p.2) → (xs.map fun x => x.1).Nodup → (kget kvs k).isSome = true → RelV v u → Rep K I as v d →
    KXs K I as (xs.map (putAt k u)) ((kput kvs k kd d).map fun p => p.1) ((kput kvs k kd d).map fun p => p.2)
  | [], _, _, _, _, _, _, _, _, h, _, _ => by cases h
  | p :: kvs, _, k, kd, d, v, u, .cons (x := x) (xs := xs) a b c e r, nd, h, ru, rv => by
    rw [List.map_cons, List.nodup_cons] at nd
    unfold kget at h
    unfold kput
    by_cases q : x.1 = k
    · have hb : tkey p.1 = some k := by rw [b, q]
      rw [if_pos hb]
      rw [List.map_cons, put_id (by rw [← q]; exact nd.1)]
      unfold putAt
      rw [if_pos q]
      exact .cons a (by rw [b]) ru rv r
    · have hb : ¬ tkey p.1 = some k := by rw [b]; exact fun z => q (Option.some.inj z)
      rw [if_neg hb] at h ⊢
      rw [List.map_cons]
      rw [show putAt k u x = x by unfold putAt; rw [if_neg q]]
      exact .cons a b c e (KXs.put_old r nd.2 h ru rv)
theorem KXs.put {kvs : List (D × D)} {xs : List (NestedKey × Addr × Value)} {k : NestedKey} {kd d : D} {v : V} {u : Value} {b : Addr} (kx : KXs K I as xs (kvs.map fun p => p.1) (kvs.map fun p => p.2)) (nd : (xs.map fun x => x.1).Nodup) (hk : tkey kd = some k) (rk : Rep K I as (.ref b) kd) (ru : RelV v u) (rv : Rep K I as v d) :
    KXs K I as (storedH xs k b u) ((kput kvs k kd d).map fun p => p.1) ((kput kvs k kd d).map fun p => p.2) := by
  unfold storedH
  rw [kx.isSome k]
  by_cases h : (kget kvs k).isSome = true
  · rw [if_pos h]
    exact kx.put_old nd h ru rv
  · rw [if_neg h]
    have hn : kget kvs k = none := by simpa using h
    rw [kput_none hn, List.map_append, List.map_append]
    exact kx.app (.cons rk hk ru rv .nil)
def oSetK (o : OSet) : OSet := fun x i v M => match x with
  | .ref k => match M[k]? with
    | some (.kd kvs) => match tkey i with
      | some nk => if kvs.length < 1000000 then some (M.set k (.kd (kput kvs nk i v))) else none
      | none => none
    | _ => o x i v M
  | _ => o x i v M
theorem setd_K {t : TSet} {o : OSet} (hd : SetD K t o) : SetD K (fun x i v H Q => t x i v H Q ∨ rKPut K x i v H Q) (oSetK o) := by
  intro H I as M M' P x i v dx di dv Q w rx ri rv h k
  unfold oSetK at h
  split at h
  · rename_i kk
    split at h
    · rename_i kvs hk
      split at h
      · rename_i nk hi
        split at h
        · rename_i hl
          cases h
          obtain ⟨ds, rfl, e1, e2⟩ := tkey_of hi
          have kv := ri.key w e1
          cases ri with
          | @tup b vs _ hb rb =>
            cases rx with
            | @ref _ a h1 =>
              obtain ⟨o, ho, _, fr, m⟩ := w.at h1
              rw [hk] at ho
              cases ho
              obtain ⟨o, m1, xs, m2, m3⟩ := m
              have hlen : xs.length = kvs.length := by
                have := m3.len.1
                simpa using this.symm
              refine .inr ⟨a, o, xs, nk, b, rfl, rfl, m1, ⟨.inl m1, m2, m3.keys w⟩, kv, e2, by omega, fun o' u ru ka => k _ ?_⟩
              refine w.put h1 fr _ _ ⟨o', upd_same, _, ka, m3.put m2.nd hi (.tup hb rb) ru rv⟩
        · cases h
      · cases h
    · exact .inl (hd H I as M M' P x _ v _ di dv Q w rx ri rv h k)
  · exact .inl (hd H I as M M' P x i v dx di dv Q w rx ri rv h k)
theorem pset_or {X : Cx} {t t' : TSet} (h : PSet X t) (h' : PSet X t') : PSet X (fun x i v H Q => t x i v H Q ∨ t' x i v H Q) := by
  intro pins s σ H o i v ov iv u Q I ro ri rv q
  rcases q with q | q
  · exact h pins s σ H o i v ov iv u Q I ro ri rv q
  · exact h' pins s σ H o i v ov iv u Q I ro ri rv q
end
/-! ### {} and {k: v, ..} -/
def tKNew : TE := fun _ H Q => ∀ p, H p = none → ∀ o, KdA p o [] → Q (.ref p) (upd H p (ObO p o))
theorem kda_new {p : Addr} (h : sysModules < p) : KdA p { cls := .type "dict", data := .dict #[] } [] :=
  ⟨beq_eq_false_iff_ne.mpr (Ne.symm (Nat.ne_of_lt h)), ⟨rfl, rfl, rfl⟩, ⟨#[], 0, rfl, fun w => rfl⟩, List.nodup_nil, Nat.zero_le _⟩
theorem pe_knew {X : Cx} {pos : Pos} : PE X (.Dict [] [] pos) tKNew := ⟨fun pins s σ H Q I h =>
  wpAny_Dict_empty ⟨.ref s.heap.objs.size, _, I.laid (a := s.heap.objs.size) (o := ObO s.heap.objs.size { cls := .type "dict", data := .dict #[] }) (t' := s.toks) (fun _ _ q => Heap.get?_push_of_some _ q) (Nat.le_refl _) (obo_ok (Heap.get?_push_size _ rfl)), rfl, h _ (I.hok.fresh (Nat.le_refl _)) _ (kda_new I.big)⟩⟩
section
variable {X : Cx} {W : WX} {pos : Pos}
def gKNewM : GE := fun δ M => .ok (.ref M.length) (M ++ [.kd []])
theorem xe_knewM : XE X W (.Dict [] [] pos) tKNew gKNewM := by
  refine ⟨pe_knew, fun σ H δ I as M P Q w en s => ?_⟩
  intro p hp o ho
  have hl := w.len
  refine s _ _ _ _ (Gr.more I as [p]) (w.newM hp (ObO p o) (.kd []) ⟨o, upd_same, [], ho, .nil⟩) (.ref ?_)
  rw [← hl, List.getElem?_append_right (Nat.le_refl _), Nat.sub_self]
  rfl
end
end KM
set_option Elab.async false
set_option linter.all false
set_option maxRecDepth 100000
set_option maxHeartbeats 2000000
/-! dicts with tuple keys: walked -/
namespace KM
open PySem L2 PySem.Spec PyProof.Rows
abbrev KX := List (NestedKey × Addr × Value)
abbrev VKs : List V → KX → Prop := Paired fun v x => RelV v x.2.2
def Itkk (d : Addr) (o : Obj) (xs : KX) : It := ⟨fun i H => Rd H d (ObO d o) ∧ i < xs.length, fun i H x H' => H' = H ∧ ∃ y, xs[i]? = some y ∧ x = .ref y.2.1, fun i H => Rd H d (ObO d o) ∧ xs.length ≤ i⟩
def Itkv (d : Addr) (o : Obj) (xs : KX) (vs : List V) : It := ⟨fun i H => Rd H d (ObO d o) ∧ i < xs.length, fun i H x H' => H' = H ∧ vs[i]? = some x, fun i H => Rd H d (ObO d o) ∧ xs.length ≤ i⟩
def Itki (d : Addr) (o : Obj) (xs : KX) (vs : List V) : It := ⟨fun i H => Rd H d (ObO d o) ∧ i < xs.length, fun i H x H' => ∃ T y v, xs[i]? = some y ∧ vs[i]? = some v ∧ x = .ref T ∧ H T = none ∧ H' = upd H T (.tup [.ref y.2.1, v]), fun i H => Rd H d (ObO d o) ∧ xs.length ≤ i⟩
theorem vks_get : ∀ {vs : List V} {xs : KX} {i : Nat} {y : NestedKey × Addr × Value}, VKs vs xs → xs[i]? = some y → ∃ v, vs[i]? = some v ∧ RelV v y.2.2
  | _, _, _, _, .nil, h => by simp at h
  | _, _, 0, _, .cons r t, h => by
    simp at h
    subst h
    exact ⟨_, rfl, r⟩
  | _, _, i + 1, _, .cons r t, h => vks_get (i := i) t (by simpa using h)
section
variable {P : Program} {w : World} {K : PySem.W.Frag} {tg : Expr} {d : Addr} {o : Obj} {es : Array DictEntry} {ep : Nat} {xs : KX} {vs : List V}
theorem kraw {X : Cx} {pins : List (Addr × Obj)} {σ : L2.St} {H : Hp} {s : Shared} (I : Inv X pins σ H s) (r : Rd H d (ObO d o)) (ka : KdA d o xs) (hod : o.data = .dict es ep) : s.heap.DictRaw d es ep := ⟨o, obo_at I r, ka.ex, hod⟩
theorem kent (ka : KdA d o xs) (hod : o.data = .dict es ep) (w : World) : es.toList = xs.map (ent w) := by
  obtain ⟨es', ep', e1, e2⟩ := ka.da
  obtain ⟨rfl, rfl⟩ := dict_ep hod e1
  exact e2 w
theorem ksize (ka : KdA d o xs) (hod : o.data = .dict es ep) (w : World) : es.size = xs.length := by
  have := congrArg List.length (kent ka hod w)
  simpa using this
theorem kat (ka : KdA d o xs) (hod : o.data = .dict es ep) (w : World) {i : Nat} {y : NestedKey × Addr × Value} (h : xs[i]? = some y) (hi : i < es.size) : es[i].key = .ref y.2.1 ∧ es[i].val = y.2.2 := by
  have e := congrArg (fun l => l[i]?) (kent ka hod w)
  simp only [List.getElem?_map, h, Array.getElem?_toList, Array.getElem?_eq_getElem hi, Option.map_some, Option.some.injEq] at e
  rw [e]
  exact ⟨rfl, rfl⟩
theorem turn_kkeys (it : Addr) (ka : KdA d o xs) (hod : o.data = .dict es ep) : Turn P w K tg (Itkk d o xs) [it] it (fun i h => h.IsKeyIter it d i es.size ep) where
  mem := by simp
  obj := fun i h st b hb => by
    have e : b = it := by simpa using hb
    subst e
    obtain ⟨oi, e, c, dd⟩ := st
    exact ⟨oi, e, fun v z => by rw [dd] at z; cases z⟩
  keep := fun i h h' st k => st.at fun oi e => k it (by simp) oi e
  item := by
    intro X hP hw hK hc i pins s σ H E I hf st hg
    subst hP hw hK
    obtain ⟨hd, hi⟩ := hg
    obtain ⟨f0, f1, f2, f3, f4, f5⟩ := hf it (by simp)
    have hi2 : i < es.size := by rw [ksize ka hod X.w]; exact hi
    obtain ⟨y, hy⟩ : ∃ y, xs[i]? = some y := ⟨xs[i], List.getElem?_eq_getElem hi⟩
    obtain ⟨k1, k2⟩ := kat ka hod X.w hy hi2
    refine next_key_item st (obo_at I hd) hod rfl (Array.getElem?_eq_getElem hi2) fun h' st' sb => ?_
    have I1 : Inv X pins σ H { s with heap := h' } := I.turned (t' := s.toks) (fun b ob hb e => (sb.2 b hb).trans e) f0 f1 f3 f4 f5
    obtain ⟨oi, e, c, dd⟩ := id st'
    exact ⟨es[i].key, rfl, go_of (s := { s with heap := h' }) e c dd (by decide) ⟨.ref y.2.1, H, I1, k1, ⟨rfl, y, hy, rfl⟩, st', fun b hb => (hf b hb).1⟩⟩
  done := by
    intro X hP hw hK hc i pins s σ H E I hf st hg
    subst hP hw hK
    obtain ⟨hd, hi⟩ := hg
    obtain ⟨f0, f1, f2, f3, f4, f5⟩ := hf it (by simp)
    exact next_key_end (I.ok.hd hc) st (obo_at I hd) hod rfl (by rw [ksize ka hod X.w]; exact hi) fun h' eb => ⟨rfl, I.turned (t' := s.toks) (fun b ob hb e => eb b ob hb e) f0 f1 f3 f4 f5⟩
  self := fun A i s Q E st h => by
    refine wpAny_pyIter_slot st.typeIs F.slot_dict_keyiterator_iter (wpAny_call_entry F.slot_dict_keyiterator_iter st.typeIs F.entry_dict_keyiterator_iter ?_ (F.args_dict_keyiterator_iter_1 _))
    show wpAny _ _ (ret (.ref it)) _ _ s
    exact wpAny_pure ⟨_, rfl, "dict_keyiterator", _, st.typeIs, F.slot_dict_keyiterator_next.lookup, h⟩
theorem turn_kvals (it : Addr) (ka : KdA d o xs) (vk : VKs vs xs) (hod : o.data = .dict es ep) : Turn P w K tg (Itkv d o xs vs) [it] it (fun i h => h.IsValIter it d i es.size ep) where
  mem := by simp
  obj := fun i h st b hb => by
    have e : b = it := by simpa using hb
    subst e
    obtain ⟨oi, e, c, dd⟩ := st
    exact ⟨oi, e, fun v z => by rw [dd] at z; cases z⟩
  keep := fun i h h' st k => st.at fun oi e => k it (by simp) oi e
  item := by
    intro X hP hw hK hc i pins s σ H E I hf st hg
    subst hP hw hK
    obtain ⟨hd, hi⟩ := hg
    obtain ⟨f0, f1, f2, f3, f4, f5⟩ := hf it (by simp)
    have hi2 : i < es.size := by rw [ksize ka hod X.w]; exact hi
    obtain ⟨y, hy⟩ : ∃ y, xs[i]? = some y := ⟨xs[i], List.getElem?_eq_getElem hi⟩
    obtain ⟨k1, k2⟩ := kat ka hod X.w hy hi2
    obtain ⟨v, hv, rv⟩ := vks_get vk hy
    refine wpAny_pyNext_values_item_raw st (kraw I hd ka hod) hi2 fun h' st' sb => ?_
    have I1 : Inv X pins σ H { s with heap := h' } := I.turned (t' := s.toks) (fun b ob hb e => (sb.2 b hb).trans e) f0 f1 f3 f4 f5
    obtain ⟨oi, e, c, dd⟩ := id st'
    exact ⟨es[i].val, rfl, go_of (s := { s with heap := h' }) e c dd (by decide) ⟨v, H, I1, by rw [k2]; exact rv, ⟨rfl, hv⟩, st', fun b hb => (hf b hb).1⟩⟩
  done := by
    intro X hP hw hK hc i pins s σ H E I hf st hg
    subst hP hw hK
    obtain ⟨hd, hi⟩ := hg
    obtain ⟨f0, f1, f2, f3, f4, f5⟩ := hf it (by simp)
    exact wpAny_pyNext_values_end_raw (I.ok.hd hc) st (kraw I hd ka hod) (by rw [ksize ka hod X.w]; exact hi) fun h' eb => ⟨rfl, I.turned (t' := s.toks) (fun b ob hb e => eb b ob hb e) f0 f1 f3 f4 f5⟩
  self := fun A i s Q E st h => wpAny_pyIter_valiter st h
theorem turn_kitems {elts : List Expr} {kk : Nat} {tpos : Pos} (it : Addr) (ka : KdA d o xs) (vk : VKs vs xs) (hod : o.data = .dict es ep) :
    Turn P w K (.Tuple elts kk tpos) (Itki d o xs vs) [it] it (fun i h => ∃ ok ov, IsItemIter h it d i es.size ep ok ov) where
  mem := by simp
  obj := fun i h st b hb => by
    have e : b = it := by simpa using hb
    subst e
    obtain ⟨ok, ov, e⟩ := st
    exact ⟨_, e, fun v z => nomatch z⟩
  keep := fun i h h' st k => let ⟨ok, ov, e⟩ := st; ⟨ok, ov, k it (by simp) _ e⟩
  item := by
    intro X hP hw hK hc i pins s σ H E I hf st hg
    subst hP hw hK
    obtain ⟨hd, hi⟩ := hg
    have hi2 : i < es.size := by rw [ksize ka hod X.w]; exact hi
    obtain ⟨y, hy⟩ : ∃ y, xs[i]? = some y := ⟨xs[i], List.getElem?_eq_getElem hi⟩
    obtain ⟨k1, k2⟩ := kat ka hod X.w hy hi2
    obtain ⟨v, hv, rv⟩ := vks_get vk hy
    obtain ⟨ok, ov, he⟩ := st
    have hlt : it < s.heap.objs.size := Heap.lt_size he
    refine wpAny_pyNext_items_item_raw he (kraw I hd ka hod) hi2 fun h' ho hT hz hk => ?_
    refine ⟨_, rfl, wpAny_letOwnedTupleGo_items (s := { s with heap := h' }) ho fun h'' he' sb => ?_⟩
    have hT2 : h''.get? s.heap.objs.size = some { cls := .type "tuple", data := .seq #[es[i].key, es[i].val] } := (sb.2 _ (Nat.ne_of_gt hlt)).trans hT
    have new : ObjOk X.prog X.w (upd H s.heap.objs.size (.tup [.ref y.2.1, v])) h'' s.heap.objs.size (.tup [.ref y.2.1, v]) :=
      ⟨by show 2 ≤ sizeLine; decide, [es[i].key, es[i].val], .cons k1 (.cons (by rw [k2]; exact rv) .nil), ⟨_, hT2, rfl, _, rfl⟩⟩
    have I1 : Inv X pins σ (upd H s.heap.objs.size (.tup [.ref y.2.1, v])) { s with heap := h'' } :=
      I.turnedNew (t' := s.toks) (ch := [it]) (fun b ob hb e => (sb.2 b (by simpa using hb)).trans (hk b ob (by simpa using hb) e)) hf (Nat.le_refl _) new
    refine ⟨.ref s.heap.objs.size, _, I1, rfl, ⟨_, y, v, hy, hv, rfl, I.hok.fresh (Nat.le_refl _), rfl⟩, ⟨_, _, he'⟩, fun b hb => ?_⟩
    have e : b = it := by simpa using hb
    rw [e, upd_ne (Nat.ne_of_lt hlt)]
    exact (hf it (by simp)).1
  done := by
    intro X hP hw hK hc i pins s σ H E I hf st hg
    subst hP hw hK
    obtain ⟨hd, hi⟩ := hg
    obtain ⟨f0, f1, f2, f3, f4, f5⟩ := hf it (by simp)
    obtain ⟨ok, ov, he⟩ := st
    exact wpAny_pyNext_items_end_raw (I.ok.hd hc) he (kraw I hd ka hod) (by rw [ksize ka hod X.w]; exact hi) fun h' eb => ⟨rfl, I.turned (t' := s.toks) (fun b ob hb e => eb b ob hb e) f0 f1 f3 f4 f5⟩
  self := fun A i s Q E st h => let ⟨_, _, e⟩ := st; PySem.W.kcp_self e h
end
def iKK (td : TE) : TI := fun σ H R => td σ H fun x H1 => ∃ d o xs, x = .ref d ∧ Rd H1 d (ObO d o) ∧ KdA d o xs ∧ R (Itkk d o xs) H1
def iKV (td : TE) : TI := fun σ H R => td σ H fun x H1 => ∃ d o xs vs, x = .ref d ∧ Rd H1 d (ObO d o) ∧ KdA d o xs ∧ VKs vs xs ∧ R (Itkv d o xs vs) H1
def iKI (td : TE) : TI := fun σ H R => td σ H fun x H1 => ∃ d o xs vs, x = .ref d ∧ Rd H1 d (ObO d o) ∧ KdA d o xs ∧ VKs vs xs ∧ R (Itki d o xs vs) H1
section
variable {X : Cx} {tg e : Expr} {td : TE} {apos cpos : Pos}
theorem pi_kkeys (he : PE X e td) : PI X tg e (iKK td) := by
  refine ⟨fun pins s σ H R I h => ?_⟩
  refine thn (he.run pins s σ H _ I h) fun u s1 ⟨x, H1, I1, rx, d, o, xs, ex, rd, ka, q⟩ => ?_
  subst ex
  obtain rfl : u = Value.ref d := rx
  obtain ⟨es, ep, hod, _⟩ := ka.da
  refine iter_keys ka.ns (obo_at I1 rd) ka.ex hod (pi_one (tk := s1.toks) I1 _ (turn_kkeys _ ka hod) ⟨_, Heap.get?_push_size _ rfl, rfl, ?_⟩ q)
  rfl
theorem pi_kvalues (he : PE X e td) (hbase : attributeBase e "values" X.env (eval e X.env) = eval e X.env := by rfl) (hline : (apos.endLine == cpos.line) = true := by rfl) : PI X tg (.Call (.Attribute e "values" apos) [] [] cpos) (iKV td) := by
  refine ⟨fun pins s σ H R I h => ?_⟩
  refine wpAny_Call_method (T := "dict") (id := "dict.values") hbase rfl hline F.plainAttrs_dict F.slot_dict_values F.type_dict_values (thn (he.run pins s σ H _ I h) fun u s1 ⟨x, H1, I1, rx, d, o, xs, vs, ex, rd, ka, vk, q⟩ => ?_)
  subst ex
  obtain rfl : u = Value.ref d := rx
  obtain ⟨es, ep, hod, _⟩ := ka.da
  have hm := kraw I1 rd ka hod
  refine ⟨hm.typeIs, fun b e => by cases e; exact ⟨o, obo_at I1 rd, ka.ex.2.1⟩, ?_⟩
  have I2 : Inv X pins σ H1 { s1 with heap := s1.heap.push { cls := .type "dict_values", data := .fields #[.ref d] } } := I1.kept (t' := s1.toks) fun b ob q => Heap.get?_push_of_some _ q
  have fin : wpAny (model X.prog X.w) X.A (pyIter (.ref s1.heap.objs.size)) (PIE X pins σ tg R) X.xe { s1 with heap := s1.heap.push { cls := .type "dict_values", data := .fields #[.ref d] } } := by
    refine wpAny_pyIter_values_raw (d := d) ⟨_, Heap.get?_push_size _ rfl, rfl, rfl⟩ (hm.at fun _ e => Heap.get?_push_of_some _ e) (pi_one (tk := s1.toks) I2 _ (turn_kvals _ ka vk hod) ⟨_, Heap.get?_push_size _ rfl, rfl, ?_⟩ q)
    rfl
  show wpAny _ _ (callWith cpos (.builtin "dict.values") [.ref d] [] []) _ X.xe s1
  exact method_meetsIn F.slot_dict_values F.entry_dict_values rfl (PySem.evalArgs_none ⟨rfl, hm.typeIs, F.args_dict_values_1 _, _, meets_dict_values_raw d ka.ns, ⟨es, ep, hm⟩, fin⟩)
theorem pi_kitems {elts : List Expr} {kk : Nat} {tpos : Pos} (he : PE X e td) (hbase : attributeBase e "items" X.env (eval e X.env) = eval e X.env := by rfl) (hline : (apos.endLine == cpos.line) = true := by rfl) :
    PI X (.Tuple elts kk tpos) (.Call (.Attribute e "items" apos) [] [] cpos) (iKI td) := by
  refine ⟨fun pins s σ H R I h => ?_⟩
  refine wpAny_Call_method (T := "dict") (id := "dict.items") hbase rfl hline F.plainAttrs_dict F.slot_dict_items F.type_dict_items (thn (he.run pins s σ H _ I h) fun u s1 ⟨x, H1, I1, rx, d, o, xs, vs, ex, rd, ka, vk, q⟩ => ?_)
  subst ex
  obtain rfl : u = Value.ref d := rx
  obtain ⟨es, ep, hod, _⟩ := ka.da
  have hm := kraw I1 rd ka hod
  refine ⟨hm.typeIs, fun b e => by cases e; exact ⟨o, obo_at I1 rd, ka.ex.2.1⟩, ?_⟩
  have I2 : Inv X pins σ H1 { s1 with heap := s1.heap.push { cls := .type "dict_items", data := .fields #[.ref d] } } := I1.kept (t' := s1.toks) fun b ob q => Heap.get?_push_of_some _ q
  have fin : wpAny (model X.prog X.w) X.A (pyIter (.ref s1.heap.objs.size)) (PIE X pins σ (.Tuple elts kk tpos) R) X.xe { s1 with heap := s1.heap.push { cls := .type "dict_items", data := .fields #[.ref d] } } := by
    refine wpAny_pyIter_items_raw (d := d) ⟨_, Heap.get?_push_size _ rfl, rfl, rfl⟩ (hm.at fun _ e => Heap.get?_push_of_some _ e) (pi_one (tk := s1.toks) I2 _ (turn_kitems _ ka vk hod) ⟨.none, .none, ?_⟩ q)
    exact Heap.get?_push_size _ rfl
  show wpAny _ _ (callWith cpos (.builtin "dict.items") [.ref d] [] []) _ X.xe s1
  exact method_meetsIn F.slot_dict_items F.entry_dict_items rfl (PySem.evalArgs_none ⟨rfl, hm.typeIs, F.args_dict_items_1 _, _, meets_dict_items_raw d ka.ns, ⟨es, ep, hm⟩, fin⟩)
end
end KM
set_option Elab.async false
set_option linter.all false
set_option maxRecDepth 100000
set_option maxHeartbeats 2000000
/-! dict comprehensions over any kind of dict: o0 tells the new one, st what one more pair does -/
namespace KM
open PySem L2 PySem.Spec PyProof.Rows
abbrev DSt := Addr → V → V → Hp → (Hp → Prop) → Prop
/-- one more pair is put in -/
def DSet (X : Cx) (st : DSt) : Prop := ∀ (Y : Cx), Y.prog = X.prog → Y.w = X.w → Y.K = X.K → Y.A = X.A → ∀ (pins : List (Addr × Obj)) (σ : L2.St) (H : Hp) (s : Shared) (E : Value → Shared → Prop) (D : Addr) (y z : V) (u r : Value) (Q : Hp → Prop),
  Inv Y pins σ H s → RelV y u → RelV z r → st D y z H Q → wpAny (model X.prog X.w) X.A (dictSet D u r) (fun _ s' => ∃ H', Inv Y pins σ H' s' ∧ Q H') E s
def tDcX (o0 : Addr → HO) (st : DSt) (wi : TI) (g : TG) (tt : TT) (tk tv : TE) (vs : List Nat) : TE := fun σ H Q => wi σ H fun J H1 => ∀ D, H1 D = none → sysModules < D → ∃ Wv : Nat → Nat → Hp → Prop, (∃ m, Wv 0 m (upd H1 D (o0 D))) ∧ ∀ i m H, Wv i m H →
  (J.stop i H ∧ Q (.ref D) H) ∨ (J.go i H ∧ ∃ Nx : Hp → Prop, (∀ H', Nx H' → ∃ m', m' < m ∧ Wv (i + 1) m' H') ∧ ∀ x H', J.yld i H x H' → g x (wipe σ vs) H' fun σ2 H2 => wipe σ2 vs = wipe σ vs ∧ tt σ2 H2 fun b H3 =>
    if b = true then tk σ2 H3 fun y H4 => tv σ2 H4 fun z H5 => st D y z H5 Nx else Nx H3)
section
variable {X : Cx}
theorem dcX_core {pins : List (Addr × Obj)} {s : Shared} {σ : L2.St} {H : Hp} {Q : VK} {pos' : Pos} {use : Option (Value → Sem Unit)} {Qf : Value → Shared → Prop} {o0 : Addr → HO} {st : DSt} {kx vx tg iter : Expr} {ifs : List Expr} {scope : Scope} {own : List (Str × Nat)} {pos : Pos} {wi : TI} {g : TG} {tt : TT} {tk tv : TE} (hnew : ∀ (H : Hp) (h : Heap), sysModules < h.objs.size → ObjOk X.prog X.w H (h.push { cls := .type "dict", data := .dict #[] }) h.objs.size (o0 h.objs.size)) (hset : DSet X st)
    (hc : X.calm = true) (hN : X.N.Nodup) (hi : PI X tg iter wi) (ok : BlkOk X.N X.env.scope scope own)
    (hg : ∀ (s : Shared) (H : Hp) (C : Addr) (cl : List (Str × Addr)) (fp : List Addr), PG (X.blk s H scope (compEnvC scope cl C X.env) fp) tg g) (ht : ∀ (s : Shared) (H : Hp) (C : Addr) (cl : List (Str × Addr)) (fp : List Addr), PTs (X.blk s H scope (compEnvC scope cl C X.env) fp) ifs tt)
    (hk : ∀ (s : Shared) (H : Hp) (C : Addr) (cl : List (Str × Addr)) (fp : List Addr), PE (X.blk s H scope (compEnvC scope cl C X.env) fp) kx tk)
    (he : ∀ (s : Shared) (H : Hp) (C : Addr) (cl : List (Str × Addr)) (fp : List Addr), PE (X.blk s H scope (compEnvC scope cl C X.env) fp) vx tv) (hs : ∀ x, foldedSetIterable iter X.env x = pure x)
    (I : Inv X pins σ H s) (h : tDcX o0 st wi g tt tk tv (own.map (·.2)) σ H Q)
    (hRR : ∀ D C s' m H', Inv X pins σ H' s' → Q (.ref D) H' → s'.heap.Ns C m → FpOk X pins H' C → compPost (model X.prog X.w) X.A X.xe use Qf (.ref D) C (.ok .next) s') :
    wpAny (model X.prog X.w) X.A (comprehension (.DictComp kx vx [⟨tg, iter, ifs, 0⟩] scope pos) scope X.env pos' newDict false (eval iter X.env) use) Qf X.xe s := by
  have hfree : ∀ y ∈ scope.names, y.2 = .free → ∃ c, X.env.cells.lookup y.1 = some c := fun y hy e => (ok.free y hy e).elim (fun k => I.ok.has _ (.inl k)) fun k => I.ok.has _ (.inr k)
  refine wpAny_comprehension_free (use := use) rfl hs (closure_ok hfree) ok.kind (fun y hy e => by rw [ok.uniq y hy, e]) (thn (hi.run pins s σ H _ I h) fun xv s1 hx => thn hx fun itv s2 h2 => ?_)
  obtain ⟨it, fp, tn, J, H2, rfl, I2, T, st2, f2, q⟩ := h2
  refine wpAny_newObj_type (newEnv_comp ?_)
  -- where the new dict and the block's frame stand
  generalize hD' : s2.heap.objs.size = D
  have hD := hD'.symm
  have big : sysModules < D := by rw [hD]; exact I2.big
  have hDn : H2 D = none := I2.hok.fresh (Nat.le_of_eq hD.symm)
  obtain ⟨Wv, ⟨m0, w0⟩, turn⟩ := q D hDn big
  generalize hs3' : ({ s2 with heap := s2.heap.push { cls := .type "dict", data := .dict #[] } } : Shared) = s3
  have hs3 := hs3'.symm
  have h3 : s3.heap = s2.heap.push { cls := .type "dict", data := .dict #[] } := by rw [hs3]
  obtain ⟨H3, hH3⟩ : ∃ H3, H3 = upd H2 D (o0 D) := ⟨_, rfl⟩
  rw [← hH3] at w0
  have I3 : Inv X pins σ H3 s3 := by
    rw [hs3, hH3]
    refine I2.laid (t' := s2.toks) (fun b o e => Heap.get?_push_of_some _ e) (Nat.le_of_eq hD.symm) ?_
    rw [hD]
    exact hnew _ s2.heap I2.big
  have f3 : ∀ b ∈ fp, FpOk X pins H3 b ∧ b < s3.heap.objs.size := fun b hb => by
    obtain ⟨o, e, _⟩ := T.obj _ _ st2 b hb
    have hlt := Heap.lt_size e
    refine ⟨⟨?_, (f2 b hb).2⟩, by rw [h3, Heap.size_push]; exact Nat.lt_succ_of_lt hlt⟩
    rw [hH3, upd_ne (by rw [hD]; exact Nat.ne_of_lt hlt)]
    exact (f2 b hb).1
  have st3 : tn 0 s3.heap := T.keep _ _ _ st2 fun b _ o e => by rw [h3]; exact Heap.get?_push_of_some _ e
  have I4 := block_start I3 ok hN f3
  show codeAny _ _ (.compStart (.DictComp kx vx [⟨tg, iter, ifs, 0⟩] scope pos) 0 (.ref it) (.ref D) (compEnvC scope (cellsFrom (s3.heap.objs.size + 1) scope.names (cloFrom X.env.cells scope.names [])) s3.heap.objs.size X.env)) (compPost (model X.prog X.w) X.A X.xe use Qf (.ref D) s3.heap.objs.size) { s3 with heap := pushCells (s3.heap.push { cls := .type "dict", data := .dict #[] }) scope.names }
  obtain ⟨ce, hce⟩ : ∃ ce, ce = compEnvC scope (cellsFrom (s3.heap.objs.size + 1) scope.names (cloFrom X.env.cells scope.names [])) s3.heap.objs.size X.env := ⟨_, rfl⟩
  have pg : PG (X.blk s3 H3 scope ce fp) tg g := by rw [hce]; exact hg _ _ _ _ _
  have pt : PTs (X.blk s3 H3 scope ce fp) ifs tt := by rw [hce]; exact ht _ _ _ _ _
  have pk : PE (X.blk s3 H3 scope ce fp) kx tk := by rw [hce]; exact hk _ _ _ _ _
  have pe : PE (X.blk s3 H3 scope ce fp) vx tv := by rw [hce]; exact he _ _ _ _ _
  have cL : ce.locals = s3.heap.objs.size := by rw [hce]; rfl
  rw [← hce] at I4 ⊢
  generalize e4' : ({ s3 with heap := pushCells (s3.heap.push { cls := .type "dict", data := .dict #[] }) scope.names } : Shared) = s4 at I4 ⊢
  have e4 := e4'.symm
  have st4 : tn 0 s4.heap := T.keep _ _ _ st3 fun b _ o e => by rw [e4]; exact pushCells_keeps _ _ _ _ (Heap.get?_push_of_some _ e)
  have stat : ∀ {σ' : L2.St} {H' : Hp} {s' : Shared}, Inv (X.blk s3 H3 scope ce fp) [] σ' H' s' → (∀ b ∈ fp, H' b = none) → ∀ b ∈ fp, FpOk (X.blk s3 H3 scope ce fp) [] H' b := fun {σ' H' s'} I' hn b hb =>
    ⟨hn b hb, (I'.ok.exf b hb).1, I'.ok.exfs b hb, .inl hb, fun x c e => (I'.ok.exf b hb).2 x c e, fun p hp => absurd (show p ∈ ([] : List (Addr × Obj)) ++ [] from hp) (by simp)⟩
  refine (fun loop => codeAny_compStart_dict loop (T.self X.A 0 _ _ _ st4 loop)) ?_
  refine compLoop_anyD (fun n s' => ∃ i H', Inv (X.blk s3 H3 scope ce fp) [] (wipe σ (own.map (·.2))) H' s' ∧ tn i s'.heap ∧ (∀ b ∈ fp, H' b = none) ∧ Wv i n H') ?_ m0 ⟨0, H3, I4, st4, fun b hb => (f3 b hb).1.1, w0⟩
  rintro n s5 ⟨i, H5, I5, st5, n5, w5⟩
  rcases turn i n H5 w5 with ⟨stop, qq⟩ | ⟨go, Nx, hNx, step⟩
  · refine thnF (T.done (X.blk s3 H3 scope ce fp) rfl rfl rfl hc i [] s5 _ H5 (fun _ _ => False) I5 (stat I5 n5) st5 stop) fun r s6 ⟨hr, I6⟩ => ?_
    subst hr
    have I7 : Inv X pins σ H5 s6 := I3.call' (ch := fp) I6.os I6.base I6.hok I6.bare fun b hb => ⟨(f3 b hb).1.2.2.2.1, (f3 b hb).1.2.1, (f3 b hb).1.2.2.2.2.1, (f3 b hb).1.2.2.2.2.2⟩
    have nC : H5 s3.heap.objs.size = none := by
      rw [← cL]
      exact I6.free
    obtain ⟨m, hn, _⟩ := I6.loc
    exact hRR D s3.heap.objs.size s6 m H5 I7 qq (by rw [← cL]; exact hn) (I3.fpOk (Nat.le_refl _) nC)
  · refine thnF (T.item (X.blk s3 H3 scope ce fp) rfl rfl rfl hc i [] s5 _ H5 (fun _ _ => False) I5 (stat I5 n5) st5 go) fun r s6 ⟨u, hr, h6⟩ => ?_
    subst hr
    refine thnF h6 fun _ s7 ⟨x, H7, I7, r7, y7, st7, n7⟩ => ?_
    have I7' := I7.pinned (stat I7 n7) (T.obj _ _ st7)
    refine thnF (pg.run _ s7 _ H7 x u _ I7' r7 (step x H7 y7)) fun _ s8 ⟨σ8, H8, I8, hw8, q8⟩ => ?_
    refine thnF (pt.run _ s8 σ8 H8 _ I8 q8) fun b s9 ⟨H9, I9, q9⟩ => ?_
    have fin : ∀ {s' : Shared} {H' : Hp}, Inv (X.blk s3 H3 scope ce fp) ([] ++ pinsAt fp s7.heap) σ8 H' s' → Nx H' → ∃ m, m < n ∧ ∃ i H', Inv (X.blk s3 H3 scope ce fp) [] (wipe σ (own.map (·.2))) H' s' ∧ tn i s'.heap ∧ (∀ b ∈ fp, H' b = none) ∧ Wv i m H' := fun {s' H'} I' nx => by
      obtain ⟨m', hm, w'⟩ := hNx H' nx
      have pin' : ∀ b ∈ fp, ∀ o, s7.heap.get? b = some o → s'.heap.get? b = some o ∧ H' b = none := fun b hb o e =>
        let z := I'.pin (b, o) (List.mem_append_right _ (List.mem_append_right _ (mem_pinsAt hb e)))
        ⟨z.1, z.2.1⟩
      have hl : (wipe σ (own.map (·.2))).length = σ8.length := by rw [← hw8, wipe_length]
      refine ⟨m', hm, i + 1, H', (I'.unpinned (pins := [])).weak hl (fun j v e => ?_), T.keep _ _ _ st7 fun b hb o e => (pin' b hb o e).1, fun b hb => ?_, w'⟩
      · rw [← hw8] at e
        exact (wipe_some e).1
      · obtain ⟨o, e, _⟩ := T.obj _ _ st7 b hb
        exact (pin' b hb o e).2
    cases b with
    | false =>
      simp only [Bool.false_eq_true, if_false] at q9 ⊢
      exact fin I9 q9
    | true =>
      simp only [if_true] at q9 ⊢
      refine thnF (pk.run _ s9 σ8 H9 _ I9 q9) fun z s10 ⟨yk, H10, I10, r10, q10⟩ => ?_
      refine thnF (pe.run _ s10 σ8 H10 _ I10 q10) fun z2 s11 ⟨yv, H11, I11, r11, q11⟩ => ?_
      refine wpAny_mono (hset (X.blk s3 H3 scope ce fp) rfl rfl rfl rfl _ σ8 H11 s11 (fun _ _ => False) D yk yv z z2 Nx I11 r10 r11 q11) (fun _ s12 ⟨H12, I12, nx⟩ => fin I12 nx) fun _ _ z => z.elim
theorem pe_dcX {o0 : Addr → HO} {st : DSt} {kx vx tg iter : Expr} {ifs : List Expr} {scope : Scope} {own : List (Str × Nat)} {pos : Pos} {wi : TI} {g : TG} {tt : TT} {tk tv : TE} (hnew : ∀ (H : Hp) (h : Heap), sysModules < h.objs.size → ObjOk X.prog X.w H (h.push { cls := .type "dict", data := .dict #[] }) h.objs.size (o0 h.objs.size)) (hset : DSet X st)
    (hc : X.calm = true) (hN : X.N.Nodup) (hi : PI X tg iter wi) (ok : BlkOk X.N X.env.scope scope own)
    (hg : ∀ (s : Shared) (H : Hp) (C : Addr) (cl : List (Str × Addr)) (fp : List Addr), PG (X.blk s H scope (compEnvC scope cl C X.env) fp) tg g) (ht : ∀ (s : Shared) (H : Hp) (C : Addr) (cl : List (Str × Addr)) (fp : List Addr), PTs (X.blk s H scope (compEnvC scope cl C X.env) fp) ifs tt)
    (hk : ∀ (s : Shared) (H : Hp) (C : Addr) (cl : List (Str × Addr)) (fp : List Addr), PE (X.blk s H scope (compEnvC scope cl C X.env) fp) kx tk)
    (he : ∀ (s : Shared) (H : Hp) (C : Addr) (cl : List (Str × Addr)) (fp : List Addr), PE (X.blk s H scope (compEnvC scope cl C X.env) fp) vx tv) (hs : ∀ x, foldedSetIterable iter X.env x = pure x := by intro _; rfl) :
    PE X (.DictComp kx vx [⟨tg, iter, ifs, 0⟩] scope pos) (tDcX o0 st wi g tt tk tv (own.map (·.2))) := by
  refine ⟨fun pins s σ H Q I h => ?_⟩
  rw [arm_eval_DictComp]
  refine dcX_core hnew hset hc hN hi ok hg ht hk he hs I h fun D C s' m H' I' q hn f => ⟨m, hn, fun h'' sb => ?_⟩
  obtain ⟨f0, f1, f2, f3, f4, f5⟩ := f
  exact ⟨.ref D, H', I'.turned (t' := s'.toks) (fun b o hb e => (sb.2 b hb).trans e) f0 f1 f3 f4 f5, rfl, q⟩
theorem ps_setdcX {i : Nat} {y : Str} {py spos : Pos} {o0 : Addr → HO} {st : DSt} {kx vx tg iter : Expr} {ifs : List Expr} {scope : Scope} {own : List (Str × Nat)} {pos : Pos} {wi : TI} {g : TG} {tt : TT} {tk tv : TE} (hnew : ∀ (H : Hp) (h : Heap), sysModules < h.objs.size → ObjOk X.prog X.w H (h.push { cls := .type "dict", data := .dict #[] }) h.objs.size (o0 h.objs.size)) (hset : DSet X st)
    (hc : X.calm = true) (hN : X.N.Nodup) (hi : PI X tg iter wi) (ok : BlkOk X.N X.env.scope scope own)
    (hg : ∀ (s : Shared) (H : Hp) (C : Addr) (cl : List (Str × Addr)) (fp : List Addr), PG (X.blk s H scope (compEnvC scope cl C X.env) fp) tg g) (ht : ∀ (s : Shared) (H : Hp) (C : Addr) (cl : List (Str × Addr)) (fp : List Addr), PTs (X.blk s H scope (compEnvC scope cl C X.env) fp) ifs tt)
    (hk : ∀ (s : Shared) (H : Hp) (C : Addr) (cl : List (Str × Addr)) (fp : List Addr), PE (X.blk s H scope (compEnvC scope cl C X.env) fp) kx tk)
    (he : ∀ (s : Shared) (H : Hp) (C : Addr) (cl : List (Str × Addr)) (fp : List Addr), PE (X.blk s H scope (compEnvC scope cl C X.env) fp) vx tv) (hs : ∀ x, foldedSetIterable iter X.env x = pure x := by intro _; rfl)
    (hy : X.N[i]? = some y) (hyl : X.env.scope.names.lookup y = some .local) (hsw : swapsWith (.DictComp kx vx [⟨tg, iter, ifs, 0⟩] scope pos) (some (.Name y py)) spos.line X.env = pure true) :
    PS X (.Assign [.Name y py] (.DictComp kx vx [⟨tg, iter, ifs, 0⟩] scope pos) spos) (tAsg (tDcX o0 st wi g tt tk tv (own.map (·.2))) (L2.gName i)) := by
  refine ⟨fun pins s σ H D I h => ?_⟩
  rw [exec_Assign_Name_used _ _ _ _ hsw]
  refine wpAny_bind (wpAny_standAt (wpAny_bind ?_))
  show wpAny _ X.A (do let _ ← comprehension (.DictComp kx vx [⟨tg, iter, ifs, 0⟩] scope pos) scope X.env (firstIterPos [⟨tg, iter, ifs, 0⟩] pos) newDict false (eval iter X.env) (some (assign (.Name y py) X.env))) _ _ s
  have h : (tDcX o0 st wi g tt tk tv (own.map (·.2))) σ H (fun x H1 => L2.gName i x σ H1 D.nx) := h
  refine wpAny_bind (thn (dcX_core (Qf := fun _ s' => SP X pins D .next s') hnew hset hc hN hi ok hg ht hk he hs I h fun L C s' m H' I' q hn f => ?_) fun _ s' hq => wpAny_pure (wpAny_pure hq))
  show wpAny _ _ (assign (.Name y py) X.env (.ref L)) _ _ _
  refine wpAny_assign_Name (store_ok2 (v := V.ref L) I' hN hy (.inl hyl) rfl (fun s2 I2 ⟨a, sb, ha⟩ => ?_) (.inr hyl))
  obtain ⟨f0, f1, f2, f3, f4, f5⟩ := f
  have haC : C ≠ a := by
    rcases ha with z | z
    · rw [z]; exact f1
    · exact fun e => f4 y a z e.symm
  refine ⟨m, hn.sameBut sb haC, fun h3 sb3 => ?_⟩
  exact ⟨_, H', I2.turned (t' := s2.toks) (fun b o hb e => (sb3.2 b hb).trans e) f0 f1 f3 f4 f5, q⟩
end
end KM
set_option Elab.async false
set_option linter.all false
set_option maxRecDepth 100000
set_option maxHeartbeats 2000000
/-! dicts with tuple keys: comprehensions, walks -/
namespace KM
open PySem L2 PySem.Spec PyProof.Rows
def stK (K : PySem.W.Frag) : DSt := fun D y z H Q => ∃ o xs k b, y = V.ref b ∧ H D = some (ObO D o) ∧ DKV K H D o xs ∧ KeyV K H (.ref b) k ∧ k.depth ≤ 8 ∧ xs.length < 1000000 ∧ ∀ o' u, RelV z u → KdA D o' (storedH xs k b u) → Q (upd H D (ObO D o'))
def emO : Obj := { cls := .type "dict", data := .dict #[] }
theorem dset_K {X : Cx} (hu : KRoom X) : DSet X (stK X.K) := by
  intro Y e1 e2 e3 e4 pins σ H s E D y z u r Q I ry rz h
  obtain ⟨o, xs, k, b, rfl, hH, dk, kv, kd, hz, q⟩ := h
  cases (show u = Value.ref b from ry)
  rw [← e3] at dk kv
  have hl : (storedH xs k b r).length ≤ sizeLine := by
    have := storedH_length xs k b r
    rw [sizeLine_eq]
    omega
  rw [← e1, ← e2, ← e4]
  refine wpAny_dictSet_heap (knd := nestedKind Y.prog Y.w) (hsz := by rw [sizeLine_eq]; omega) (by show Y.A.units + 8 < cLine; rw [e4]; unfold KRoom at hu; omega) ⟨kv.nest I rfl, kd⟩ (dk.dictOfH I) fun h' dd' hs => ?_
  obtain ⟨o', g1, g2⟩ := kda_of (X := Y) (H := H) dd' dk.ka.ns (fun x hx w w' => by
    rcases storedH_mem hx with ⟨y, hy, e, _⟩ | rfl
    · rw [e]
      exact (dk.ky y hy).1.hash w w'
    · exact kv.hash w w') hl
  exact ⟨_, d_write I (by rw [hH]; exact True.intro) hs ⟨o', g1⟩ (obo_ok g1), q o' r rz g2⟩
theorem new_K {P : Program} {w : World} (H : Hp) (h : Heap) (hb : sysModules < h.objs.size) : ObjOk P w H (h.push { cls := .type "dict", data := .dict #[] }) h.objs.size (ObO h.objs.size emO) := obo_ok (Heap.get?_push_size _ rfl)
theorem dcX_it {o0 : Addr → HO} {st : DSt} {J : It} {n : Nat} {G : Hp → Prop} {Y : Nat → Hp → V → Hp → Prop} (w : Walk J n G Y) {g : TG} {tt : TT} {tk tv : TE} {vs : List Nat} {σ : L2.St} {H1 : Hp} {D : Addr} {Qd : Hp → Prop} (Pv : Nat → Hp → Prop) (h0 : Pv 0 (upd H1 D (o0 D))) (hG : ∀ i H, i ≤ n → Pv i H → G H)
    (hs : ∀ i x H H', i < n → Pv i H → Y i H x H' → g x (wipe σ vs) H' fun σ2 H2 => wipe σ2 vs = wipe σ vs ∧ tt σ2 H2 fun b H3 =>
      if b = true then tk σ2 H3 fun y H4 => tv σ2 H4 fun z H5 => st D y z H5 (Pv (i + 1)) else Pv (i + 1) H3) (hd : ∀ H, Pv n H → Qd H) :
    ∃ Wv : Nat → Nat → Hp → Prop, (∃ m, Wv 0 m (upd H1 D (o0 D))) ∧ ∀ i m H, Wv i m H →
      (J.stop i H ∧ Qd H) ∨ (J.go i H ∧ ∃ Nx : Hp → Prop, (∀ H', Nx H' → ∃ m', m' < m ∧ Wv (i + 1) m' H') ∧ ∀ x H', J.yld i H x H' → g x (wipe σ vs) H' fun σ2 H2 => wipe σ2 vs = wipe σ vs ∧ tt σ2 H2 fun b H3 =>
        if b = true then tk σ2 H3 fun y H4 => tv σ2 H4 fun z H5 => st D y z H5 Nx else Nx H3) := by
  refine ⟨fun i m H => m = n - i ∧ i ≤ n ∧ Pv i H, ⟨n, by simp, Nat.zero_le _, h0⟩, ?_⟩
  rintro i m H ⟨rfl, hi, p⟩
  have q := hG i H hi p
  by_cases hlt : i < n
  · exact .inr ⟨w.goes i H hlt q, Pv (i + 1), fun H' p' => ⟨n - (i + 1), by omega, rfl, hlt, p'⟩, fun x H' y => hs i x H H' hlt p (w.yields i H x H' hlt q y)⟩
  · have e : i = n := by omega
    subst e
    exact .inl ⟨w.stops H q, hd H p⟩
open Classical in
noncomputable def kcL (gd : List MO → Prop) (gg : GG) (gt : GB) (gk gv : GE) (δ : Ctx) : List D → List (D × D) → List MO → R (List (D × D))
  | [], acc, M => if gd M then .ok acc M else .bad
  | x :: xs, acc, M => if gd M then (match gg x δ M with
      | .nx δ1 M1 => match gt δ1 M1 with
        | .ok b M2 => if b = true then (match gk δ1 M2 with
            | .ok kd M3 => match gv δ1 M3 with
              | .ok d M4 => match tkey kd with
                | some k => if acc.length < 1000000 then kcL gd gg gt gk gv δ xs (kput acc k kd d) M4 else .bad
                | none => .bad
              | _ => .bad
            | _ => .bad) else kcL gd gg gt gk gv δ xs acc M2
        | _ => .bad
      | _ => .bad) else .bad
theorem kcL_gd {gd : List MO → Prop} {gg : GG} {gt : GB} {gk gv : GE} {δ : Ctx} {xs : List D} {acc : List (D × D)} {M : List MO} (h : kcL gd gg gt gk gv δ xs acc M ≠ .bad) : gd M := by
  by_cases c : gd M
  · exact c
  · exfalso
    apply h
    cases xs with
    | nil => unfold kcL; rw [if_neg c]
    | cons x xs => unfold kcL; rw [if_neg c]
def finK (kvs : List (D × D)) (M : List MO) : R D := .ok (.kdi (kvs.map fun p => p.1) (kvs.map fun p => p.2)) M
noncomputable def gKc (gi : GI) (gg : GG) (gt : GB) (gk gv : GE) (vs : List Nat) : GE := fun δ M => (gi δ M).bind fun it M1 => (kcL it.gd gg gt gk gv (wipeD δ vs) it.items [] M1).bind finK
theorem impE_kc {K : PySem.W.Frag} {mg : Str → Option Value} {W : WX} {wi : TI} {gi : GI} {is vs : List Nat} {gt : TG} {gg : GG} {tt : TT} {gb : GB} {tk tv : TE} {gk gv : GE} (hs : ∀ j ∈ is, j ∈ vs)
    (hi : ImpI K mg W wi gi) (hg : ImpG K mg W0 is gt gg) (ht : ImpT K mg W0 tt gb) (hk : ImpE K mg W0 tk gk) (he : ImpE K mg W0 tv gv) : ImpE K mg W (tDcX (fun D => ObO D emO) (stK K) wi gt tt tk tv vs) (gKc gi gg gb gk gv vs) := by
  intro σ H δ I as M P Q w en s
  refine hi σ H δ I as M P _ w en (Sat.bind s fun it M1 J H1 I1 as1 _ g1 w1 ok s1 => ?_)
  intro Dl hD big
  obtain ⟨G, Y, wk, hG, hY⟩ := ok
  obtain ⟨f1, f2, f3⟩ := w1.fresh hD
  have enw := (en.mono g1).wipe vs
  have nb : ∀ {i : Nat} {acc : List (D × D)} {M' : List MO} {I' : Hp} {as' : List Addr}, Sat K (Rep K) (fun c H' => lowW mg W c σ H') I' as' P Q ((kcL it.gd gg gb gk gv (wipeD δ vs) (it.items.drop i) acc M').bind finK) → it.gd M' := fun h => kcL_gd fun e => by
    rw [e] at h
    exact h
  refine dcX_it (o0 := fun D => ObO D emO) (st := stK K) (D := Dl) (H1 := H1) wk (fun i H' => ∃ acc o xs M' I' as', Gr I1 as1 I' as' ∧ Wr K H' I' as' M' (upd P Dl (ObO Dl o)) ∧ KdA Dl o xs ∧ KXs K I' as' xs (acc.map fun p => p.1) (acc.map fun p => p.2) ∧ Sat K (Rep K) (fun c H' => lowW mg W c σ H') I' as' P Q ((kcL it.gd gg gb gk gv (wipeD δ vs) (it.items.drop i) acc M').bind finK))
    ⟨[], emO, [], M1, I1, as1, Gr.refl _ _, w1.newP hD (ObO Dl emO), kda_new big, .nil, by rw [List.drop_zero]; exact s1⟩ ?_ ?_ ?_
  · rintro i H' hi ⟨acc, o, xs, M', I', as', g', w', q', r', s'⟩
    exact hG H' I' as' M' _ (PLe.upd f2) g' w' (nb s')
  · rintro i x H' H2 hi ⟨acc, o, xs, M', I', as', g', w', q', r', s'⟩ y
    have hgd := nb s'
    obtain ⟨I2, d, g2, w2, hd, rd⟩ := hY i x H' H2 I' as' M' _ hi (PLe.upd f2) g' w' hgd y
    have ed : it.items.drop i = d :: it.items.drop (i + 1) := by
      rw [List.drop_eq_getElem_cons hi]
      have := List.getElem?_eq_getElem hi
      rw [hd] at this
      rw [← Option.some.inj this]
    rw [ed] at s'
    unfold kcL at s'
    rw [if_pos hgd] at s'
    refine hg x d (wipe σ vs) H2 (wipeD δ vs) I2 as' M' _ _ w2 (enw.mono (g'.trans g2)) rd ?_
    have s2 := Sat.gr g2 s'
    cases e1 : gg d (wipeD δ vs) M' with
    | nx δ1 M1 =>
      simp only [e1] at s2
      intro σ3 H3 I3 as3 g3 w3 en3 k3
      refine ⟨wipe_kept hs k3, ?_⟩
      refine ht σ3 H3 δ1 I3 as3 M1 _ _ w3 en3 ?_
      have s3 := Sat.gr g3 s2
      cases e2 : gb δ1 M1 with
      | ok b M2 =>
        simp only [e2] at s3
        intro b' H4 I4 as4 g4 w4 eb
        subst eb
        have s4 := Sat.gr g4 s3
        cases b' with
        | true =>
          simp only [if_true] at s4 ⊢
          refine hk σ3 H4 δ1 I4 as4 M2 _ _ w4 (en3.mono g4) ?_
          cases e3 : gk δ1 M2 with
          | ok d5 M5 =>
            simp only [e3] at s4
            intro v5 H5 I5 as5 g5 w5 r5
            have s5 := Sat.gr g5 s4
            refine he σ3 H5 δ1 I5 as5 M5 _ _ w5 (en3.mono (g4.trans g5)) ?_
            cases e4 : gv δ1 M5 with
            | ok d6 M6 =>
              simp only [e4] at s5
              intro v6 H6 I6 as6 g6 w6 r6
              have s6 := Sat.gr g6 s5
              split at s6
              · rename_i k hkey
                split at s6
                · rename_i hb
                  have ga := (g2.trans (g3.trans (g4.trans (g5.trans g6))))
                  have hP := (w6.prv Dl _ upd_same).1
                  obtain ⟨ds, rfl, k1, k2⟩ := tkey_of hkey
                  have r5' := r5.mono g6
                  have kv := r5'.key w6 k1
                  have kx := r'.mono ga
                  cases r5' with
                  | @tup b5 vs5 _ hb5 rb5 =>
                    have hlen : xs.length = acc.length := by
                      have := r'.len.1
                      simpa using this.symm
                    refine ⟨o, xs, k, b5, rfl, hP, ⟨.inl hP, q', kx.keys w6⟩, kv, k2, by omega, fun o' u ru ka => ?_⟩
                    refine ⟨kput acc k (.tup ds) d6, o', storedH xs k b5 u, M6, I6, as6, g'.trans ga, ?_, ka, kx.put q'.nd hkey (.tup hb5 rb5) ru r6, s6⟩
                    have z := w6.putP (p := Dl) upd_same (ObO Dl o')
                    rw [upd_upd] at z
                    exact z
                · exact s6.elim
              · exact s6.elim
            | bad => simp only [e4] at s5; exact s5.elim
            | ex c M6 => simp only [e4] at s5; exact s5.elim
          | bad => simp only [e3] at s4; exact s4.elim
          | ex c M5 => simp only [e3] at s4; exact s4.elim
        | false =>
          simp only [if_neg Bool.false_ne_true] at s4 ⊢
          have ga := (g2.trans (g3.trans g4))
          exact ⟨acc, o, xs, M2, I4, as4, g'.trans ga, w4, q', r'.mono ga, s4⟩
      | bad => simp only [e2] at s3; exact s3.elim
      | ex c M5 => simp only [e2] at s3; exact s3.elim
    | bad => simp only [e1] at s2; exact s2.elim
    | rt _ _ => simp only [e1] at s2; exact s2.elim
    | bk _ _ => simp only [e1] at s2; exact s2.elim
    | ct _ _ => simp only [e1] at s2; exact s2.elim
    | ex _ _ _ => simp only [e1] at s2; exact s2.elim
  · rintro H' ⟨acc, o, xs, M', I', as', g', w', q', r', s'⟩
    have hgd := nb s'
    rw [List.drop_length] at s'
    unfold kcL at s'
    rw [if_pos hgd] at s'
    obtain ⟨w'', g''⟩ := w'.giveI f2
    exact s' _ _ _ _ g'' w'' (.kdi upd_same q' (r'.mono g''))
section
variable {X : Cx} {W : WX} {tg iter kx vx : Expr} {ifs : List Expr} {scope : Scope} {pos : Pos} {wi : TI} {gi : GI} {is : List Nat} {gt : TG} {gg : GG} {tt : TT} {gb : GB} {tk tv : TE} {gk gv : GE}
theorem xe_kc (own : List (Str × Nat)) (hu : KRoom X) (hc : X.calm = true) (hN : X.N.Nodup) (hi : XI X W tg iter wi gi) (ok : BlkOk X.N X.env.scope scope own)
    (hg : ∀ (s : Shared) (H : Hp) (C : Addr) (cl : List (Str × Addr)) (fp : List Addr), XG (X.blk s H scope (compEnvC scope cl C X.env) fp) W0 tg is gt gg) (ht : ∀ (s : Shared) (H : Hp) (C : Addr) (cl : List (Str × Addr)) (fp : List Addr), XTs (X.blk s H scope (compEnvC scope cl C X.env) fp) W0 ifs tt gb)
    (hk : ∀ (s : Shared) (H : Hp) (C : Addr) (cl : List (Str × Addr)) (fp : List Addr), XE (X.blk s H scope (compEnvC scope cl C X.env) fp) W0 kx tk gk)
    (he : ∀ (s : Shared) (H : Hp) (C : Addr) (cl : List (Str × Addr)) (fp : List Addr), XE (X.blk s H scope (compEnvC scope cl C X.env) fp) W0 vx tv gv) (hsub : ∀ j ∈ is, j ∈ own.map (·.2) := by decide) (hs : ∀ x, foldedSetIterable iter X.env x = pure x := by intro _; rfl) :
    XE X W (.DictComp kx vx [⟨tg, iter, ifs, 0⟩] scope pos) (tDcX (fun D => ObO D emO) (stK X.K) wi gt tt tk tv (own.map (·.2))) (gKc gi gg gb gk gv (own.map (·.2))) :=
  ⟨pe_dcX new_K (dset_K hu) hc hN hi.pe ok (fun s H C cl fp => (hg s H C cl fp).pe) (fun s H C cl fp => (ht s H C cl fp).pe) (fun s H C cl fp => (hk s H C cl fp).pe) (fun s H C cl fp => (he s H C cl fp).pe) hs,
    impE_kc hsub hi.im (hg X.s_0 X.H_0 0 [] []).im (ht X.s_0 X.H_0 0 [] []).im (hk X.s_0 X.H_0 0 [] []).im (he X.s_0 X.H_0 0 [] []).im⟩
end
/-! ### walks of dicts that never change, or are locked -/
def kkeys (kvs : List (D × D)) : List D := kvs.map fun p => p.1
def kvals (kvs : List (D × D)) : List D := kvs.map fun p => p.2
def kitems (kvs : List (D × D)) : List D := kvs.map fun p => .tup [p.1, p.2]
def kiOf (M : List MO) : D → Option (List (D × D))
  | .kdi ks ds => some (ks.zip ds)
  | .ref k => match M[k]? with
    | some (.kdl kvs) => some kvs
    | _ => none
  | _ => none
def giK (f : List (D × D) → List D) (ge : GE) : GI := fun δ M => (ge δ M).bind fun x M1 => match kiOf M1 x with
  | some kvs => .ok (itT (f kvs)) M1
  | none => .bad
theorem kpin {K : PySem.W.Frag} {H I P : Hp} {as : List Addr} {M : List MO} (w : Wr K H I as M P) {v : V} {d : D} {kvs : List (D × D)} (r : Rep K I as v d) (h : kiOf M d = some kvs) :
    ∃ a o xs, v = V.ref a ∧ KdA a o xs ∧ KXs K I as xs (kvs.map fun p => p.1) (kvs.map fun p => p.2) ∧ ∀ {H' I' P' : Hp} {as' : List Addr} {M' : List MO}, PLe P P' → Gr I as I' as' → Wr K H' I' as' M' P' → Rd H' a (ObO a o) := by
  cases r with
  | @kdi a o xs ks ds h1 h2 h3 =>
    cases h
    obtain ⟨l1, l2⟩ := h3.len
    have e1 : (ks.zip ds).map (fun p => p.1) = ks := by rw [show (fun p : D × D => p.1) = Prod.fst from rfl, List.map_fst_zip (by omega)]
    have e2 : (ks.zip ds).map (fun p => p.2) = ds := by rw [show (fun p : D × D => p.2) = Prod.snd from rfl, List.map_snd_zip (by omega)]
    rw [e1, e2]
    exact ⟨a, o, xs, rfl, h2, h3, fun _ g w' => .inl (w'.sub _ _ (g.sub _ _ h1))⟩
  | @ref k a h1 =>
    obtain ⟨o, ho, _, fr, m⟩ := w.at h1
    have h : (match M[k]? with
      | some (.kdl kvs) => some kvs
      | _ => none) = some kvs := h
    rw [ho] at h
    cases o with
    | lst xs => cases h
    | dct ks => cases h
    | dlk ks => cases h
    | kd ks => cases h
    | kdl ks =>
      cases h
      obtain ⟨ob, o, e1, xs, e2, rr⟩ := m
      obtain ⟨ob', o', hp⟩ := fr
      have e3 := (w.prv a _ hp).1
      rw [e1] at e3
      have e4 := Option.some.inj e3
      injection e4 with e5 e6
      refine ⟨a, o, xs, rfl, e2, rr, fun pl _ w' => .inr ⟨ob', ?_⟩⟩
      rw [e6]
      exact (w'.prv a _ (pl a _ _ hp)).1
  | _ => cases h
theorem KXs.vals {K : PySem.W.Frag} {I : Hp} {as : List Addr} : ∀ {xs : KX} {ks ds : List D}, KXs K I as xs ks ds → ∃ vs, VKs vs xs ∧ Reps K I as vs ds
  | _, _, _, .nil => ⟨[], .nil, .nil⟩
  | _, _, _, .cons a b c d r => let ⟨vs, h1, h2⟩ := KXs.vals r; ⟨_ :: vs, .cons c h1, .cons d h2⟩
theorem KXs.kat {K : PySem.W.Frag} {I : Hp} {as : List Addr} : ∀ {xs : KX} {ks ds : List D} {i : Nat} {y : NestedKey × Addr × Value}, KXs K I as xs ks ds → xs[i]? = some y → ∃ k, ks[i]? = some k ∧ Rep K I as (.ref y.2.1) k
  | _, _, _, _, _, .nil, h => by simp at h
  | _, _, _, 0, _, .cons a b c d r, h => by
    simp at h
    subst h
    exact ⟨_, rfl, a⟩
  | _, _, _, i + 1, _, .cons a b c d r, h => KXs.kat (i := i) r (by simpa using h)
section
variable {X : Cx} {W : WX} {tg e : Expr} {te : TE} {ge : GE} {apos cpos tpos : Pos} {elts : List Expr} {kk : Nat}
theorem kx_len {K : PySem.W.Frag} {I : Hp} {as : List Addr} {xs : KX} {kvs : List (D × D)} (h : KXs K I as xs (kvs.map fun p => p.1) (kvs.map fun p => p.2)) : kvs.length = xs.length := by simpa using h.len.1
theorem xi_kkeys (he : XE X W e te ge) : XI X W tg e (iKK te) (giK kkeys ge) := by
  refine ⟨pi_kkeys he.pe, fun σ H δ I as M P Q w en s => ?_⟩
  refine he.im σ H δ I as M P _ w en (Sat.bind s fun d M1 v H1 I1 as1 _ g1 w1 r1 s1 => ?_)
  split at s1
  · rename_i kvs hk
    obtain ⟨a, o, xs, rfl, ka, kx, rd⟩ := kpin w1 r1 hk
    refine ⟨a, o, xs, rfl, rd (PLe.refl P) (Gr.refl _ _) w1, ka, s1 _ H1 I1 as1 (Gr.refl _ _) w1 ⟨fun H => Rd H a (ObO a o), fun i H x H' => H' = H ∧ ∃ y, xs[i]? = some y ∧ x = .ref y.2.1, ?_, fun H' I' as' M' P' pl g w' _ => rd pl g w', ?_⟩⟩
    · rw [show (itT (kkeys kvs)).items.length = xs.length by rw [← kx_len kx]; simp [itT, kkeys]]
      exact ⟨fun _ _ hi q => ⟨q, hi⟩, fun _ q => ⟨q, Nat.le_refl _⟩, fun _ _ _ _ _ _ y => y⟩
    · rintro i x H' H2 I' as' M' P' hi pl g w' _ ⟨rfl, y, hy, rfl⟩
      obtain ⟨k, hk, rk⟩ := kx.kat hy
      exact ⟨I', k, Gr.refl _ _, w', hk, rk.mono g⟩
  · exact s1.elim
theorem xi_kvals (he : XE X W e te ge) (hbase : attributeBase e "values" X.env (eval e X.env) = eval e X.env := by rfl) (hline : (apos.endLine == cpos.line) = true := by rfl) : XI X W tg (.Call (.Attribute e "values" apos) [] [] cpos) (iKV te) (giK kvals ge) := by
  refine ⟨pi_kvalues he.pe hbase hline, fun σ H δ I as M P Q w en s => ?_⟩
  refine he.im σ H δ I as M P _ w en (Sat.bind s fun d M1 v H1 I1 as1 _ g1 w1 r1 s1 => ?_)
  split at s1
  · rename_i kvs hk
    obtain ⟨a, o, xs, rfl, ka, kx, rd⟩ := kpin w1 r1 hk
    obtain ⟨vs, vk, rv⟩ := kx.vals
    refine ⟨a, o, xs, vs, rfl, rd (PLe.refl P) (Gr.refl _ _) w1, ka, vk, s1 _ H1 I1 as1 (Gr.refl _ _) w1 ⟨fun H => Rd H a (ObO a o), fun i H x H' => H' = H ∧ vs[i]? = some x, ?_, fun H' I' as' M' P' pl g w' _ => rd pl g w', ?_⟩⟩
    · rw [show (itT (kvals kvs)).items.length = xs.length by rw [← kx_len kx]; simp [itT, kvals]]
      exact ⟨fun _ _ hi q => ⟨q, hi⟩, fun _ q => ⟨q, Nat.le_refl _⟩, fun _ _ _ _ _ _ y => y⟩
    · rintro i x H' H2 I' as' M' P' hi pl g w' _ ⟨rfl, hy⟩
      obtain ⟨d, e1, e2⟩ := rv.get' hy
      exact ⟨I', d, Gr.refl _ _, w', e1, e2.mono g⟩
  · exact s1.elim
theorem xi_kitems (he : XE X W e te ge) (hbase : attributeBase e "items" X.env (eval e X.env) = eval e X.env := by rfl) (hline : (apos.endLine == cpos.line) = true := by rfl) : XI X W (.Tuple elts kk tpos) (.Call (.Attribute e "items" apos) [] [] cpos) (iKI te) (giK kitems ge) := by
  refine ⟨pi_kitems he.pe hbase hline, fun σ H δ I as M P Q w en s => ?_⟩
  refine he.im σ H δ I as M P _ w en (Sat.bind s fun d M1 v H1 I1 as1 _ g1 w1 r1 s1 => ?_)
  split at s1
  · rename_i kvs hk
    obtain ⟨a, o, xs, rfl, ka, kx, rd⟩ := kpin w1 r1 hk
    obtain ⟨vs, vk, rv⟩ := kx.vals
    refine ⟨a, o, xs, vs, rfl, rd (PLe.refl P) (Gr.refl _ _) w1, ka, vk, s1 _ H1 I1 as1 (Gr.refl _ _) w1 ⟨fun H => Rd H a (ObO a o), fun i H x H' => ∃ T y v, xs[i]? = some y ∧ vs[i]? = some v ∧ x = .ref T ∧ H T = none ∧ H' = upd H T (.tup [.ref y.2.1, v]), ?_, fun H' I' as' M' P' pl g w' _ => rd pl g w', ?_⟩⟩
    · rw [show (itT (kitems kvs)).items.length = xs.length by rw [← kx_len kx]; simp [itT, kitems]]
      exact ⟨fun _ _ hi q => ⟨q, hi⟩, fun _ q => ⟨q, Nat.le_refl _⟩, fun _ _ _ _ _ _ y => y⟩
    · rintro i x H' H2 I' as' M' P' hi pl g w' _ ⟨T, y, v, hy, hv, rfl, hT, rfl⟩
      obtain ⟨k, hk, rk⟩ := kx.kat hy
      obtain ⟨d, e1, e2⟩ := rv.get' hv
      obtain ⟨w2, g2⟩ := w'.newI hT (.tup [.ref y.2.1, v])
      have hp : ∃ p, kvs[i]? = some p ∧ p.1 = k ∧ p.2 = d := by
        rw [List.getElem?_map] at hk e1
        cases hq : kvs[i]? with
        | none => rw [hq] at hk; cases hk
        | some p =>
          rw [hq] at hk e1
          exact ⟨p, rfl, Option.some.inj hk, Option.some.inj e1⟩
      obtain ⟨p, p1, rfl, rfl⟩ := hp
      exact ⟨_, .tup [p.1, p.2], g2, w2, by show (kvs.map _)[i]? = _; rw [List.getElem?_map, p1]; rfl, .tup (.of upd_same) (.cons (rk.mono (g.trans g2)) (.cons (e2.mono (g.trans g2)) .nil))⟩
  · exact s1.elim
end
end KM
set_option Elab.async false
set_option linter.all false
set_option maxRecDepth 100000
set_option maxHeartbeats 2000000
/-! dict comprehensions with two fors -/
namespace KM
open PySem L2 PySem.Spec PyProof.Rows
section
variable {prog : Program} {w : World} {A : Around} {R : Result → Shared → Prop} {s : Shared} {kx vx t0 i0 t1 i1 : Expr} {ifs0 ifs1 : List Expr} {scope : Scope} {pos : Pos} {it : Value} {Dd : Addr} {env : Env}
abbrev dcE (kx vx t0 i0 : Expr) (ifs0 : List Expr) (t1 i1 : Expr) (ifs1 : List Expr) (scope : Scope) (pos : Pos) : Expr := .DictComp kx vx [⟨t0, i0, ifs0, 0⟩, ⟨t1, i1, ifs1, 0⟩] scope pos
theorem turn2_out : compTurn (dcE kx vx t0 i0 ifs0 t1 i1 ifs1 scope pos) 0 it (.ref Dd) env = (do
      standAt i0.pos
      match ← pyNext it with
      | none => pure (.done .next)
      | some v =>
        letOwnedTupleGo t0 it v
        assign t0 env v
        let mut ok := true
        for c in ifs0 do
          if ok then ok ← isTrue c env (eval c env)
        if ok then
          let x ← eval i1 env
          standAt i1.pos
          let x ← foldedSetIterable i1 env x
          let _ ← runOwn (.compStart (dcE kx vx t0 i0 ifs0 t1 i1 ifs1 scope pos) 1 (← holding [x] (pyIter x)) (.ref Dd) env) env
        again (.compLoop (dcE kx vx t0 i0 ifs0 t1 i1 ifs1 scope pos) 0 it (.ref Dd) env)) := by rfl
theorem turn2_in : compTurn (dcE kx vx t0 i0 ifs0 t1 i1 ifs1 scope pos) 1 it (.ref Dd) env = (do
      standAt i1.pos
      match ← pyNext it with
      | none => pure (.done .next)
      | some v =>
        letOwnedTupleGo t1 it v
        assign t1 env v
        let mut ok := true
        for c in ifs1 do
          if ok then ok ← isTrue c env (eval c env)
        if ok then
          (do
            let kv ← eval kx env
            let vv ← holding [kv] (eval vx env)
            standAt { kx.pos with endLine := vx.pos.endLine, endCol := vx.pos.endCol }
            holding [kv, vv] (dictSet Dd kv vv))
        again (.compLoop (dcE kx vx t0 i0 ifs0 t1 i1 ifs1 scope pos) 1 it (.ref Dd) env)) := by rfl
/-- an error is noted, then told -/
abbrev ErrK (prog : Program) (w : World) (A : Around) (env : Env) (R : Result → Shared → Prop) : Value → Shared → Prop := notedBy (model prog w) A env fun e s' => R (.error e) s'
/-- the tests of a clause -/
abbrev testsOf (ifs : List Expr) (env : Env) : Sem Bool := forIn ifs true fun c r => if r = true then do let ok ← isTrue c env (eval c env); pure (ForInStep.yield ok) else pure (ForInStep.yield r)
theorem loop2_out (hs : ∀ x, foldedSetIterable i1 env x = pure x) (I : Nat → Shared → Prop)
    (turn : ∀ n s, I n s → wpAny (model prog w) A (pyNext it) (fun r s₁ => match r with
      | none => R (.ok .next) s₁
      | some v => wpAny (model prog w) A (letOwnedTupleGo t0 it v) (fun _ s₁' => wpAny (model prog w) A (assign t0 env v) (fun _ s₂ => wpAny (model prog w) A (testsOf ifs0 env) (fun ok s₃ =>
            if ok = true then wpAny (model prog w) A (eval i1 env) (fun x s₄ => wpAny (model prog w) A (pyIter x) (fun it1 s₅ =>
              codeAny (model prog w) A (.compStart (dcE kx vx t0 i0 ifs0 t1 i1 ifs1 scope pos) 1 it1 (.ref Dd) env) (fun r s' => match r with
                | .ok _ => ∃ m, m < n ∧ I m s'
                | .error _ => False) s₅) (ErrK prog w A env R) s₄) (ErrK prog w A env R) s₃
            else ∃ m, m < n ∧ I m s₃) (ErrK prog w A env R) s₂) (ErrK prog w A env R) s₁') (ErrK prog w A env R) s₁) (ErrK prog w A env R) s)
    (n : Nat) (h : I n s) : codeAny (model prog w) A (.compLoop (dcE kx vx t0 i0 ifs0 t1 i1 ifs1 scope pos) 0 it (.ref Dd) env) R s := by
  refine codeAny_loop rfl I (fun n s hI => ?_) n h
  show wpAny _ A ((compTurn (dcE kx vx t0 i0 ifs0 t1 i1 ifs1 scope pos) 0 it (.ref Dd) env).onRaise (fun x => do noteFrame x env; theTreesLotGoes x)) _ _ s
  refine wpAny_noted ?_
  rw [turn2_out]
  refine wpAny_bind (wpAny_standAt (wpAny_bind (wpAny_mono (turn n s hI) (fun r s₁ h₁ => ?_) fun _ _ h' => h')))
  cases r with
  | none => exact wpAny_pure h₁
  | some v =>
    refine wpAny_bind (wpAny_mono h₁ (fun _ s₁' h₁' => wpAny_bind (wpAny_mono h₁' (fun _ s₂ h₂ => wpAny_bind (wpAny_mono h₂ (fun ok s₃ h₃ => ?_) fun _ _ h' => h')) fun _ _ h' => h')) fun _ _ h' => h')
    cases ok with
    | false => exact wpAny_pure ⟨rfl, h₃⟩
    | true =>
      refine wpAny_bind (wpAny_mono h₃ (fun x s₄ h₄ => ?_) fun _ _ h' => h')
      refine wpAny_bind (wpAny_standAt (wpAny_bind (wpAny_of_eq (hs x) (wpAny_bind (wpAny_holding (wpAny_mono h₄ (fun it1 s₅ h₅ => ?_) fun _ _ h' => h'))))))
      refine wpAny_bind (wpAny_runOwn ?_)
      rw [Around.mark_none]
      refine codeAny_mono h₅ fun r s' hr => ?_
      cases r with
      | ok f =>
        first
          | exact wpAny_pure ⟨rfl, hr⟩
          | exact wpAny_bind (wpAny_pure (wpAny_pure ⟨rfl, hr⟩))
      | error e => exact hr.elim
theorem loop2_in (I : Nat → Shared → Prop)
    (turn : ∀ n s, I n s → wpAny (model prog w) A (pyNext it) (fun r s₁ => match r with
      | none => R (.ok .next) s₁
      | some v => wpAny (model prog w) A (letOwnedTupleGo t1 it v) (fun _ s₁' => wpAny (model prog w) A (assign t1 env v) (fun _ s₂ => wpAny (model prog w) A (testsOf ifs1 env) (fun ok s₃ =>
            if ok = true then wpAny (model prog w) A (eval kx env) (fun kv s₄ => wpAny (model prog w) A (eval vx env) (fun vv s₅ =>
              wpAny (model prog w) A (dictSet Dd kv vv) (fun _ s₆ => ∃ m, m < n ∧ I m s₆) (ErrK prog w A env R) s₅) (ErrK prog w A env R) s₄) (ErrK prog w A env R) s₃
            else ∃ m, m < n ∧ I m s₃) (ErrK prog w A env R) s₂) (ErrK prog w A env R) s₁') (ErrK prog w A env R) s₁) (ErrK prog w A env R) s)
    (n : Nat) (h : I n s) : codeAny (model prog w) A (.compLoop (dcE kx vx t0 i0 ifs0 t1 i1 ifs1 scope pos) 1 it (.ref Dd) env) R s := by
  refine codeAny_loop rfl I (fun n s hI => ?_) n h
  show wpAny _ A ((compTurn (dcE kx vx t0 i0 ifs0 t1 i1 ifs1 scope pos) 1 it (.ref Dd) env).onRaise (fun x => do noteFrame x env; theTreesLotGoes x)) _ _ s
  refine wpAny_noted ?_
  rw [turn2_in]
  refine wpAny_bind (wpAny_standAt (wpAny_bind (wpAny_mono (turn n s hI) (fun r s₁ h₁ => ?_) fun _ _ h' => h')))
  cases r with
  | none => exact wpAny_pure h₁
  | some v =>
    refine wpAny_bind (wpAny_mono h₁ (fun _ s₁' h₁' => wpAny_bind (wpAny_mono h₁' (fun _ s₂ h₂ => wpAny_bind (wpAny_mono h₂ (fun ok s₃ h₃ => ?_) fun _ _ h' => h')) fun _ _ h' => h')) fun _ _ h' => h')
    cases ok with
    | false => exact wpAny_pure ⟨rfl, h₃⟩
    | true =>
      exact wpAny_bind (wpAny_bind (wpAny_mono h₃ (fun kv s₄ h₄ => wpAny_bind (wpAny_holding (wpAny_mono h₄ (fun vv s₅ h₅ => wpAny_bind (wpAny_standAt (wpAny_holding (wpAny_mono h₅ (fun _ s₆ h₆ => wpAny_pure ⟨rfl, h₆⟩) fun _ _ h' => h')))) fun _ _ h' => h'))) fun _ _ h' => h'))
theorem start2 (h0 : codeAny (model prog w) A (.compLoop (dcE kx vx t0 i0 ifs0 t1 i1 ifs1 scope pos) 1 it (.ref Dd) env) R s)
    (h : wpAny (model prog w) A (pyIter it) (fun it' s' => codeAny (model prog w) A (.compLoop (dcE kx vx t0 i0 ifs0 t1 i1 ifs1 scope pos) 1 it' (.ref Dd) env) R s') (ErrK prog w A env R) s) :
    codeAny (model prog w) A (.compStart (dcE kx vx t0 i0 ifs0 t1 i1 ifs1 scope pos) 1 it (.ref Dd) env) R s := by
  refine codeAny_of_tree ?_
  show wpAny _ _ ((compStart (dcE kx vx t0 i0 ifs0 t1 i1 ifs1 scope pos) 1 it (.ref Dd) env).onRaise (fun x => do noteFrame x env; standAt theWindowsPlace)) _ _ s
  refine wpAny_notedAt ?_
  unfold compStart
  show wpAny _ _ (ask >>= _) _ _ s
  refine wpAny_bind (wpAny_askSetting (wpAny_ite ?_))
  split
  · first
      | exact wpAny_bind (wpAny_pure (wpAny_pure (And.intro rfl h0)))
      | exact wpAny_pure (And.intro rfl h0)
  · first
      | exact wpAny_bind (wpAny_rule (wpAny_bind (wpAny_standAt (wpAny_bind (wpAny_mono h (fun it' s' h' => wpAny_pure (And.intro rfl h')) fun _ _ x => x)))))
      | (refine wpAny_bind (wpAny_rule ?_); show wpAny _ _ (standAt i1.pos >>= _) _ _ s; exact wpAny_bind (wpAny_standAt (wpAny_bind (wpAny_mono h (fun it' s' h' => wpAny_pure (And.intro rfl h')) fun _ _ x => x))))
end
/-- what the second clause's loop asks -/
def tIn2 (st : DSt) (D : Addr) (wi1 : TI) (g1 : TG) (tt1 : TT) (tk tv : TE) (vs1 : List Nat) (Nx : Hp → Prop) : L2.St → Hp → Prop := fun σ2 H3 =>
  wi1 σ2 H3 fun J1 H4 => ∃ W1 : Nat → Nat → Hp → Prop, (∃ m, W1 0 m H4) ∧ ∀ j k H, W1 j k H →
      (J1.stop j H ∧ Nx H) ∨ (J1.go j H ∧ ∃ Nx1 : Hp → Prop, (∀ H', Nx1 H' → ∃ k', k' < k ∧ W1 (j + 1) k' H') ∧ ∀ x H', J1.yld j H x H' → g1 x (wipe σ2 vs1) H' fun σ3 H5 => wipe σ3 vs1 = wipe σ2 vs1 ∧ tt1 σ3 H5 fun b H6 =>
        if b = true then tk σ3 H6 fun y H7 => tv σ3 H7 fun z H8 => st D y z H8 Nx1 else Nx1 H6)
def tDc2X (o0 : Addr → HO) (st : DSt) (wi : TI) (g : TG) (tt : TT) (wi1 : TI) (g1 : TG) (tt1 : TT) (tk tv : TE) (vs vs1 : List Nat) : TE := fun σ H Q => wi σ H fun J H1 => ∀ D, H1 D = none → sysModules < D → ∃ Wv : Nat → Nat → Hp → Prop, (∃ m, Wv 0 m (upd H1 D (o0 D))) ∧ ∀ i m H, Wv i m H →
  (J.stop i H ∧ Q (.ref D) H) ∨ (J.go i H ∧ ∃ Nx : Hp → Prop, (∀ H', Nx H' → ∃ m', m' < m ∧ Wv (i + 1) m' H') ∧ ∀ x H', J.yld i H x H' → g x (wipe σ vs) H' fun σ2 H2 => wipe σ2 vs = wipe σ vs ∧ tt σ2 H2 fun b H3 =>
    if b = true then tIn2 st D wi1 g1 tt1 tk tv vs1 Nx σ2 H3 else Nx H3)
section
variable {X : Cx}
theorem dc2X_core {pins : List (Addr × Obj)} {s : Shared} {σ : L2.St} {H : Hp} {Q : VK} {pos' : Pos} {use : Option (Value → Sem Unit)} {Qf : Value → Shared → Prop} {o0 : Addr → HO} {st : DSt} {kx vx tg iter tg1 iter1 : Expr} {ifs ifs1 : List Expr} {scope : Scope} {own : List (Str × Nat)} {vs1 : List Nat} {pos : Pos} {wi wi1 : TI} {g g1 : TG} {tt tt1 : TT} {tk tv : TE} (hnew : ∀ (H : Hp) (h : Heap), sysModules < h.objs.size → ObjOk X.prog X.w H (h.push { cls := .type "dict", data := .dict #[] }) h.objs.size (o0 h.objs.size)) (hset : DSet X st)
    (hc : X.calm = true) (hN : X.N.Nodup) (hi : PI X tg iter wi) (ok : BlkOk X.N X.env.scope scope own) (hv : ∀ i ∈ vs1, i ∈ own.map (·.2))
    (hg : ∀ (s : Shared) (H : Hp) (C : Addr) (cl : List (Str × Addr)) (fp : List Addr), PG (X.blk s H scope (compEnvC scope cl C X.env) fp) tg g) (ht : ∀ (s : Shared) (H : Hp) (C : Addr) (cl : List (Str × Addr)) (fp : List Addr), PTs (X.blk s H scope (compEnvC scope cl C X.env) fp) ifs tt)
    (hi1 : ∀ (s : Shared) (H : Hp) (C : Addr) (cl : List (Str × Addr)) (fp : List Addr), PI (X.blk s H scope (compEnvC scope cl C X.env) fp) tg1 iter1 wi1)
    (hg1 : ∀ (s : Shared) (H : Hp) (C : Addr) (cl : List (Str × Addr)) (fp : List Addr), PG (X.blk s H scope (compEnvC scope cl C X.env) fp) tg1 g1) (ht1 : ∀ (s : Shared) (H : Hp) (C : Addr) (cl : List (Str × Addr)) (fp : List Addr), PTs (X.blk s H scope (compEnvC scope cl C X.env) fp) ifs1 tt1)
    (hk : ∀ (s : Shared) (H : Hp) (C : Addr) (cl : List (Str × Addr)) (fp : List Addr), PE (X.blk s H scope (compEnvC scope cl C X.env) fp) kx tk)
    (he : ∀ (s : Shared) (H : Hp) (C : Addr) (cl : List (Str × Addr)) (fp : List Addr), PE (X.blk s H scope (compEnvC scope cl C X.env) fp) vx tv) (hs : ∀ x, foldedSetIterable iter X.env x = pure x) (hs1 : ∀ env x, foldedSetIterable iter1 env x = pure x)
    (I : Inv X pins σ H s) (h : tDc2X o0 st wi g tt wi1 g1 tt1 tk tv (own.map (·.2)) vs1 σ H Q)
    (hRR : ∀ D C s' m H', Inv X pins σ H' s' → Q (.ref D) H' → s'.heap.Ns C m → FpOk X pins H' C → compPost (model X.prog X.w) X.A X.xe use Qf (.ref D) C (.ok .next) s') :
    wpAny (model X.prog X.w) X.A (comprehension (.DictComp kx vx [⟨tg, iter, ifs, 0⟩, ⟨tg1, iter1, ifs1, 0⟩] scope pos) scope X.env pos' newDict false (eval iter X.env) use) Qf X.xe s := by
  have hfree : ∀ y ∈ scope.names, y.2 = .free → ∃ c, X.env.cells.lookup y.1 = some c := fun y hy e => (ok.free y hy e).elim (fun k => I.ok.has _ (.inl k)) fun k => I.ok.has _ (.inr k)
  refine wpAny_comprehension_free (use := use) rfl hs (closure_ok hfree) ok.kind (fun y hy e => by rw [ok.uniq y hy, e]) (thn (hi.run pins s σ H _ I h) fun xv s1 hx => thn hx fun itv s2 h2 => ?_)
  obtain ⟨it, fp, tn, J, H2, rfl, I2, T, st2, f2, q⟩ := h2
  refine wpAny_newObj_type (newEnv_comp ?_)
  generalize hD' : s2.heap.objs.size = D
  have hD := hD'.symm
  have big : sysModules < D := by rw [hD]; exact I2.big
  have hDn : H2 D = none := I2.hok.fresh (Nat.le_of_eq hD.symm)
  obtain ⟨Wv, ⟨m0, w0⟩, turn⟩ := q D hDn big
  generalize hs3' : ({ s2 with heap := s2.heap.push { cls := .type "dict", data := .dict #[] } } : Shared) = s3
  have hs3 := hs3'.symm
  have h3 : s3.heap = s2.heap.push { cls := .type "dict", data := .dict #[] } := by rw [hs3]
  obtain ⟨H3, hH3⟩ : ∃ H3, H3 = upd H2 D (o0 D) := ⟨_, rfl⟩
  rw [← hH3] at w0
  have I3 : Inv X pins σ H3 s3 := by
    rw [hs3, hH3]
    refine I2.laid (t' := s2.toks) (fun b o e => Heap.get?_push_of_some _ e) (Nat.le_of_eq hD.symm) ?_
    rw [hD]
    exact hnew _ s2.heap I2.big
  have f3 : ∀ b ∈ fp, FpOk X pins H3 b ∧ b < s3.heap.objs.size := fun b hb => by
    obtain ⟨o, e, _⟩ := T.obj _ _ st2 b hb
    have hlt := Heap.lt_size e
    refine ⟨⟨?_, (f2 b hb).2⟩, by rw [h3, Heap.size_push]; exact Nat.lt_succ_of_lt hlt⟩
    rw [hH3, upd_ne (by rw [hD]; exact Nat.ne_of_lt hlt)]
    exact (f2 b hb).1
  have st3 : tn 0 s3.heap := T.keep _ _ _ st2 fun b _ o e => by rw [h3]; exact Heap.get?_push_of_some _ e
  have I4 := block_start I3 ok hN f3
  show codeAny _ _ (.compStart (.DictComp kx vx [⟨tg, iter, ifs, 0⟩, ⟨tg1, iter1, ifs1, 0⟩] scope pos) 0 (.ref it) (.ref D) (compEnvC scope (cellsFrom (s3.heap.objs.size + 1) scope.names (cloFrom X.env.cells scope.names [])) s3.heap.objs.size X.env)) (compPost (model X.prog X.w) X.A X.xe use Qf (.ref D) s3.heap.objs.size) { s3 with heap := pushCells (s3.heap.push { cls := .type "dict", data := .dict #[] }) scope.names }
  obtain ⟨ce, hce⟩ : ∃ ce, ce = compEnvC scope (cellsFrom (s3.heap.objs.size + 1) scope.names (cloFrom X.env.cells scope.names [])) s3.heap.objs.size X.env := ⟨_, rfl⟩
  have pg : PG (X.blk s3 H3 scope ce fp) tg g := by rw [hce]; exact hg _ _ _ _ _
  have pt : PTs (X.blk s3 H3 scope ce fp) ifs tt := by rw [hce]; exact ht _ _ _ _ _
  have pi1 : PI (X.blk s3 H3 scope ce fp) tg1 iter1 wi1 := by rw [hce]; exact hi1 _ _ _ _ _
  have pg1 : PG (X.blk s3 H3 scope ce fp) tg1 g1 := by rw [hce]; exact hg1 _ _ _ _ _
  have pt1 : PTs (X.blk s3 H3 scope ce fp) ifs1 tt1 := by rw [hce]; exact ht1 _ _ _ _ _
  have pk : PE (X.blk s3 H3 scope ce fp) kx tk := by rw [hce]; exact hk _ _ _ _ _
  have pe : PE (X.blk s3 H3 scope ce fp) vx tv := by rw [hce]; exact he _ _ _ _ _
  have cL : ce.locals = s3.heap.objs.size := by rw [hce]; rfl
  rw [← hce] at I4 ⊢
  generalize e4' : ({ s3 with heap := pushCells (s3.heap.push { cls := .type "dict", data := .dict #[] }) scope.names } : Shared) = s4 at I4 ⊢
  have e4 := e4'.symm
  have st4 : tn 0 s4.heap := T.keep _ _ _ st3 fun b _ o e => by rw [e4]; exact pushCells_keeps _ _ _ _ (Heap.get?_push_of_some _ e)
  have stat : ∀ {σ' : L2.St} {H' : Hp} {s' : Shared}, Inv (X.blk s3 H3 scope ce fp) [] σ' H' s' → (∀ b ∈ fp, H' b = none) → ∀ b ∈ fp, FpOk (X.blk s3 H3 scope ce fp) [] H' b := fun {σ' H' s'} I' hn b hb =>
    ⟨hn b hb, (I'.ok.exf b hb).1, I'.ok.exfs b hb, .inl hb, fun x c e => (I'.ok.exf b hb).2 x c e, fun p hp => absurd (show p ∈ ([] : List (Addr × Obj)) ++ [] from hp) (by simp)⟩
  refine (fun loop => codeAny_compStart_dict loop (T.self X.A 0 _ _ _ st4 loop)) ?_
  refine loop2_out (hs1 ce) (fun n s' => ∃ i H', Inv (X.blk s3 H3 scope ce fp) [] (wipe σ (own.map (·.2))) H' s' ∧ tn i s'.heap ∧ (∀ b ∈ fp, H' b = none) ∧ Wv i n H') ?_ m0 ⟨0, H3, I4, st4, fun b hb => (f3 b hb).1.1, w0⟩
  rintro n s5 ⟨i, H5, I5, st5, n5, w5⟩
  rcases turn i n H5 w5 with ⟨stop, qq⟩ | ⟨go, Nx, hNx, step⟩
  · refine thnF (T.done (X.blk s3 H3 scope ce fp) rfl rfl rfl hc i [] s5 _ H5 (fun _ _ => False) I5 (stat I5 n5) st5 stop) fun r s6 ⟨hr, I6⟩ => ?_
    subst hr
    have I7 : Inv X pins σ H5 s6 := I3.call' (ch := fp) I6.os I6.base I6.hok I6.bare fun b hb => ⟨(f3 b hb).1.2.2.2.1, (f3 b hb).1.2.1, (f3 b hb).1.2.2.2.2.1, (f3 b hb).1.2.2.2.2.2⟩
    have nC : H5 s3.heap.objs.size = none := by
      rw [← cL]
      exact I6.free
    obtain ⟨m, hn, _⟩ := I6.loc
    exact hRR D s3.heap.objs.size s6 m H5 I7 qq (by rw [← cL]; exact hn) (I3.fpOk (Nat.le_refl _) nC)
  · refine thnF (T.item (X.blk s3 H3 scope ce fp) rfl rfl rfl hc i [] s5 _ H5 (fun _ _ => False) I5 (stat I5 n5) st5 go) fun r s6 ⟨u, hr, h6⟩ => ?_
    subst hr
    refine thnF h6 fun _ s7 ⟨x, H7, I7, r7, y7, st7, n7⟩ => ?_
    have I7' := I7.pinned (stat I7 n7) (T.obj _ _ st7)
    refine thnF (pg.run _ s7 _ H7 x u _ I7' r7 (step x H7 y7)) fun _ s8 ⟨σ8, H8, I8, hw8, q8⟩ => ?_
    refine thnF (pt.run _ s8 σ8 H8 _ I8 q8) fun b s9 ⟨H9, I9, q9⟩ => ?_
    have fin : ∀ {σ9 : L2.St} {s' : Shared} {H' : Hp}, Inv (X.blk s3 H3 scope ce fp) ([] ++ pinsAt fp s7.heap) σ9 H' s' → (wipe σ (own.map (·.2))).length = σ9.length → (∀ (j : Nat) v, (wipe σ (own.map (·.2)))[j]? = some (some v) → σ9[j]? = some (some v)) → Nx H' →
        ∃ m, m < n ∧ ∃ i H', Inv (X.blk s3 H3 scope ce fp) [] (wipe σ (own.map (·.2))) H' s' ∧ tn i s'.heap ∧ (∀ b ∈ fp, H' b = none) ∧ Wv i m H' := fun {σ9 s' H'} I' hl hk nx => by
      obtain ⟨m', hm, w'⟩ := hNx H' nx
      have pin' : ∀ b ∈ fp, ∀ o, s7.heap.get? b = some o → s'.heap.get? b = some o ∧ H' b = none := fun b hb o e =>
        let z := I'.pin (b, o) (List.mem_append_right _ (List.mem_append_right _ (mem_pinsAt hb e)))
        ⟨z.1, z.2.1⟩
      refine ⟨m', hm, i + 1, H', (I'.unpinned (pins := [])).weak hl hk, T.keep _ _ _ st7 fun b hb o e => (pin' b hb o e).1, fun b hb => ?_, w'⟩
      obtain ⟨o, e, _⟩ := T.obj _ _ st7 b hb
      exact (pin' b hb o e).2
    have hl8 : (wipe σ (own.map (·.2))).length = σ8.length := by rw [← hw8, wipe_length]
    have hk8 : ∀ (j : Nat) v, (wipe σ (own.map (·.2)))[j]? = some (some v) → σ8[j]? = some (some v) := fun j v e => by
      rw [← hw8] at e
      exact (wipe_some e).1
    have hk9 : ∀ (j : Nat) v, (wipe σ (own.map (·.2)))[j]? = some (some v) → (wipe σ8 vs1)[j]? = some (some v) := fun j v e => by
      rw [← hw8] at e
      obtain ⟨e1, e2⟩ := wipe_some e
      rw [wipe_out fun z => e2 (hv j z)]
      exact e1
    cases b with
    | false =>
      simp only [Bool.false_eq_true, if_false] at q9 ⊢
      exact fin I9 hl8 hk8 q9
    | true =>
      simp only [if_true] at q9 ⊢
      refine thnF (pi1.run _ s9 σ8 H9 _ I9 q9) fun xv s10 hx => thnF hx fun itv s11 h11 => ?_
      obtain ⟨it1, fp1, tn1, J1, H11, rfl, I11, T1, st11, f11, W1, ⟨m1, w1⟩, turn1⟩ := h11
      have stat1 : ∀ {H' : Hp}, (∀ b ∈ fp1, H' b = none) → ∀ b ∈ fp1, FpOk (X.blk s3 H3 scope ce fp) ([] ++ pinsAt fp s7.heap) H' b := fun hn b hb => ⟨hn b hb, (f11 b hb).2⟩
      refine (fun loop1 => start2 loop1 (T1.self X.A 0 _ _ _ st11 loop1)) ?_
      refine loop2_in (fun k s' => ∃ j H', Inv (X.blk s3 H3 scope ce fp) ([] ++ pinsAt fp s7.heap) (wipe σ8 vs1) H' s' ∧ tn1 j s'.heap ∧ (∀ b ∈ fp1, H' b = none) ∧ W1 j k H') ?_ m1 ⟨0, H11, I11.weak (wipe_length _ _) (fun j v e => (wipe_some e).1), st11, fun b hb => (f11 b hb).1, w1⟩
      rintro k s12 ⟨j, H12, I12, st12, n12, w12⟩
      rcases turn1 j k H12 w12 with ⟨stop1, nx1⟩ | ⟨go1, Nx1, hNx1, step1⟩
      · refine thnF (T1.done (X.blk s3 H3 scope ce fp) rfl rfl rfl hc j _ s12 (wipe σ8 vs1) H12 (fun _ _ => False) I12 (stat1 n12) st12 stop1) fun r s13 ⟨hr, I13⟩ => ?_
        subst hr
        exact fin I13 (hl8.trans (wipe_length σ8 vs1).symm) hk9 nx1
      · refine thnF (T1.item (X.blk s3 H3 scope ce fp) rfl rfl rfl hc j _ s12 (wipe σ8 vs1) H12 (fun _ _ => False) I12 (stat1 n12) st12 go1) fun r s13 ⟨u1, hr, h13⟩ => ?_
        subst hr
        refine thnF h13 fun _ s14 ⟨x1, H14, I14, r14, y14, st14, n14⟩ => ?_
        have I14' := I14.pinned (stat1 n14) (T1.obj _ _ st14)
        refine thnF (pg1.run _ s14 (wipe σ8 vs1) H14 x1 u1 _ I14' r14 (step1 x1 H14 y14)) fun _ s15 ⟨σ15, H15, I15, hw15, q15⟩ => ?_
        refine thnF (pt1.run _ s15 σ15 H15 _ I15 q15) fun b1 s16 ⟨H16, I16, q16⟩ => ?_
        have fin1 : ∀ {s' : Shared} {H' : Hp}, Inv (X.blk s3 H3 scope ce fp) (([] ++ pinsAt fp s7.heap) ++ pinsAt fp1 s14.heap) σ15 H' s' → Nx1 H' → ∃ m, m < k ∧ ∃ j H', Inv (X.blk s3 H3 scope ce fp) ([] ++ pinsAt fp s7.heap) (wipe σ8 vs1) H' s' ∧ tn1 j s'.heap ∧ (∀ b ∈ fp1, H' b = none) ∧ W1 j m H' := fun {s' H'} I' nx => by
          obtain ⟨m', hm, w'⟩ := hNx1 H' nx
          have pin' : ∀ b ∈ fp1, ∀ o, s14.heap.get? b = some o → s'.heap.get? b = some o ∧ H' b = none := fun b hb o e =>
            let z := I'.pin (b, o) (List.mem_append_right _ (List.mem_append_right _ (mem_pinsAt hb e)))
            ⟨z.1, z.2.1⟩
          refine ⟨m', hm, j + 1, H', I'.unpinned.weak (by rw [← hw15, wipe_length]) (fun j v e => by rw [← hw15] at e; exact (wipe_some e).1), T1.keep _ _ _ st14 fun b hb o e => (pin' b hb o e).1, fun b hb => ?_, w'⟩
          obtain ⟨o, e, _⟩ := T1.obj _ _ st14 b hb
          exact (pin' b hb o e).2
        cases b1 with
        | false =>
          simp only [Bool.false_eq_true, if_false] at q16 ⊢
          exact fin1 I16 q16
        | true =>
          simp only [if_true] at q16 ⊢
          refine thnF (pk.run _ s16 σ15 H16 _ I16 q16) fun z s17 ⟨yk, H17, I17, r17, q17⟩ => ?_
          refine thnF (pe.run _ s17 σ15 H17 _ I17 q17) fun z2 s18 ⟨yv, H18, I18, r18, q18⟩ => ?_
          refine wpAny_mono (hset (X.blk s3 H3 scope ce fp) rfl rfl rfl rfl _ σ15 H18 s18 (fun _ _ => False) D yk yv z z2 Nx1 I18 r17 r18 q18) (fun _ s19 ⟨H19, I19, nx⟩ => fin1 I19 nx) fun _ _ z => z.elim
theorem pe_dc2X {o0 : Addr → HO} {st : DSt} {kx vx tg iter tg1 iter1 : Expr} {ifs ifs1 : List Expr} {scope : Scope} {own : List (Str × Nat)} {vs1 : List Nat} {pos : Pos} {wi wi1 : TI} {g g1 : TG} {tt tt1 : TT} {tk tv : TE} (hnew : ∀ (H : Hp) (h : Heap), sysModules < h.objs.size → ObjOk X.prog X.w H (h.push { cls := .type "dict", data := .dict #[] }) h.objs.size (o0 h.objs.size)) (hset : DSet X st)
    (hc : X.calm = true) (hN : X.N.Nodup) (hi : PI X tg iter wi) (ok : BlkOk X.N X.env.scope scope own) (hv : ∀ i ∈ vs1, i ∈ own.map (·.2))
    (hg : ∀ (s : Shared) (H : Hp) (C : Addr) (cl : List (Str × Addr)) (fp : List Addr), PG (X.blk s H scope (compEnvC scope cl C X.env) fp) tg g) (ht : ∀ (s : Shared) (H : Hp) (C : Addr) (cl : List (Str × Addr)) (fp : List Addr), PTs (X.blk s H scope (compEnvC scope cl C X.env) fp) ifs tt)
    (hi1 : ∀ (s : Shared) (H : Hp) (C : Addr) (cl : List (Str × Addr)) (fp : List Addr), PI (X.blk s H scope (compEnvC scope cl C X.env) fp) tg1 iter1 wi1)
    (hg1 : ∀ (s : Shared) (H : Hp) (C : Addr) (cl : List (Str × Addr)) (fp : List Addr), PG (X.blk s H scope (compEnvC scope cl C X.env) fp) tg1 g1) (ht1 : ∀ (s : Shared) (H : Hp) (C : Addr) (cl : List (Str × Addr)) (fp : List Addr), PTs (X.blk s H scope (compEnvC scope cl C X.env) fp) ifs1 tt1)
    (hk : ∀ (s : Shared) (H : Hp) (C : Addr) (cl : List (Str × Addr)) (fp : List Addr), PE (X.blk s H scope (compEnvC scope cl C X.env) fp) kx tk)
    (he : ∀ (s : Shared) (H : Hp) (C : Addr) (cl : List (Str × Addr)) (fp : List Addr), PE (X.blk s H scope (compEnvC scope cl C X.env) fp) vx tv) (hs : ∀ x, foldedSetIterable iter X.env x = pure x := by intro _; rfl) (hs1 : ∀ env x, foldedSetIterable iter1 env x = pure x := by intro _ _; rfl) :
    PE X (.DictComp kx vx [⟨tg, iter, ifs, 0⟩, ⟨tg1, iter1, ifs1, 0⟩] scope pos) (tDc2X o0 st wi g tt wi1 g1 tt1 tk tv (own.map (·.2)) vs1) := by
  refine ⟨fun pins s σ H Q I h => ?_⟩
  rw [arm_eval_DictComp]
  refine dc2X_core hnew hset hc hN hi ok hv hg ht hi1 hg1 ht1 hk he hs hs1 I h fun D C s' m H' I' q hn f => ⟨m, hn, fun h'' sb => ?_⟩
  obtain ⟨f0, f1, f2, f3, f4, f5⟩ := f
  exact ⟨.ref D, H', I'.turned (t' := s'.toks) (fun b o hb e => (sb.2 b hb).trans e) f0 f1 f3 f4 f5, rfl, q⟩
theorem ps_setdc2X {i : Nat} {y : Str} {py spos : Pos} {o0 : Addr → HO} {st : DSt} {kx vx tg iter tg1 iter1 : Expr} {ifs ifs1 : List Expr} {scope : Scope} {own : List (Str × Nat)} {vs1 : List Nat} {pos : Pos} {wi wi1 : TI} {g g1 : TG} {tt tt1 : TT} {tk tv : TE} (hnew : ∀ (H : Hp) (h : Heap), sysModules < h.objs.size → ObjOk X.prog X.w H (h.push { cls := .type "dict", data := .dict #[] }) h.objs.size (o0 h.objs.size)) (hset : DSet X st)
    (hc : X.calm = true) (hN : X.N.Nodup) (hi : PI X tg iter wi) (ok : BlkOk X.N X.env.scope scope own) (hv : ∀ i ∈ vs1, i ∈ own.map (·.2))
    (hg : ∀ (s : Shared) (H : Hp) (C : Addr) (cl : List (Str × Addr)) (fp : List Addr), PG (X.blk s H scope (compEnvC scope cl C X.env) fp) tg g) (ht : ∀ (s : Shared) (H : Hp) (C : Addr) (cl : List (Str × Addr)) (fp : List Addr), PTs (X.blk s H scope (compEnvC scope cl C X.env) fp) ifs tt)
    (hi1 : ∀ (s : Shared) (H : Hp) (C : Addr) (cl : List (Str × Addr)) (fp : List Addr), PI (X.blk s H scope (compEnvC scope cl C X.env) fp) tg1 iter1 wi1)
    (hg1 : ∀ (s : Shared) (H : Hp) (C : Addr) (cl : List (Str × Addr)) (fp : List Addr), PG (X.blk s H scope (compEnvC scope cl C X.env) fp) tg1 g1) (ht1 : ∀ (s : Shared) (H : Hp) (C : Addr) (cl : List (Str × Addr)) (fp : List Addr), PTs (X.blk s H scope (compEnvC scope cl C X.env) fp) ifs1 tt1)
    (hk : ∀ (s : Shared) (H : Hp) (C : Addr) (cl : List (Str × Addr)) (fp : List Addr), PE (X.blk s H scope (compEnvC scope cl C X.env) fp) kx tk)
    (he : ∀ (s : Shared) (H : Hp) (C : Addr) (cl : List (Str × Addr)) (fp : List Addr), PE (X.blk s H scope (compEnvC scope cl C X.env) fp) vx tv) (hs : ∀ x, foldedSetIterable iter X.env x = pure x := by intro _; rfl) (hs1 : ∀ env x, foldedSetIterable iter1 env x = pure x := by intro _ _; rfl)
    (hy : X.N[i]? = some y) (hyl : X.env.scope.names.lookup y = some .local) (hsw : swapsWith (.DictComp kx vx [⟨tg, iter, ifs, 0⟩, ⟨tg1, iter1, ifs1, 0⟩] scope pos) (some (.Name y py)) spos.line X.env = pure true) :
    PS X (.Assign [.Name y py] (.DictComp kx vx [⟨tg, iter, ifs, 0⟩, ⟨tg1, iter1, ifs1, 0⟩] scope pos) spos) (tAsg (tDc2X o0 st wi g tt wi1 g1 tt1 tk tv (own.map (·.2)) vs1) (L2.gName i)) := by
  refine ⟨fun pins s σ H D I h => ?_⟩
  rw [exec_Assign_Name_used _ _ _ _ hsw]
  refine wpAny_bind (wpAny_standAt (wpAny_bind ?_))
  show wpAny _ X.A (do let _ ← comprehension (.DictComp kx vx [⟨tg, iter, ifs, 0⟩, ⟨tg1, iter1, ifs1, 0⟩] scope pos) scope X.env (firstIterPos [⟨tg, iter, ifs, 0⟩, ⟨tg1, iter1, ifs1, 0⟩] pos) newDict false (eval iter X.env) (some (assign (.Name y py) X.env))) _ _ s
  have h : (tDc2X o0 st wi g tt wi1 g1 tt1 tk tv (own.map (·.2)) vs1) σ H (fun x H1 => L2.gName i x σ H1 D.nx) := h
  refine wpAny_bind (thn (dc2X_core (Qf := fun _ s' => SP X pins D .next s') hnew hset hc hN hi ok hv hg ht hi1 hg1 ht1 hk he hs hs1 I h fun L C s' m H' I' q hn f => ?_) fun _ s' hq => wpAny_pure (wpAny_pure hq))
  show wpAny _ _ (assign (.Name y py) X.env (.ref L)) _ _ _
  refine wpAny_assign_Name (store_ok2 (v := V.ref L) I' hN hy (.inl hyl) rfl (fun s2 I2 ⟨a, sb, ha⟩ => ?_) (.inr hyl))
  obtain ⟨f0, f1, f2, f3, f4, f5⟩ := f
  have haC : C ≠ a := by
    rcases ha with z | z
    · rw [z]; exact f1
    · exact fun e => f4 y a z e.symm
  refine ⟨m, hn.sameBut sb haC, fun h3 sb3 => ?_⟩
  exact ⟨_, H', I2.turned (t' := s2.toks) (fun b o hb e => (sb3.2 b hb).trans e) f0 f1 f3 f4 f5, q⟩
end
end KM
set_option Elab.async false
set_option linter.all false
set_option maxRecDepth 100000
set_option maxHeartbeats 2000000
namespace KM
open PySem L2 PySem.Spec PyProof.Rows
open Classical in
noncomputable def kc2L (gd : List MO → Prop) (gg : GG) (gt : GB) (gi1 : GI) (gg1 : GG) (gt1 : GB) (gk gv : GE) (vs1 : List Nat) (δ : Ctx) : List D → List (D × D) → List MO → R (List (D × D))
  | [], acc, M => if gd M then .ok acc M else .bad
  | x :: xs, acc, M => if gd M then (match gg x δ M with
      | .nx δ1 M1 => match gt δ1 M1 with
        | .ok b M2 => if b = true then (match gi1 δ1 M2 with
            | .ok it M3 => match kcL it.gd gg1 gt1 gk gv (wipeD δ1 vs1) it.items acc M3 with
              | .ok acc' M4 => kc2L gd gg gt gi1 gg1 gt1 gk gv vs1 δ xs acc' M4
              | _ => .bad
            | _ => .bad) else kc2L gd gg gt gi1 gg1 gt1 gk gv vs1 δ xs acc M2
        | _ => .bad
      | _ => .bad) else .bad
theorem kc2L_gd {gd : List MO → Prop} {gg : GG} {gt : GB} {gi1 : GI} {gg1 : GG} {gt1 : GB} {gk gv : GE} {vs1 : List Nat} {δ : Ctx} {xs : List D} {acc : List (D × D)} {M : List MO} (h : kc2L gd gg gt gi1 gg1 gt1 gk gv vs1 δ xs acc M ≠ .bad) : gd M := by
  by_cases c : gd M
  · exact c
  · exfalso
    apply h
    cases xs with
    | nil => unfold kc2L; rw [if_neg c]
    | cons x xs => unfold kc2L; rw [if_neg c]
noncomputable def gKc2 (gi : GI) (gg : GG) (gt : GB) (gi1 : GI) (gg1 : GG) (gt1 : GB) (gk gv : GE) (vs vs1 : List Nat) : GE := fun δ M => (gi δ M).bind fun it M1 => (kc2L it.gd gg gt gi1 gg1 gt1 gk gv vs1 (wipeD δ vs) it.items [] M1).bind finK
theorem inX_it {st : DSt} {J : It} {n : Nat} {G : Hp → Prop} {Y : Nat → Hp → V → Hp → Prop} (w : Walk J n G Y) {g : TG} {tt : TT} {tk tv : TE} {vs : List Nat} {σ : L2.St} {H1 : Hp} {D : Addr} {Qd : Hp → Prop} (Pv : Nat → Hp → Prop) (h0 : Pv 0 H1) (hG : ∀ i H, i ≤ n → Pv i H → G H)
    (hs : ∀ i x H H', i < n → Pv i H → Y i H x H' → g x (wipe σ vs) H' fun σ2 H2 => wipe σ2 vs = wipe σ vs ∧ tt σ2 H2 fun b H3 =>
      if b = true then tk σ2 H3 fun y H4 => tv σ2 H4 fun z H5 => st D y z H5 (Pv (i + 1)) else Pv (i + 1) H3) (hd : ∀ H, Pv n H → Qd H) :
    ∃ Wv : Nat → Nat → Hp → Prop, (∃ m, Wv 0 m H1) ∧ ∀ i m H, Wv i m H →
      (J.stop i H ∧ Qd H) ∨ (J.go i H ∧ ∃ Nx : Hp → Prop, (∀ H', Nx H' → ∃ m', m' < m ∧ Wv (i + 1) m' H') ∧ ∀ x H', J.yld i H x H' → g x (wipe σ vs) H' fun σ2 H2 => wipe σ2 vs = wipe σ vs ∧ tt σ2 H2 fun b H3 =>
        if b = true then tk σ2 H3 fun y H4 => tv σ2 H4 fun z H5 => st D y z H5 Nx else Nx H3) := by
  refine ⟨fun i m H => m = n - i ∧ i ≤ n ∧ Pv i H, ⟨n, by simp, Nat.zero_le _, h0⟩, ?_⟩
  rintro i m H ⟨rfl, hi, p⟩
  have q := hG i H hi p
  by_cases hlt : i < n
  · exact .inr ⟨w.goes i H hlt q, Pv (i + 1), fun H' p' => ⟨n - (i + 1), by omega, rfl, hlt, p'⟩, fun x H' y => hs i x H H' hlt p (w.yields i H x H' hlt q y)⟩
  · have e : i = n := by omega
    subst e
    exact .inl ⟨w.stops H q, hd H p⟩
theorem outX_it {o0 : HO} {J : It} {n : Nat} {G : Hp → Prop} {Y : Nat → Hp → V → Hp → Prop} (w : Walk J n G Y) {H1 : Hp} {D : Addr} {Qd : Hp → Prop} {T : Nat → Hp → V → Hp → (Hp → Prop) → Prop} (Pv : Nat → Hp → Prop) (h0 : Pv 0 (upd H1 D o0)) (hG : ∀ i H, i ≤ n → Pv i H → G H)
    (hs : ∀ i x H H', i < n → Pv i H → Y i H x H' → T i H x H' (Pv (i + 1))) (hd : ∀ H, Pv n H → Qd H) :
    ∃ Wv : Nat → Nat → Hp → Prop, (∃ m, Wv 0 m (upd H1 D o0)) ∧ ∀ i m H, Wv i m H →
      (J.stop i H ∧ Qd H) ∨ (J.go i H ∧ ∃ Nx : Hp → Prop, (∀ H', Nx H' → ∃ m', m' < m ∧ Wv (i + 1) m' H') ∧ ∀ x H', J.yld i H x H' → T i H x H' Nx) := by
  refine ⟨fun i m H => m = n - i ∧ i ≤ n ∧ Pv i H, ⟨n, by simp, Nat.zero_le _, h0⟩, ?_⟩
  rintro i m H ⟨rfl, hi, p⟩
  have q := hG i H hi p
  by_cases hlt : i < n
  · exact .inr ⟨w.goes i H hlt q, Pv (i + 1), fun H' p' => ⟨n - (i + 1), by omega, rfl, hlt, p'⟩, fun x H' y => hs i x H H' hlt p (w.yields i H x H' hlt q y)⟩
  · have e : i = n := by omega
    subst e
    exact .inl ⟨w.stops H q, hd H p⟩
/-- what the new dict is, while it is made -/
def KIn (K : PySem.W.Frag) (I : Hp) (as : List Addr) (Dl : Addr) (o : Obj) (acc : List (D × D)) : Prop := ∃ xs, KdA Dl o xs ∧ KXs K I as xs (acc.map fun p => p.1) (acc.map fun p => p.2)
theorem KIn.mono {K : PySem.W.Frag} {I I' : Hp} {as as' : List Addr} {Dl : Addr} {o : Obj} {acc : List (D × D)} (g : Gr I as I' as') (h : KIn K I as Dl o acc) : KIn K I' as' Dl o acc := let ⟨xs, h1, h2⟩ := h; ⟨xs, h1, h2.mono g⟩
/-- the inner walk -/
theorem inner_kc {K : PySem.W.Frag} {mg : Str → Option Value} {is vs : List Nat} {gt : TG} {gg : GG} {tt : TT} {gb : GB} {tk tv : TE} {gk gv : GE} (hs : ∀ j ∈ is, j ∈ vs) (hg : ImpG K mg W0 is gt gg) (ht : ImpT K mg W0 tt gb) (hk : ImpE K mg W0 tk gk) (he : ImpE K mg W0 tv gv)
    {α : Type} {Wf : Str → Hp → Prop} {rel : Hp → List Addr → V → α → Prop} {Q : V → Hp → Prop}
    {σ : L2.St} {δ : Ctx} {H1 I1 P P1 : Hp} {as1 : List Addr} {M1 : List MO} {Dl : Addr} {J : It} {it : ITD} {Qd : Hp → Prop} {o0 : Obj} {acc0 : List (D × D)} {f : List (D × D) → List MO → R α} (pl : ∀ o, PLe P1 (upd P Dl (ObO Dl o))) (ok : ItOk K P1 I1 as1 J it)
    (w1 : Wr K H1 I1 as1 M1 (upd P Dl (ObO Dl o0))) (en : Envr K I1 as1 σ δ) (r0 : KIn K I1 as1 Dl o0 acc0) (s : Sat K rel Wf I1 as1 P Q ((kcL it.gd gg gb gk gv (wipeD δ vs) it.items acc0 M1).bind f))
    (hd : ∀ H' I' as' M' o acc, Gr I1 as1 I' as' → Wr K H' I' as' M' (upd P Dl (ObO Dl o)) → KIn K I' as' Dl o acc → Sat K rel Wf I' as' P Q (f acc M') → Qd H') :
    ∃ Wv : Nat → Nat → Hp → Prop, (∃ m, Wv 0 m H1) ∧ ∀ i m H, Wv i m H →
      (J.stop i H ∧ Qd H) ∨ (J.go i H ∧ ∃ Nx : Hp → Prop, (∀ H', Nx H' → ∃ m', m' < m ∧ Wv (i + 1) m' H') ∧ ∀ x H', J.yld i H x H' → gt x (wipe σ vs) H' fun σ2 H2 => wipe σ2 vs = wipe σ vs ∧ tt σ2 H2 fun b H3 =>
        if b = true then tk σ2 H3 fun y H4 => tv σ2 H4 fun z H5 => stK K Dl y z H5 Nx else Nx H3) := by
  obtain ⟨G, Y, wk, hG, hY⟩ := ok
  have enw := en.wipe vs
  have nb : ∀ {i : Nat} {acc : List (D × D)} {M' : List MO} {I' : Hp} {as' : List Addr}, Sat K rel Wf I' as' P Q ((kcL it.gd gg gb gk gv (wipeD δ vs) (it.items.drop i) acc M').bind f) → it.gd M' := fun h => kcL_gd fun e => by
    rw [e] at h
    exact h
  refine inX_it wk (fun i H' => ∃ acc o M' I' as', Gr I1 as1 I' as' ∧ Wr K H' I' as' M' (upd P Dl (ObO Dl o)) ∧ KIn K I' as' Dl o acc ∧ Sat K rel Wf I' as' P Q ((kcL it.gd gg gb gk gv (wipeD δ vs) (it.items.drop i) acc M').bind f))
    ⟨acc0, o0, M1, I1, as1, Gr.refl _ _, w1, r0, by rw [List.drop_zero]; exact s⟩ ?_ ?_ ?_
  · rintro i H' hi ⟨acc, o, M', I', as', g', w', r', s'⟩
    exact hG H' I' as' M' _ (pl o) g' w' (nb s')
  · rintro i x H' H2 hi ⟨acc, o, M', I', as', g', w', r', s'⟩ y
    have hgd := nb s'
    obtain ⟨I2, d, g2, w2, hd2, rd⟩ := hY i x H' H2 I' as' M' _ hi (pl o) g' w' hgd y
    have ed : it.items.drop i = d :: it.items.drop (i + 1) := by
      rw [List.drop_eq_getElem_cons hi]
      have := List.getElem?_eq_getElem hi
      rw [hd2] at this
      rw [← Option.some.inj this]
    rw [ed] at s'
    unfold kcL at s'
    rw [if_pos hgd] at s'
    refine hg x d (wipe σ vs) H2 (wipeD δ vs) I2 as' M' _ _ w2 (enw.mono (g'.trans g2)) rd ?_
    have s2 := Sat.gr g2 s'
    cases e1 : gg d (wipeD δ vs) M' with
    | nx δ1 M1 =>
      simp only [e1] at s2
      intro σ3 H3 I3 as3 g3 w3 en3 k3
      refine ⟨wipe_kept hs k3, ?_⟩
      refine ht σ3 H3 δ1 I3 as3 M1 _ _ w3 en3 ?_
      have s3 := Sat.gr g3 s2
      cases e2 : gb δ1 M1 with
      | ok b M2 =>
        simp only [e2] at s3
        intro b' H4 I4 as4 g4 w4 eb
        subst eb
        have s4 := Sat.gr g4 s3
        cases b' with
        | true =>
          simp only [if_true] at s4 ⊢
          refine hk σ3 H4 δ1 I4 as4 M2 _ _ w4 (en3.mono g4) ?_
          cases e3 : gk δ1 M2 with
          | ok d5 M5 =>
            simp only [e3] at s4
            intro v5 H5 I5 as5 g5 w5 r5
            have s5 := Sat.gr g5 s4
            refine he σ3 H5 δ1 I5 as5 M5 _ _ w5 (en3.mono (g4.trans g5)) ?_
            cases e4 : gv δ1 M5 with
            | ok d6 M6 =>
              simp only [e4] at s5
              intro v6 H6 I6 as6 g6 w6 r6
              have s6 := Sat.gr g6 s5
              split at s6
              · rename_i k hkey
                split at s6
                · rename_i hb
                  have ga := (g2.trans (g3.trans (g4.trans (g5.trans g6))))
                  have hP := (w6.prv Dl _ upd_same).1
                  obtain ⟨ds, rfl, k1, k2⟩ := tkey_of hkey
                  have r5' := r5.mono g6
                  have kv := r5'.key w6 k1
                  obtain ⟨xs, q', kx0⟩ := r'
                  have kx := kx0.mono ga
                  cases r5' with
                  | @tup b5 vs5 _ hb5 rb5 =>
                    have hlen : xs.length = acc.length := by
                      have := kx0.len.1
                      simpa using this.symm
                    refine ⟨o, xs, k, b5, rfl, hP, ⟨.inl hP, q', kx.keys w6⟩, kv, k2, by omega, fun o' u ru ka => ?_⟩
                    refine ⟨kput acc k (.tup ds) d6, o', M6, I6, as6, g'.trans ga, ?_, ⟨storedH xs k b5 u, ka, kx.put q'.nd hkey (.tup hb5 rb5) ru r6⟩, s6⟩
                    have z := w6.putP (p := Dl) upd_same (ObO Dl o')
                    rw [upd_upd] at z
                    exact z
                · exact s6.elim
              · exact s6.elim
            | bad => simp only [e4] at s5; exact s5.elim
            | ex c M6 => simp only [e4] at s5; exact s5.elim
          | bad => simp only [e3] at s4; exact s4.elim
          | ex c M5 => simp only [e3] at s4; exact s4.elim
        | false =>
          simp only [if_neg Bool.false_ne_true] at s4 ⊢
          have ga := (g2.trans (g3.trans g4))
          exact ⟨acc, o, M2, I4, as4, g'.trans ga, w4, r'.mono ga, s4⟩
      | bad => simp only [e2] at s3; exact s3.elim
      | ex c M5 => simp only [e2] at s3; exact s3.elim
    | bad => simp only [e1] at s2; exact s2.elim
    | rt _ _ => simp only [e1] at s2; exact s2.elim
    | bk _ _ => simp only [e1] at s2; exact s2.elim
    | ct _ _ => simp only [e1] at s2; exact s2.elim
    | ex _ _ _ => simp only [e1] at s2; exact s2.elim
  · rintro H' ⟨acc, o, M', I', as', g', w', r', s'⟩
    have hgd := nb s'
    rw [List.drop_length] at s'
    unfold kcL at s'
    rw [if_pos hgd] at s'
    exact hd H' I' as' M' o acc g' w' r' s'
theorem impE_kc2 {K : PySem.W.Frag} {mg : Str → Option Value} {W : WX} {wi wi1 : TI} {gi gi1 : GI} {is is1 vs vs1 : List Nat} {gt gt1 : TG} {gg gg1 : GG} {tt tt1 : TT} {gb gb1 : GB} {tk tv : TE} {gk gv : GE} (hs : ∀ j ∈ is, j ∈ vs) (hs1 : ∀ j ∈ is1, j ∈ vs1)
    (hi : ImpI K mg W wi gi) (hg : ImpG K mg W0 is gt gg) (ht : ImpT K mg W0 tt gb) (hi1 : ImpI K mg W0 wi1 gi1) (hg1 : ImpG K mg W0 is1 gt1 gg1) (ht1 : ImpT K mg W0 tt1 gb1) (hk : ImpE K mg W0 tk gk) (he : ImpE K mg W0 tv gv) :
    ImpE K mg W (tDc2X (fun D => ObO D emO) (stK K) wi gt tt wi1 gt1 tt1 tk tv vs vs1) (gKc2 gi gg gb gi1 gg1 gb1 gk gv vs vs1) := by
  intro σ H δ I as M P Q w en s
  refine hi σ H δ I as M P _ w en (Sat.bind s fun it M1 J H1 I1 as1 _ g1 w1 ok s1 => ?_)
  intro Dl hD big
  obtain ⟨G, Y, wk, hG, hY⟩ := ok
  obtain ⟨f1, f2, f3⟩ := w1.fresh hD
  have enw := (en.mono g1).wipe vs
  have nb : ∀ {i : Nat} {acc : List (D × D)} {M' : List MO} {I' : Hp} {as' : List Addr}, Sat K (Rep K) (fun c H' => lowW mg W c σ H') I' as' P Q ((kc2L it.gd gg gb gi1 gg1 gb1 gk gv vs1 (wipeD δ vs) (it.items.drop i) acc M').bind finK) → it.gd M' := fun h => kc2L_gd fun e => by
    rw [e] at h
    exact h
  refine outX_it (o0 := ObO Dl emO) (D := Dl) (H1 := H1) wk (T := fun i H x H' Nx => gt x (wipe σ vs) H' fun σ2 H2 => wipe σ2 vs = wipe σ vs ∧ tt σ2 H2 fun b H3 =>
    if b = true then tIn2 (stK K) Dl wi1 gt1 tt1 tk tv vs1 Nx σ2 H3 else Nx H3) (fun i H' => ∃ acc o M' I' as', Gr I1 as1 I' as' ∧ Wr K H' I' as' M' (upd P Dl (ObO Dl o)) ∧ KIn K I' as' Dl o acc ∧ Sat K (Rep K) (fun c H' => lowW mg W c σ H') I' as' P Q ((kc2L it.gd gg gb gi1 gg1 gb1 gk gv vs1 (wipeD δ vs) (it.items.drop i) acc M').bind finK))
    ⟨[], emO, M1, I1, as1, Gr.refl _ _, w1.newP hD (ObO Dl emO), ⟨[], kda_new big, .nil⟩, by rw [List.drop_zero]; exact s1⟩ ?_ ?_ ?_
  · rintro i H' hi ⟨acc, o, M', I', as', g', w', r', s'⟩
    exact hG H' I' as' M' _ (PLe.upd f2) g' w' (nb s')
  · rintro i x H' H2 hi ⟨acc, o, M', I', as', g', w', r', s'⟩ y
    have hgd := nb s'
    obtain ⟨I2, d, g2, w2, hd, rd⟩ := hY i x H' H2 I' as' M' _ hi (PLe.upd f2) g' w' hgd y
    have ed : it.items.drop i = d :: it.items.drop (i + 1) := by
      rw [List.drop_eq_getElem_cons hi]
      have := List.getElem?_eq_getElem hi
      rw [hd] at this
      rw [← Option.some.inj this]
    rw [ed] at s'
    unfold kc2L at s'
    rw [if_pos hgd] at s'
    refine hg x d (wipe σ vs) H2 (wipeD δ vs) I2 as' M' _ _ w2 (enw.mono (g'.trans g2)) rd ?_
    have s2 := Sat.gr g2 s'
    cases e1 : gg d (wipeD δ vs) M' with
    | nx δ1 M1 =>
      simp only [e1] at s2
      intro σ3 H3 I3 as3 g3 w3 en3 k3
      refine ⟨wipe_kept hs k3, ?_⟩
      refine ht σ3 H3 δ1 I3 as3 M1 _ _ w3 en3 ?_
      have s3 := Sat.gr g3 s2
      cases e2 : gb δ1 M1 with
      | ok b M2 =>
        simp only [e2] at s3
        intro b' H4 I4 as4 g4 w4 eb
        subst eb
        have s4 := Sat.gr g4 s3
        cases b' with
        | true =>
          simp only [if_true] at s4 ⊢
          unfold tIn2
          refine hi1 σ3 H4 δ1 I4 as4 M2 _ _ w4 (en3.mono g4) ?_
          cases e3 : gi1 δ1 M2 with
          | ok it1 M5 =>
            simp only [e3] at s4
            intro J1 H5 I5 as5 g5 w5 ok1
            have s5 := Sat.gr g5 s4
            have ga := (g2.trans (g3.trans (g4.trans g5)))
            have s5' : Sat K (Rep K) (fun c H' => lowW mg W c σ H') I5 as5 P Q ((kcL it1.gd gg1 gb1 gk gv (wipeD δ1 vs1) it1.items acc M5).bind fun acc' M4 => (kc2L it.gd gg gb gi1 gg1 gb1 gk gv vs1 (wipeD δ vs) (it.items.drop (i + 1)) acc' M4).bind finK) := by
              cases e5 : kcL it1.gd gg1 gb1 gk gv (wipeD δ1 vs1) it1.items acc M5 with
              | ok acc' M4 => simp only [e5] at s5; exact s5
              | bad => simp only [e5] at s5; exact s5.elim
              | ex c M4 => simp only [e5] at s5; exact s5.elim
            refine inner_kc hs1 hg1 ht1 hk he (P1 := upd P Dl (ObO Dl o)) (fun o' => ?_) ok1 w5 (en3.mono (g4.trans g5)) (r'.mono ga) s5' ?_
            · intro b ob u e
              have q : b ≠ Dl := fun z => by rw [z, upd_same] at e; cases e
              rw [upd_ne q] at e ⊢
              exact e
            · intro H6 I6 as6 M6 o6 acc6 g6 w6 r6 s6
              exact ⟨acc6, o6, M6, I6, as6, g'.trans (ga.trans g6), w6, r6, s6⟩
          | bad => simp only [e3] at s4; exact s4.elim
          | ex c M5 => simp only [e3] at s4; exact s4.elim
        | false =>
          simp only [if_neg Bool.false_ne_true] at s4 ⊢
          have ga := (g2.trans (g3.trans g4))
          exact ⟨acc, o, M2, I4, as4, g'.trans ga, w4, r'.mono ga, s4⟩
      | bad => simp only [e2] at s3; exact s3.elim
      | ex c M5 => simp only [e2] at s3; exact s3.elim
    | bad => simp only [e1] at s2; exact s2.elim
    | rt _ _ => simp only [e1] at s2; exact s2.elim
    | bk _ _ => simp only [e1] at s2; exact s2.elim
    | ct _ _ => simp only [e1] at s2; exact s2.elim
    | ex _ _ _ => simp only [e1] at s2; exact s2.elim
  · rintro H' ⟨acc, o, M', I', as', g', w', ⟨xs, q', r'⟩, s'⟩
    have hgd := nb s'
    rw [List.drop_length] at s'
    unfold kc2L at s'
    rw [if_pos hgd] at s'
    obtain ⟨w'', g''⟩ := w'.giveI f2
    exact s' _ _ _ _ g'' w'' (.kdi upd_same q' (r'.mono g''))
section
variable {X : Cx} {W : WX} {tg iter tg1 iter1 kx vx : Expr} {ifs ifs1 : List Expr} {scope : Scope} {pos : Pos} {wi wi1 : TI} {gi gi1 : GI} {is is1 : List Nat} {gt gt1 : TG} {gg gg1 : GG} {tt tt1 : TT} {gb gb1 : GB} {tk tv : TE} {gk gv : GE}
theorem xe_kc2 (own : List (Str × Nat)) (vs1 : List Nat) (hu : KRoom X) (hc : X.calm = true) (hN : X.N.Nodup) (hi : XI X W tg iter wi gi) (ok : BlkOk X.N X.env.scope scope own)
    (hg : ∀ (s : Shared) (H : Hp) (C : Addr) (cl : List (Str × Addr)) (fp : List Addr), XG (X.blk s H scope (compEnvC scope cl C X.env) fp) W0 tg is gt gg) (ht : ∀ (s : Shared) (H : Hp) (C : Addr) (cl : List (Str × Addr)) (fp : List Addr), XTs (X.blk s H scope (compEnvC scope cl C X.env) fp) W0 ifs tt gb)
    (hi1 : ∀ (s : Shared) (H : Hp) (C : Addr) (cl : List (Str × Addr)) (fp : List Addr), XI (X.blk s H scope (compEnvC scope cl C X.env) fp) W0 tg1 iter1 wi1 gi1)
    (hg1 : ∀ (s : Shared) (H : Hp) (C : Addr) (cl : List (Str × Addr)) (fp : List Addr), XG (X.blk s H scope (compEnvC scope cl C X.env) fp) W0 tg1 is1 gt1 gg1) (ht1 : ∀ (s : Shared) (H : Hp) (C : Addr) (cl : List (Str × Addr)) (fp : List Addr), XTs (X.blk s H scope (compEnvC scope cl C X.env) fp) W0 ifs1 tt1 gb1)
    (hk : ∀ (s : Shared) (H : Hp) (C : Addr) (cl : List (Str × Addr)) (fp : List Addr), XE (X.blk s H scope (compEnvC scope cl C X.env) fp) W0 kx tk gk)
    (he : ∀ (s : Shared) (H : Hp) (C : Addr) (cl : List (Str × Addr)) (fp : List Addr), XE (X.blk s H scope (compEnvC scope cl C X.env) fp) W0 vx tv gv) (hv : ∀ i ∈ vs1, i ∈ own.map (·.2) := by decide) (hsub : ∀ j ∈ is, j ∈ own.map (·.2) := by decide) (hsub1 : ∀ j ∈ is1, j ∈ vs1 := by decide) (hs : ∀ x, foldedSetIterable iter X.env x = pure x := by intro _; rfl) (hs1 : ∀ env x, foldedSetIterable iter1 env x = pure x := by intro _ _; rfl) :
    XE X W (.DictComp kx vx [⟨tg, iter, ifs, 0⟩, ⟨tg1, iter1, ifs1, 0⟩] scope pos) (tDc2X (fun D => ObO D emO) (stK X.K) wi gt tt wi1 gt1 tt1 tk tv (own.map (·.2)) vs1) (gKc2 gi gg gb gi1 gg1 gb1 gk gv (own.map (·.2)) vs1) :=
  ⟨pe_dc2X new_K (dset_K hu) hc hN hi.pe ok hv (fun s H C cl fp => (hg s H C cl fp).pe) (fun s H C cl fp => (ht s H C cl fp).pe) (fun s H C cl fp => (hi1 s H C cl fp).pe) (fun s H C cl fp => (hg1 s H C cl fp).pe) (fun s H C cl fp => (ht1 s H C cl fp).pe) (fun s H C cl fp => (hk s H C cl fp).pe) (fun s H C cl fp => (he s H C cl fp).pe) hs hs1,
    impE_kc2 hsub hsub1 hi.im (hg X.s_0 X.H_0 0 [] []).im (ht X.s_0 X.H_0 0 [] []).im (hi1 X.s_0 X.H_0 0 [] []).im (hg1 X.s_0 X.H_0 0 [] []).im (ht1 X.s_0 X.H_0 0 [] []).im (hk X.s_0 X.H_0 0 [] []).im (he X.s_0 X.H_0 0 [] []).im⟩
end
end KM
set_option Elab.async false
set_option linter.all false
set_option maxRecDepth 100000
set_option maxHeartbeats 2000000
/-! what a def made and nobody changes any more: at its end it is told as what never changes -/
namespace KM
open PySem L2 PySem.Spec PyProof.Rows
def frz (n : Nat) (M : List MO) : Nat → D → Option D
  | 0, _ => none
  | f + 1, d => match d with
    | .ref k => if k < n then some (.ref k) else match M[k]? with
      | some (.lst xs) => (xs.mapM (frz n M f)).map .lst
      | some (.kd kvs) => ((kvs.map fun p => p.2).mapM (frz n M f)).map fun vs => .kdi (kvs.map fun p => p.1) vs
      | _ => none
    | .tup xs => (xs.mapM (frz n M f)).map .tup
    | .lst xs => (xs.mapM (frz n M f)).map .lst
    | .rol xs => (xs.mapM (frz n M f)).map .rol
    | .kdi ks vs => (vs.mapM (frz n M f)).map fun vs => .kdi ks vs
    | d => some d
mutual
theorem key_lo {n : Nat} : ∀ {d : D} {k : NestedKey}, keyOf d = some k → D.lo n d = true
  | .int i, _, h => rfl
  | .tup ds, _, h => by
    unfold keyOf at h
    cases e : keysOf ds with
    | none => rw [e] at h; cases h
    | some ks => exact keys_lo e
  | .non, _, h => by simp [keyOf] at h
  | .bl _, _, h => by simp [keyOf] at h
  | .str _, _, h => by simp [keyOf] at h
  | .lst _, _, h => by simp [keyOf] at h
  | .rol _, _, h => by simp [keyOf] at h
  | .ref _, _, h => by simp [keyOf] at h
  | .obj _, _, h => by simp [keyOf] at h
  | .fn _, _, h => by simp [keyOf] at h
  | .dct, _, h => by simp [keyOf] at h
  | .kdi _ _, _, h => by simp [keyOf] at h
theorem keys_lo {n : Nat} : ∀ {ds : List D} {ks : List NestedKey}, keysOf ds = some ks → D.los n ds = true
  | [], _, h => rfl
  | d :: ds, _, h => by
    unfold keysOf at h
    cases e : keyOf d with
    | none => rw [e] at h; simp at h
    | some k =>
      cases e2 : keysOf ds with
      | none => rw [e, e2] at h; simp at h
      | some ks =>
        unfold D.los
        rw [key_lo e, keys_lo e2]
        rfl
end
section
variable {K : PySem.W.Frag} {H I P : Hp} {as t : List Addr} {M : List MO}
/-- the world in which what stands at t never changes -/
def frI (H I : Hp) (t : List Addr) : Hp := fun a => match I a with
  | some o => some o
  | none => if a ∈ t then H a else none
theorem frI_gr : Gr I as (frI H I t) as := ⟨fun a o e => by unfold frI; rw [e], [], by simp⟩
theorem mapM_cons {α β : Type} {f : α → Option β} {x : α} {xs : List α} {zs : List β} (h : (x :: xs).mapM f = some zs) : ∃ y ys, f x = some y ∧ xs.mapM f = some ys ∧ zs = y :: ys := by
  rw [List.mapM_cons] at h
  cases e : f x with
  | none => rw [e] at h; cases h
  | some y =>
    rw [e] at h
    cases e2 : xs.mapM f with
    | none => rw [e2] at h; cases h
    | some ys =>
      rw [e2] at h
      cases h
      exact ⟨y, ys, rfl, rfl, rfl⟩
theorem Reps.frz {I' : Hp} {as' : List Addr} {f : D → Option D} (hf : ∀ v d d', Rep K I as v d → f d = some d' → Rep K I' as' v d') : ∀ {vs : List V} {ds es : List D}, Reps K I as vs ds → ds.mapM f = some es → Reps K I' as' vs es
  | _, _, _, .nil, h => by cases h; exact .nil
  | _, _, _, .cons a r, h => by
    obtain ⟨y, ys, e1, e2, rfl⟩ := mapM_cons h
    exact .cons (hf _ _ _ a e1) (Reps.frz hf r e2)
theorem KXs.frz {I' : Hp} {f : D → Option D} (g : Gr I as I' as) (hf : ∀ v d d', Rep K I (as ++ t) v d → f d = some d' → Rep K I' as v d') : ∀ {xs : KX} {ks ds es : List D}, KXs K I (as ++ t) xs ks ds → ds.mapM f = some es → KXs K I' as xs ks es
  | _, _, _, _, .nil, h => by cases h; exact .nil
  | _, _, _, _, .cons a b c d r, h => by
    obtain ⟨y, ys, e1, e2, rfl⟩ := mapM_cons h
    obtain ⟨_, _, k1, _⟩ := tkey_of b
    exact .cons ((Rep.cut a (key_lo k1)).mono g) b c (hf _ _ _ d e1) (KXs.frz g hf r e2)
theorem Rep.frz (w : Wr K H I (as ++ t) M P) : ∀ (f : Nat) (v : V) (d d' : D), Rep K I (as ++ t) v d → frz as.length M f d = some d' → Rep K (frI H I t) as v d'
  | 0, _, _, _, _, h => by cases h
  | f + 1, v, d, d', r, h => by
    have ih := Rep.frz w f
    have g : Gr I as (frI H I t) as := frI_gr
    unfold KM.frz at h
    cases r with
    | non => cases h; exact .non
    | bl b => cases h; exact .bl b
    | int b => cases h; exact .int b
    | str b => cases h; exact .str b
    | @tup a vs ds h1 h2 =>
      simp only at h
      cases e : ds.mapM (KM.frz as.length M f) with
      | none => rw [e] at h; cases h
      | some es => rw [e] at h; cases h; exact .tup (Evl.ex_t g.sub h1) (h2.frz ih e)
    | @lst a vs ds h1 h2 =>
      simp only at h
      cases e : ds.mapM (KM.frz as.length M f) with
      | none => rw [e] at h; cases h
      | some es => rw [e] at h; cases h; exact .lst (g.sub _ _ h1) (h2.frz ih e)
    | @rol a vs ds h1 h2 =>
      simp only at h
      cases e : ds.mapM (KM.frz as.length M f) with
      | none => rw [e] at h; cases h
      | some es => rw [e] at h; cases h; exact .rol (Evl.ex_l g.sub h1) (h2.frz ih e)
    | @ref k a h1 =>
      simp only at h
      by_cases hk : k < as.length
      · rw [if_pos hk] at h
        cases h
        exact .ref (by rw [List.getElem?_append_left hk] at h1; exact h1)
      · rw [if_neg hk] at h
        obtain ⟨o, ho, i1, fr, m⟩ := w.at h1
        have ht : a ∈ t := by
          rw [List.getElem?_append_right (by omega)] at h1
          exact List.mem_of_getElem? h1
        have hI : ∀ u, H a = some u → frI H I t a = some u := fun u e => by
          unfold frI
          rw [i1]
          simp only
          rw [if_pos ht, e]
        rw [ho] at h
        cases o with
        | lst ds =>
          simp only at h
          obtain ⟨vs, e1, e2⟩ := m
          cases e : ds.mapM (KM.frz as.length M f) with
          | none => rw [e] at h; cases h
          | some es => rw [e] at h; cases h; exact .lst (hI _ e1) (e2.frz ih e)
        | kd kvs =>
          simp only at h
          obtain ⟨o, e1, xs, e2, e3⟩ := m
          cases e : (kvs.map fun p => p.2).mapM (KM.frz as.length M f) with
          | none => rw [e] at h; cases h
          | some es => rw [e] at h; cases h; exact .kdi (hI _ e1) e2 (e3.frz g ih e)
        | dct kvs => cases h
        | dlk kvs => cases h
        | kdl kvs => cases h
    | obj a => cases h; exact .obj a
    | fn h1 => cases h; exact .fn h1
    | dct h1 => cases h; exact .dct (g.sub _ _ h1)
    | @kdi a o xs ks ds h1 h2 h3 =>
      simp only at h
      cases e : ds.mapM (KM.frz as.length M f) with
      | none => rw [e] at h; cases h
      | some es => rw [e] at h; cases h; exact .kdi (g.sub _ _ h1) h2 (h3.frz g ih e)
theorem Wr.frz (w : Wr K H I (as ++ t) M P) (h : (M.take as.length).all (MO.lo as.length) = true) (hl : (M.drop as.length).all (fun o => !o.isL) = true) : Wr K H (frI H I t) as (M.take as.length) P := by
  have w1 := w.cut h
  have nt : ∀ a ∈ t, P a = none := fun a ha => by
    obtain ⟨j, hj⟩ := List.getElem?_of_mem ha
    have hj2 : (as ++ t)[as.length + j]? = some a := by
      rw [List.getElem?_append_right (by omega)]
      rw [show as.length + j - as.length = j by omega]
      exact hj
    obtain ⟨o, ho, _, fr, _⟩ := w.at hj2
    have hm : o ∈ M.drop as.length := by
      have : (M.drop as.length)[j]? = some o := by rw [List.getElem?_drop]; exact ho
      exact List.mem_of_getElem? this
    have hb := List.all_eq_true.mp hl o hm
    cases o with
    | dlk kvs => cases hb
    | kdl kvs => cases hb
    | _ => exact fr
  refine ⟨fun a o e => ?_, w1.len, w1.nd, fun k a o ha ho => ?_, fun a o e => ?_⟩
  · unfold frI at e
    cases e1 : I a with
    | some u =>
      rw [e1] at e
      cases e
      exact w.sub _ _ e1
    | none =>
      rw [e1] at e
      simp only at e
      split at e
      · exact e
      · cases e
  · obtain ⟨m1, m2, m3⟩ := w1.mu k a o ha ho
    refine ⟨?_, m2, m3.mono frI_gr rfl⟩
    unfold frI
    rw [m1]
    simp only
    have hnt : a ∉ t := fun ht => (List.nodup_append.mp w.nd).2.2 a (List.mem_of_getElem? ha) a ht rfl
    rw [if_neg hnt]
  · obtain ⟨p1, p2⟩ := w.prv a o e
    refine ⟨p1, ?_⟩
    unfold frI
    rw [p2]
    simp only
    have hnt : a ∉ t := fun ht => by rw [nt a ht] at e; cases e
    rw [if_neg hnt]
end
def frzR (n : Nat) : R D → R D
  | .ok d M => if ((M.take n).all (MO.lo n) && (M.drop n).all (fun o => !o.isL)) = true then (match frz n M 9 d with
    | some d' => .ok d' (M.take n)
    | none => .bad) else .bad
  | .ex c M => if (M.take n).all (MO.lo n) = true then .ex c (M.take n) else .bad
  | .bad => .bad
def frzM (m : OC) : OC := fun ds M => frzR M.length (m ds M)
theorem Sat.frz {K : PySem.W.Frag} {Wf : Str → Hp → Prop} {I P : Hp} {as : List Addr} {Q : VK} {r : R D} {n : Nat} (hn : as.length = n) (s : Sat K (Rep K) Wf I as P Q (frzR n r)) : Sat K (Rep K) Wf I as P Q r := by
  subst hn
  cases r with
  | bad => exact s.elim
  | ok d M =>
    have s2 : Sat K (Rep K) Wf I as P Q (if ((M.take as.length).all (MO.lo as.length) && (M.drop as.length).all (fun o => !o.isL)) = true then (match KM.frz as.length M 9 d with
      | some d' => .ok d' (M.take as.length)
      | none => .bad) else .bad) := s
    by_cases hb : ((M.take as.length).all (MO.lo as.length) && (M.drop as.length).all (fun o => !o.isL)) = true
    · rw [if_pos hb] at s2
      rw [Bool.and_eq_true] at hb
      cases e : KM.frz as.length M 9 d with
      | none => rw [e] at s2; exact s2.elim
      | some d' =>
        rw [e] at s2
        rintro v H' I' as' ⟨g1, t, rfl⟩ w' r'
        have gI : Gr I' as (frI H' I' t) as := frI_gr
        exact s2 v H' (frI H' I' t) as ⟨fun a o q => gI.sub _ _ (g1 a o q), [], by simp⟩ (w'.frz hb.1 hb.2) (Rep.frz w' 9 v d d' r' e)
    · rw [if_neg hb] at s2
      exact s2.elim
  | ex c M =>
    have s2 : Sat K (Rep K) Wf I as P Q (if (M.take as.length).all (MO.lo as.length) = true then .ex c (M.take as.length) else .bad) := s
    by_cases hb : (M.take as.length).all (MO.lo as.length) = true
    · rw [if_pos hb] at s2
      rintro H' I' as' ⟨g1, t, rfl⟩ w'
      exact s2 H' I' as ⟨g1, [], by simp⟩ (w'.cut hb)
    · rw [if_neg hb] at s2
      exact s2.elim
section
variable {P : Program} {w : World} {K : PySem.W.Frag} {mg : Str → Option Value} {base : Heap}
theorem FnOk.frz {f : Addr} {fd : FuncData} {ps : List Str} {k n : Nat} {m : OC} (F : FnOk P w K mg base (L2.CX P w) k f fd ps (spM K mg n m)) : FnOk P w K mg base (L2.CX P w) k f fd ps (spM K mg n (frzM m)) :=
  FnOk.m F fun ds M H I as P' Q Wf _ hl s => Sat.frz hl s
end
end KM
set_option Elab.async false
set_option linter.all false
set_option maxRecDepth 100000
set_option maxHeartbeats 2000000
/-! {k: v}, len(d), min of ints, reversed -/
namespace SkE
open PySem PySem.Spec PyProof.Rows L2
section
variable {prog : Program} {w : World} {A : Around} {E : Value → Shared → Prop} {s : Shared} {l : Addr} {its : List Value} {ns : List Int}
theorem min_intTuple {xs : Array (Int × Tok)} {Q : Value → Shared → Prop} (hh : A.handled = none) (hl : s.heap.IsTuple l (intItems xs)) (hne : 0 < xs.size)
    (h : ∀ v h' tk, (intItems xs)[argBest (fun i j => decide (numAt xs i < numAt xs j)) (xs.size - 1)]? = some v → (∀ b o, s.heap.get? b = some o → h'.get? b = some o) → Q v { s with heap := h', toks := tk }) :
    wpAny (model prog w) A (call (.builtin "min") [.ref l]) Q E s := by
  have hlt : l < s.heap.objs.size := by obtain ⟨_, e, _⟩ := hl; exact Heap.lt_size e
  refine call_min_walk (wpAny_pyIter_tuple hl ?_)
  refine ⟨_, _, _, _, _, _, _, rfl, Walks.tuple (A := A.in1) hh _ l (Nat.ne_of_lt hlt) (intItems xs), ⟨⟨_, Heap.get?_push_size _ rfl, rfl, rfl⟩, hl.push _⟩, fun b hb => ?_, by simpa [intItems] using hne, CmpOf.ints_lt (numAt xs) (fun _ _ => intItems_at), fun v h' tk hP hk => ?_⟩
  · show b < (s.heap.push _).objs.size
    rw [Heap.size_push]
    rcases List.mem_cons.mp hb with rfl | hb
    · exact Nat.lt_succ_self _
    · rcases List.mem_cons.mp hb with rfl | hb
      · exact Nat.lt_succ_of_lt hlt
      · cases hb
  · exact h v h' tk (by simpa [intItems] using hP) (fun b o e => hk b o (fun hb => absurd (Heap.lt_size e) ((List.mem_singleton.mp hb) ▸ Nat.lt_irrefl _)) (Heap.get?_push_of_some _ e))
theorem min_rawT {Q : Value → Shared → Prop} (hh : A.handled = none) (hl : s.heap.IsTuple l its.toArray) (hi : IntsAre its ns) (hne : 0 < ns.length)
    (h : ∀ h' tk M t', (∀ b o, s.heap.get? b = some o → h'.get? b = some o) → M ∈ ns → (∀ a, a ∈ ns → M ≤ a) → Q (.int M t') { s with heap := h', toks := tk }) : wpAny (model prog w) A (call (.builtin "min") [.ref l]) Q E s := by
  obtain ⟨xs, e⟩ := hi.allInts.items
  have hn : numsOf (intItems xs).toList = ns := by rw [← e]; exact hi.numsOf
  rw [nums_intItems] at hn
  subst hn
  rw [e] at hl
  have hsz : 0 < xs.size := by simpa using hne
  refine min_intTuple hh hl hsz fun v h' tk hv hk => ?_
  obtain ⟨t, rfl⟩ := intItems_at hv
  obtain ⟨h1, h2⟩ := argBest_lt (numAt xs) (xs.size - 1)
  refine h h' tk _ t hk ?_ fun a ha => ?_
  · rw [numAt_eq]; exact PySem.getD_mem (by rw [List.length_map, Array.length_toList]; omega)
  · obtain ⟨j, hj, rfl⟩ := mem_getD ha
    rw [List.length_map, Array.length_toList] at hj
    rw [← numAt_eq]; exact h2 j (by omega)
end
end SkE
namespace KM
open PySem L2 PySem.Spec PyProof.Rows
def rMinA (K : PySem.W.Frag) : List V → Hp → VK → Prop := fun vs H Q => ∃ (a : Addr) (ns : List Int), vs = [V.ref a] ∧ (SqT K H a (ns.map V.int) ∨ SqL K H a (ns.map V.int)) ∧ 0 < ns.length ∧ ∀ m, m ∈ ns → (∀ y, y ∈ ns → m ≤ y) → Q (.int m) H
theorem cr_minA {X : Cx} (hc : X.calm = true) : CallR X (.builtin "min") (rMinA X.K) := by
  intro pins s σ H vs us Q I r h
  obtain ⟨a, ns, rfl, hs | hs, hne, q⟩ := h
  · obtain ⟨its, rv, pl, hz⟩ := I.tuple hs
    rw [Vals.ref1 r]
    exact SkE.min_rawT (I.ok.hd hc) pl rv.ints hne fun h' tk m t' hk h1 h2 => ⟨.int _, H, I.kept hk, ⟨_, rfl⟩, q m h1 h2⟩
  · exact cr_min hc pins s σ H _ us Q I r ⟨a, ns, rfl, hs, hne, q⟩
def minL (n : Int) (ns : List Int) : Int := ns.foldl (fun a b => if b < a then b else a) n
theorem minL_spec : ∀ (ns : List Int) (n : Int), minL n ns ∈ n :: ns ∧ ∀ y ∈ n :: ns, minL n ns ≤ y
  | [], n => ⟨by simp [minL], by simp [minL]⟩
  | m :: ns, n => by
    have e : minL n (m :: ns) = minL (if m < n then m else n) ns := rfl
    obtain ⟨h1, h2⟩ := minL_spec ns (if m < n then m else n)
    rw [e]
    constructor
    · rcases List.mem_cons.mp h1 with q | q
      · rw [q]
        split <;> simp
      · exact List.mem_cons_of_mem _ (List.mem_cons_of_mem _ q)
    · intro y hy
      have h0 := h2 _ (List.mem_cons_self ..)
      have h0' : minL (if m < n then m else n) ns ≤ n ∧ minL (if m < n then m else n) ns ≤ m := by
        by_cases c : m < n
        · rw [if_pos c] at h0 ⊢
          omega
        · rw [if_neg c] at h0 ⊢
          omega
      rcases List.mem_cons.mp hy with q | q
      · subst q
        exact h0'.1
      · rcases List.mem_cons.mp q with q | q
        · subst q
          exact h0'.2
        · exact h2 y (List.mem_cons_of_mem _ q)
def oMinA : OC := fun ds M => match ds with
  | [x] => match tupOf x with
    | some xs => match intsD xs with
      | some (n :: ns) => .ok (.int (minL n ns)) M
      | _ => .bad
    | none => match listOf M x with
      | some xs => match intsD xs with
        | some (n :: ns) => .ok (.int (minL n ns)) M
        | _ => .bad
      | none => .bad
  | _ => .bad
theorem opc_minA {K : PySem.W.Frag} : OpC K (rMinA K) oMinA := by
  intro H I as M P xs ds Wf Q w r s
  have fin : ∀ {n : Int} {ns : List Int} {a : Addr}, (SqT K H a ((n :: ns).map V.int) ∨ SqL K H a ((n :: ns).map V.int)) → Sat K (Rep K) Wf I as P Q (.ok (.int (minL n ns)) M) → rMinA K [V.ref a] H Q := by
    intro n ns a h1 s
    refine ⟨a, n :: ns, rfl, h1, by simp, fun m hm hb => ?_⟩
    obtain ⟨q1, q2⟩ := minL_spec ns n
    have em : m = minL n ns := Int.le_antisymm (hb _ q1) (q2 m hm)
    subst em
    exact s.now w (.int _)
  unfold oMinA at s
  split at s
  · obtain ⟨v, rfl, rv⟩ := r.one_inv
    split at s
    · rename_i ys hy
      split at s
      · rename_i n ns hn
        obtain ⟨a, vs, rfl, h1, r1⟩ := rv.tupl w hy
        have e := r1.intsD hn
        subst e
        exact fin (.inl h1) s
      · exact s.elim
    · split at s
      · rename_i ys hy
        split at s
        · rename_i n ns hn
          obtain ⟨a, vs, rfl, h1, r1⟩ := rv.list w hy
          have e := r1.intsD hn
          subst e
          exact fin (.inr h1) s
        · exact s.elim
      · exact s.elim
  · exact s.elim
theorem kr {X : Cx} (h : X.A.units + 64 < cLine) : KRoom X := by unfold KRoom; omega
/-! ### len(d) -/
def rLenK (K : PySem.W.Frag) : List V → Hp → VK → Prop := fun xs H Q => rLenC K xs H Q ∨ ∃ (a : Addr) (o : Obj) (ks : KX), xs = [V.ref a] ∧ DKV K H a o ks ∧ ks.length < 1000000 ∧ Q (.int ks.length) H
theorem call_lenK1 {X : Cx} : CallR X (.builtin "len") (fun xs H Q => ∃ (a : Addr) (o : Obj) (ks : KX), xs = [V.ref a] ∧ DKV X.K H a o ks ∧ ks.length < 1000000 ∧ Q (.int ks.length) H) := by
  intro pins s σ H xs us Q I r h
  obtain ⟨a, o, ks, rfl, dk, hz, q⟩ := h
  obtain ⟨u, rfl, ru⟩ := vals1 r
  cases ru
  have dd := dk.dictOfH I
  refine PyProof.Rows.call_len_slot (n := ks.length) dd.typeIs F.slot_dict_len (fun Q' hq => len_keyed (knd := nestedKind X.prog X.w) dk.ka.ns ⟨ks, dd, rfl⟩ (by rw [pairsH_length]; exact hq)) (by omega) (by omega) ?_
  exact ⟨.int ks.length, H, I.tok _, ⟨_, rfl⟩, q⟩
theorem call_lenK {X : Cx} : CallR X (.builtin "len") (rLenK X.K) := call_or call_len_seq call_lenK1
def oLenK : OC := fun ds M => match ds with
  | [x] => match kdOf M x with
    | some kvs => if kvs.length < 1000000 then .ok (.int (kvs.length : Int)) M else .bad
    | none => oLen ds M
  | ds => oLen ds M
theorem opc_lenK {K : PySem.W.Frag} : OpC K (rLenK K) oLenK := by
  intro H I as M P xs ds Wf Q w r s
  unfold oLenK at s
  split at s
  · split at s
    · rename_i kvs hk
      split at s
      · rename_i hz
        obtain ⟨v, rfl, rv⟩ := r.one_inv
        obtain ⟨a, o, ks, rfl, dk, kx⟩ := rv.kd w hk
        have hl := kx_len kx
        exact .inr ⟨a, o, ks, rfl, dk, by omega, by rw [← hl]; exact s.now w (.int _)⟩
      · exact s.elim
    · exact .inl (opc_len H I as M P xs _ Wf Q w r s)
  · exact .inl (opc_len H I as M P xs _ Wf Q w r s)
/-! ### {k: v} -/
def tKD1 (K : PySem.W.Frag) (tk tv : TE) : TE := fun σ H Q => ∀ p, H p = none → sysModules < p → tk σ (upd H p (ObO p emO)) fun y H1 => tv σ H1 fun z H2 => ∃ k b, y = V.ref b ∧ H2 p = some (ObO p emO) ∧ KeyV K H2 (.ref b) k ∧ k.depth ≤ 8 ∧ ∀ o' u, RelV z u → KdA p o' [(k, b, u)] → Q (.ref p) (upd H2 p (ObO p o'))
theorem pe_kd1 {X : Cx} {pos : Pos} {kx vx : Expr} {tk tv : TE} (hu : KRoom X) (hk : PE X kx tk) (hv : PE X vx tv) : PE X (.Dict [some kx] [vx] pos) (tKD1 X.K tk tv) := by
  refine ⟨fun pins s σ H Q I h => ?_⟩
  have hn := I.hok.fresh (Nat.le_refl s.heap.objs.size)
  have I1 := I.laid (a := s.heap.objs.size) (o := ObO s.heap.objs.size emO) (h' := s.heap.push { cls := .type "dict", data := .dict #[] }) (t' := s.toks) (fun _ _ q => Heap.get?_push_of_some _ q) (Nat.le_refl _) (obo_ok (Heap.get?_push_size _ rfl))
  have h := h _ hn I.big
  rw [arm_eval_Dict, zip_pairTrees [some kx] [vx] X.env pos rfl rfl, dictDisplay_pairs (pairTrees [some kx] [vx] X.env pos) (by simp [pairTrees]) (by simp [pairTrees])]
  refine wpAny_bind (wpAny_standAt (wpAny_bind (wpAny_subDictH (knd := nestedKind X.prog X.w) (Q := fun d s' => wpAny (model X.prog X.w) X.A (pure (Value.ref d)) (EP X pins σ Q) X.xe s') (by show X.A.units + 8 < cLine; unfold KRoom at hu; omega) (by simp [pairTrees]) ?_)))
  refine pairTrees_cons_walk (thn (hk.run pins _ σ _ _ I1 h) fun u s2 ⟨y, H2, I2, ry, q2⟩ => thn (hv.run pins s2 σ H2 _ I2 q2) fun r s3 ⟨z, H3, I3, rz, q3⟩ => pairTrees_nil_walk ?_)
  obtain ⟨k, b, rfl, hp, kv, kd, q⟩ := q3
  cases (show u = Value.ref b from ry)
  have g0 : s3.heap.get? s.heap.objs.size = some emO := obo_at I3 (.inl hp)
  refine ⟨[(k, b, r)], ⟨rfl, rfl, ⟨kv.nest I3 rfl, kd⟩, trivial⟩, ⟨emO, #[], 0, g0, ⟨rfl, rfl, rfl⟩, rfl, rfl, (fun _ hx => nomatch hx), List.nodup_nil⟩, fun h' tk dd hs => ?_⟩
  obtain ⟨o', e1, e2⟩ := kda_of (H := H3) (xs := [(k, b, r)]) dd (kda_new I.big).ns (fun x hx w w' => by
    rw [List.mem_singleton.mp hx]
    exact kv.hash w w') (by show 1 ≤ sizeLine; decide)
  exact wpAny_pure ⟨.ref s.heap.objs.size, _, d_write I3 (by rw [hp]; exact True.intro) hs ⟨o', e1⟩ (obo_ok e1), rfl, q o' r rz e2⟩
def gKd1 (gk gv : GE) : GE := fun δ M => match gk δ M with
  | .ok k M1 => match gv δ M1 with
    | .ok v M2 => match tkey k with
      | some _ => .ok (.kdi [k] [v]) M2
      | none => .bad
    | _ => .bad
  | _ => .bad
section
variable {X : Cx} {W : WX} {pos : Pos} {kx vx : Expr} {tk tv : TE} {gk gv : GE}
theorem xe_kd1 (hu : KRoom X) (hk : XE X W0 kx tk gk) (hv : XE X W0 vx tv gv) : XE X W (.Dict [some kx] [vx] pos) (tKD1 X.K tk tv) (gKd1 gk gv) := by
  refine ⟨pe_kd1 hu hk.pe hv.pe, fun σ H δ I as M P Q w en s => ?_⟩
  intro p hp big
  obtain ⟨_, f2, _⟩ := w.fresh hp
  refine hk.im σ _ δ I as M _ _ (w.newP hp (ObO p emO)) en ?_
  unfold gKd1 at s
  cases e1 : gk δ M with
  | bad => simp only [e1] at s; exact s.elim
  | ex c M1 => simp only [e1] at s; exact s.elim
  | ok k M1 =>
    simp only [e1] at s
    intro v1 H1 I1 as1 g1 w1 r1
    have s1 := Sat.gr g1 s
    refine hv.im σ H1 δ I1 as1 M1 _ _ w1 (en.mono g1) ?_
    cases e2 : gv δ M1 with
    | bad => simp only [e2] at s1; exact s1.elim
    | ex c M2 => simp only [e2] at s1; exact s1.elim
    | ok v M2 =>
      simp only [e2] at s1
      intro v2 H2 I2 as2 g2 w2 r2
      have s2 := Sat.gr g2 s1
      split at s2
      · rename_i nk hkey
        obtain ⟨ds, rfl, k1, k2⟩ := tkey_of hkey
        have r1' := r1.mono g2
        have kv := r1'.key w2 k1
        cases r1' with
        | @tup b vs _ hb rb =>
          refine ⟨nk, b, rfl, (w2.prv p _ upd_same).1, kv, k2, fun o' u ru ka => ?_⟩
          have w3 := w2.putP (p := p) upd_same (ObO p o')
          rw [upd_upd] at w3
          obtain ⟨w4, g4⟩ := w3.giveI f2
          exact s2 _ _ _ _ g4 w4 (.kdi upd_same ka (.cons ((Rep.tup hb rb).mono g4) hkey ru (r2.mono g4) .nil))
      · exact s2.elim
end
/-! ### reversed -/
def giRev (ge : GE) : GI := fun δ M => (ge δ M).bind fun x M1 => match tupOf x with
  | some xs => .ok (itT xs.reverse) M1
  | none => match x with
    | .lst xs => .ok (itT xs.reverse) M1
    | .rol xs => .ok (itT xs.reverse) M1
    | _ => .bad
section
variable {X : Cx} {W : WX} {tg e : Expr} {te : TE} {ge : GE} {p pos : Pos}
theorem itok_rev {K : PySem.W.Frag} {I P0 : Hp} {as : List Addr} {a : Addr} {vs : List V} {xs : List D} (h : SqL K I a vs) (r : Reps K I as vs xs) : ItOk K P0 I as (Itv K a vs.length) (itT xs.reverse) := by
  refine ⟨fun H => SqL K H a vs, fun i H x H' => H' = H ∧ vs[vs.length - 1 - i]? = some x, ?_, fun H' I' as' M' P' _ g w _ => w.seqL (Evl.ex_l g.sub h), ?_⟩
  · rw [show (itT xs.reverse).items.length = vs.length by simp [itT, r.len]]
    exact walk_rev
  · rintro i x H' H2 I' as' M' P' hi _ g w _ ⟨rfl, hx⟩
    obtain ⟨d, e1, e2⟩ := r.get' hx
    refine ⟨I', d, Gr.refl _ _, w, ?_, e2.mono g⟩
    show xs.reverse[i]? = some d
    have hi2 : i < xs.length := by simpa [itT] using hi
    rw [List.getElem?_reverse hi2, ← r.len]
    exact e1
theorem itok_revT {K : PySem.W.Frag} {I P0 : Hp} {as : List Addr} {a : Addr} {vs : List V} {xs : List D} (h : SqT K I a vs) (r : Reps K I as vs xs) : ItOk K P0 I as (RT.ItvT K a vs.length) (itT xs.reverse) := by
  refine ⟨fun H => SqT K H a vs, fun i H x H' => H' = H ∧ vs[vs.length - 1 - i]? = some x, ?_, fun H' I' as' M' P' _ g w _ => w.seqT (Evl.ex_t g.sub h), ?_⟩
  · rw [show (itT xs.reverse).items.length = vs.length by simp [itT, r.len]]
    exact ⟨fun i _ hi q => ⟨hi, vs, vs[vs.length - 1 - i]'(by omega), q, by simp [show vs.length - 1 - i < vs.length by omega]⟩, fun _ _ => Nat.le_refl _, fun _ _ _ _ _ q y => ⟨y.1, y.2 vs q⟩⟩
  · rintro i x H' H2 I' as' M' P' hi _ g w _ ⟨rfl, hx⟩
    obtain ⟨d, e1, e2⟩ := r.get' hx
    refine ⟨I', d, Gr.refl _ _, w, ?_, e2.mono g⟩
    show xs.reverse[i]? = some d
    have hi2 : i < xs.length := by simpa [itT] using hi
    rw [List.getElem?_reverse hi2, ← r.len]
    exact e1
theorem xi_rev (hm : X.mg "reversed" = none) (he : XE X W e te ge) (hg : Gl X "reversed" := by rfl) (hs : starEach [e] X.env = (false, eval e X.env) :: starEach [] X.env := by rfl) : XI X W tg (.Call (.Name "reversed" p) [e] [] pos) (RT.iRevA X.K te) (giRev ge) := by
  refine ⟨RT.pi_revA hg hm he.pe hs, fun σ H δ I as M P Q w en s => ?_⟩
  refine he.im σ H δ I as M P _ w en (Sat.bind s fun d M1 v H1 I1 as1 _ g1 w1 r1 s1 => ?_)
  split at s1
  · rename_i xs hx
    obtain ⟨a, vs, rfl, h1, rr⟩ := r1.tupl w1 hx
    cases r1 with
    | @tup _ vs' ds h2 r2 =>
      cases hx
      exact ⟨a, vs', rfl, .inr ⟨w1.seqT h2, s1 _ H1 I1 as1 (Gr.refl _ _) w1 (itok_revT h2 r2)⟩⟩
    | _ => cases hx
  · split at s1
    · cases r1 with
      | @lst a vs ds h1 rr => exact ⟨a, vs, rfl, .inl ⟨.of (w1.sub _ _ h1), s1 _ H1 I1 as1 (Gr.refl _ _) w1 (itok_rev (.of h1) rr)⟩⟩
    · cases r1 with
      | @rol a vs ds h1 rr => exact ⟨a, vs, rfl, .inl ⟨w1.seqL h1, s1 _ H1 I1 as1 (Gr.refl _ _) w1 (itok_rev h1 rr)⟩⟩
    · exact s1.elim
end
end KM
namespace KM
open PySem L2 PySem.Spec PyProof.Rows
theorem sw_trueD {kx vx : Expr} {gs : List Comprehension} {scope : Scope} {pos py : Pos} {y : Str} {l : Nat} {env : Env} (hk : env.scope.kind = .function) (hy : env.scope.names.lookup y = some .local) (hl : (py.line == pos.line) = true)
    (ha : (scope.names.any fun (n, k) => n == y && (k == .local || k == .cell)) = false) : swapsWith (.DictComp kx vx gs scope pos) (some (.Name y py)) l env = pure true := by
  have ky : env.kindOf y = some .local := hy
  have hb : env.blockKind = .function := by unfold Env.blockKind; rw [hk]; rfl
  unfold swapsWith
  simp only [hb, ky, ha, Expr.pos, hl]
  rfl
section
variable {X : Cx} {W : WX} {tg iter kx vx : Expr} {ifs : List Expr} {scope : Scope} {pos : Pos} {wi : TI} {gi : GI} {is : List Nat} {gt : TG} {gg : GG} {tt : TT} {gb : GB} {tk tv : TE} {gk gv : GE}
theorem xs_setKc (i : Nat) {y : Str} {py spos : Pos} (own : List (Str × Nat)) (hu : KRoom X) (hc : X.calm = true) (hN : X.N.Nodup) (hi : XI X W tg iter wi gi) (ok : BlkOk X.N X.env.scope scope own)
    (hg : ∀ (s : Shared) (H : Hp) (C : Addr) (cl : List (Str × Addr)) (fp : List Addr), XG (X.blk s H scope (compEnvC scope cl C X.env) fp) W0 tg is gt gg) (ht : ∀ (s : Shared) (H : Hp) (C : Addr) (cl : List (Str × Addr)) (fp : List Addr), XTs (X.blk s H scope (compEnvC scope cl C X.env) fp) W0 ifs tt gb)
    (hk : ∀ (s : Shared) (H : Hp) (C : Addr) (cl : List (Str × Addr)) (fp : List Addr), XE (X.blk s H scope (compEnvC scope cl C X.env) fp) W0 kx tk gk)
    (he : ∀ (s : Shared) (H : Hp) (C : Addr) (cl : List (Str × Addr)) (fp : List Addr), XE (X.blk s H scope (compEnvC scope cl C X.env) fp) W0 vx tv gv) (hsub : ∀ j ∈ is, j ∈ own.map (·.2) := by decide)
    (hsw : swapsWith (.DictComp kx vx [⟨tg, iter, ifs, 0⟩] scope pos) (some (.Name y py)) spos.line X.env = pure true := by exact sw_trueD rfl rfl rfl (by decide +kernel)) (hy : X.N[i]? = some y := by rfl) (hyl : X.env.scope.names.lookup y = some .local := by rfl) (hs : ∀ x, foldedSetIterable iter X.env x = pure x := by intro _; rfl) :
    XS X W (.Assign [.Name y py] (.DictComp kx vx [⟨tg, iter, ifs, 0⟩] scope pos) spos) (tAsg (tDcX (fun D => ObO D emO) (stK X.K) wi gt tt tk tv (own.map (·.2))) (L2.gName i)) (gSet i (gKc gi gg gb gk gv (own.map (·.2)))) :=
  ⟨ps_setdcX new_K (dset_K hu) hc hN hi.pe ok (fun s H C cl fp => (hg s H C cl fp).pe) (fun s H C cl fp => (ht s H C cl fp).pe) (fun s H C cl fp => (hk s H C cl fp).pe) (fun s H C cl fp => (he s H C cl fp).pe) hs hy hyl hsw,
    impS_set (impE_kc hsub hi.im (hg X.s_0 X.H_0 0 [] []).im (ht X.s_0 X.H_0 0 [] []).im (hk X.s_0 X.H_0 0 [] []).im (he X.s_0 X.H_0 0 [] []).im)⟩
variable {tg1 iter1 : Expr} {ifs1 : List Expr} {wi1 : TI} {gi1 : GI} {is1 : List Nat} {gt1 : TG} {gg1 : GG} {tt1 : TT} {gb1 : GB}
theorem xs_setKc2 (i : Nat) {y : Str} {py spos : Pos} (own : List (Str × Nat)) (vs1 : List Nat) (hu : KRoom X) (hc : X.calm = true) (hN : X.N.Nodup) (hi : XI X W tg iter wi gi) (ok : BlkOk X.N X.env.scope scope own)
    (hg : ∀ (s : Shared) (H : Hp) (C : Addr) (cl : List (Str × Addr)) (fp : List Addr), XG (X.blk s H scope (compEnvC scope cl C X.env) fp) W0 tg is gt gg) (ht : ∀ (s : Shared) (H : Hp) (C : Addr) (cl : List (Str × Addr)) (fp : List Addr), XTs (X.blk s H scope (compEnvC scope cl C X.env) fp) W0 ifs tt gb)
    (hi1 : ∀ (s : Shared) (H : Hp) (C : Addr) (cl : List (Str × Addr)) (fp : List Addr), XI (X.blk s H scope (compEnvC scope cl C X.env) fp) W0 tg1 iter1 wi1 gi1)
    (hg1 : ∀ (s : Shared) (H : Hp) (C : Addr) (cl : List (Str × Addr)) (fp : List Addr), XG (X.blk s H scope (compEnvC scope cl C X.env) fp) W0 tg1 is1 gt1 gg1) (ht1 : ∀ (s : Shared) (H : Hp) (C : Addr) (cl : List (Str × Addr)) (fp : List Addr), XTs (X.blk s H scope (compEnvC scope cl C X.env) fp) W0 ifs1 tt1 gb1)
    (hk : ∀ (s : Shared) (H : Hp) (C : Addr) (cl : List (Str × Addr)) (fp : List Addr), XE (X.blk s H scope (compEnvC scope cl C X.env) fp) W0 kx tk gk)
    (he : ∀ (s : Shared) (H : Hp) (C : Addr) (cl : List (Str × Addr)) (fp : List Addr), XE (X.blk s H scope (compEnvC scope cl C X.env) fp) W0 vx tv gv) (hv : ∀ i ∈ vs1, i ∈ own.map (·.2) := by decide) (hsub : ∀ j ∈ is, j ∈ own.map (·.2) := by decide) (hsub1 : ∀ j ∈ is1, j ∈ vs1 := by decide)
    (hsw : swapsWith (.DictComp kx vx [⟨tg, iter, ifs, 0⟩, ⟨tg1, iter1, ifs1, 0⟩] scope pos) (some (.Name y py)) spos.line X.env = pure true := by exact sw_trueD rfl rfl rfl (by decide +kernel)) (hy : X.N[i]? = some y := by rfl) (hyl : X.env.scope.names.lookup y = some .local := by rfl) (hs : ∀ x, foldedSetIterable iter X.env x = pure x := by intro _; rfl) (hs1 : ∀ env x, foldedSetIterable iter1 env x = pure x := by intro _ _; rfl) :
    XS X W (.Assign [.Name y py] (.DictComp kx vx [⟨tg, iter, ifs, 0⟩, ⟨tg1, iter1, ifs1, 0⟩] scope pos) spos) (tAsg (tDc2X (fun D => ObO D emO) (stK X.K) wi gt tt wi1 gt1 tt1 tk tv (own.map (·.2)) vs1) (L2.gName i)) (gSet i (gKc2 gi gg gb gi1 gg1 gb1 gk gv (own.map (·.2)) vs1)) :=
  ⟨ps_setdc2X new_K (dset_K hu) hc hN hi.pe ok hv (fun s H C cl fp => (hg s H C cl fp).pe) (fun s H C cl fp => (ht s H C cl fp).pe) (fun s H C cl fp => (hi1 s H C cl fp).pe) (fun s H C cl fp => (hg1 s H C cl fp).pe) (fun s H C cl fp => (ht1 s H C cl fp).pe) (fun s H C cl fp => (hk s H C cl fp).pe) (fun s H C cl fp => (he s H C cl fp).pe) hs hs1 hy hyl hsw,
    impS_set (impE_kc2 hsub hsub1 hi.im (hg X.s_0 X.H_0 0 [] []).im (ht X.s_0 X.H_0 0 [] []).im (hi1 X.s_0 X.H_0 0 [] []).im (hg1 X.s_0 X.H_0 0 [] []).im (ht1 X.s_0 X.H_0 0 [] []).im (hk X.s_0 X.H_0 0 [] []).im (he X.s_0 X.H_0 0 [] []).im)⟩
end
end KM
set_option Elab.async false
set_option linter.all false
set_option maxRecDepth 100000
set_option maxHeartbeats 2000000
/-! sum of a tuple of ints -/
namespace KM
open PySem L2 PySem.Spec PyProof.Rows
def rSumA (K : PySem.W.Frag) : List V → Hp → VK → Prop := fun vs H Q => ∃ (a : Addr) (ns : List Int), vs = [V.ref a] ∧ (SqT K H a (ns.map V.int) ∨ SqL K H a (ns.map V.int)) ∧ Q (.int ns.sum) H
theorem sum_rawT {prog : Program} {w : World} {A : Around} {E : Value → Shared → Prop} {s : Shared} {l : Addr} {its : List Value} {ns : List Int} {Q : Value → Shared → Prop} (hh : A.handled = none) (hl : s.heap.IsTuple l its.toArray) (hi : IntsAre its ns)
    (h : ∀ h' tk t', (∀ b o, s.heap.get? b = some o → h'.get? b = some o) → Q (.int ns.sum t') { s with heap := h', toks := tk }) : wpAny (model prog w) A (call (.builtin "sum") [.ref l]) Q E s := by
  obtain ⟨xs, e⟩ := hi.allInts.items
  have hn : numsOf (intItems xs).toList = ns := by rw [← e]; exact hi.numsOf
  rw [nums_intItems] at hn
  rw [e] at hl
  refine PySem.W.ktm_sumG hh hl fun h' tk t' hk => ?_
  have := h h' tk t' hk
  rw [preSum_eq, List.take_of_length_le (by simp), hn]
  exact this
theorem cr_sumA {X : Cx} (hc : X.calm = true) : CallR X (.builtin "sum") (rSumA X.K) := by
  intro pins s σ H vs us Q I r h
  obtain ⟨a, ns, rfl, hs | hs, q⟩ := h
  · obtain ⟨its, rv, pl, hz⟩ := I.tuple hs
    rw [Vals.ref1 r]
    exact sum_rawT (I.ok.hd hc) pl rv.ints fun h' tk t' hk => ⟨.int _, H, I.kept hk, ⟨_, rfl⟩, q⟩
  · exact cr_sum hc pins s σ H _ us Q I r ⟨a, ns, rfl, hs, q⟩
def oSumA : OC := fun ds M => match ds with
  | [x] => match tupOf x with
    | some xs => match intsD xs with
      | some ns => .ok (.int ns.sum) M
      | none => .bad
    | none => match listOf M x with
      | some xs => match intsD xs with
        | some ns => .ok (.int ns.sum) M
        | none => .bad
      | none => .bad
  | _ => .bad
theorem opc_sumA {K : PySem.W.Frag} : OpC K (rSumA K) oSumA := by
  intro H I as M P xs ds Wf Q w r s
  unfold oSumA at s
  split at s
  · obtain ⟨v, rfl, rv⟩ := r.one_inv
    split at s
    · rename_i ys hy
      split at s
      · rename_i ns hn
        obtain ⟨a, vs, rfl, h1, r1⟩ := rv.tupl w hy
        have e := r1.intsD hn
        subst e
        exact ⟨a, ns, rfl, .inl h1, s.now w (.int _)⟩
      · exact s.elim
    · split at s
      · rename_i ys hy
        split at s
        · rename_i ns hn
          obtain ⟨a, vs, rfl, h1, r1⟩ := rv.list w hy
          have e := r1.intsD hn
          subst e
          exact ⟨a, ns, rfl, .inr h1, s.now w (.int _)⟩
        · exact s.elim
      · exact s.elim
  · exact s.elim
end KM
set_option linter.all false
set_option maxRecDepth 100000
namespace KG
open PySem L2 KM
noncomputable def g__law_pot : GS := gSeq (gSet 1 (gLcG finI (giSeq (gSl (gVar 0) (gNoP) (gP (gC (.int 63))))) (gtName 2) (gYes) (gCall oAbs (gACons (gCall oInt (gACons (gVar 2) (gANil))) (gANil))) [2]))
    (gRet (gLstM (gACons (gVar 1) (gACons (gC (.int 0)) (gACons (gC (.int 0)) (gACons (gOp oAdd (gC (.int 1)) (gCall oLen (gACons (gVar 1) (gANil)))) (gACons (gC (.int 0)) (gANil))))))))
noncomputable def m__law_pot : OC := fnM 3 g__law_pot
noncomputable def g__law_draw : GS := gSeq (gIf (gAnd (gTest (gOp oEq (gOp oIx (gVar 0) (gC (.int 2))) (gC (.int 0)))) (gTest (gOp oLt (gOp oIx (gVar 0) (gC (.int 1))) (gCall oLen (gACons (gOp oIx (gVar 0) (gC (.int 0))) (gANil)))))) (gSeq (gSet 2 (gOp oIx (gOp oIx (gVar 0) (gC (.int 0))) (gOp oIx (gVar 0) (gC (.int 1)))))
    (gSeq (gAsg (gOp oAdd (gOp oIx (gVar 0) (gC (.int 1))) (gC (.int 1))) (gtSub (gVar 0) (gC (.int 1)) oSetL))
    (gSeq (gAsg (gOp oMod (gCall oInt (gACons (gOp oAdd (gOp oAdd (gOp oMul (gOp oIx (gVar 0) (gC (.int 3))) (gC (.int 69621))) (gVar 2)) (gC (.int 11))) (gANil))) (gC (.int 2147483629))) (gtSub (gVar 0) (gC (.int 3)) oSetL))
    (gIf (gTest (gOp oGe (gVar 2) (gOp oPow (gC (.int 10)) (gC (.int 18))))) (gAsg (gVar 2) (gtSub (gVar 0) (gC (.int 2)) oSetL)) (gNext))))) (gNext))
    (gSeq (gIf (gTest (gOp oGt (gOp oIx (gVar 0) (gC (.int 2))) (gC (.int 0)))) (gSeq (gSet 3 (gOp oMod (gCall oInt (gACons (gOp oIx (gVar 0) (gC (.int 2))) (gANil))) (gVar 1)))
    (gSeq (gAsg (gOp oDiv (gOp oIx (gVar 0) (gC (.int 2))) (gVar 1)) (gtSub (gVar 0) (gC (.int 2)) oSetL))
    (gRet (gVar 3)))) (gNext))
    (gSeq (gAsg (gOp oAdd (gOp oIx (gVar 0) (gC (.int 4))) (gC (.int 1))) (gtSub (gVar 0) (gC (.int 4)) oSetL))
    (gSeq (gSet 4 (gOp oMod (gCall oInt (gACons (gOp oMul (gCall oInt (gACons (gOp oAdd (gOp oIx (gVar 0) (gC (.int 3))) (gOp oMul (gC (.int 7919)) (gOp oIx (gVar 0) (gC (.int 4))))) (gANil))) (gC (.int 48271))) (gANil))) (gC (.int 2147483647))))
    (gSeq (gSet 4 (gOp oMod (gCall oInt (gACons (gOp oMul (gVar 4) (gOp oAdd (gOp oDiv (gVar 4) (gC (.int 1009))) (gC (.int 69621)))) (gANil))) (gC (.int 2147483647))))
    (gSeq (gSet 4 (gOp oMod (gCall oInt (gACons (gOp oMul (gVar 4) (gOp oAdd (gOp oDiv (gVar 4) (gC (.int 2003))) (gC (.int 40692)))) (gANil))) (gC (.int 2147483399))))
    (gRet (gOp oMod (gCall oInt (gACons (gOp oDiv (gVar 4) (gC (.int 16))) (gANil))) (gVar 1))))))))
noncomputable def m__law_draw : OC := cutM (fnM 5 g__law_draw)
noncomputable def g__law_any : GS := gRet (gOp oIx (gVar 1) (gCall m__law_draw (gACons (gVar 0) (gACons (gCall oLen (gACons (gVar 1) (gANil))) (gANil)))))
noncomputable def m__law_any : OC := cutM (fnM 2 g__law_any)
noncomputable def g__law_adviser : GS := gSeq (gSet 3 (gOp oAdd (gC (.int 1)) (gCall m__law_draw (gACons (gVar 0) (gACons (gVar 2) (gANil))))))
    (gSeq (gSet 4 (gLstM (gANil)))
    (gSeq (gFor (giRng1 (gACons (gVar 3) (gANil))) (gtName 5) (gDrop (gBM oAppend (gVar 4) (gACons (gETup (gACons (gCall m__law_draw (gACons (gVar 0) (gACons (gVar 1) (gANil)))) (gACons (gCall oTuple (gACons (gLcG finI (giRng1 (gACons (gVar 1) (gANil))) (gtName 6) (gYes) (gCall m__law_draw (gACons (gVar 0) (gACons (gVar 3) (gANil)))) [6]) (gANil))) (gANil)))) (gANil)))))
    (gRet (gETup (gACons (gVar 1) (gACons (gCall oTuple (gACons (gVar 4) (gANil))) (gANil)))))))
noncomputable def m__law_adviser : OC := cutM (fnM 7 g__law_adviser)
noncomputable def g__law_circle : GS := gSeq (gSet 4 (gCall m__law_any (gACons (gVar 0) (gACons (gVar 1) (gANil)))))
    (gSeq (gSet 5 (gLcG finM (giRng1 (gACons (gCall m__law_any (gACons (gVar 0) (gACons (gVar 2) (gANil)))) (gANil))) (gtName 6) (gYes) (gCall m__law_adviser (gACons (gVar 0) (gACons (gVar 4) (gACons (gVar 3) (gANil))))) [6]))
    (gSeq (gIf (gAnd (gTest (gOp oGt (gCall oLen (gACons (gVar 5) (gANil))) (gC (.int 1)))) (gTest (gOp oEq (gCall m__law_draw (gACons (gVar 0) (gACons (gC (.int 6)) (gANil)))) (gC (.int 0))))) (gAsg (gOp oIx (gVar 5) (gC (.int 0))) (gtSub (gVar 5) (gUn oNeg (gC (.int 1))) oSetL)) (gNext))
    (gRet (gCall oTuple (gACons (gVar 5) (gANil))))))
noncomputable def m__law_circle : OC := cutM (fnM 7 g__law_circle)
noncomputable def g__law_deep : GS := gSeq (gSet 1 (gCall m__law_any (gACons (gVar 0) (gACons (gLst (gACons (gC .non) (gACons (gETup (gANil)) (gACons (gC (.int 0)) (gACons (gC (.bl true)) (gANil)))))) (gANil)))))
    (gSeq (gFor (giRng1 (gACons (gOp oAdd (gC (.int 8)) (gCall m__law_draw (gACons (gVar 0) (gACons (gC (.int 12)) (gANil))))) (gANil))) (gtName 2) (gSet 1 (gCall m__law_any (gACons (gVar 0) (gACons (gLst (gACons (gLst (gACons (gVar 1) (gANil))) (gACons (gETup (gACons (gVar 1) (gANil))) (gACons (gDctO (gVar 1)) (gANil))))) (gANil))))))
    (gRet (gVar 1)))
noncomputable def m__law_deep : OC := cutM (fnM 3 g__law_deep)
noncomputable def g__law_is (r : OC) : GS := gSeq (gIf (gTru (gUn (oIsi2 "tuple" "list") (gVar 1))) (gSeq (gIf (gOr (gTest (gOp oNe (gUn (oIsi "tuple") (gVar 0)) (gUn (oIsi "tuple") (gVar 1)))) (gTest (gOp oNe (gUn (oIsi "list") (gVar 0)) (gUn (oIsi "list") (gVar 1))))) (gRet (gC (.bl false))) (gNext))
    (gRet (gAndV (gOp oEq (gCall oLen (gACons (gVar 0) (gANil))) (gCall oLen (gACons (gVar 1) (gANil)))) (gCall oAll (gACons (gLcG finI (giRng1 (gACons (gCall oLen (gACons (gVar 1) (gANil))) (gANil))) (gtName 2) (gYes) (gCall r (gACons (gOp oIx (gVar 0) (gVar 2)) (gACons (gOp oIx (gVar 1) (gVar 2)) (gANil)))) [2]) (gANil)))))) (gNext))
    (gRet (gAndV (gOp oEq (gUn (oIsi "bool") (gVar 0)) (gUn (oIsi "bool") (gVar 1))) (gOp oEq (gVar 0) (gVar 1))))
noncomputable def f__law_is : Nat → OC
  | 0 => fun _ _ => .bad
  | j + 1 => cutM (fnM 3 (g__law_is (f__law_is j)))
noncomputable def m__law_is : OC := f__law_is 4
noncomputable def g_nothing_heard : GS := gRet (gETup (gACons (gOp oMul (gETup (gACons (gC (.int 0)) (gANil))) (gCall oLen (gACons (gVar 0) (gANil)))) (gACons (gOp oMul (gETup (gACons (gC (.int 0)) (gANil))) (gCall oLen (gACons (gVar 0) (gANil)))) (gANil))))
noncomputable def m_nothing_heard : OC := cutM (fnM 1 g_nothing_heard)
noncomputable def g_is_whole : GS := gRet (gAndV (gUn (oIsi "int") (gVar 0)) (gNotV (gUn (oIsi "bool") (gVar 0))))
noncomputable def m_is_whole : OC := cutM (fnM 1 g_is_whole)
noncomputable def g_is_size : GS := gRet (gAndV (gCall m_is_whole (gACons (gVar 0) (gANil))) (gChain oLe oLe (gC (.int 2)) (gVar 0) (gC (.int 4))))
noncomputable def m_is_size : OC := cutM (fnM 1 g_is_size)
noncomputable def g_is_below : GS := gRet (gAndV (gCall m_is_whole (gACons (gVar 0) (gANil))) (gChain oLe oLt (gC (.int 0)) (gVar 0) (gVar 1)))
noncomputable def m_is_below : OC := cutM (fnM 2 g_is_below)
noncomputable def g_are_below : GS := gSeq (gIf (gOr (gNot (gTru (gUn (oIsi "tuple") (gVar 0)))) (gTest (gOp oNe (gCall oLen (gACons (gVar 0) (gANil))) (gVar 1)))) (gRet (gC (.bl false))) (gNext))
    (gRet (gCall oAll (gACons (gLcG finI (giSeq (gVar 0)) (gtName 3) (gYes) (gCall m_is_below (gACons (gVar 3) (gACons (gVar 2) (gANil)))) [3]) (gANil))))
noncomputable def m_are_below : OC := cutM (fnM 4 g_are_below)
noncomputable def g_is_advice : GS := gSeq (gIf (gOr (gNot (gTru (gUn (oIsi "tuple") (gVar 0)))) (gTest (gOp oNe (gCall oLen (gACons (gVar 0) (gANil))) (gC (.int 2))))) (gRet (gC (.bl false))) (gNext))
    (gRet (gAndV (gCall m_is_below (gACons (gOp oIx (gVar 0) (gC (.int 0))) (gACons (gVar 1) (gANil)))) (gCall m_are_below (gACons (gOp oIx (gVar 0) (gC (.int 1))) (gACons (gVar 1) (gACons (gVar 2) (gANil)))))))
noncomputable def m_is_advice : OC := cutM (fnM 3 g_is_advice)
noncomputable def g_is_ruled : GS := gSeq (gIf (gOr (gNot (gTru (gUn (oIsi "tuple") (gVar 0)))) (gTest (gOp oNe (gCall oLen (gACons (gVar 0) (gANil))) (gC (.int 2))))) (gRet (gC (.bl false))) (gNext))
    (gSeq (gAsg (gVar 0) (gtTup 2 (gtCons (gtName 3) (gtCons (gtName 4) (gtNil)))))
    (gSeq (gIf (gOr (gNot (gTru (gCall m_is_size (gACons (gVar 3) (gANil))))) (gNot (gTru (gUn (oIsi "tuple") (gVar 4))))) (gRet (gC (.bl false))) (gNext))
    (gSeq (gSet 5 (gCall oLen (gACons (gVar 4) (gANil))))
    (gRet (gAndV (gChain oLe oLe (gC (.int 1)) (gVar 5) (gVar 1)) (gCall oAll (gACons (gLcG finI (giSeq (gVar 4)) (gtName 6) (gYes) (gCallL 2 [("is_advice", m_is_advice)] (gACons (gVar 6) (gACons (gVar 3) (gACons (gVar 5) (gANil))))) [6]) (gANil))))))))
noncomputable def m_is_ruled : OC := cutM (fnM 7 g_is_ruled)
noncomputable def g_is_adviser : GS := gRet (gCall m_is_ruled (gACons (gVar 0) (gACons (gC (.int 6)) (gACons (gC (.fn "is_advice")) (gANil)))))
noncomputable def m_is_adviser : OC := cutM (fnM 1 g_is_adviser)
noncomputable def g_is_circle : GS := gSeq (gIf (gOr (gNot (gTru (gUn (oIsi "tuple") (gVar 0)))) (gNot (gTest (gChain oLe oLe (gC (.int 1)) (gCall oLen (gACons (gVar 0) (gANil))) (gC (.int 4)))))) (gRet (gC (.bl false))) (gNext))
    (gRet (gAndV (gCall oAll (gACons (gLcG finI (giSeq (gVar 0)) (gtName 1) (gYes) (gCall m_is_adviser (gACons (gVar 1) (gANil))) [1]) (gANil))) (gCall oAll (gACons (gLcG finI (giSeq (gVar 0)) (gtName 1) (gYes) (gOp oEq (gOp oIx (gVar 1) (gC (.int 0))) (gOp oIx (gOp oIx (gVar 0) (gC (.int 0))) (gC (.int 0)))) [1]) (gANil)))))
noncomputable def m_is_circle : OC := cutM (fnM 2 g_is_circle)
noncomputable def g_is_row : GS := gSeq (gIf (gNot (gTru (gCall m_is_size (gACons (gVar 0) (gANil))))) (gRaise "NoSize") (gNext))
    (gSeq (gIf (gOr (gNot (gTru (gUn (oIsi "tuple") (gVar 1)))) (gTest (gOp oGt (gCall oLen (gACons (gVar 1) (gANil))) (gC (.int 400))))) (gRet (gC (.bl false))) (gNext))
    (gRet (gCall oAll (gACons (gLcG finI (giSeq (gVar 1)) (gtName 2) (gYes) (gCall m_is_below (gACons (gVar 2) (gACons (gVar 0) (gANil)))) [2]) (gANil)))))
noncomputable def m_is_row : OC := cutM (fnM 3 g_is_row)
noncomputable def g_heard : GS := gSeq (gSet 4 (gLstM (gANil)))
    (gSeq (gSet 5 (gLstM (gANil)))
    (gSeq (gFor (giZip3 (gACons (gVar 0) (gACons (gVar 1) (gACons (gVar 2) (gANil))))) (gtTup 3 (gtCons (gtTup 2 (gtCons (gtName 6) (gtCons (gtName 7) (gtNil)))) (gtCons (gtName 8) (gtCons (gtName 9) (gtNil))))) (gSeq (gAsg (gOp oIx (gVar 7) (gVar 8)) (gtTup 2 (gtCons (gtName 10) (gtCons (gtName 11) (gtNil)))))
    (gSeq (gDrop (gBM oAppend (gVar 4) (gACons (gOp oIx (gVar 11) (gVar 3)) (gANil))))
    (gDrop (gBM oAppend (gVar 5) (gACons (gIfE (gTest (gOp oEq (gVar 10) (gVar 3))) (gVar 9) (gOp oAdd (gVar 9) (gC (.int 1)))) (gANil)))))))
    (gRet (gETup (gACons (gCall oTuple (gACons (gVar 4) (gANil))) (gACons (gCall oTuple (gACons (gVar 5) (gANil))) (gANil)))))))
noncomputable def m_heard : OC := cutM (fnM 12 g_heard)
noncomputable def g_adviser_misses : GS := gSeq (gIf (gNot (gTru (gCall m_is_circle (gACons (gVar 0) (gANil))))) (gRaise "NoCircle") (gNext))
    (gSeq (gIf (gNot (gTru (gCall m_is_row (gACons (gOp oIx (gOp oIx (gVar 0) (gC (.int 0))) (gC (.int 0))) (gACons (gVar 1) (gANil)))))) (gRaise "NoRow") (gNext))
    (gSeq (gAsg (gCall m_nothing_heard (gACons (gVar 0) (gANil))) (gtTup 2 (gtCons (gtName 2) (gtCons (gtName 3) (gtNil)))))
    (gSeq (gFor (giSeq (gVar 1)) (gtName 4) (gAsg (gCall m_heard (gACons (gVar 0) (gACons (gVar 2) (gACons (gVar 3) (gACons (gVar 4) (gANil)))))) (gtTup 2 (gtCons (gtName 2) (gtCons (gtName 3) (gtNil))))))
    (gRet (gVar 3)))))
noncomputable def m_adviser_misses : OC := cutM (fnM 5 g_adviser_misses)
noncomputable def g__law_is_int : GS := gRet (gAndV (gUn (oIsi "int") (gVar 0)) (gAndV (gNotV (gUn (oIsi "bool") (gVar 0))) (gChain oLe oLe (gVar 1) (gVar 0) (gVar 2))))
noncomputable def m__law_is_int : OC := cutM (fnM 3 g__law_is_int)
noncomputable def g__law_missed : GS := gSeq (gAsg (gETup (gACons (gC (.int 0)) (gACons (gC (.int 0)) (gANil)))) (gtTup 2 (gtCons (gtName 2) (gtCons (gtName 3) (gtNil)))))
    (gSeq (gFor (giSeq (gVar 1)) (gtName 4) (gSeq (gAsg (gOp oIx (gOp oIx (gVar 0) (gC (.int 1))) (gVar 2)) (gtTup 2 (gtCons (gtName 5) (gtCons (gtName 6) (gtNil)))))
    (gPar 3 2 (gOp oAdd (gVar 3) (gCall oInt (gACons (gOp oNe (gVar 5) (gVar 4)) (gANil)))) (gOp oIx (gVar 6) (gVar 4)))))
    (gRet (gVar 3)))
noncomputable def m__law_missed : OC := cutM (fnM 7 g__law_missed)
noncomputable def g__law_gcd : GS := gSeq (gSet 0 (gCall oAbs (gACons (gVar 0) (gANil))))
    (gSeq (gWhile (gTest (gOp oGt (gVar 1) (gC (.int 0)))) (gPar 0 1 (gVar 1) (gOp oMod (gCall oInt (gACons (gVar 0) (gANil))) (gVar 1))))
    (gRet (gVar 0)))
noncomputable def m__law_gcd : OC := cutM (fnM 2 g__law_gcd)
noncomputable def g__law_fraction : GS := gSeq (gSet 2 (gCall m__law_gcd (gACons (gVar 0) (gACons (gVar 1) (gANil)))))
    (gRet (gETup (gACons (gOp oDiv (gVar 0) (gVar 2)) (gACons (gOp oDiv (gVar 1) (gVar 2)) (gANil)))))
noncomputable def m__law_fraction : OC := cutM (fnM 3 g__law_fraction)
noncomputable def g_check_circle : GS := gSeq (gIf (gNot (gTru (gCall m_is_circle (gACons (gVar 0) (gANil))))) (gRaise "NoCircle") (gNext))
    (gIf (gNot (gTru (gCall m_is_below (gACons (gVar 1) (gACons (gOp oAdd (gC (.int 10)) (gC (.int 1))) (gANil)))))) (gRaise "NoNumber") (gNext))
noncomputable def m_check_circle : OC := cutM (fnM 2 g_check_circle)
noncomputable def g_ways : GS := gSeq (gSet 2 (gLstM (gANil)))
    (gSeq (gFor (giRng1 (gACons (gOp oIx (gOp oIx (gVar 0) (gC (.int 0))) (gC (.int 0))) (gANil))) (gtName 3) (gSeq (gAsg (gCall m_heard (gACons (gVar 0) (gACons (gOp oIx (gVar 1) (gC (.int 0))) (gACons (gOp oIx (gVar 1) (gC (.int 1))) (gACons (gVar 3) (gANil)))))) (gtTup 2 (gtCons (gtName 4) (gtCons (gtName 5) (gtNil)))))
    (gSeq (gSet 6 (gCall oMinA (gACons (gVar 5) (gANil))))
    (gDrop (gBM oAppend (gVar 2) (gACons (gETup (gACons (gETup (gACons (gVar 4) (gACons (gCall oTuple (gACons (gLcG finI (giSeq (gVar 5)) (gtName 7) (gYes) (gOp oSub (gVar 7) (gVar 6)) [7]) (gANil))) (gANil)))) (gACons (gVar 6) (gANil)))) (gANil)))))))
    (gRet (gVar 2)))
noncomputable def m_ways : OC := frzM (fnM 8 g_ways)
noncomputable def g_places_within : GS := gSeq (gSet 2 (gLstM (gANil)))
    (gSeq (gSet 3 (gKd1 (gCall m_nothing_heard (gACons (gVar 0) (gANil))) (gC (.bl true))))
    (gSeq (gFor (giRng1 (gACons (gVar 1) (gANil))) (gtName 4) (gSeq (gSet 5 (gKc (giK kkeys (gVar 3)) (gtName 6) (gYes) (gVar 6) (gCall m_ways (gACons (gVar 0) (gACons (gVar 6) (gANil)))) [6]))
    (gSeq (gSet 3 (gKc2 (giK kvals (gVar 5)) (gtName 7) (gYes) (giSeq (gVar 7)) (gtTup 2 (gtCons (gtName 8) (gtCons (gtName 4) (gtNil)))) (gYes) (gVar 8) (gC (.bl true)) [7, 8, 4] [8, 4]))
    (gSeq (gIf (gTest (gOp oGt (gCall oLenK (gACons (gVar 3) (gANil))) (gC (.int 3000)))) (gNever) (gNext))
    (gDrop (gBM oAppend (gVar 2) (gACons (gVar 5) (gANil))))))))
    (gSeq (gDrop (gBM oAppend (gVar 2) (gACons (gKc (giK kkeys (gVar 3)) (gtName 6) (gYes) (gVar 6) (gLst (gANil)) [6]) (gANil))))
    (gRet (gVar 2)))))
noncomputable def m_places_within : OC := frzM (fnM 9 g_places_within)
noncomputable def g_best_lot : GS := gSeq (gSet 2 (gLstM (gANil)))
    (gSeq (gSet 3 (gUn oNeg (gVar 1)))
    (gSeq (gFor (giSeq (gCall oSortedP (gACons (gLcG finI (giEnum (gACons (gVar 0) (gANil))) (gtTup 2 (gtCons (gtName 5) (gtCons (gtName 6) (gtNil)))) (gYes) (gETup (gACons (gUn oNeg (gVar 6)) (gACons (gVar 5) (gANil)))) [5, 6]) (gANil)))) (gtTup 2 (gtCons (gtName 4) (gtCons (gtName 5) (gtNil)))) (gSeq (gSet 7 (gOp oSub (gVar 1) (gVar 4)))
    (gSeq (gIf (gAnd (gTru (gVar 2)) (gTest (gOp oLe (gOp oMul (gVar 7) (gCall oLen (gACons (gVar 2) (gANil)))) (gVar 3)))) (gBreak) (gNext))
    (gSeq (gDrop (gBM oAppend (gVar 2) (gACons (gVar 5) (gANil))))
    (gSet 3 (gOp oAdd (gVar 3) (gVar 7)))))))
    (gRet (gETup (gACons (gCall oTuple (gACons (gCall oSorted (gACons (gVar 2) (gANil))) (gANil))) (gACons (gVar 3) (gANil)))))))
noncomputable def m_best_lot : OC := cutM (fnM 8 g_best_lot)
noncomputable def g_worths_in : GS := gRet (gLcG finI (giSeq (gVar 0)) (gtTup 2 (gtCons (gtName 3) (gtCons (gtName 4) (gtNil)))) (gYes) (gOp oSub (gOp oIxK (gVar 1) (gVar 3)) (gOp oMul (gVar 4) (gVar 2))) [3, 4])
noncomputable def m_worths_in : OC := cutM (fnM 5 g_worths_in)
noncomputable def g_lags_from : GS := gSeq (gSet 2 (gKc (giK kkeys (gOp oIxK (gVar 0) (gUn oNeg (gC (.int 1))))) (gtName 3) (gYes) (gVar 3) (gC (.int 0)) [3]))
    (gSeq (gSet 4 (gC (.int 1)))
    (gSeq (gFor (giRev (gSl (gVar 0) (gP (gVar 1)) (gP (gUn oNeg (gC (.int 1)))))) (gtName 5) (gSeq (gSet 6 (gKNewM))
    (gSeq (gFor (giK kitems (gVar 5)) (gtTup 2 (gtCons (gtName 3) (gtCons (gtName 7) (gtNil)))) (gSeq (gAsg (gCall m_best_lot (gACons (gCall m_worths_in (gACons (gVar 7) (gACons (gVar 2) (gACons (gVar 4) (gANil))))) (gACons (gVar 4) (gANil)))) (gtTup 2 (gtCons (gtName 8) (gtCons (gtName 9) (gtNil)))))
    (gAsg (gOp oMul (gVar 9) (gOp oDiv (gC (.int 12)) (gCall oLenK (gACons (gVar 8) (gANil))))) (gtSub (gVar 6) (gVar 3) (oSetK oSetL)))))
    (gSeq (gSet 2 (gVar 6))
    (gSet 4 (gOp oMul (gVar 4) (gC (.int 12))))))))
    (gRet (gETup (gACons (gVar 2) (gACons (gVar 4) (gANil)))))))
noncomputable def m_lags_from : OC := frzM (fnM 10 g_lags_from)
noncomputable def g_top_over : GS := gRet (gOp oMul (gOp oIx (gVar 0) (gC (.int 0))) (gOp oDiv (gVar 1) (gOp oIx (gVar 0) (gC (.int 1)))))
noncomputable def m_top_over : OC := cutM (fnM 2 g_top_over)
noncomputable def g_common : GS := gSeq (gSet 1 (gC (.int 1)))
    (gSeq (gFor (giSeq (gVar 0)) (gtName 2) (gSet 1 (gCall oLcm (gACons (gVar 1) (gACons (gOp oIx (gVar 2) (gC (.int 1))) (gANil))))))
    (gRet (gETup (gACons (gLcG finI (giSeq (gVar 0)) (gtName 2) (gYes) (gCall m_top_over (gACons (gVar 2) (gACons (gVar 1) (gANil)))) [2]) (gACons (gVar 1) (gANil))))))
noncomputable def m_common : OC := cutM (fnM 3 g_common)
noncomputable def g_reduced : GS := gSeq (gSet 2 (gCall oGcd (gACons (gVar 0) (gACons (gVar 1) (gANil)))))
    (gRet (gETup (gACons (gOp oDiv (gVar 0) (gVar 2)) (gACons (gOp oDiv (gVar 1) (gVar 2)) (gANil)))))
noncomputable def m_reduced : OC := cutM (fnM 3 g_reduced)
noncomputable def g_is_fraction : GS := gSeq (gIf (gOr (gNot (gTru (gUn (oIsi "tuple") (gVar 0)))) (gTest (gOp oNe (gCall oLen (gACons (gVar 0) (gANil))) (gC (.int 2))))) (gRet (gC (.bl false))) (gNext))
    (gSeq (gAsg (gVar 0) (gtTup 2 (gtCons (gtName 1) (gtCons (gtName 2) (gtNil)))))
    (gSeq (gIf (gOr (gNot (gTru (gCall m_is_whole (gACons (gVar 1) (gANil))))) (gNot (gTru (gCall m_is_whole (gACons (gVar 2) (gANil)))))) (gRet (gC (.bl false))) (gNext))
    (gRet (gAndV (gOp oGe (gVar 2) (gC (.int 1))) (gOp oEq (gCall oGcd (gACons (gVar 1) (gACons (gVar 2) (gANil)))) (gC (.int 1)))))))
noncomputable def m_is_fraction : OC := cutM (fnM 3 g_is_fraction)
noncomputable def g_is_worths : GS := gSeq (gIf (gOr (gNot (gTru (gUn (oIsi "tuple") (gVar 0)))) (gNot (gTest (gChain oLe oLe (gC (.int 2)) (gCall oLen (gACons (gVar 0) (gANil))) (gC (.int 4)))))) (gRet (gC (.bl false))) (gNext))
    (gRet (gCall oAll (gACons (gLcG finI (giSeq (gVar 0)) (gtName 1) (gYes) (gCall m_is_fraction (gACons (gVar 1) (gANil))) [1]) (gANil))))
noncomputable def m_is_worths : OC := cutM (fnM 2 g_is_worths)
noncomputable def g_level : GS := gSeq (gIf (gNot (gTru (gCall m_is_worths (gACons (gVar 0) (gANil))))) (gRaise "NoWorths") (gNext))
    (gSeq (gAsg (gCall m_common (gACons (gVar 0) (gANil))) (gtTup 2 (gtCons (gtName 1) (gtCons (gtName 2) (gtNil)))))
    (gSeq (gAsg (gCall m_best_lot (gACons (gVar 1) (gACons (gVar 2) (gANil)))) (gtTup 2 (gtCons (gtName 3) (gtCons (gtName 4) (gtNil)))))
    (gRet (gCall m_reduced (gACons (gVar 4) (gACons (gOp oMul (gCall oLen (gACons (gVar 3) (gANil))) (gVar 2)) (gANil)))))))
noncomputable def m_level : OC := cutM (fnM 5 g_level)
noncomputable def g_total : GS := gSeq (gSet 1 (gC (.int 0)))
    (gSeq (gSet 2 (gC (.int 1)))
    (gSeq (gFor (giSeq (gVar 0)) (gtTup 2 (gtCons (gtName 3) (gtCons (gtName 4) (gtNil)))) (gSeq (gSet 5 (gCall oLcm (gACons (gVar 2) (gACons (gVar 4) (gANil)))))
    (gSeq (gSet 1 (gOp oAdd (gOp oMul (gVar 1) (gOp oDiv (gVar 5) (gVar 2))) (gOp oMul (gVar 3) (gOp oDiv (gVar 5) (gVar 4)))))
    (gSet 2 (gVar 5)))))
    (gRet (gCall m_reduced (gACons (gVar 1) (gACons (gVar 2) (gANil)))))))
noncomputable def m_total : OC := cutM (fnM 6 g_total)
noncomputable def g_negated : GS := gSeq (gAsg (gVar 0) (gtTup 2 (gtCons (gtName 1) (gtCons (gtName 2) (gtNil)))))
    (gRet (gETup (gACons (gUn oNeg (gVar 1)) (gACons (gVar 2) (gANil)))))
noncomputable def m_negated : OC := cutM (fnM 3 g_negated)
noncomputable def g_minus : GS := gRet (gCall m_total (gACons (gLst (gACons (gVar 0) (gACons (gCall m_negated (gACons (gVar 1) (gANil))) (gANil)))) (gANil)))
noncomputable def m_minus : OC := cutM (fnM 2 g_minus)
noncomputable def g_filled : GS := gSeq (gSet 1 (gCall m_level (gACons (gVar 0) (gANil))))
    (gSeq (gSet 2 (gLstM (gANil)))
    (gSeq (gFor (giSeq (gVar 0)) (gtName 3) (gSeq (gSet 4 (gCall m_minus (gACons (gCall m_total (gACons (gLst (gACons (gVar 3) (gACons (gC (.tup [.int 1, .int 1])) (gANil)))) (gANil))) (gACons (gVar 1) (gANil)))))
    (gDrop (gBM oAppend (gVar 2) (gACons (gIfE (gTest (gOp oGt (gOp oIx (gVar 4) (gC (.int 0))) (gC (.int 0)))) (gVar 4) (gC (.tup [.int 0, .int 1]))) (gANil))))))
    (gRet (gCall oTuple (gACons (gVar 2) (gANil))))))
noncomputable def m_filled : OC := cutM (fnM 5 g_filled)
noncomputable def g_followed : GS := gSeq (gDrop (gCall m_check_circle (gACons (gVar 0) (gACons (gVar 1) (gANil)))))
    (gSeq (gIf (gOr (gNot (gTru (gCall m_is_row (gACons (gOp oIxK (gOp oIxK (gVar 0) (gC (.int 0))) (gC (.int 0))) (gACons (gVar 2) (gANil)))))) (gTest (gOp oGe (gCall oLenK (gACons (gVar 2) (gANil))) (gVar 1)))) (gRaise "NoRow") (gNext))
    (gSeq (gSet 3 (gCall m_places_within (gACons (gVar 0) (gACons (gVar 1) (gANil)))))
    (gSeq (gSet 4 (gCall m_nothing_heard (gACons (gVar 0) (gANil))))
    (gSeq (gFor (giSeq (gVar 2)) (gtName 5) (gSet 4 (gOp oIxK (gOp oIxK (gCall m_ways (gACons (gVar 0) (gACons (gVar 4) (gANil)))) (gVar 5)) (gC (.int 0)))))
    (gSeq (gAsg (gCall m_lags_from (gACons (gVar 3) (gACons (gOp oAdd (gCall oLenK (gACons (gVar 2) (gANil))) (gC (.int 1))) (gANil)))) (gtTup 2 (gtCons (gtName 6) (gtCons (gtName 7) (gtNil)))))
    (gSeq (gSet 8 (gCall m_worths_in (gACons (gCall m_ways (gACons (gVar 0) (gACons (gVar 4) (gANil)))) (gACons (gVar 6) (gACons (gVar 7) (gANil))))))
    (gRet (gCall m_filled (gACons (gCall oTuple (gACons (gLcG finI (giSeq (gVar 8)) (gtName 9) (gYes) (gCall m_reduced (gACons (gVar 9) (gACons (gVar 7) (gANil)))) [9]) (gANil))) (gANil))))))))))
noncomputable def m_followed : OC := cutM (fnM 10 g_followed)
noncomputable def g__law_less : GS := gRet (gOp oLt (gOp oMul (gOp oIx (gVar 0) (gC (.int 0))) (gOp oIx (gVar 1) (gC (.int 1)))) (gOp oMul (gOp oIx (gVar 1) (gC (.int 0))) (gOp oIx (gVar 0) (gC (.int 1)))))
noncomputable def m__law_less : OC := cutM (fnM 2 g__law_less)
noncomputable def g_lag : GS := gSeq (gDrop (gCall m_check_circle (gACons (gVar 0) (gACons (gVar 1) (gANil)))))
    (gSeq (gAsg (gCall m_lags_from (gACons (gCall m_places_within (gACons (gVar 0) (gACons (gVar 1) (gANil)))) (gACons (gC (.int 0)) (gANil)))) (gtTup 2 (gtCons (gtName 2) (gtCons (gtName 3) (gtNil)))))
    (gRet (gCall m_reduced (gACons (gOp oIxK (gVar 2) (gCall m_nothing_heard (gACons (gVar 0) (gANil)))) (gACons (gVar 3) (gANil))))))
noncomputable def m_lag : OC := cutM (fnM 4 g_lag)
noncomputable def g__law_plus : GS := gRet (gCall m__law_fraction (gACons (gOp oAdd (gOp oMul (gOp oIx (gVar 0) (gC (.int 0))) (gOp oIx (gVar 1) (gC (.int 1)))) (gOp oMul (gOp oIx (gVar 1) (gC (.int 0))) (gOp oIx (gVar 0) (gC (.int 1))))) (gACons (gOp oMul (gOp oIx (gVar 0) (gC (.int 1))) (gOp oIx (gVar 1) (gC (.int 1)))) (gANil))))
noncomputable def m__law_plus : OC := cutM (fnM 2 g__law_plus)
noncomputable def g__law_minus : GS := gRet (gCall m__law_fraction (gACons (gOp oSub (gOp oMul (gOp oIx (gVar 0) (gC (.int 0))) (gOp oIx (gVar 1) (gC (.int 1)))) (gOp oMul (gOp oIx (gVar 1) (gC (.int 0))) (gOp oIx (gVar 0) (gC (.int 1))))) (gACons (gOp oMul (gOp oIx (gVar 0) (gC (.int 1))) (gOp oIx (gVar 1) (gC (.int 1)))) (gANil))))
noncomputable def m__law_minus : OC := cutM (fnM 2 g__law_minus)
end KG
set_option linter.all false
set_option maxRecDepth 100000
namespace K43
open PySem L2 KM
abbrev csR : List Str := ["NoSize", "NoCircle", "NoRow", "NoNumber", "NoWorths"]
noncomputable def g__law_doubled : GS := gSeq (gAsg (gETup (gACons (gCall oLen (gACons (gOp oIx (gVar 1) (gC (.int 1))) (gANil))) (gACons (gCall KG.m__law_draw (gACons (gVar 0) (gACons (gCall oLen (gACons (gOp oIx (gVar 1) (gC (.int 1))) (gANil))) (gANil)))) (gANil)))) (gtTup 2 (gtCons (gtName 2) (gtCons (gtName 3) (gtNil)))))
    (gSeq (gIf (gTest (gOp oGt (gVar 2) (gC (.int 5)))) (gRet (gVar 1)) (gNext))
    (gSeq (gSet 4 (gLstM (gANil)))
    (gSeq (gFor (giSeq (gOp oAdd (gOp oIx (gVar 1) (gC (.int 1))) (gSl (gOp oIx (gVar 1) (gC (.int 1))) (gP (gVar 3)) (gP (gOp oAdd (gVar 3) (gC (.int 1))))))) (gtTup 2 (gtCons (gtName 5) (gtCons (gtName 6) (gtNil)))) (gDrop (gBM oAppend (gVar 4) (gACons (gETup (gACons (gVar 5) (gACons (gCall oTuple (gACons (gLcG finI (giSeq (gVar 6)) (gtName 7) (gYes) (gIfE (gAnd (gTest (gOp oEq (gVar 7) (gVar 3))) (gTest (gOp oEq (gCall KG.m__law_draw (gACons (gVar 0) (gACons (gC (.int 2)) (gANil)))) (gC (.int 0))))) (gVar 2) (gVar 7)) [7]) (gANil))) (gANil)))) (gANil)))))
    (gRet (gETup (gACons (gC (.int 2)) (gACons (gCall oTuple (gACons (gVar 4) (gANil))) (gANil))))))))
noncomputable def m__law_doubled : OC := cutM (fnM 8 g__law_doubled)
noncomputable def g__law_halved : GS := gSeq (gSet 1 (gLst (gACons (gC (.int 1)) (gANil))))
    (gSeq (gFor (giRng1 (gACons (gVar 0) (gANil))) (gtName 2) (gSet 1 (gOp oAdd (gOp oAdd (gLst (gACons (gC (.int 1)) (gANil))) (gLcG finI (giRng1 (gACons (gOp oSub (gCall oLen (gACons (gVar 1) (gANil))) (gC (.int 1))) (gANil))) (gtName 3) (gYes) (gOp oAdd (gOp oIx (gVar 1) (gVar 3)) (gOp oIx (gVar 1) (gOp oAdd (gVar 3) (gC (.int 1))))) [3])) (gLst (gACons (gC (.int 1)) (gANil))))))
    (gSeq (gPar 4 5 (gCall oSum (gACons (gLcG finI (giRng1 (gACons (gOp oAdd (gVar 0) (gC (.int 1))) (gANil))) (gtName 3) (gYes) (gOp oMul (gOp oIx (gVar 1) (gVar 3)) (gCall oAbs (gACons (gOp oSub (gVar 0) (gOp oMul (gC (.int 2)) (gVar 3))) (gANil)))) [3]) (gANil))) (gCall oSum (gACons (gVar 1) (gANil))))
    (gRet (gCall KG.m__law_fraction (gACons (gVar 4) (gACons (gOp oMul (gC (.int 2)) (gVar 5)) (gANil)))))))
noncomputable def m__law_halved : OC := cutM (fnM 6 g__law_halved)
noncomputable def g__law_against : GS := gRet (gETup (gACons (gC (.int 2)) (gACons (gCall oTuple (gACons (gLcG finI (giSeq (gOp oIx (gVar 0) (gC (.int 1)))) (gtTup 2 (gtCons (gtName 1) (gtCons (gtName 2) (gtNil)))) (gYes) (gETup (gACons (gOp oSub (gC (.int 1)) (gVar 1)) (gACons (gVar 2) (gANil)))) [1, 2]) (gANil))) (gANil))))
noncomputable def m__law_against : OC := cutM (fnM 3 g__law_against)
noncomputable def g_law : GS := gSeq (gSet 1 (gCall KG.m__law_pot (gACons (gVar 0) (gANil))))
    (gSeq (gFor (giRng1 (gACons (gC (.int 3)) (gANil))) (gtName 2) (gSeq (gPar 3 4 (gCall KG.m__law_adviser (gACons (gVar 1) (gACons (gC (.int 2)) (gACons (gC (.int 6)) (gANil))))) (gCall KG.m__law_draw (gACons (gVar 1) (gACons (gC (.int 11)) (gANil)))))
    (gSeq (gSet 5 (gCall m__law_doubled (gACons (gVar 1) (gACons (gCall m__law_against (gACons (gVar 3) (gANil))) (gANil)))))
    (gSeq (gSet 6 (gCall KG.m__law_any (gACons (gVar 1) (gACons (gLst (gACons (gETup (gACons (gVar 3) (gACons (gVar 5) (gANil)))) (gACons (gETup (gACons (gVar 5) (gACons (gVar 3) (gANil)))) (gACons (gETup (gACons (gVar 3) (gACons (gVar 5) (gACons (gVar 3) (gANil))))) (gACons (gETup (gACons (gVar 3) (gACons (gVar 5) (gACons (gVar 5) (gANil))))) (gANil)))))) (gANil)))))
    (gSeq (gSet 7 (gCall m__law_halved (gACons (gVar 4) (gANil))))
    (gSeq (gIf (gOr (gNot (gTru (gCall KG.m__law_is (gACons (gCall KG.m_lag (gACons (gVar 6) (gACons (gVar 4) (gANil)))) (gACons (gVar 7) (gANil)))))) (gOr (gTest (gOp oNe (gCall KG.m_lag (gACons (gETup (gACons (gVar 3) (gANil))) (gACons (gVar 4) (gANil)))) (gETup (gACons (gC (.int 0)) (gACons (gC (.int 1)) (gANil)))))) (gTest (gOp oNe (gCall KG.m_lag (gACons (gETup (gACons (gVar 5) (gACons (gVar 5) (gANil)))) (gACons (gVar 4) (gANil)))) (gETup (gACons (gC (.int 0)) (gACons (gC (.int 1)) (gANil)))))))) (gRet (gC (.bl false))) (gNext))
    (gSeq (gAsg (gETup (gACons (gETup (gANil)) (gACons (gETup (gACons (gC (.int 0)) (gACons (gC (.int 1)) (gANil)))) (gANil)))) (gtTup 2 (gtCons (gtName 8) (gtCons (gtName 9) (gtNil)))))
    (gSeq (gFor (giRng1 (gACons (gVar 4) (gANil))) (gtName 10) (gSeq (gSet 11 (gCall KG.m_followed (gACons (gVar 6) (gACons (gVar 4) (gACons (gVar 8) (gANil))))))
    (gSeq (gSet 12 (gCall KG.m__law_draw (gACons (gVar 1) (gACons (gC (.int 2)) (gANil)))))
    (gPar 8 9 (gOp oAdd (gVar 8) (gETup (gACons (gVar 12) (gANil)))) (gCall KG.m__law_plus (gACons (gVar 9) (gACons (gCall KG.m__law_minus (gACons (gETup (gACons (gC (.int 1)) (gACons (gC (.int 1)) (gANil)))) (gACons (gOp oIx (gVar 11) (gVar 12)) (gANil)))) (gANil))))))))
    (gSeq (gSet 13 (gCall KG.m_adviser_misses (gACons (gETup (gACons (gVar 3) (gACons (gVar 5) (gANil)))) (gACons (gVar 8) (gANil)))))
    (gIf (gOr (gTest (gOp oNe (gCall oSumA (gACons (gVar 13) (gANil))) (gVar 4))) (gTru (gCall KG.m__law_less (gACons (gCall KG.m__law_plus (gACons (gETup (gACons (gCall oMinA (gACons (gVar 13) (gANil))) (gACons (gC (.int 1)) (gANil)))) (gACons (gVar 7) (gANil)))) (gACons (gVar 9) (gANil)))))) (gRet (gC (.bl false))) (gNext)))))))))))
    (gRet (gC (.bl true))))
noncomputable def m_law : OC := fnM 14 g_law
end K43
set_option Elab.async false
set_option linter.all false
set_option maxRecDepth 100000
set_option maxHeartbeats 4000000
namespace K43
open PySem PySem.Spec PyProof.Rows L2 KM
def topS (i : Nat) : Stmt := PySem.Challenge.pw_keptmisses_k43_whole_advisers_who_always.main.body.getD i (.Pass ⟨0, 0, 0, 0⟩)
structure Txt (K : PySem.W.Frag) (mg : Str → Option Value) : Prop where
  z_abs : mg "abs" = none
  z_all : mg "all" = none
  z_bool : mg "bool" = none
  z_enumerate : mg "enumerate" = none
  z_int : mg "int" = none
  z_isinstance : mg "isinstance" = none
  z_len : mg "len" = none
  z_list : mg "list" = none
  z_min : mg "min" = none
  z_range : mg "range" = none
  z_reversed : mg "reversed" = none
  z_sorted : mg "sorted" = none
  z_sum : mg "sum" = none
  z_tuple : mg "tuple" = none
  z_zip : mg "zip" = none
  z_gcd : mg "gcd" = some (.builtin "math.gcd")
  z_lcm : mg "lcm" = some (.builtin "math.lcm")
  c_LEAST_SIZE : GlobC K mg "LEAST_SIZE" (.int 2)
  c_MOST_ADVISERS : GlobC K mg "MOST_ADVISERS" (.int 4)
  c_MOST_ADVISER_STATES : GlobC K mg "MOST_ADVISER_STATES" (.int 6)
  c_MOST_AHEAD : GlobC K mg "MOST_AHEAD" (.int 10)
  c_MOST_LETTERS : GlobC K mg "MOST_LETTERS" (.int 400)
  c_MOST_SIZE : GlobC K mg "MOST_SIZE" (.int 4)
  c_MOST_TUPLES : GlobC K mg "MOST_TUPLES" (.int 3000)
  c_ONE : GlobC K mg "ONE" (.tup [.int 1, .int 1])
  c_SIZES_MULTIPLE : GlobC K mg "SIZES_MULTIPLE" (.int 12)
  c_ZERO : GlobC K mg "ZERO" (.tup [.int 0, .int 1])
  x_NoSize : ExcAt K mg "NoSize"
  x_NoCircle : ExcAt K mg "NoCircle"
  x_NoRow : ExcAt K mg "NoRow"
  x_NoNumber : ExcAt K mg "NoNumber"
  x_NoWorths : ExcAt K mg "NoWorths"
section
variable {P : Program} {w : World} {K : PySem.W.Frag} {mg : Str → Option Value} {base : Heap}
abbrev s__law_pot : Stmt := topS 54
abbrev n__law_pot : List Str := ["_law_script", "_law_cells", "_law_cell"]
theorem sc__law_pot : FnScope ["_law_script", "_law_cells", "_law_cell"] ["_law_script"] (defScope s__law_pot) := ⟨rfl, rfl, rfl, by decide +kernel, rfl, by decide +kernel, by decide +kernel⟩
theorem ok__law_pot {f : Addr} {fd : FuncData} (F : Fun K "_law_pot" "_law_pot" s__law_pot f fd) (T : Txt K mg)  :
    FnOk P w K mg base (L2.CX P w) 1 f fd ["_law_script"] (spM K mg 1 KG.m__law_pot) := by
  have z_abs := T.z_abs
  have z_int := T.z_int
  have z_len := T.z_len
  have nd := sc__law_pot.nd
  refine (fn_okM F sc__law_pot fun cdv A outer s H E hr tk po => ?_)
  exact ⟨_, xss_cons (xs_setLc 1 [("_law_cell", 2)] fin_I rfl nd (ki_seq K (ke_slice K (xe_v 0) (xo_none) (xo_some (xe_int)))) (blkOk_by (N := n__law_pot) (sc := defScope s__law_pot) (by decide +kernel)) (fun _ _ _ _ _ => xg_name 2 nd) (fun _ _ _ _ _ => xts_nil) (fun _ _ _ _ _ => xe_callB call_abs opc_abs z_abs (by decide +kernel) (xa_cons (xe_callTy call_int1 opc_int z_int (by decide +kernel) (xa_cons (xe_v 2) (xa_nil))) (xa_nil))))
    (xss_one (xs_ret (xe_lstM (xa_cons (xe_v 1) (xa_cons (xe_int) (xa_cons (xe_int) (xa_cons (xe_op (r := rAddG K) op_addG opd_add (xe_int) (xe_callB (r := rLenC K) call_len_seq opc_len z_len PySem.boot_len (xa_cons (xe_v 1) (xa_nil)))) (xa_cons (xe_int) (xa_nil)))))))))⟩
abbrev s__law_draw : Stmt := topS 55
abbrev n__law_draw : List Str := ["_law_pot_here", "_law_many", "_law_cell", "_law_digit", "_law_number"]
theorem sc__law_draw : FnScope ["_law_pot_here", "_law_many", "_law_cell", "_law_digit", "_law_number"] ["_law_pot_here", "_law_many"] (defScope s__law_draw) := ⟨rfl, rfl, rfl, by decide +kernel, rfl, by decide +kernel, by decide +kernel⟩
theorem ok__law_draw {f : Addr} {fd : FuncData} (F : Fun K "_law_draw" "_law_draw" s__law_draw f fd) (T : Txt K mg)  :
    FnOk P w K mg base (L2.CX P w) 1 f fd ["_law_pot_here", "_law_many"] (spM K mg 2 KG.m__law_draw) := by
  have z_int := T.z_int
  have z_len := T.z_len
  have nd := sc__law_draw.nd
  refine FnOk.cut (fn_okM F sc__law_draw fun cdv A outer s H E hr tk po => ?_)
  exact ⟨_, xss_cons (xs_if (xw_pt (xw_and (xt_cmp (r := rEqD K) (op_eqD hr.units) opd_eq (xe_ix (r := rIx K) ix_seq opd_ix (xe_v 0) (xe_int)) (xe_int)) (xw_and1 (xt_cmp op_lt opd_lt (xe_ix (r := rIx K) ix_seq opd_ix (xe_v 0) (xe_int)) (xe_callB (r := rLenC K) call_len_seq opc_len z_len PySem.boot_len (xa_cons (xe_ix (r := rIx K) ix_seq opd_ix (xe_v 0) (xe_int)) (xa_nil))))))) (xss_cons (xs_set 2 nd (xe_ix (r := rIx K) ix_seq opd_ix (xe_ix (r := rIx K) ix_seq opd_ix (xe_v 0) (xe_int)) (xe_ix (r := rIx K) ix_seq opd_ix (xe_v 0) (xe_int))))
    (xss_cons (xs_asg (xe_op (r := rAddG K) op_addG opd_add (xe_ix (r := rIx K) ix_seq opd_ix (xe_v 0) (xe_int)) (xe_int)) (xg_sub set_list setd_list (xe_v 0) (xe_int)))
    (xss_cons (xs_asg (xe_op op_mod opd_mod (xe_callTy call_int1 opc_int z_int (by decide +kernel) (xa_cons (xe_op (r := rAddG K) op_addG opd_add (xe_op (r := rAddG K) op_addG opd_add (xe_op (r := rMulA K) op_mulA opd_mul (xe_ix (r := rIx K) ix_seq opd_ix (xe_v 0) (xe_int)) (xe_int)) (xe_v 2)) (xe_int)) (xa_nil))) (xe_int)) (xg_sub set_list setd_list (xe_v 0) (xe_int)))
    (xss_one (xs_if (xt_cmp op_ge opd_ge (xe_v 2) (xe_op op_pow opd_pow (xe_int) (xe_int))) (xss_one (xs_asg (xe_v 2) (xg_sub set_list setd_list (xe_v 0) (xe_int)))) (xss_nil)))))) (xss_nil))
    (xss_cons (xs_if (xt_cmp op_gt opd_gt (xe_ix (r := rIx K) ix_seq opd_ix (xe_v 0) (xe_int)) (xe_int)) (xss_cons (xs_set 3 nd (xe_op op_mod opd_mod (xe_callTy call_int1 opc_int z_int (by decide +kernel) (xa_cons (xe_ix (r := rIx K) ix_seq opd_ix (xe_v 0) (xe_int)) (xa_nil))) (xe_v 1)))
    (xss_cons (xs_asg (xe_op op_fdivW opd_div (xe_ix (r := rIx K) ix_seq opd_ix (xe_v 0) (xe_int)) (xe_v 1)) (xg_sub set_list setd_list (xe_v 0) (xe_int)))
    (xss_one (xs_ret (xe_v 3))))) (xss_nil))
    (xss_cons (xs_asg (xe_op (r := rAddG K) op_addG opd_add (xe_ix (r := rIx K) ix_seq opd_ix (xe_v 0) (xe_int)) (xe_int)) (xg_sub set_list setd_list (xe_v 0) (xe_int)))
    (xss_cons (xs_set 4 nd (xe_op op_mod opd_mod (xe_callTy call_int1 opc_int z_int (by decide +kernel) (xa_cons (xe_op (r := rMulA K) op_mulA opd_mul (xe_callTy call_int1 opc_int z_int (by decide +kernel) (xa_cons (xe_op (r := rAddG K) op_addG opd_add (xe_ix (r := rIx K) ix_seq opd_ix (xe_v 0) (xe_int)) (xe_op (r := rMulA K) op_mulA opd_mul (xe_int) (xe_ix (r := rIx K) ix_seq opd_ix (xe_v 0) (xe_int)))) (xa_nil))) (xe_int)) (xa_nil))) (xe_int)))
    (xss_cons (xs_set 4 nd (xe_op op_mod opd_mod (xe_callTy call_int1 opc_int z_int (by decide +kernel) (xa_cons (xe_op (r := rMulA K) op_mulA opd_mul (xe_v 4) (xe_op (r := rAddG K) op_addG opd_add (xe_op op_fdivW opd_div (xe_v 4) (xe_int)) (xe_int))) (xa_nil))) (xe_int)))
    (xss_cons (xs_set 4 nd (xe_op op_mod opd_mod (xe_callTy call_int1 opc_int z_int (by decide +kernel) (xa_cons (xe_op (r := rMulA K) op_mulA opd_mul (xe_v 4) (xe_op (r := rAddG K) op_addG opd_add (xe_op op_fdivW opd_div (xe_v 4) (xe_int)) (xe_int))) (xa_nil))) (xe_int)))
    (xss_one (xs_ret (xe_op op_mod opd_mod (xe_callTy call_int1 opc_int z_int (by decide +kernel) (xa_cons (xe_op op_fdivW opd_div (xe_v 4) (xe_int)) (xa_nil))) (xe_v 1)))))))))⟩
abbrev s__law_doubled : Stmt := topS 73
abbrev n__law_doubled : List Str := ["_law_pot_here", "_law_adviser_here", "_law_many", "_law_one", "_law_rules", "_law_told", "_law_nexts", "_law_later"]
theorem sc__law_doubled : FnScope ["_law_pot_here", "_law_adviser_here", "_law_many", "_law_one", "_law_rules", "_law_told", "_law_nexts", "_law_later"] ["_law_pot_here", "_law_adviser_here"] (defScope s__law_doubled) := ⟨rfl, rfl, rfl, by decide +kernel, rfl, by decide +kernel, by decide +kernel⟩
theorem ok__law_doubled {f : Addr} {fd : FuncData} (F : Fun K "_law_doubled" "_law_doubled" s__law_doubled f fd) (T : Txt K mg) (C__law_draw : Callee P w K mg base "_law_draw" 1 2 KG.m__law_draw) :
    FnOk P w K mg base (L2.CX P w) 2 f fd ["_law_pot_here", "_law_adviser_here"] (spM K mg 2 m__law_doubled) := by
  have z_len := T.z_len
  have z_tuple := T.z_tuple
  have nd := sc__law_doubled.nd
  refine FnOk.cut (fn_okM F sc__law_doubled fun cdv A outer s H E hr tk po => ?_)
  exact ⟨_, xss_cons (xs_asg (xe_tup (xa_cons (xe_callB (r := rLenC K) call_len_seq opc_len z_len PySem.boot_len (xa_cons (xe_ix (r := rIx K) ix_seq opd_ix (xe_v 1) (xe_int)) (xa_nil))) (xa_cons (ke_call K mg C__law_draw (hr.mono (by decide)) tk (xa_cons (xe_v 0) (xa_cons (xe_callB (r := rLenC K) call_len_seq opc_len z_len PySem.boot_len (xa_cons (xe_ix (r := rIx K) ix_seq opd_ix (xe_v 1) (xe_int)) (xa_nil))) (xa_nil)))) (xa_nil)))) (kg_tup K rfl (xgs_cons (xg_name 2 nd) (xgs_cons (xg_name 3 nd) (xgs_nil)))))
    (xss_cons (xs_if (xt_cmp op_gt opd_gt (xe_v 2) (xe_int)) (xss_one (xs_ret (xe_v 1))) (xss_nil))
    (xss_cons (xs_set 4 nd (xe_lstM (xa_nil)))
    (xss_cons (xs_for po rfl (ki_seq K (xe_op (r := rAddG K) op_addG opd_add (xe_ix (r := rIx K) ix_seq opd_ix (xe_v 1) (xe_int)) (ke_slice K (xe_ix (r := rIx K) ix_seq opd_ix (xe_v 1) (xe_int)) (xo_some (xe_v 3)) (xo_some (xe_op (r := rAddG K) op_addG opd_add (xe_v 3) (xe_int)))))) (kg_tup K rfl (xgs_cons (xg_name 5 nd) (xgs_cons (xg_name 6 nd) (xgs_nil)))) (xss_one (xs_expr (ke_bm K PySem.F.slot_list_append PySem.F.type_list_append mt_append opm_append (xe_v 4) (xa_cons (xe_tup (xa_cons (xe_v 5) (xa_cons (xe_callTy (r := rTupleC K) call_tuple_of opc_tuple z_tuple (by decide +kernel) (xa_cons (xe_lc [("_law_later", 7)] fin_I rfl nd (ki_seq K (xe_v 6)) (blkOk_by (N := n__law_doubled) (sc := defScope s__law_doubled) (by decide +kernel)) (fun _ _ _ _ _ => xg_name 7 nd) (fun _ _ _ _ _ => xts_nil) (fun _ _ _ _ _ => xe_if (xw_pt (xw_and (xt_cmp (r := rEqD K) (op_eqD hr.units) opd_eq (xe_v 7) (xe_v 3)) (xw_and1 (xt_cmp (r := rEqD K) (op_eqD hr.units) opd_eq (ke_call K mg C__law_draw (hr.mono (by decide)) takes0 (xa_cons (xe_v 0) (xa_cons (xe_int) (xa_nil)))) (xe_int))))) (xe_v 2) (xe_v 7))) (xa_nil))) (xa_nil)))) (xa_nil))))))
    (xss_one (xs_ret (xe_tup (xa_cons (xe_int) (xa_cons (xe_callTy (r := rTupleC K) call_tuple_of opc_tuple z_tuple (by decide +kernel) (xa_cons (xe_v 4) (xa_nil))) (xa_nil)))))))))⟩
abbrev s__law_any : Stmt := topS 56
abbrev n__law_any : List Str := ["_law_pot_here", "_law_things"]
theorem sc__law_any : FnScope ["_law_pot_here", "_law_things"] ["_law_pot_here", "_law_things"] (defScope s__law_any) := ⟨rfl, rfl, rfl, by decide +kernel, rfl, by decide +kernel, by decide +kernel⟩
theorem ok__law_any {f : Addr} {fd : FuncData} (F : Fun K "_law_any" "_law_any" s__law_any f fd) (T : Txt K mg) (C__law_draw : Callee P w K mg base "_law_draw" 1 2 KG.m__law_draw) :
    FnOk P w K mg base (L2.CX P w) 2 f fd ["_law_pot_here", "_law_things"] (spM K mg 2 KG.m__law_any) := by
  have z_len := T.z_len
  have nd := sc__law_any.nd
  refine FnOk.cut (fn_okM F sc__law_any fun cdv A outer s H E hr tk po => ?_)
  exact ⟨_, xss_one (xs_ret (xe_ix (r := rIx K) ix_seq opd_ix (xe_v 1) (ke_call K mg C__law_draw (hr.mono (by decide)) tk (xa_cons (xe_v 0) (xa_cons (xe_callB (r := rLenC K) call_len_seq opc_len z_len PySem.boot_len (xa_cons (xe_v 1) (xa_nil))) (xa_nil))))))⟩
abbrev s__law_gcd : Stmt := topS 59
abbrev n__law_gcd : List Str := ["_law_one", "_law_other"]
theorem sc__law_gcd : FnScope ["_law_one", "_law_other"] ["_law_one", "_law_other"] (defScope s__law_gcd) := ⟨rfl, rfl, rfl, by decide +kernel, rfl, by decide +kernel, by decide +kernel⟩
theorem ok__law_gcd {f : Addr} {fd : FuncData} (F : Fun K "_law_gcd" "_law_gcd" s__law_gcd f fd) (T : Txt K mg)  :
    FnOk P w K mg base (L2.CX P w) 1 f fd ["_law_one", "_law_other"] (spM K mg 2 KG.m__law_gcd) := by
  have z_abs := T.z_abs
  have z_int := T.z_int
  have nd := sc__law_gcd.nd
  refine FnOk.cut (fn_okM F sc__law_gcd fun cdv A outer s H E hr tk po => ?_)
  exact ⟨_, xss_cons (xs_set 0 nd (xe_callB call_abs opc_abs z_abs (by decide +kernel) (xa_cons (xe_v 0) (xa_nil))))
    (xss_cons (xs_while po (xt_cmp op_gt opd_gt (xe_v 1) (xe_int)) (xss_one (xs_par (i := 0) (j := 1) rfl nd (xe_v 1) (xe_op op_mod opd_mod (xe_callTy call_int1 opc_int z_int (by decide +kernel) (xa_cons (xe_v 0) (xa_nil))) (xe_v 1)))))
    (xss_one (xs_ret (xe_v 0))))⟩
abbrev s__law_fraction : Stmt := topS 60
abbrev n__law_fraction : List Str := ["_law_top", "_law_bottom", "_law_shared"]
theorem sc__law_fraction : FnScope ["_law_top", "_law_bottom", "_law_shared"] ["_law_top", "_law_bottom"] (defScope s__law_fraction) := ⟨rfl, rfl, rfl, by decide +kernel, rfl, by decide +kernel, by decide +kernel⟩
theorem ok__law_fraction {f : Addr} {fd : FuncData} (F : Fun K "_law_fraction" "_law_fraction" s__law_fraction f fd) (T : Txt K mg) (C__law_gcd : Callee P w K mg base "_law_gcd" 1 2 KG.m__law_gcd) :
    FnOk P w K mg base (L2.CX P w) 2 f fd ["_law_top", "_law_bottom"] (spM K mg 2 KG.m__law_fraction) := by

  have nd := sc__law_fraction.nd
  refine FnOk.cut (fn_okM F sc__law_fraction fun cdv A outer s H E hr tk po => ?_)
  exact ⟨_, xss_cons (xs_set 2 nd (ke_call K mg C__law_gcd (hr.mono (by decide)) tk (xa_cons (xe_v 0) (xa_cons (xe_v 1) (xa_nil)))))
    (xss_one (xs_ret (xe_tup (xa_cons (xe_op op_fdivW opd_div (xe_v 0) (xe_v 2)) (xa_cons (xe_op op_fdivW opd_div (xe_v 1) (xe_v 2)) (xa_nil))))))⟩
abbrev s__law_halved : Stmt := topS 71
abbrev n__law_halved : List Str := ["_law_n", "_law_ways", "_law_turn", "_law_k", "_law_total", "_law_rows_here"]
theorem sc__law_halved : FnScope ["_law_n", "_law_ways", "_law_turn", "_law_k", "_law_total", "_law_rows_here"] ["_law_n"] (defScope s__law_halved) := ⟨rfl, rfl, rfl, by decide +kernel, rfl, by decide +kernel, by decide +kernel⟩
theorem ok__law_halved {f : Addr} {fd : FuncData} (F : Fun K "_law_halved" "_law_halved" s__law_halved f fd) (T : Txt K mg) (C__law_fraction : Callee P w K mg base "_law_fraction" 2 2 KG.m__law_fraction) :
    FnOk P w K mg base (L2.CX P w) 3 f fd ["_law_n"] (spM K mg 1 m__law_halved) := by
  have z_range := T.z_range
  have z_sum := T.z_sum
  have z_abs := T.z_abs
  have z_len := T.z_len
  have nd := sc__law_halved.nd
  refine FnOk.cut (fn_okM F sc__law_halved fun cdv A outer s H E hr tk po => ?_)
  exact ⟨_, xss_cons (xs_set 1 nd (xe_lst (xa_cons (xe_int) (xa_nil))))
    (xss_cons (xs_for po rfl (xi_rng1 z_range (xa_cons (xe_v 0) (xa_nil))) (xg_name 2 nd) (xss_one (xs_set 1 nd (xe_op (r := rAddG K) op_addG opd_add (xe_op (r := rAddG K) op_addG opd_add (xe_lst (xa_cons (xe_int) (xa_nil))) (xe_lc [("_law_k", 3)] fin_I rfl nd (xi_rng1 z_range (xa_cons (xe_op op_sub opd_sub (xe_callB (r := rLenC K) call_len_seq opc_len z_len PySem.boot_len (xa_cons (xe_v 1) (xa_nil))) (xe_int)) (xa_nil))) (blkOk_by (N := n__law_halved) (sc := defScope s__law_halved) (by decide +kernel)) (fun _ _ _ _ _ => xg_name 3 nd) (fun _ _ _ _ _ => xts_nil) (fun _ _ _ _ _ => xe_op (r := rAddG K) op_addG opd_add (xe_ix (r := rIx K) ix_seq opd_ix (xe_v 1) (xe_v 3)) (xe_ix (r := rIx K) ix_seq opd_ix (xe_v 1) (xe_op (r := rAddG K) op_addG opd_add (xe_v 3) (xe_int)))))) (xe_lst (xa_cons (xe_int) (xa_nil)))))))
    (xss_cons (xs_par (i := 4) (j := 5) rfl nd (xe_callB (r := rSum K) (cr_sum rfl) opc_sum z_sum (by decide +kernel) (xa_cons (xe_lc [("_law_k", 3)] fin_I rfl nd (xi_rng1 z_range (xa_cons (xe_op (r := rAddG K) op_addG opd_add (xe_v 0) (xe_int)) (xa_nil))) (blkOk_by (N := n__law_halved) (sc := defScope s__law_halved) (by decide +kernel)) (fun _ _ _ _ _ => xg_name 3 nd) (fun _ _ _ _ _ => xts_nil) (fun _ _ _ _ _ => xe_op (r := rMulA K) op_mulA opd_mul (xe_ix (r := rIx K) ix_seq opd_ix (xe_v 1) (xe_v 3)) (xe_callB call_abs opc_abs z_abs (by decide +kernel) (xa_cons (xe_op op_sub opd_sub (xe_v 0) (xe_op (r := rMulA K) op_mulA opd_mul (xe_int) (xe_v 3))) (xa_nil))))) (xa_nil))) (xe_callB (r := rSum K) (cr_sum rfl) opc_sum z_sum (by decide +kernel) (xa_cons (xe_v 1) (xa_nil))))
    (xss_one (xs_ret (ke_call K mg C__law_fraction (hr.mono (by decide)) tk (xa_cons (xe_v 4) (xa_cons (xe_op (r := rMulA K) op_mulA opd_mul (xe_int) (xe_v 5)) (xa_nil))))))))⟩
abbrev s_nothing_heard : Stmt := topS 44
abbrev n_nothing_heard : List Str := ["circle"]
theorem sc_nothing_heard : FnScope ["circle"] ["circle"] (defScope s_nothing_heard) := ⟨rfl, rfl, rfl, by decide +kernel, rfl, by decide +kernel, by decide +kernel⟩
theorem ok_nothing_heard {f : Addr} {fd : FuncData} (F : Fun K "nothing_heard" "nothing_heard" s_nothing_heard f fd) (T : Txt K mg)  :
    FnOk P w K mg base (L2.CX P w) 1 f fd ["circle"] (spM K mg 1 KG.m_nothing_heard) := by
  have z_len := T.z_len
  have nd := sc_nothing_heard.nd
  refine FnOk.cut (fn_okM F sc_nothing_heard fun cdv A outer s H E hr tk po => ?_)
  exact ⟨_, xss_one (xs_ret (xe_tup (xa_cons (xe_op (r := rMulA K) op_mulA opd_mul (xe_tup (xa_cons (xe_int) (xa_nil))) (xe_callB (r := rLenC K) call_len_seq opc_len z_len PySem.boot_len (xa_cons (xe_v 0) (xa_nil)))) (xa_cons (xe_op (r := rMulA K) op_mulA opd_mul (xe_tup (xa_cons (xe_int) (xa_nil))) (xe_callB (r := rLenC K) call_len_seq opc_len z_len PySem.boot_len (xa_cons (xe_v 0) (xa_nil)))) (xa_nil)))))⟩
abbrev s_is_whole : Stmt := topS 12
abbrev n_is_whole : List Str := ["thing"]
theorem sc_is_whole : FnScope ["thing"] ["thing"] (defScope s_is_whole) := ⟨rfl, rfl, rfl, by decide +kernel, rfl, by decide +kernel, by decide +kernel⟩
theorem ok_is_whole {f : Addr} {fd : FuncData} (F : Fun K "is_whole" "is_whole" s_is_whole f fd) (T : Txt K mg)  :
    FnOk P w K mg base (L2.CX P w) 1 f fd ["thing"] (spM K mg 1 KG.m_is_whole) := by
  have z_isinstance := T.z_isinstance
  have z_int := T.z_int
  have z_bool := T.z_bool
  have nd := sc_is_whole.nd
  refine FnOk.cut (fn_okM F sc_is_whole fun cdv A outer s H E hr tk po => ?_)
  exact ⟨_, xss_one (xs_ret (xe_and (ke_isi K (T := "int") z_isinstance z_int (by decide +kernel) (xe_v 0)) (xe_one (xe_not (ke_isi K (T := "bool") z_isinstance z_bool (by decide +kernel) (xe_v 0))))))⟩
abbrev s_is_size : Stmt := topS 30
abbrev n_is_size : List Str := ["thing"]
theorem sc_is_size : FnScope ["thing"] ["thing"] (defScope s_is_size) := ⟨rfl, rfl, rfl, by decide +kernel, rfl, by decide +kernel, by decide +kernel⟩
theorem ok_is_size {f : Addr} {fd : FuncData} (F : Fun K "is_size" "is_size" s_is_size f fd) (T : Txt K mg) (C_is_whole : Callee P w K mg base "is_whole" 1 1 KG.m_is_whole) :
    FnOk P w K mg base (L2.CX P w) 2 f fd ["thing"] (spM K mg 1 KG.m_is_size) := by
  obtain ⟨v_LEAST_SIZE, u_LEAST_SIZE, c1_LEAST_SIZE, c2_LEAST_SIZE, c3_LEAST_SIZE⟩ := T.c_LEAST_SIZE.ex
  obtain ⟨v_MOST_SIZE, u_MOST_SIZE, c1_MOST_SIZE, c2_MOST_SIZE, c3_MOST_SIZE⟩ := T.c_MOST_SIZE.ex
  have nd := sc_is_size.nd
  refine FnOk.cut (fn_okM F sc_is_size fun cdv A outer s H E hr tk po => ?_)
  exact ⟨_, xss_one (xs_ret (xe_and (ke_call K mg C_is_whole (hr.mono (by decide)) tk (xa_cons (xe_v 0) (xa_nil))) (xe_one (xe_chain op_le op_le opd_le opd_le (xe_glob c1_LEAST_SIZE c2_LEAST_SIZE c3_LEAST_SIZE) (xe_v 0) (xe_glob c1_MOST_SIZE c2_MOST_SIZE c3_MOST_SIZE)))))⟩
abbrev s_is_below : Stmt := topS 31
abbrev n_is_below : List Str := ["thing", "end"]
theorem sc_is_below : FnScope ["thing", "end"] ["thing", "end"] (defScope s_is_below) := ⟨rfl, rfl, rfl, by decide +kernel, rfl, by decide +kernel, by decide +kernel⟩
theorem ok_is_below {f : Addr} {fd : FuncData} (F : Fun K "is_below" "is_below" s_is_below f fd) (T : Txt K mg) (C_is_whole : Callee P w K mg base "is_whole" 1 1 KG.m_is_whole) :
    FnOk P w K mg base (L2.CX P w) 2 f fd ["thing", "end"] (spM K mg 2 KG.m_is_below) := by

  have nd := sc_is_below.nd
  refine FnOk.cut (fn_okM F sc_is_below fun cdv A outer s H E hr tk po => ?_)
  exact ⟨_, xss_one (xs_ret (xe_and (ke_call K mg C_is_whole (hr.mono (by decide)) tk (xa_cons (xe_v 0) (xa_nil))) (xe_one (xe_chain op_le op_lt opd_le opd_lt (xe_int) (xe_v 0) (xe_v 1)))))⟩
abbrev s_are_below : Stmt := topS 32
abbrev n_are_below : List Str := ["thing", "many", "end", "item"]
theorem sc_are_below : FnScope ["thing", "many", "end", "item"] ["thing", "many", "end"] (defScope s_are_below) := ⟨rfl, rfl, rfl, by decide +kernel, rfl, by decide +kernel, by decide +kernel⟩
theorem ok_are_below {f : Addr} {fd : FuncData} (F : Fun K "are_below" "are_below" s_are_below f fd) (T : Txt K mg) (C_is_below : Callee P w K mg base "is_below" 2 2 KG.m_is_below) :
    FnOk P w K mg base (L2.CX P w) 3 f fd ["thing", "many", "end"] (spM K mg 3 KG.m_are_below) := by
  have z_all := T.z_all
  have z_isinstance := T.z_isinstance
  have z_tuple := T.z_tuple
  have z_len := T.z_len
  have nd := sc_are_below.nd
  refine FnOk.cut (fn_okM F sc_are_below fun cdv A outer s H E hr tk po => ?_)
  exact ⟨_, xss_cons (xs_if (xw_pt (xw_or (xt_not (kt_tru K (ke_isi K (T := "tuple") z_isinstance z_tuple (by decide +kernel) (xe_v 0)))) (xw_or1 (xt_cmp (r := rNeD K) (op_neD hr.units) opd_ne (xe_callB (r := rLenC K) call_len_seq opc_len z_len PySem.boot_len (xa_cons (xe_v 0) (xa_nil))) (xe_v 1))))) (xss_one (xs_ret (xe_bl))) (xss_nil))
    (xss_one (xs_ret (xe_callB (r := rAll K) (cr_all rfl) opc_all z_all (by decide +kernel) (xa_cons (xe_lc [("item", 3)] fin_I rfl nd (ki_seq K (xe_v 0)) (blkOk_by (N := n_are_below) (sc := defScope s_are_below) (by decide +kernel)) (fun _ _ _ _ _ => xg_name 3 nd) (fun _ _ _ _ _ => xts_nil) (fun _ _ _ _ _ => ke_call K mg C_is_below (hr.mono (by decide)) takes0 (xa_cons (xe_v 3) (xa_cons (xe_v 2) (xa_nil))))) (xa_nil)))))⟩
abbrev s_is_advice : Stmt := topS 40
abbrev n_is_advice : List Str := ["thing", "size", "states"]
theorem sc_is_advice : FnScope ["thing", "size", "states"] ["thing", "size", "states"] (defScope s_is_advice) := ⟨rfl, rfl, rfl, by decide +kernel, rfl, by decide +kernel, by decide +kernel⟩
theorem ok_is_advice {f : Addr} {fd : FuncData} (F : Fun K "is_advice" "is_advice" s_is_advice f fd) (T : Txt K mg) (C_is_below : Callee P w K mg base "is_below" 2 2 KG.m_is_below) (C_are_below : Callee P w K mg base "are_below" 3 3 KG.m_are_below) :
    FnOk P w K mg base (L2.CX P w) 4 f fd ["thing", "size", "states"] (spM K mg 3 KG.m_is_advice) := by
  have z_isinstance := T.z_isinstance
  have z_tuple := T.z_tuple
  have z_len := T.z_len
  have nd := sc_is_advice.nd
  refine FnOk.cut (fn_okM F sc_is_advice fun cdv A outer s H E hr tk po => ?_)
  exact ⟨_, xss_cons (xs_if (xw_pt (xw_or (xt_not (kt_tru K (ke_isi K (T := "tuple") z_isinstance z_tuple (by decide +kernel) (xe_v 0)))) (xw_or1 (xt_cmp (r := rNeD K) (op_neD hr.units) opd_ne (xe_callB (r := rLenC K) call_len_seq opc_len z_len PySem.boot_len (xa_cons (xe_v 0) (xa_nil))) (xe_int))))) (xss_one (xs_ret (xe_bl))) (xss_nil))
    (xss_one (xs_ret (xe_and (ke_call K mg C_is_below (hr.mono (by decide)) tk (xa_cons (xe_ix (r := rIx K) ix_seq opd_ix (xe_v 0) (xe_int)) (xa_cons (xe_v 1) (xa_nil)))) (xe_one (ke_call K mg C_are_below (hr.mono (by decide)) tk (xa_cons (xe_ix (r := rIx K) ix_seq opd_ix (xe_v 0) (xe_int)) (xa_cons (xe_v 1) (xa_cons (xe_v 2) (xa_nil)))))))))⟩
abbrev s_is_ruled : Stmt := topS 33
abbrev n_is_ruled : List Str := ["thing", "most", "judge", "size", "rules", "states", "rule"]
theorem sc_is_ruled : FnScope ["thing", "most", "judge", "size", "rules", "states", "rule"] ["thing", "most", "judge"] (defScope s_is_ruled) := ⟨rfl, rfl, rfl, by decide +kernel, rfl, by decide +kernel, by decide +kernel⟩
theorem ok_is_ruled {f : Addr} {fd : FuncData} (F : Fun K "is_ruled" "is_ruled" s_is_ruled f fd) (T : Txt K mg) (C_is_size : Callee P w K mg base "is_size" 2 1 KG.m_is_size) (C_is_advice : Callee P w K mg base "is_advice" 4 3 KG.m_is_advice) :
    FnOk P w K mg base (L2.CX P w) 5 f fd ["thing", "most", "judge"] (spM K mg 3 KG.m_is_ruled) := by
  have z_len := T.z_len
  have z_all := T.z_all
  have z_isinstance := T.z_isinstance
  have z_tuple := T.z_tuple
  have nd := sc_is_ruled.nd
  refine FnOk.cut (fn_okM F sc_is_ruled fun cdv A outer s H E hr tk po => ?_)
  exact ⟨_, xss_cons (xs_if (xw_pt (xw_or (xt_not (kt_tru K (ke_isi K (T := "tuple") z_isinstance z_tuple (by decide +kernel) (xe_v 0)))) (xw_or1 (xt_cmp (r := rNeD K) (op_neD hr.units) opd_ne (xe_callB (r := rLenC K) call_len_seq opc_len z_len PySem.boot_len (xa_cons (xe_v 0) (xa_nil))) (xe_int))))) (xss_one (xs_ret (xe_bl))) (xss_nil))
    (xss_cons (xs_asg (xe_v 0) (kg_tup K rfl (xgs_cons (xg_name 3 nd) (xgs_cons (xg_name 4 nd) (xgs_nil)))))
    (xss_cons (xs_if (xw_pt (xw_or (xt_not (kt_tru K (ke_call K mg C_is_size (hr.mono (by decide)) tk (xa_cons (xe_v 3) (xa_nil))))) (xw_or1 (xt_not (kt_tru K (ke_isi K (T := "tuple") z_isinstance z_tuple (by decide +kernel) (xe_v 4))))))) (xss_one (xs_ret (xe_bl))) (xss_nil))
    (xss_cons (xs_set 5 nd (xe_callB (r := rLenC K) call_len_seq opc_len z_len PySem.boot_len (xa_cons (xe_v 4) (xa_nil))))
    (xss_one (xs_ret (xe_and (xe_chain op_le op_le opd_le opd_le (xe_int) (xe_v 5) (xe_v 1)) (xe_one (xe_callB (r := rAll K) (cr_all rfl) opc_all z_all (by decide +kernel) (xa_cons (xe_lc [("rule", 6)] fin_I rfl nd (ki_seq K (xe_v 4)) (blkOk_by (N := n_is_ruled) (sc := defScope s_is_ruled) (by decide +kernel)) (fun _ _ _ _ _ => xg_name 6 nd) (fun _ _ _ _ _ => xts_nil) (fun _ _ _ _ _ => ke_callF P w K mg base 2 (k := 4) (tb := [("is_advice", KG.m_is_advice)]) (List.forall_mem_cons.mpr ⟨C_is_advice.mono (by decide), fun _ h => nomatch h⟩) (hr.mono (by decide)) takes0 (xa_cons (xe_v 6) (xa_cons (xe_v 3) (xa_cons (xe_v 5) (xa_nil)))))) (xa_nil))))))))))⟩
abbrev s_is_adviser : Stmt := topS 41
abbrev n_is_adviser : List Str := ["thing"]
theorem sc_is_adviser : FnScope ["thing"] ["thing"] (defScope s_is_adviser) := ⟨rfl, rfl, rfl, by decide +kernel, rfl, by decide +kernel, by decide +kernel⟩
theorem ok_is_adviser {f : Addr} {fd : FuncData} (F : Fun K "is_adviser" "is_adviser" s_is_adviser f fd) (T : Txt K mg) (C_is_ruled : Callee P w K mg base "is_ruled" 5 3 KG.m_is_ruled) (C_is_advice : Callee P w K mg base "is_advice" 4 3 KG.m_is_advice) :
    FnOk P w K mg base (L2.CX P w) 6 f fd ["thing"] (spM K mg 1 KG.m_is_adviser) := by
  obtain ⟨v_MOST_ADVISER_STATES, u_MOST_ADVISER_STATES, c1_MOST_ADVISER_STATES, c2_MOST_ADVISER_STATES, c3_MOST_ADVISER_STATES⟩ := T.c_MOST_ADVISER_STATES.ex
  obtain ⟨fv_is_advice, _, _, _, fm_is_advice, _, _, fn_is_advice⟩ := C_is_advice.ex
  have nd := sc_is_adviser.nd
  refine FnOk.cut (fn_okM F sc_is_adviser fun cdv A outer s H E hr tk po => ?_)
  exact ⟨_, xss_one (xs_ret (ke_call K mg C_is_ruled (hr.mono (by decide)) tk (xa_cons (xe_v 0) (xa_cons (xe_glob c1_MOST_ADVISER_STATES c2_MOST_ADVISER_STATES c3_MOST_ADVISER_STATES) (xa_cons (xe_fn fm_is_advice fn_is_advice) (xa_nil))))))⟩
abbrev s_is_circle : Stmt := topS 42
abbrev n_is_circle : List Str := ["thing", "adviser"]
theorem sc_is_circle : FnScope ["thing", "adviser"] ["thing"] (defScope s_is_circle) := ⟨rfl, rfl, rfl, by decide +kernel, rfl, by decide +kernel, by decide +kernel⟩
theorem ok_is_circle {f : Addr} {fd : FuncData} (F : Fun K "is_circle" "is_circle" s_is_circle f fd) (T : Txt K mg) (C_is_adviser : Callee P w K mg base "is_adviser" 6 1 KG.m_is_adviser) :
    FnOk P w K mg base (L2.CX P w) 7 f fd ["thing"] (spM K mg 1 KG.m_is_circle) := by
  have z_all := T.z_all
  have z_isinstance := T.z_isinstance
  have z_tuple := T.z_tuple
  have z_len := T.z_len
  obtain ⟨v_MOST_ADVISERS, u_MOST_ADVISERS, c1_MOST_ADVISERS, c2_MOST_ADVISERS, c3_MOST_ADVISERS⟩ := T.c_MOST_ADVISERS.ex
  have nd := sc_is_circle.nd
  refine FnOk.cut (fn_okM F sc_is_circle fun cdv A outer s H E hr tk po => ?_)
  exact ⟨_, xss_cons (xs_if (xw_pt (xw_or (xt_not (kt_tru K (ke_isi K (T := "tuple") z_isinstance z_tuple (by decide +kernel) (xe_v 0)))) (xw_or1 (xt_not (xt_chain op_le op_le opd_le opd_le (xe_int) (xe_callB (r := rLenC K) call_len_seq opc_len z_len PySem.boot_len (xa_cons (xe_v 0) (xa_nil))) (xe_glob c1_MOST_ADVISERS c2_MOST_ADVISERS c3_MOST_ADVISERS)))))) (xss_one (xs_ret (xe_bl))) (xss_nil))
    (xss_one (xs_ret (xe_and (xe_callB (r := rAll K) (cr_all rfl) opc_all z_all (by decide +kernel) (xa_cons (xe_lc [("adviser", 1)] fin_I rfl nd (ki_seq K (xe_v 0)) (blkOk_by (N := n_is_circle) (sc := defScope s_is_circle) (by decide +kernel)) (fun _ _ _ _ _ => xg_name 1 nd) (fun _ _ _ _ _ => xts_nil) (fun _ _ _ _ _ => ke_call K mg C_is_adviser (hr.mono (by decide)) takes0 (xa_cons (xe_v 1) (xa_nil)))) (xa_nil))) (xe_one (xe_callB (r := rAll K) (cr_all rfl) opc_all z_all (by decide +kernel) (xa_cons (xe_lc [("adviser", 1)] fin_I rfl nd (ki_seq K (xe_v 0)) (blkOk_by (N := n_is_circle) (sc := defScope s_is_circle) (by decide +kernel)) (fun _ _ _ _ _ => xg_name 1 nd) (fun _ _ _ _ _ => xts_nil) (fun _ _ _ _ _ => xe_cmp (r := rEqD K) (op_eqD hr.units) opd_eq (xe_ix (r := rIx K) ix_seq opd_ix (xe_v 1) (xe_int)) (xe_ix (r := rIx K) ix_seq opd_ix (xe_ix (r := rIx K) ix_seq opd_ix (xe_v 0) (xe_int)) (xe_int)))) (xa_nil)))))))⟩
abbrev s_is_row : Stmt := topS 34
abbrev n_is_row : List Str := ["size", "thing", "letter"]
theorem sc_is_row : FnScope ["size", "thing", "letter"] ["size", "thing"] (defScope s_is_row) := ⟨rfl, rfl, rfl, by decide +kernel, rfl, by decide +kernel, by decide +kernel⟩
theorem ok_is_row {f : Addr} {fd : FuncData} (F : Fun K "is_row" "is_row" s_is_row f fd) (T : Txt K mg) (C_is_size : Callee P w K mg base "is_size" 2 1 KG.m_is_size) (C_is_below : Callee P w K mg base "is_below" 2 2 KG.m_is_below) :
    FnOk P w K mg base (L2.CX P w) 3 f fd ["size", "thing"] (spM K mg 2 KG.m_is_row) := by
  have z_all := T.z_all
  have z_isinstance := T.z_isinstance
  have z_tuple := T.z_tuple
  have z_len := T.z_len
  obtain ⟨v_MOST_LETTERS, u_MOST_LETTERS, c1_MOST_LETTERS, c2_MOST_LETTERS, c3_MOST_LETTERS⟩ := T.c_MOST_LETTERS.ex
  obtain ⟨xa_NoSize, gx_NoSize, qx_NoSize, kx_NoSize, bx_NoSize, tx_NoSize⟩ := T.x_NoSize.ex
  have nd := sc_is_row.nd
  refine FnOk.cut (fn_okM F sc_is_row fun cdv A outer s H E hr tk po => ?_)
  exact ⟨_, xss_cons (xs_if (xt_not (kt_tru K (ke_call K mg C_is_size (hr.mono (by decide)) tk (xa_cons (xe_v 0) (xa_nil))))) (xss_one (xs_raise rfl tk gx_NoSize qx_NoSize kx_NoSize bx_NoSize tx_NoSize)) (xss_nil))
    (xss_cons (xs_if (xw_pt (xw_or (xt_not (kt_tru K (ke_isi K (T := "tuple") z_isinstance z_tuple (by decide +kernel) (xe_v 1)))) (xw_or1 (xt_cmp op_gt opd_gt (xe_callB (r := rLenC K) call_len_seq opc_len z_len PySem.boot_len (xa_cons (xe_v 1) (xa_nil))) (xe_glob c1_MOST_LETTERS c2_MOST_LETTERS c3_MOST_LETTERS))))) (xss_one (xs_ret (xe_bl))) (xss_nil))
    (xss_one (xs_ret (xe_callB (r := rAll K) (cr_all rfl) opc_all z_all (by decide +kernel) (xa_cons (xe_lc [("letter", 2)] fin_I rfl nd (ki_seq K (xe_v 1)) (blkOk_by (N := n_is_row) (sc := defScope s_is_row) (by decide +kernel)) (fun _ _ _ _ _ => xg_name 2 nd) (fun _ _ _ _ _ => xts_nil) (fun _ _ _ _ _ => ke_call K mg C_is_below (hr.mono (by decide)) takes0 (xa_cons (xe_v 2) (xa_cons (xe_v 0) (xa_nil))))) (xa_nil))))))⟩
abbrev s_heard : Stmt := topS 43
abbrev n_heard : List Str := ["circle", "states", "missed", "letter", "behind", "more", "_", "rules", "state", "many", "advice", "nexts"]
theorem sc_heard : FnScope ["circle", "states", "missed", "letter", "behind", "more", "_", "rules", "state", "many", "advice", "nexts"] ["circle", "states", "missed", "letter"] (defScope s_heard) := ⟨rfl, rfl, rfl, by decide +kernel, rfl, by decide +kernel, by decide +kernel⟩
theorem ok_heard {f : Addr} {fd : FuncData} (F : Fun K "heard" "heard" s_heard f fd) (T : Txt K mg)  :
    FnOk P w K mg base (L2.CX P w) 1 f fd ["circle", "states", "missed", "letter"] (spM K mg 4 KG.m_heard) := by
  have z_zip := T.z_zip
  have z_tuple := T.z_tuple
  have nd := sc_heard.nd
  refine FnOk.cut (fn_okM F sc_heard fun cdv A outer s H E hr tk po => ?_)
  exact ⟨_, xss_cons (xs_set 4 nd (xe_lstM (xa_nil)))
    (xss_cons (xs_set 5 nd (xe_lstM (xa_nil)))
    (xss_cons (xs_for po rfl (ki_zip3 K z_zip (xa_cons (xe_v 0) (xa_cons (xe_v 1) (xa_cons (xe_v 2) (xa_nil))))) (kg_tup K rfl (xgs_cons (kg_tup K rfl (xgs_cons (xg_name 6 nd) (xgs_cons (xg_name 7 nd) (xgs_nil)))) (xgs_cons (xg_name 8 nd) (xgs_cons (xg_name 9 nd) (xgs_nil))))) (xss_cons (xs_asg (xe_ix (r := rIx K) ix_seq opd_ix (xe_v 7) (xe_v 8)) (kg_tup K rfl (xgs_cons (xg_name 10 nd) (xgs_cons (xg_name 11 nd) (xgs_nil)))))
    (xss_cons (xs_expr (ke_bm K PySem.F.slot_list_append PySem.F.type_list_append mt_append opm_append (xe_v 4) (xa_cons (xe_ix (r := rIx K) ix_seq opd_ix (xe_v 11) (xe_v 3)) (xa_nil))))
    (xss_one (xs_expr (ke_bm K PySem.F.slot_list_append PySem.F.type_list_append mt_append opm_append (xe_v 5) (xa_cons (xe_if (xt_cmp (r := rEqD K) (op_eqD hr.units) opd_eq (xe_v 10) (xe_v 3)) (xe_v 9) (xe_op (r := rAddG K) op_addG opd_add (xe_v 9) (xe_int))) (xa_nil))))))))
    (xss_one (xs_ret (xe_tup (xa_cons (xe_callTy (r := rTupleC K) call_tuple_of opc_tuple z_tuple (by decide +kernel) (xa_cons (xe_v 4) (xa_nil))) (xa_cons (xe_callTy (r := rTupleC K) call_tuple_of opc_tuple z_tuple (by decide +kernel) (xa_cons (xe_v 5) (xa_nil))) (xa_nil))))))))⟩
abbrev s_adviser_misses : Stmt := topS 45
abbrev n_adviser_misses : List Str := ["circle", "row", "states", "missed", "letter"]
theorem sc_adviser_misses : FnScope ["circle", "row", "states", "missed", "letter"] ["circle", "row"] (defScope s_adviser_misses) := ⟨rfl, rfl, rfl, by decide +kernel, rfl, by decide +kernel, by decide +kernel⟩
theorem ok_adviser_misses {f : Addr} {fd : FuncData} (F : Fun K "adviser_misses" "adviser_misses" s_adviser_misses f fd) (T : Txt K mg) (C_nothing_heard : Callee P w K mg base "nothing_heard" 1 1 KG.m_nothing_heard) (C_is_circle : Callee P w K mg base "is_circle" 7 1 KG.m_is_circle) (C_is_row : Callee P w K mg base "is_row" 3 2 KG.m_is_row) (C_heard : Callee P w K mg base "heard" 1 4 KG.m_heard) :
    FnOk P w K mg base (L2.CX P w) 8 f fd ["circle", "row"] (spM K mg 2 KG.m_adviser_misses) := by
  obtain ⟨xa_NoCircle, gx_NoCircle, qx_NoCircle, kx_NoCircle, bx_NoCircle, tx_NoCircle⟩ := T.x_NoCircle.ex
  obtain ⟨xa_NoRow, gx_NoRow, qx_NoRow, kx_NoRow, bx_NoRow, tx_NoRow⟩ := T.x_NoRow.ex
  have nd := sc_adviser_misses.nd
  refine FnOk.cut (fn_okM F sc_adviser_misses fun cdv A outer s H E hr tk po => ?_)
  exact ⟨_, xss_cons (xs_if (xt_not (kt_tru K (ke_call K mg C_is_circle (hr.mono (by decide)) tk (xa_cons (xe_v 0) (xa_nil))))) (xss_one (xs_raise rfl tk gx_NoCircle qx_NoCircle kx_NoCircle bx_NoCircle tx_NoCircle)) (xss_nil))
    (xss_cons (xs_if (xt_not (kt_tru K (ke_call K mg C_is_row (hr.mono (by decide)) tk (xa_cons (xe_ix (r := rIx K) ix_seq opd_ix (xe_ix (r := rIx K) ix_seq opd_ix (xe_v 0) (xe_int)) (xe_int)) (xa_cons (xe_v 1) (xa_nil)))))) (xss_one (xs_raise rfl tk gx_NoRow qx_NoRow kx_NoRow bx_NoRow tx_NoRow)) (xss_nil))
    (xss_cons (xs_asg (ke_call K mg C_nothing_heard (hr.mono (by decide)) tk (xa_cons (xe_v 0) (xa_nil))) (kg_tup K rfl (xgs_cons (xg_name 2 nd) (xgs_cons (xg_name 3 nd) (xgs_nil)))))
    (xss_cons (xs_for po rfl (ki_seq K (xe_v 1)) (xg_name 4 nd) (xss_one (xs_asg (ke_call K mg C_heard (hr.mono (by decide)) tk (xa_cons (xe_v 0) (xa_cons (xe_v 2) (xa_cons (xe_v 3) (xa_cons (xe_v 4) (xa_nil)))))) (kg_tup K rfl (xgs_cons (xg_name 2 nd) (xgs_cons (xg_name 3 nd) (xgs_nil)))))))
    (xss_one (xs_ret (xe_v 3))))))⟩
abbrev s__law_adviser : Stmt := topS 65
abbrev n__law_adviser : List Str := ["_law_pot_here", "_law_size", "_law_most", "_law_states", "_law_rules", "_law_state", "_law_letter"]
theorem sc__law_adviser : FnScope ["_law_pot_here", "_law_size", "_law_most", "_law_states", "_law_rules", "_law_state", "_law_letter"] ["_law_pot_here", "_law_size", "_law_most"] (defScope s__law_adviser) := ⟨rfl, rfl, rfl, by decide +kernel, rfl, by decide +kernel, by decide +kernel⟩
theorem ok__law_adviser {f : Addr} {fd : FuncData} (F : Fun K "_law_adviser" "_law_adviser" s__law_adviser f fd) (T : Txt K mg) (C__law_draw : Callee P w K mg base "_law_draw" 1 2 KG.m__law_draw) :
    FnOk P w K mg base (L2.CX P w) 2 f fd ["_law_pot_here", "_law_size", "_law_most"] (spM K mg 3 KG.m__law_adviser) := by
  have z_range := T.z_range
  have z_tuple := T.z_tuple
  have nd := sc__law_adviser.nd
  refine FnOk.cut (fn_okM F sc__law_adviser fun cdv A outer s H E hr tk po => ?_)
  exact ⟨_, xss_cons (xs_set 3 nd (xe_op (r := rAddG K) op_addG opd_add (xe_int) (ke_call K mg C__law_draw (hr.mono (by decide)) tk (xa_cons (xe_v 0) (xa_cons (xe_v 2) (xa_nil))))))
    (xss_cons (xs_set 4 nd (xe_lstM (xa_nil)))
    (xss_cons (xs_for po rfl (xi_rng1 z_range (xa_cons (xe_v 3) (xa_nil))) (xg_name 5 nd) (xss_one (xs_expr (ke_bm K PySem.F.slot_list_append PySem.F.type_list_append mt_append opm_append (xe_v 4) (xa_cons (xe_tup (xa_cons (ke_call K mg C__law_draw (hr.mono (by decide)) tk (xa_cons (xe_v 0) (xa_cons (xe_v 1) (xa_nil)))) (xa_cons (xe_callTy (r := rTupleC K) call_tuple_of opc_tuple z_tuple (by decide +kernel) (xa_cons (xe_lc [("_law_letter", 6)] fin_I rfl nd (xi_rng1 z_range (xa_cons (xe_v 1) (xa_nil))) (blkOk_by (N := n__law_adviser) (sc := defScope s__law_adviser) (by decide +kernel)) (fun _ _ _ _ _ => xg_name 6 nd) (fun _ _ _ _ _ => xts_nil) (fun _ _ _ _ _ => ke_call K mg C__law_draw (hr.mono (by decide)) takes0 (xa_cons (xe_v 0) (xa_cons (xe_v 3) (xa_nil))))) (xa_nil))) (xa_nil)))) (xa_nil))))))
    (xss_one (xs_ret (xe_tup (xa_cons (xe_v 1) (xa_cons (xe_callTy (r := rTupleC K) call_tuple_of opc_tuple z_tuple (by decide +kernel) (xa_cons (xe_v 4) (xa_nil))) (xa_nil))))))))⟩
abbrev s__law_against : Stmt := topS 72
abbrev n__law_against : List Str := ["_law_adviser_here", "_law_told", "_law_nexts"]
theorem sc__law_against : FnScope ["_law_adviser_here", "_law_told", "_law_nexts"] ["_law_adviser_here"] (defScope s__law_against) := ⟨rfl, rfl, rfl, by decide +kernel, rfl, by decide +kernel, by decide +kernel⟩
theorem ok__law_against {f : Addr} {fd : FuncData} (F : Fun K "_law_against" "_law_against" s__law_against f fd) (T : Txt K mg)  :
    FnOk P w K mg base (L2.CX P w) 1 f fd ["_law_adviser_here"] (spM K mg 1 m__law_against) := by
  have z_tuple := T.z_tuple
  have nd := sc__law_against.nd
  refine FnOk.cut (fn_okM F sc__law_against fun cdv A outer s H E hr tk po => ?_)
  exact ⟨_, xss_one (xs_ret (xe_tup (xa_cons (xe_int) (xa_cons (xe_callTy (r := rTupleC K) call_tuple_of opc_tuple z_tuple (by decide +kernel) (xa_cons (xe_lc [("_law_told", 1), ("_law_nexts", 2)] fin_I rfl nd (ki_seq K (xe_ix (r := rIx K) ix_seq opd_ix (xe_v 0) (xe_int))) (blkOk_by (N := n__law_against) (sc := defScope s__law_against) (by decide +kernel)) (fun _ _ _ _ _ => kg_tup K rfl (xgs_cons (xg_name 1 nd) (xgs_cons (xg_name 2 nd) (xgs_nil)))) (fun _ _ _ _ _ => xts_nil) (fun _ _ _ _ _ => xe_tup (xa_cons (xe_op op_sub opd_sub (xe_int) (xe_v 1)) (xa_cons (xe_v 2) (xa_nil))))) (xa_nil))) (xa_nil)))))⟩
abbrev s_check_circle : Stmt := topS 50
abbrev n_check_circle : List Str := ["circle", "n"]
theorem sc_check_circle : FnScope ["circle", "n"] ["circle", "n"] (defScope s_check_circle) := ⟨rfl, rfl, rfl, by decide +kernel, rfl, by decide +kernel, by decide +kernel⟩
theorem ok_check_circle {f : Addr} {fd : FuncData} (F : Fun K "check_circle" "check_circle" s_check_circle f fd) (T : Txt K mg) (C_is_circle : Callee P w K mg base "is_circle" 7 1 KG.m_is_circle) (C_is_below : Callee P w K mg base "is_below" 2 2 KG.m_is_below) :
    FnOk P w K mg base (L2.CX P w) 8 f fd ["circle", "n"] (spM K mg 2 KG.m_check_circle) := by
  obtain ⟨v_MOST_AHEAD, u_MOST_AHEAD, c1_MOST_AHEAD, c2_MOST_AHEAD, c3_MOST_AHEAD⟩ := T.c_MOST_AHEAD.ex
  obtain ⟨xa_NoCircle, gx_NoCircle, qx_NoCircle, kx_NoCircle, bx_NoCircle, tx_NoCircle⟩ := T.x_NoCircle.ex
  obtain ⟨xa_NoNumber, gx_NoNumber, qx_NoNumber, kx_NoNumber, bx_NoNumber, tx_NoNumber⟩ := T.x_NoNumber.ex
  have nd := sc_check_circle.nd
  refine FnOk.cut (fn_okM F sc_check_circle fun cdv A outer s H E hr tk po => ?_)
  exact ⟨_, xss_cons (xs_if (xt_not (kt_tru K (ke_call K mg C_is_circle (hr.mono (by decide)) tk (xa_cons (xe_v 0) (xa_nil))))) (xss_one (xs_raise rfl tk gx_NoCircle qx_NoCircle kx_NoCircle bx_NoCircle tx_NoCircle)) (xss_nil))
    (xss_one (xs_if (xt_not (kt_tru K (ke_call K mg C_is_below (hr.mono (by decide)) tk (xa_cons (xe_v 1) (xa_cons (xe_op (r := rAddG K) op_addG opd_add (xe_glob c1_MOST_AHEAD c2_MOST_AHEAD c3_MOST_AHEAD) (xe_int)) (xa_nil)))))) (xss_one (xs_raise rfl tk gx_NoNumber qx_NoNumber kx_NoNumber bx_NoNumber tx_NoNumber)) (xss_nil)))⟩
abbrev s_ways : Stmt := topS 46
abbrev n_ways : List Str := ["circle", "place", "found", "letter", "states", "missed", "least", "many"]
theorem sc_ways : FnScope ["circle", "place", "found", "letter", "states", "missed", "least", "many"] ["circle", "place"] (defScope s_ways) := ⟨rfl, rfl, rfl, by decide +kernel, rfl, by decide +kernel, by decide +kernel⟩
theorem ok_ways {f : Addr} {fd : FuncData} (F : Fun K "ways" "ways" s_ways f fd) (T : Txt K mg) (C_heard : Callee P w K mg base "heard" 1 4 KG.m_heard) :
    FnOk P w K mg base (L2.CX P w) 2 f fd ["circle", "place"] (spM K mg 2 KG.m_ways) := by
  have z_range := T.z_range
  have z_min := T.z_min
  have z_tuple := T.z_tuple
  have nd := sc_ways.nd
  refine FnOk.frz (fn_okM F sc_ways fun cdv A outer s H E hr tk po => ?_)
  exact ⟨_, xss_cons (xs_set 2 nd (xe_lstM (xa_nil)))
    (xss_cons (xs_for po rfl (xi_rng1 z_range (xa_cons (xe_ix (r := rIx K) ix_seq opd_ix (xe_ix (r := rIx K) ix_seq opd_ix (xe_v 0) (xe_int)) (xe_int)) (xa_nil))) (xg_name 3 nd) (xss_cons (xs_asg (ke_call K mg C_heard (hr.mono (by decide)) tk (xa_cons (xe_v 0) (xa_cons (xe_ix (r := rIx K) ix_seq opd_ix (xe_v 1) (xe_int)) (xa_cons (xe_ix (r := rIx K) ix_seq opd_ix (xe_v 1) (xe_int)) (xa_cons (xe_v 3) (xa_nil)))))) (kg_tup K rfl (xgs_cons (xg_name 4 nd) (xgs_cons (xg_name 5 nd) (xgs_nil)))))
    (xss_cons (xs_set 6 nd (xe_callB (r := rMinA K) (cr_minA rfl) opc_minA z_min (by decide +kernel) (xa_cons (xe_v 5) (xa_nil))))
    (xss_one (xs_expr (ke_bm K PySem.F.slot_list_append PySem.F.type_list_append mt_append opm_append (xe_v 2) (xa_cons (xe_tup (xa_cons (xe_tup (xa_cons (xe_v 4) (xa_cons (xe_callTy (r := rTupleC K) call_tuple_of opc_tuple z_tuple (by decide +kernel) (xa_cons (xe_lc [("many", 7)] fin_I rfl nd (ki_seq K (xe_v 5)) (blkOk_by (N := n_ways) (sc := defScope s_ways) (by decide +kernel)) (fun _ _ _ _ _ => xg_name 7 nd) (fun _ _ _ _ _ => xts_nil) (fun _ _ _ _ _ => xe_op op_sub opd_sub (xe_v 7) (xe_v 6))) (xa_nil))) (xa_nil)))) (xa_cons (xe_v 6) (xa_nil)))) (xa_nil))))))))
    (xss_one (xs_ret (xe_v 2))))⟩
abbrev s_places_within : Stmt := topS 47
abbrev n_places_within : List Str := ["circle", "n", "found", "ahead", "_", "here", "place", "steps", "behind"]
theorem sc_places_within : FnScope ["circle", "n", "found", "ahead", "_", "here", "place", "steps", "behind"] ["circle", "n"] (defScope s_places_within) := ⟨rfl, rfl, rfl, by decide +kernel, rfl, by decide +kernel, by decide +kernel⟩
theorem ok_places_within {f : Addr} {fd : FuncData} (F : Fun K "places_within" "places_within" s_places_within f fd) (T : Txt K mg) (C_nothing_heard : Callee P w K mg base "nothing_heard" 1 1 KG.m_nothing_heard) (C_ways : Callee P w K mg base "ways" 2 2 KG.m_ways) :
    FnOk P w K mg base (L2.CX P w) 3 f fd ["circle", "n"] (spM K mg 2 KG.m_places_within) := by
  have z_range := T.z_range
  have z_len := T.z_len
  obtain ⟨v_MOST_TUPLES, u_MOST_TUPLES, c1_MOST_TUPLES, c2_MOST_TUPLES, c3_MOST_TUPLES⟩ := T.c_MOST_TUPLES.ex
  have nd := sc_places_within.nd
  refine FnOk.frz (fn_okM F sc_places_within fun cdv A outer s H E hr tk po => ?_)
  exact ⟨_, xss_cons (xs_set 2 nd (xe_lstM (xa_nil)))
    (xss_cons (xs_set 3 nd (xe_kd1 (kr hr.units) (ke_call K mg C_nothing_heard (hr.mono (by decide)) takes0 (xa_cons (xe_v 0) (xa_nil))) (xe_bl)))
    (xss_cons (xs_for po rfl (xi_rng1 z_range (xa_cons (xe_v 1) (xa_nil))) (xg_name 4 nd) (xss_cons (xs_setKc 5 [("place", 6)] (kr hr.units) rfl nd (xi_kkeys (xe_v 3)) (blkOk_by (N := n_places_within) (sc := defScope s_places_within) (by decide +kernel)) (fun _ _ _ _ _ => xg_name 6 nd) (fun _ _ _ _ _ => xts_nil) (fun _ _ _ _ _ => xe_v 6) (fun _ _ _ _ _ => ke_call K mg C_ways (hr.mono (by decide)) takes0 (xa_cons (xe_v 0) (xa_cons (xe_v 6) (xa_nil)))))
    (xss_cons (xs_setKc2 3 [("steps", 7), ("behind", 8), ("_", 4)] [8, 4] (kr hr.units) rfl nd (xi_kvals (xe_v 5)) (blkOk_by (N := n_places_within) (sc := defScope s_places_within) (by decide +kernel)) (fun _ _ _ _ _ => xg_name 7 nd) (fun _ _ _ _ _ => xts_nil) (fun _ _ _ _ _ => ki_seq K (xe_v 7)) (fun _ _ _ _ _ => kg_tup K rfl (xgs_cons (xg_name 8 nd) (xgs_cons (xg_name 4 nd) (xgs_nil)))) (fun _ _ _ _ _ => xts_nil) (fun _ _ _ _ _ => xe_v 8) (fun _ _ _ _ _ => xe_bl))
    (xss_cons (xs_if (xt_cmp op_gt opd_gt (xe_callB (r := rLenK K) call_lenK opc_lenK z_len PySem.boot_len (xa_cons (xe_v 3) (xa_nil))) (xe_glob c1_MOST_TUPLES c2_MOST_TUPLES c3_MOST_TUPLES)) (xss_one (xs_never)) (xss_nil))
    (xss_one (xs_expr (ke_bm K PySem.F.slot_list_append PySem.F.type_list_append mt_append opm_append (xe_v 2) (xa_cons (xe_v 5) (xa_nil)))))))))
    (xss_cons (xs_expr (ke_bm K PySem.F.slot_list_append PySem.F.type_list_append mt_append opm_append (xe_v 2) (xa_cons (xe_kc [("place", 6)] (kr hr.units) rfl nd (xi_kkeys (xe_v 3)) (blkOk_by (N := n_places_within) (sc := defScope s_places_within) (by decide +kernel)) (fun _ _ _ _ _ => xg_name 6 nd) (fun _ _ _ _ _ => xts_nil) (fun _ _ _ _ _ => xe_v 6) (fun _ _ _ _ _ => xe_lst (xa_nil))) (xa_nil))))
    (xss_one (xs_ret (xe_v 2))))))⟩
abbrev s_best_lot : Stmt := topS 23
abbrev n_best_lot : List Str := ["tops", "bottom", "lot", "most", "drop", "letter", "top", "more"]
theorem sc_best_lot : FnScope ["tops", "bottom", "lot", "most", "drop", "letter", "top", "more"] ["tops", "bottom"] (defScope s_best_lot) := ⟨rfl, rfl, rfl, by decide +kernel, rfl, by decide +kernel, by decide +kernel⟩
theorem ok_best_lot {f : Addr} {fd : FuncData} (F : Fun K "best_lot" "best_lot" s_best_lot f fd) (T : Txt K mg)  :
    FnOk P w K mg base (L2.CX P w) 1 f fd ["tops", "bottom"] (spM K mg 2 KG.m_best_lot) := by
  have z_sorted := T.z_sorted
  have z_tuple := T.z_tuple
  have z_enumerate := T.z_enumerate
  have z_len := T.z_len
  have nd := sc_best_lot.nd
  refine FnOk.cut (fn_okM F sc_best_lot fun cdv A outer s H E hr tk po => ?_)
  exact ⟨_, xss_cons (xs_set 2 nd (xe_lstM (xa_nil)))
    (xss_cons (xs_set 3 nd (xe_un un_neg opu_neg (xe_v 1)))
    (xss_cons (xs_for po rfl (ki_seq K (xe_callB (r := rSortedPT K) cr_sortedPT opc_sortedP z_sorted (by decide +kernel) (xa_cons (xe_lc [("letter", 5), ("top", 6)] fin_I rfl nd (ki_enum K z_enumerate (xa_cons (xe_v 0) (xa_nil))) (blkOk_by (N := n_best_lot) (sc := defScope s_best_lot) (by decide +kernel)) (fun _ _ _ _ _ => kg_tup K rfl (xgs_cons (xg_name 5 nd) (xgs_cons (xg_name 6 nd) (xgs_nil)))) (fun _ _ _ _ _ => xts_nil) (fun _ _ _ _ _ => xe_tup (xa_cons (xe_un un_neg opu_neg (xe_v 6)) (xa_cons (xe_v 5) (xa_nil))))) (xa_nil)))) (kg_tup K rfl (xgs_cons (xg_name 4 nd) (xgs_cons (xg_name 5 nd) (xgs_nil)))) (xss_cons (xs_set 7 nd (xe_op op_sub opd_sub (xe_v 1) (xe_v 4)))
    (xss_cons (xs_if (xw_pt (xw_and (kt_tru K (xe_v 2)) (xw_and1 (xt_cmp op_le opd_le (xe_op (r := rMulA K) op_mulA opd_mul (xe_v 7) (xe_callB (r := rLenC K) call_len_seq opc_len z_len PySem.boot_len (xa_cons (xe_v 2) (xa_nil)))) (xe_v 3))))) (xss_one (xs_break)) (xss_nil))
    (xss_cons (xs_expr (ke_bm K PySem.F.slot_list_append PySem.F.type_list_append mt_append opm_append (xe_v 2) (xa_cons (xe_v 5) (xa_nil))))
    (xss_one (xs_set 3 nd (xe_op (r := rAddG K) op_addG opd_add (xe_v 3) (xe_v 7))))))))
    (xss_one (xs_ret (xe_tup (xa_cons (xe_callTy (r := rTupleC K) call_tuple_of opc_tuple z_tuple (by decide +kernel) (xa_cons (xe_callB (r := rSortedI K) cr_sortedI opc_sorted z_sorted (by decide +kernel) (xa_cons (xe_v 2) (xa_nil))) (xa_nil))) (xa_cons (xe_v 3) (xa_nil))))))))⟩
abbrev s_worths_in : Stmt := topS 48
abbrev n_worths_in : List Str := ["steps", "lags", "scale", "behind", "raised"]
theorem sc_worths_in : FnScope ["steps", "lags", "scale", "behind", "raised"] ["steps", "lags", "scale"] (defScope s_worths_in) := ⟨rfl, rfl, rfl, by decide +kernel, rfl, by decide +kernel, by decide +kernel⟩
theorem ok_worths_in {f : Addr} {fd : FuncData} (F : Fun K "worths_in" "worths_in" s_worths_in f fd) (T : Txt K mg)  :
    FnOk P w K mg base (L2.CX P w) 1 f fd ["steps", "lags", "scale"] (spM K mg 3 KG.m_worths_in) := by

  have nd := sc_worths_in.nd
  refine FnOk.cut (fn_okM F sc_worths_in fun cdv A outer s H E hr tk po => ?_)
  exact ⟨_, xss_one (xs_ret (xe_lc [("behind", 3), ("raised", 4)] fin_I rfl nd (ki_seq K (xe_v 0)) (blkOk_by (N := n_worths_in) (sc := defScope s_worths_in) (by decide +kernel)) (fun _ _ _ _ _ => kg_tup K rfl (xgs_cons (xg_name 3 nd) (xgs_cons (xg_name 4 nd) (xgs_nil)))) (fun _ _ _ _ _ => xts_nil) (fun _ _ _ _ _ => xe_op op_sub opd_sub (xe_ix (r := rIxK K) (ix_K (kr hr.units)) opd_ixK (xe_v 1) (xe_v 3)) (xe_op (r := rMulA K) op_mulA opd_mul (xe_v 4) (xe_v 2)))))⟩
abbrev s_lags_from : Stmt := topS 49
abbrev n_lags_from : List Str := ["found", "many", "lags", "place", "scale", "here", "more", "steps", "lot", "most"]
theorem sc_lags_from : FnScope ["found", "many", "lags", "place", "scale", "here", "more", "steps", "lot", "most"] ["found", "many"] (defScope s_lags_from) := ⟨rfl, rfl, rfl, by decide +kernel, rfl, by decide +kernel, by decide +kernel⟩
theorem ok_lags_from {f : Addr} {fd : FuncData} (F : Fun K "lags_from" "lags_from" s_lags_from f fd) (T : Txt K mg) (C_best_lot : Callee P w K mg base "best_lot" 1 2 KG.m_best_lot) (C_worths_in : Callee P w K mg base "worths_in" 1 3 KG.m_worths_in) :
    FnOk P w K mg base (L2.CX P w) 2 f fd ["found", "many"] (spM K mg 2 KG.m_lags_from) := by
  have z_reversed := T.z_reversed
  have z_len := T.z_len
  obtain ⟨v_SIZES_MULTIPLE, u_SIZES_MULTIPLE, c1_SIZES_MULTIPLE, c2_SIZES_MULTIPLE, c3_SIZES_MULTIPLE⟩ := T.c_SIZES_MULTIPLE.ex
  have nd := sc_lags_from.nd
  refine FnOk.frz (fn_okM F sc_lags_from fun cdv A outer s H E hr tk po => ?_)
  exact ⟨_, xss_cons (xs_setKc 2 [("place", 3)] (kr hr.units) rfl nd (xi_kkeys (xe_ix (r := rIxK K) (ix_K (kr hr.units)) opd_ixK (xe_v 0) (xe_un un_neg opu_neg (xe_int)))) (blkOk_by (N := n_lags_from) (sc := defScope s_lags_from) (by decide +kernel)) (fun _ _ _ _ _ => xg_name 3 nd) (fun _ _ _ _ _ => xts_nil) (fun _ _ _ _ _ => xe_v 3) (fun _ _ _ _ _ => xe_int))
    (xss_cons (xs_set 4 nd (xe_int))
    (xss_cons (xs_for po rfl (xi_rev z_reversed (ke_slice K (xe_v 0) (xo_some (xe_v 1)) (xo_some (xe_un un_neg opu_neg (xe_int))))) (xg_name 5 nd) (xss_cons (xs_set 6 nd (xe_knewM))
    (xss_cons (xs_for po rfl (xi_kitems (xe_v 5)) (kg_tup K rfl (xgs_cons (xg_name 3 nd) (xgs_cons (xg_name 7 nd) (xgs_nil)))) (xss_cons (xs_asg (ke_call K mg C_best_lot (hr.mono (by decide)) tk (xa_cons (ke_call K mg C_worths_in (hr.mono (by decide)) tk (xa_cons (xe_v 7) (xa_cons (xe_v 2) (xa_cons (xe_v 4) (xa_nil))))) (xa_cons (xe_v 4) (xa_nil)))) (kg_tup K rfl (xgs_cons (xg_name 8 nd) (xgs_cons (xg_name 9 nd) (xgs_nil)))))
    (xss_one (xs_asg (xe_op (r := rMulA K) op_mulA opd_mul (xe_v 9) (xe_op op_fdivW opd_div (xe_glob c1_SIZES_MULTIPLE c2_SIZES_MULTIPLE c3_SIZES_MULTIPLE) (xe_callB (r := rLenK K) call_lenK opc_lenK z_len PySem.boot_len (xa_cons (xe_v 8) (xa_nil))))) (xg_sub (pset_or set_list (set_kdict (kr hr.units))) (setd_K setd_list) (xe_v 6) (xe_v 3))))))
    (xss_cons (xs_set 2 nd (xe_v 6))
    (xss_one (xs_set 4 nd (xe_op (r := rMulA K) op_mulA opd_mul (xe_v 4) (xe_glob c1_SIZES_MULTIPLE c2_SIZES_MULTIPLE c3_SIZES_MULTIPLE))))))))
    (xss_one (xs_ret (xe_tup (xa_cons (xe_v 2) (xa_cons (xe_v 4) (xa_nil))))))))⟩
abbrev s_top_over : Stmt := topS 18
abbrev n_top_over : List Str := ["fraction", "bottom"]
theorem sc_top_over : FnScope ["fraction", "bottom"] ["fraction", "bottom"] (defScope s_top_over) := ⟨rfl, rfl, rfl, by decide +kernel, rfl, by decide +kernel, by decide +kernel⟩
theorem ok_top_over {f : Addr} {fd : FuncData} (F : Fun K "top_over" "top_over" s_top_over f fd) (T : Txt K mg)  :
    FnOk P w K mg base (L2.CX P w) 1 f fd ["fraction", "bottom"] (spM K mg 2 KG.m_top_over) := by

  have nd := sc_top_over.nd
  refine FnOk.cut (fn_okM F sc_top_over fun cdv A outer s H E hr tk po => ?_)
  exact ⟨_, xss_one (xs_ret (xe_op (r := rMulA K) op_mulA opd_mul (xe_ix (r := rIx K) ix_seq opd_ix (xe_v 0) (xe_int)) (xe_op op_fdivW opd_div (xe_v 1) (xe_ix (r := rIx K) ix_seq opd_ix (xe_v 0) (xe_int)))))⟩
abbrev s_common : Stmt := topS 19
abbrev n_common : List Str := ["fractions", "bottom", "fraction"]
theorem sc_common : FnScope ["fractions", "bottom", "fraction"] ["fractions"] (defScope s_common) := ⟨rfl, rfl, rfl, by decide +kernel, rfl, by decide +kernel, by decide +kernel⟩
theorem ok_common {f : Addr} {fd : FuncData} (F : Fun K "common" "common" s_common f fd) (T : Txt K mg) (C_top_over : Callee P w K mg base "top_over" 1 2 KG.m_top_over) :
    FnOk P w K mg base (L2.CX P w) 2 f fd ["fractions"] (spM K mg 1 KG.m_common) := by
  have z_lcm := T.z_lcm
  have nd := sc_common.nd
  refine FnOk.cut (fn_okM F sc_common fun cdv A outer s H E hr tk po => ?_)
  exact ⟨_, xss_cons (xs_set 1 nd (xe_int))
    (xss_cons (xs_for po rfl (ki_seq K (xe_v 0)) (xg_name 2 nd) (xss_one (xs_set 1 nd (xe_callBfun cr_lcm opc_lcm z_lcm (xa_cons (xe_v 1) (xa_cons (xe_ix (r := rIx K) ix_seq opd_ix (xe_v 2) (xe_int)) (xa_nil)))))))
    (xss_one (xs_ret (xe_tup (xa_cons (xe_lc [("fraction", 2)] fin_I rfl nd (ki_seq K (xe_v 0)) (blkOk_by (N := n_common) (sc := defScope s_common) (by decide +kernel)) (fun _ _ _ _ _ => xg_name 2 nd) (fun _ _ _ _ _ => xts_nil) (fun _ _ _ _ _ => ke_call K mg C_top_over (hr.mono (by decide)) takes0 (xa_cons (xe_v 2) (xa_cons (xe_v 1) (xa_nil))))) (xa_cons (xe_v 1) (xa_nil)))))))⟩
abbrev s_reduced : Stmt := topS 14
abbrev n_reduced : List Str := ["top", "bottom", "divisor"]
theorem sc_reduced : FnScope ["top", "bottom", "divisor"] ["top", "bottom"] (defScope s_reduced) := ⟨rfl, rfl, rfl, by decide +kernel, rfl, by decide +kernel, by decide +kernel⟩
theorem ok_reduced {f : Addr} {fd : FuncData} (F : Fun K "reduced" "reduced" s_reduced f fd) (T : Txt K mg)  :
    FnOk P w K mg base (L2.CX P w) 1 f fd ["top", "bottom"] (spM K mg 2 KG.m_reduced) := by
  have z_gcd := T.z_gcd
  have nd := sc_reduced.nd
  refine FnOk.cut (fn_okM F sc_reduced fun cdv A outer s H E hr tk po => ?_)
  exact ⟨_, xss_cons (xs_set 2 nd (xe_callBfun cr_gcd opc_gcd z_gcd (xa_cons (xe_v 0) (xa_cons (xe_v 1) (xa_nil)))))
    (xss_one (xs_ret (xe_tup (xa_cons (xe_op op_fdivW opd_div (xe_v 0) (xe_v 2)) (xa_cons (xe_op op_fdivW opd_div (xe_v 1) (xe_v 2)) (xa_nil))))))⟩
abbrev s_is_fraction : Stmt := topS 13
abbrev n_is_fraction : List Str := ["thing", "top", "bottom"]
theorem sc_is_fraction : FnScope ["thing", "top", "bottom"] ["thing"] (defScope s_is_fraction) := ⟨rfl, rfl, rfl, by decide +kernel, rfl, by decide +kernel, by decide +kernel⟩
theorem ok_is_fraction {f : Addr} {fd : FuncData} (F : Fun K "is_fraction" "is_fraction" s_is_fraction f fd) (T : Txt K mg) (C_is_whole : Callee P w K mg base "is_whole" 1 1 KG.m_is_whole) :
    FnOk P w K mg base (L2.CX P w) 2 f fd ["thing"] (spM K mg 1 KG.m_is_fraction) := by
  have z_isinstance := T.z_isinstance
  have z_tuple := T.z_tuple
  have z_len := T.z_len
  have z_gcd := T.z_gcd
  have nd := sc_is_fraction.nd
  refine FnOk.cut (fn_okM F sc_is_fraction fun cdv A outer s H E hr tk po => ?_)
  exact ⟨_, xss_cons (xs_if (xw_pt (xw_or (xt_not (kt_tru K (ke_isi K (T := "tuple") z_isinstance z_tuple (by decide +kernel) (xe_v 0)))) (xw_or1 (xt_cmp (r := rNeD K) (op_neD hr.units) opd_ne (xe_callB (r := rLenC K) call_len_seq opc_len z_len PySem.boot_len (xa_cons (xe_v 0) (xa_nil))) (xe_int))))) (xss_one (xs_ret (xe_bl))) (xss_nil))
    (xss_cons (xs_asg (xe_v 0) (kg_tup K rfl (xgs_cons (xg_name 1 nd) (xgs_cons (xg_name 2 nd) (xgs_nil)))))
    (xss_cons (xs_if (xw_pt (xw_or (xt_not (kt_tru K (ke_call K mg C_is_whole (hr.mono (by decide)) tk (xa_cons (xe_v 1) (xa_nil))))) (xw_or1 (xt_not (kt_tru K (ke_call K mg C_is_whole (hr.mono (by decide)) tk (xa_cons (xe_v 2) (xa_nil)))))))) (xss_one (xs_ret (xe_bl))) (xss_nil))
    (xss_one (xs_ret (xe_and (xe_cmp op_ge opd_ge (xe_v 2) (xe_int)) (xe_one (xe_cmp (r := rEqD K) (op_eqD hr.units) opd_eq (xe_callBfun cr_gcd opc_gcd z_gcd (xa_cons (xe_v 1) (xa_cons (xe_v 2) (xa_nil)))) (xe_int))))))))⟩
abbrev s_is_worths : Stmt := topS 22
abbrev n_is_worths : List Str := ["thing", "worth"]
theorem sc_is_worths : FnScope ["thing", "worth"] ["thing"] (defScope s_is_worths) := ⟨rfl, rfl, rfl, by decide +kernel, rfl, by decide +kernel, by decide +kernel⟩
theorem ok_is_worths {f : Addr} {fd : FuncData} (F : Fun K "is_worths" "is_worths" s_is_worths f fd) (T : Txt K mg) (C_is_fraction : Callee P w K mg base "is_fraction" 2 1 KG.m_is_fraction) :
    FnOk P w K mg base (L2.CX P w) 3 f fd ["thing"] (spM K mg 1 KG.m_is_worths) := by
  have z_all := T.z_all
  have z_isinstance := T.z_isinstance
  have z_tuple := T.z_tuple
  have z_len := T.z_len
  have nd := sc_is_worths.nd
  refine FnOk.cut (fn_okM F sc_is_worths fun cdv A outer s H E hr tk po => ?_)
  exact ⟨_, xss_cons (xs_if (xw_pt (xw_or (xt_not (kt_tru K (ke_isi K (T := "tuple") z_isinstance z_tuple (by decide +kernel) (xe_v 0)))) (xw_or1 (xt_not (xt_chain op_le op_le opd_le opd_le (xe_int) (xe_callB (r := rLenC K) call_len_seq opc_len z_len PySem.boot_len (xa_cons (xe_v 0) (xa_nil))) (xe_int)))))) (xss_one (xs_ret (xe_bl))) (xss_nil))
    (xss_one (xs_ret (xe_callB (r := rAll K) (cr_all rfl) opc_all z_all (by decide +kernel) (xa_cons (xe_lc [("worth", 1)] fin_I rfl nd (ki_seq K (xe_v 0)) (blkOk_by (N := n_is_worths) (sc := defScope s_is_worths) (by decide +kernel)) (fun _ _ _ _ _ => xg_name 1 nd) (fun _ _ _ _ _ => xts_nil) (fun _ _ _ _ _ => ke_call K mg C_is_fraction (hr.mono (by decide)) takes0 (xa_cons (xe_v 1) (xa_nil)))) (xa_nil)))))⟩
abbrev s_level : Stmt := topS 24
abbrev n_level : List Str := ["worths", "tops", "bottom", "lot", "most"]
theorem sc_level : FnScope ["worths", "tops", "bottom", "lot", "most"] ["worths"] (defScope s_level) := ⟨rfl, rfl, rfl, by decide +kernel, rfl, by decide +kernel, by decide +kernel⟩
theorem ok_level {f : Addr} {fd : FuncData} (F : Fun K "level" "level" s_level f fd) (T : Txt K mg) (C_common : Callee P w K mg base "common" 2 1 KG.m_common) (C_best_lot : Callee P w K mg base "best_lot" 1 2 KG.m_best_lot) (C_reduced : Callee P w K mg base "reduced" 1 2 KG.m_reduced) (C_is_worths : Callee P w K mg base "is_worths" 3 1 KG.m_is_worths) :
    FnOk P w K mg base (L2.CX P w) 4 f fd ["worths"] (spM K mg 1 KG.m_level) := by
  have z_len := T.z_len
  obtain ⟨xa_NoWorths, gx_NoWorths, qx_NoWorths, kx_NoWorths, bx_NoWorths, tx_NoWorths⟩ := T.x_NoWorths.ex
  have nd := sc_level.nd
  refine FnOk.cut (fn_okM F sc_level fun cdv A outer s H E hr tk po => ?_)
  exact ⟨_, xss_cons (xs_if (xt_not (kt_tru K (ke_call K mg C_is_worths (hr.mono (by decide)) tk (xa_cons (xe_v 0) (xa_nil))))) (xss_one (xs_raise rfl tk gx_NoWorths qx_NoWorths kx_NoWorths bx_NoWorths tx_NoWorths)) (xss_nil))
    (xss_cons (xs_asg (ke_call K mg C_common (hr.mono (by decide)) tk (xa_cons (xe_v 0) (xa_nil))) (kg_tup K rfl (xgs_cons (xg_name 1 nd) (xgs_cons (xg_name 2 nd) (xgs_nil)))))
    (xss_cons (xs_asg (ke_call K mg C_best_lot (hr.mono (by decide)) tk (xa_cons (xe_v 1) (xa_cons (xe_v 2) (xa_nil)))) (kg_tup K rfl (xgs_cons (xg_name 3 nd) (xgs_cons (xg_name 4 nd) (xgs_nil)))))
    (xss_one (xs_ret (ke_call K mg C_reduced (hr.mono (by decide)) tk (xa_cons (xe_v 4) (xa_cons (xe_op (r := rMulA K) op_mulA opd_mul (xe_callB (r := rLenC K) call_len_seq opc_len z_len PySem.boot_len (xa_cons (xe_v 3) (xa_nil))) (xe_v 2)) (xa_nil))))))))⟩
abbrev s_total : Stmt := topS 15
abbrev n_total : List Str := ["parts", "top", "bottom", "part_top", "part_bottom", "both"]
theorem sc_total : FnScope ["parts", "top", "bottom", "part_top", "part_bottom", "both"] ["parts"] (defScope s_total) := ⟨rfl, rfl, rfl, by decide +kernel, rfl, by decide +kernel, by decide +kernel⟩
theorem ok_total {f : Addr} {fd : FuncData} (F : Fun K "total" "total" s_total f fd) (T : Txt K mg) (C_reduced : Callee P w K mg base "reduced" 1 2 KG.m_reduced) :
    FnOk P w K mg base (L2.CX P w) 2 f fd ["parts"] (spM K mg 1 KG.m_total) := by
  have z_lcm := T.z_lcm
  have nd := sc_total.nd
  refine FnOk.cut (fn_okM F sc_total fun cdv A outer s H E hr tk po => ?_)
  exact ⟨_, xss_cons (xs_set 1 nd (xe_int))
    (xss_cons (xs_set 2 nd (xe_int))
    (xss_cons (xs_for po rfl (ki_seq K (xe_v 0)) (kg_tup K rfl (xgs_cons (xg_name 3 nd) (xgs_cons (xg_name 4 nd) (xgs_nil)))) (xss_cons (xs_set 5 nd (xe_callBfun cr_lcm opc_lcm z_lcm (xa_cons (xe_v 2) (xa_cons (xe_v 4) (xa_nil)))))
    (xss_cons (xs_set 1 nd (xe_op (r := rAddG K) op_addG opd_add (xe_op (r := rMulA K) op_mulA opd_mul (xe_v 1) (xe_op op_fdivW opd_div (xe_v 5) (xe_v 2))) (xe_op (r := rMulA K) op_mulA opd_mul (xe_v 3) (xe_op op_fdivW opd_div (xe_v 5) (xe_v 4)))))
    (xss_one (xs_set 2 nd (xe_v 5))))))
    (xss_one (xs_ret (ke_call K mg C_reduced (hr.mono (by decide)) tk (xa_cons (xe_v 1) (xa_cons (xe_v 2) (xa_nil))))))))⟩
abbrev s_negated : Stmt := topS 16
abbrev n_negated : List Str := ["fraction", "top", "bottom"]
theorem sc_negated : FnScope ["fraction", "top", "bottom"] ["fraction"] (defScope s_negated) := ⟨rfl, rfl, rfl, by decide +kernel, rfl, by decide +kernel, by decide +kernel⟩
theorem ok_negated {f : Addr} {fd : FuncData} (F : Fun K "negated" "negated" s_negated f fd) (T : Txt K mg)  :
    FnOk P w K mg base (L2.CX P w) 1 f fd ["fraction"] (spM K mg 1 KG.m_negated) := by

  have nd := sc_negated.nd
  refine FnOk.cut (fn_okM F sc_negated fun cdv A outer s H E hr tk po => ?_)
  exact ⟨_, xss_cons (xs_asg (xe_v 0) (kg_tup K rfl (xgs_cons (xg_name 1 nd) (xgs_cons (xg_name 2 nd) (xgs_nil)))))
    (xss_one (xs_ret (xe_tup (xa_cons (xe_un un_neg opu_neg (xe_v 1)) (xa_cons (xe_v 2) (xa_nil))))))⟩
abbrev s_minus : Stmt := topS 17
abbrev n_minus : List Str := ["one", "other"]
theorem sc_minus : FnScope ["one", "other"] ["one", "other"] (defScope s_minus) := ⟨rfl, rfl, rfl, by decide +kernel, rfl, by decide +kernel, by decide +kernel⟩
theorem ok_minus {f : Addr} {fd : FuncData} (F : Fun K "minus" "minus" s_minus f fd) (T : Txt K mg) (C_total : Callee P w K mg base "total" 2 1 KG.m_total) (C_negated : Callee P w K mg base "negated" 1 1 KG.m_negated) :
    FnOk P w K mg base (L2.CX P w) 3 f fd ["one", "other"] (spM K mg 2 KG.m_minus) := by

  have nd := sc_minus.nd
  refine FnOk.cut (fn_okM F sc_minus fun cdv A outer s H E hr tk po => ?_)
  exact ⟨_, xss_one (xs_ret (ke_call K mg C_total (hr.mono (by decide)) tk (xa_cons (xe_lst (xa_cons (xe_v 0) (xa_cons (ke_call K mg C_negated (hr.mono (by decide)) tk (xa_cons (xe_v 1) (xa_nil))) (xa_nil)))) (xa_nil))))⟩
abbrev s_filled : Stmt := topS 25
abbrev n_filled : List Str := ["worths", "height", "chances", "worth", "chance"]
theorem sc_filled : FnScope ["worths", "height", "chances", "worth", "chance"] ["worths"] (defScope s_filled) := ⟨rfl, rfl, rfl, by decide +kernel, rfl, by decide +kernel, by decide +kernel⟩
theorem ok_filled {f : Addr} {fd : FuncData} (F : Fun K "filled" "filled" s_filled f fd) (T : Txt K mg) (C_level : Callee P w K mg base "level" 4 1 KG.m_level) (C_minus : Callee P w K mg base "minus" 3 2 KG.m_minus) (C_total : Callee P w K mg base "total" 2 1 KG.m_total) :
    FnOk P w K mg base (L2.CX P w) 5 f fd ["worths"] (spM K mg 1 KG.m_filled) := by
  have z_tuple := T.z_tuple
  obtain ⟨v_ZERO, u_ZERO, c1_ZERO, c2_ZERO, c3_ZERO⟩ := T.c_ZERO.ex
  obtain ⟨v_ONE, u_ONE, c1_ONE, c2_ONE, c3_ONE⟩ := T.c_ONE.ex
  have nd := sc_filled.nd
  refine FnOk.cut (fn_okM F sc_filled fun cdv A outer s H E hr tk po => ?_)
  exact ⟨_, xss_cons (xs_set 1 nd (ke_call K mg C_level (hr.mono (by decide)) tk (xa_cons (xe_v 0) (xa_nil))))
    (xss_cons (xs_set 2 nd (xe_lstM (xa_nil)))
    (xss_cons (xs_for po rfl (ki_seq K (xe_v 0)) (xg_name 3 nd) (xss_cons (xs_set 4 nd (ke_call K mg C_minus (hr.mono (by decide)) tk (xa_cons (ke_call K mg C_total (hr.mono (by decide)) tk (xa_cons (xe_lst (xa_cons (xe_v 3) (xa_cons (xe_glob c1_ONE c2_ONE c3_ONE) (xa_nil)))) (xa_nil))) (xa_cons (xe_v 1) (xa_nil)))))
    (xss_one (xs_expr (ke_bm K PySem.F.slot_list_append PySem.F.type_list_append mt_append opm_append (xe_v 2) (xa_cons (xe_if (xt_cmp op_gt opd_gt (xe_ix (r := rIx K) ix_seq opd_ix (xe_v 4) (xe_int)) (xe_int)) (xe_v 4) (xe_glob c1_ZERO c2_ZERO c3_ZERO)) (xa_nil)))))))
    (xss_one (xs_ret (xe_callTy (r := rTupleC K) call_tuple_of opc_tuple z_tuple (by decide +kernel) (xa_cons (xe_v 2) (xa_nil)))))))⟩
abbrev s_followed : Stmt := topS 52
abbrev n_followed : List Str := ["circle", "n", "row", "found", "place", "letter", "lags", "scale", "worths", "worth"]
theorem sc_followed : FnScope ["circle", "n", "row", "found", "place", "letter", "lags", "scale", "worths", "worth"] ["circle", "n", "row"] (defScope s_followed) := ⟨rfl, rfl, rfl, by decide +kernel, rfl, by decide +kernel, by decide +kernel⟩
theorem ok_followed {f : Addr} {fd : FuncData} (F : Fun K "followed" "followed" s_followed f fd) (T : Txt K mg) (C_check_circle : Callee P w K mg base "check_circle" 8 2 KG.m_check_circle) (C_places_within : Callee P w K mg base "places_within" 3 2 KG.m_places_within) (C_nothing_heard : Callee P w K mg base "nothing_heard" 1 1 KG.m_nothing_heard) (C_lags_from : Callee P w K mg base "lags_from" 2 2 KG.m_lags_from) (C_worths_in : Callee P w K mg base "worths_in" 1 3 KG.m_worths_in) (C_filled : Callee P w K mg base "filled" 5 1 KG.m_filled) (C_ways : Callee P w K mg base "ways" 2 2 KG.m_ways) (C_is_row : Callee P w K mg base "is_row" 3 2 KG.m_is_row) (C_reduced : Callee P w K mg base "reduced" 1 2 KG.m_reduced) :
    FnOk P w K mg base (L2.CX P w) 9 f fd ["circle", "n", "row"] (spM K mg 3 KG.m_followed) := by
  have z_tuple := T.z_tuple
  have z_len := T.z_len
  obtain ⟨xa_NoRow, gx_NoRow, qx_NoRow, kx_NoRow, bx_NoRow, tx_NoRow⟩ := T.x_NoRow.ex
  have nd := sc_followed.nd
  refine FnOk.cut (fn_okM F sc_followed fun cdv A outer s H E hr tk po => ?_)
  exact ⟨_, xss_cons (xs_expr (ke_call K mg C_check_circle (hr.mono (by decide)) tk (xa_cons (xe_v 0) (xa_cons (xe_v 1) (xa_nil)))))
    (xss_cons (xs_if (xw_pt (xw_or (xt_not (kt_tru K (ke_call K mg C_is_row (hr.mono (by decide)) tk (xa_cons (xe_ix (r := rIxK K) (ix_K (kr hr.units)) opd_ixK (xe_ix (r := rIxK K) (ix_K (kr hr.units)) opd_ixK (xe_v 0) (xe_int)) (xe_int)) (xa_cons (xe_v 2) (xa_nil)))))) (xw_or1 (xt_cmp op_ge opd_ge (xe_callB (r := rLenK K) call_lenK opc_lenK z_len PySem.boot_len (xa_cons (xe_v 2) (xa_nil))) (xe_v 1))))) (xss_one (xs_raise rfl tk gx_NoRow qx_NoRow kx_NoRow bx_NoRow tx_NoRow)) (xss_nil))
    (xss_cons (xs_set 3 nd (ke_call K mg C_places_within (hr.mono (by decide)) tk (xa_cons (xe_v 0) (xa_cons (xe_v 1) (xa_nil)))))
    (xss_cons (xs_set 4 nd (ke_call K mg C_nothing_heard (hr.mono (by decide)) tk (xa_cons (xe_v 0) (xa_nil))))
    (xss_cons (xs_for po rfl (ki_seq K (xe_v 2)) (xg_name 5 nd) (xss_one (xs_set 4 nd (xe_ix (r := rIxK K) (ix_K (kr hr.units)) opd_ixK (xe_ix (r := rIxK K) (ix_K (kr hr.units)) opd_ixK (ke_call K mg C_ways (hr.mono (by decide)) tk (xa_cons (xe_v 0) (xa_cons (xe_v 4) (xa_nil)))) (xe_v 5)) (xe_int)))))
    (xss_cons (xs_asg (ke_call K mg C_lags_from (hr.mono (by decide)) tk (xa_cons (xe_v 3) (xa_cons (xe_op (r := rAddG K) op_addG opd_add (xe_callB (r := rLenK K) call_lenK opc_lenK z_len PySem.boot_len (xa_cons (xe_v 2) (xa_nil))) (xe_int)) (xa_nil)))) (kg_tup K rfl (xgs_cons (xg_name 6 nd) (xgs_cons (xg_name 7 nd) (xgs_nil)))))
    (xss_cons (xs_set 8 nd (ke_call K mg C_worths_in (hr.mono (by decide)) tk (xa_cons (ke_call K mg C_ways (hr.mono (by decide)) tk (xa_cons (xe_v 0) (xa_cons (xe_v 4) (xa_nil)))) (xa_cons (xe_v 6) (xa_cons (xe_v 7) (xa_nil))))))
    (xss_one (xs_ret (ke_call K mg C_filled (hr.mono (by decide)) tk (xa_cons (xe_callTy (r := rTupleC K) call_tuple_of opc_tuple z_tuple (by decide +kernel) (xa_cons (xe_lc [("worth", 9)] fin_I rfl nd (ki_seq K (xe_v 8)) (blkOk_by (N := n_followed) (sc := defScope s_followed) (by decide +kernel)) (fun _ _ _ _ _ => xg_name 9 nd) (fun _ _ _ _ _ => xts_nil) (fun _ _ _ _ _ => ke_call K mg C_reduced (hr.mono (by decide)) takes0 (xa_cons (xe_v 9) (xa_cons (xe_v 7) (xa_nil))))) (xa_nil))) (xa_nil)))))))))))⟩
abbrev s__law_less : Stmt := topS 63
abbrev n__law_less : List Str := ["_law_one", "_law_other"]
theorem sc__law_less : FnScope ["_law_one", "_law_other"] ["_law_one", "_law_other"] (defScope s__law_less) := ⟨rfl, rfl, rfl, by decide +kernel, rfl, by decide +kernel, by decide +kernel⟩
theorem ok__law_less {f : Addr} {fd : FuncData} (F : Fun K "_law_less" "_law_less" s__law_less f fd) (T : Txt K mg)  :
    FnOk P w K mg base (L2.CX P w) 1 f fd ["_law_one", "_law_other"] (spM K mg 2 KG.m__law_less) := by

  have nd := sc__law_less.nd
  refine FnOk.cut (fn_okM F sc__law_less fun cdv A outer s H E hr tk po => ?_)
  exact ⟨_, xss_one (xs_ret (xe_cmp op_lt opd_lt (xe_op (r := rMulA K) op_mulA opd_mul (xe_ix (r := rIx K) ix_seq opd_ix (xe_v 0) (xe_int)) (xe_ix (r := rIx K) ix_seq opd_ix (xe_v 1) (xe_int))) (xe_op (r := rMulA K) op_mulA opd_mul (xe_ix (r := rIx K) ix_seq opd_ix (xe_v 1) (xe_int)) (xe_ix (r := rIx K) ix_seq opd_ix (xe_v 0) (xe_int)))))⟩
abbrev s__law_is : Stmt := topS 58
abbrev n__law_is : List Str := ["_law_told", "_law_due", "_law_k"]
theorem sc__law_is : FnScope ["_law_told", "_law_due", "_law_k"] ["_law_told", "_law_due"] (defScope s__law_is) := ⟨rfl, rfl, rfl, by decide +kernel, rfl, by decide +kernel, by decide +kernel⟩
theorem ok__law_is {f : Addr} {fd : FuncData} (F : Fun K "_law_is" "_law_is" s__law_is f fd) (T : Txt K mg)  (h1 : mg "_law_is" = some (.ref f)) (h2 : PySem.W.keepIn K (.ref f) = true) (h3 : Binds K fd ["_law_told", "_law_due"] []) (h4 : PySem.W.nsIn K mainGlobals "_law_is" = some (some (.ref f))) :
    ∀ j : Nat, FnOk P w K mg base (L2.CX P w) (1 + j) f fd ["_law_told", "_law_due"] (spM K mg 2 (KG.f__law_is j)) := by
  have z_isinstance := T.z_isinstance
  have z_tuple := T.z_tuple
  have z_list := T.z_list
  have z_all := T.z_all
  have z_bool := T.z_bool
  have z_len := T.z_len
  have z_range := T.z_range
  have nd := sc__law_is.nd
  intro j
  induction j with
  | zero => exact fn_bad rfl
  | succ j ih =>
  have C_self : Callee P w K mg base "_law_is" (1 + j) 2 (KG.f__law_is j) := FnOk.toC ih h1 h2 h3 h4
  refine FnOk.cut (fn_okM F sc__law_is fun cdv A outer s H E hr tk po => ?_)
  exact ⟨_, xss_cons (xs_if (kt_tru K (ke_isi2 K (T := "tuple") (U := "list") z_isinstance z_tuple (by decide +kernel) z_list (by decide +kernel) (xe_v 1))) (xss_cons (xs_if (xw_pt (xw_or (xt_cmp (r := rNeD K) (op_neD hr.units) opd_ne (ke_isi K (T := "tuple") z_isinstance z_tuple (by decide +kernel) (xe_v 0)) (ke_isi K (T := "tuple") z_isinstance z_tuple (by decide +kernel) (xe_v 1))) (xw_or1 (xt_cmp (r := rNeD K) (op_neD hr.units) opd_ne (ke_isi K (T := "list") z_isinstance z_list (by decide +kernel) (xe_v 0)) (ke_isi K (T := "list") z_isinstance z_list (by decide +kernel) (xe_v 1)))))) (xss_one (xs_ret (xe_bl))) (xss_nil))
    (xss_one (xs_ret (xe_and (xe_cmp (r := rEqD K) (op_eqD hr.units) opd_eq (xe_callB (r := rLenC K) call_len_seq opc_len z_len PySem.boot_len (xa_cons (xe_v 0) (xa_nil))) (xe_callB (r := rLenC K) call_len_seq opc_len z_len PySem.boot_len (xa_cons (xe_v 1) (xa_nil)))) (xe_one (xe_callB (r := rAll K) (cr_all rfl) opc_all z_all (by decide +kernel) (xa_cons (xe_lc [("_law_k", 2)] fin_I rfl nd (xi_rng1 z_range (xa_cons (xe_callB (r := rLenC K) call_len_seq opc_len z_len PySem.boot_len (xa_cons (xe_v 1) (xa_nil))) (xa_nil))) (blkOk_by (N := n__law_is) (sc := defScope s__law_is) (by decide +kernel)) (fun _ _ _ _ _ => xg_name 2 nd) (fun _ _ _ _ _ => xts_nil) (fun _ _ _ _ _ => ke_call K mg C_self (hr.mono (Nat.le_refl _)) takes0 (xa_cons (xe_ix (r := rIx K) ix_seq opd_ix (xe_v 0) (xe_v 2)) (xa_cons (xe_ix (r := rIx K) ix_seq opd_ix (xe_v 1) (xe_v 2)) (xa_nil))))) (xa_nil)))))))) (xss_nil))
    (xss_one (xs_ret (xe_and (xe_cmp (r := rEqD K) (op_eqD hr.units) opd_eq (ke_isi K (T := "bool") z_isinstance z_bool (by decide +kernel) (xe_v 0)) (ke_isi K (T := "bool") z_isinstance z_bool (by decide +kernel) (xe_v 1))) (xe_one (xe_cmp (r := rEqD K) (op_eqD hr.units) opd_eq (xe_v 0) (xe_v 1))))))⟩
abbrev s_lag : Stmt := topS 51
abbrev n_lag : List Str := ["circle", "n", "lags", "scale"]
theorem sc_lag : FnScope ["circle", "n", "lags", "scale"] ["circle", "n"] (defScope s_lag) := ⟨rfl, rfl, rfl, by decide +kernel, rfl, by decide +kernel, by decide +kernel⟩
theorem ok_lag {f : Addr} {fd : FuncData} (F : Fun K "lag" "lag" s_lag f fd) (T : Txt K mg) (C_check_circle : Callee P w K mg base "check_circle" 8 2 KG.m_check_circle) (C_lags_from : Callee P w K mg base "lags_from" 2 2 KG.m_lags_from) (C_reduced : Callee P w K mg base "reduced" 1 2 KG.m_reduced) (C_places_within : Callee P w K mg base "places_within" 3 2 KG.m_places_within) (C_nothing_heard : Callee P w K mg base "nothing_heard" 1 1 KG.m_nothing_heard) :
    FnOk P w K mg base (L2.CX P w) 9 f fd ["circle", "n"] (spM K mg 2 KG.m_lag) := by

  have nd := sc_lag.nd
  refine FnOk.cut (fn_okM F sc_lag fun cdv A outer s H E hr tk po => ?_)
  exact ⟨_, xss_cons (xs_expr (ke_call K mg C_check_circle (hr.mono (by decide)) tk (xa_cons (xe_v 0) (xa_cons (xe_v 1) (xa_nil)))))
    (xss_cons (xs_asg (ke_call K mg C_lags_from (hr.mono (by decide)) tk (xa_cons (ke_call K mg C_places_within (hr.mono (by decide)) tk (xa_cons (xe_v 0) (xa_cons (xe_v 1) (xa_nil)))) (xa_cons (xe_int) (xa_nil)))) (kg_tup K rfl (xgs_cons (xg_name 2 nd) (xgs_cons (xg_name 3 nd) (xgs_nil)))))
    (xss_one (xs_ret (ke_call K mg C_reduced (hr.mono (by decide)) tk (xa_cons (xe_ix (r := rIxK K) (ix_K (kr hr.units)) opd_ixK (xe_v 2) (ke_call K mg C_nothing_heard (hr.mono (by decide)) tk (xa_cons (xe_v 0) (xa_nil)))) (xa_cons (xe_v 3) (xa_nil)))))))⟩
abbrev s__law_plus : Stmt := topS 61
abbrev n__law_plus : List Str := ["_law_one", "_law_other"]
theorem sc__law_plus : FnScope ["_law_one", "_law_other"] ["_law_one", "_law_other"] (defScope s__law_plus) := ⟨rfl, rfl, rfl, by decide +kernel, rfl, by decide +kernel, by decide +kernel⟩
theorem ok__law_plus {f : Addr} {fd : FuncData} (F : Fun K "_law_plus" "_law_plus" s__law_plus f fd) (T : Txt K mg) (C__law_fraction : Callee P w K mg base "_law_fraction" 2 2 KG.m__law_fraction) :
    FnOk P w K mg base (L2.CX P w) 3 f fd ["_law_one", "_law_other"] (spM K mg 2 KG.m__law_plus) := by

  have nd := sc__law_plus.nd
  refine FnOk.cut (fn_okM F sc__law_plus fun cdv A outer s H E hr tk po => ?_)
  exact ⟨_, xss_one (xs_ret (ke_call K mg C__law_fraction (hr.mono (by decide)) tk (xa_cons (xe_op (r := rAddG K) op_addG opd_add (xe_op (r := rMulA K) op_mulA opd_mul (xe_ix (r := rIx K) ix_seq opd_ix (xe_v 0) (xe_int)) (xe_ix (r := rIx K) ix_seq opd_ix (xe_v 1) (xe_int))) (xe_op (r := rMulA K) op_mulA opd_mul (xe_ix (r := rIx K) ix_seq opd_ix (xe_v 1) (xe_int)) (xe_ix (r := rIx K) ix_seq opd_ix (xe_v 0) (xe_int)))) (xa_cons (xe_op (r := rMulA K) op_mulA opd_mul (xe_ix (r := rIx K) ix_seq opd_ix (xe_v 0) (xe_int)) (xe_ix (r := rIx K) ix_seq opd_ix (xe_v 1) (xe_int))) (xa_nil)))))⟩
abbrev s__law_minus : Stmt := topS 62
abbrev n__law_minus : List Str := ["_law_one", "_law_other"]
theorem sc__law_minus : FnScope ["_law_one", "_law_other"] ["_law_one", "_law_other"] (defScope s__law_minus) := ⟨rfl, rfl, rfl, by decide +kernel, rfl, by decide +kernel, by decide +kernel⟩
theorem ok__law_minus {f : Addr} {fd : FuncData} (F : Fun K "_law_minus" "_law_minus" s__law_minus f fd) (T : Txt K mg) (C__law_fraction : Callee P w K mg base "_law_fraction" 2 2 KG.m__law_fraction) :
    FnOk P w K mg base (L2.CX P w) 3 f fd ["_law_one", "_law_other"] (spM K mg 2 KG.m__law_minus) := by

  have nd := sc__law_minus.nd
  refine FnOk.cut (fn_okM F sc__law_minus fun cdv A outer s H E hr tk po => ?_)
  exact ⟨_, xss_one (xs_ret (ke_call K mg C__law_fraction (hr.mono (by decide)) tk (xa_cons (xe_op op_sub opd_sub (xe_op (r := rMulA K) op_mulA opd_mul (xe_ix (r := rIx K) ix_seq opd_ix (xe_v 0) (xe_int)) (xe_ix (r := rIx K) ix_seq opd_ix (xe_v 1) (xe_int))) (xe_op (r := rMulA K) op_mulA opd_mul (xe_ix (r := rIx K) ix_seq opd_ix (xe_v 1) (xe_int)) (xe_ix (r := rIx K) ix_seq opd_ix (xe_v 0) (xe_int)))) (xa_cons (xe_op (r := rMulA K) op_mulA opd_mul (xe_ix (r := rIx K) ix_seq opd_ix (xe_v 0) (xe_int)) (xe_ix (r := rIx K) ix_seq opd_ix (xe_v 1) (xe_int))) (xa_nil)))))⟩
abbrev s_law : Stmt := topS 74
abbrev n_law : List Str := ["_law_script", "_law_pot_here", "_law_turn", "_law_one", "_law_n", "_law_other", "_law_circle_here", "_law_due", "_law_row", "_law_missed_here", "_law_at", "_law_told", "_law_letter", "_law_both"]
theorem sc_law : FnScope ["_law_script", "_law_pot_here", "_law_turn", "_law_one", "_law_n", "_law_other", "_law_circle_here", "_law_due", "_law_row", "_law_missed_here", "_law_at", "_law_told", "_law_letter", "_law_both"] ["_law_script"] (defScope s_law) := ⟨rfl, rfl, rfl, by decide +kernel, rfl, by decide +kernel, by decide +kernel⟩
theorem ok_law {f : Addr} {fd : FuncData} (F : Fun K "law" "law" s_law f fd) (T : Txt K mg) (C__law_pot : Callee P w K mg base "_law_pot" 1 1 KG.m__law_pot) (C__law_doubled : Callee P w K mg base "_law_doubled" 2 2 m__law_doubled) (C__law_any : Callee P w K mg base "_law_any" 2 2 KG.m__law_any) (C__law_halved : Callee P w K mg base "_law_halved" 3 1 m__law_halved) (C_adviser_misses : Callee P w K mg base "adviser_misses" 8 2 KG.m_adviser_misses) (C__law_adviser : Callee P w K mg base "_law_adviser" 2 3 KG.m__law_adviser) (C__law_draw : Callee P w K mg base "_law_draw" 1 2 KG.m__law_draw) (C__law_against : Callee P w K mg base "_law_against" 1 1 m__law_against) (C_followed : Callee P w K mg base "followed" 9 3 KG.m_followed) (C__law_less : Callee P w K mg base "_law_less" 1 2 KG.m__law_less) (C__law_is : Callee P w K mg base "_law_is" 5 2 KG.m__law_is) (C_lag : Callee P w K mg base "lag" 9 2 KG.m_lag) (C__law_plus : Callee P w K mg base "_law_plus" 3 2 KG.m__law_plus) (C__law_minus : Callee P w K mg base "_law_minus" 3 2 KG.m__law_minus) :
    FnOk P w K mg base (L2.CX P w) 10 f fd ["_law_script"] (spM K mg 1 m_law) := by
  have z_range := T.z_range
  have z_sum := T.z_sum
  have z_min := T.z_min
  have nd := sc_law.nd
  refine (fn_okM F sc_law fun cdv A outer s H E hr tk po => ?_)
  exact ⟨_, xss_cons (xs_set 1 nd (ke_call K mg C__law_pot (hr.mono (by decide)) tk (xa_cons (xe_v 0) (xa_nil))))
    (xss_cons (xs_for po rfl (xi_rng1 z_range (xa_cons (xe_int) (xa_nil))) (xg_name 2 nd) (xss_cons (xs_par (i := 3) (j := 4) rfl nd (ke_call K mg C__law_adviser (hr.mono (by decide)) tk (xa_cons (xe_v 1) (xa_cons (xe_int) (xa_cons (xe_int) (xa_nil))))) (ke_call K mg C__law_draw (hr.mono (by decide)) tk (xa_cons (xe_v 1) (xa_cons (xe_int) (xa_nil)))))
    (xss_cons (xs_set 5 nd (ke_call K mg C__law_doubled (hr.mono (by decide)) tk (xa_cons (xe_v 1) (xa_cons (ke_call K mg C__law_against (hr.mono (by decide)) tk (xa_cons (xe_v 3) (xa_nil))) (xa_nil)))))
    (xss_cons (xs_set 6 nd (ke_call K mg C__law_any (hr.mono (by decide)) tk (xa_cons (xe_v 1) (xa_cons (xe_lst (xa_cons (xe_tup (xa_cons (xe_v 3) (xa_cons (xe_v 5) (xa_nil)))) (xa_cons (xe_tup (xa_cons (xe_v 5) (xa_cons (xe_v 3) (xa_nil)))) (xa_cons (xe_tup (xa_cons (xe_v 3) (xa_cons (xe_v 5) (xa_cons (xe_v 3) (xa_nil))))) (xa_cons (xe_tup (xa_cons (xe_v 3) (xa_cons (xe_v 5) (xa_cons (xe_v 5) (xa_nil))))) (xa_nil)))))) (xa_nil)))))
    (xss_cons (xs_set 7 nd (ke_call K mg C__law_halved (hr.mono (by decide)) tk (xa_cons (xe_v 4) (xa_nil))))
    (xss_cons (xs_if (xw_pt (xw_or (xt_not (kt_tru K (ke_call K mg C__law_is (hr.mono (by decide)) tk (xa_cons (ke_call K mg C_lag (hr.mono (by decide)) tk (xa_cons (xe_v 6) (xa_cons (xe_v 4) (xa_nil)))) (xa_cons (xe_v 7) (xa_nil)))))) (xw_or (xt_cmp (r := rNeD K) (op_neD hr.units) opd_ne (ke_call K mg C_lag (hr.mono (by decide)) tk (xa_cons (xe_tup (xa_cons (xe_v 3) (xa_nil))) (xa_cons (xe_v 4) (xa_nil)))) (xe_tup (xa_cons (xe_int) (xa_cons (xe_int) (xa_nil))))) (xw_or1 (xt_cmp (r := rNeD K) (op_neD hr.units) opd_ne (ke_call K mg C_lag (hr.mono (by decide)) tk (xa_cons (xe_tup (xa_cons (xe_v 5) (xa_cons (xe_v 5) (xa_nil)))) (xa_cons (xe_v 4) (xa_nil)))) (xe_tup (xa_cons (xe_int) (xa_cons (xe_int) (xa_nil))))))))) (xss_one (xs_ret (xe_bl))) (xss_nil))
    (xss_cons (xs_asg (xe_tup (xa_cons (xe_tup (xa_nil)) (xa_cons (xe_tup (xa_cons (xe_int) (xa_cons (xe_int) (xa_nil)))) (xa_nil)))) (kg_tup K rfl (xgs_cons (xg_name 8 nd) (xgs_cons (xg_name 9 nd) (xgs_nil)))))
    (xss_cons (xs_for po rfl (xi_rng1 z_range (xa_cons (xe_v 4) (xa_nil))) (xg_name 10 nd) (xss_cons (xs_set 11 nd (ke_call K mg C_followed (hr.mono (by decide)) tk (xa_cons (xe_v 6) (xa_cons (xe_v 4) (xa_cons (xe_v 8) (xa_nil))))))
    (xss_cons (xs_set 12 nd (ke_call K mg C__law_draw (hr.mono (by decide)) tk (xa_cons (xe_v 1) (xa_cons (xe_int) (xa_nil)))))
    (xss_one (xs_par (i := 8) (j := 9) rfl nd (xe_op (r := rAddG K) op_addG opd_add (xe_v 8) (xe_tup (xa_cons (xe_v 12) (xa_nil)))) (ke_call K mg C__law_plus (hr.mono (by decide)) tk (xa_cons (xe_v 9) (xa_cons (ke_call K mg C__law_minus (hr.mono (by decide)) tk (xa_cons (xe_tup (xa_cons (xe_int) (xa_cons (xe_int) (xa_nil)))) (xa_cons (xe_ix (r := rIx K) ix_seq opd_ix (xe_v 11) (xe_v 12)) (xa_nil)))) (xa_nil)))))))))
    (xss_cons (xs_set 13 nd (ke_call K mg C_adviser_misses (hr.mono (by decide)) tk (xa_cons (xe_tup (xa_cons (xe_v 3) (xa_cons (xe_v 5) (xa_nil)))) (xa_cons (xe_v 8) (xa_nil)))))
    (xss_one (xs_if (xw_pt (xw_or (xt_cmp (r := rNeD K) (op_neD hr.units) opd_ne (xe_callB (r := rSumA K) (cr_sumA rfl) opc_sumA z_sum (by decide +kernel) (xa_cons (xe_v 13) (xa_nil))) (xe_v 4)) (xw_or1 (kt_tru K (ke_call K mg C__law_less (hr.mono (by decide)) tk (xa_cons (ke_call K mg C__law_plus (hr.mono (by decide)) tk (xa_cons (xe_tup (xa_cons (xe_callB (r := rMinA K) (cr_minA rfl) opc_minA z_min (by decide +kernel) (xa_cons (xe_v 13) (xa_nil))) (xa_cons (xe_int) (xa_nil)))) (xa_cons (xe_v 7) (xa_nil)))) (xa_cons (xe_v 9) (xa_nil)))))))) (xss_one (xs_ret (xe_bl))) (xss_nil))))))))))))
    (xss_one (xs_ret (xe_bl))))⟩
end
end K43
set_option Elab.async false
set_option linter.all false
set_option maxRecDepth 100000
set_option maxHeartbeats 2000000
/-! What the pieces come to, in words of plain mathematics. -/
namespace KM
open PySem L2
def WF (M : List MO) : Prop := M.all (MO.lo M.length) = true
theorem WF.nil : WF [] := rfl
theorem cut_same {M : List MO} (h : WF M) {d : D} (hd : D.lo M.length d = true) : cutR M.length (.ok d M) = .ok d M := by
  unfold cutR
  simp only [List.take_length]
  rw [if_pos]
  rw [Bool.and_eq_true]
  exact ⟨hd, h⟩
/-- the objects that came to be are dropped -/
theorem cut_to {M M' : List MO} {n : Nat} (hn : M.length = n) (h : WF M) {d : D} (hd : D.lo n d = true) (hM : M'.take n = M) : cutR n (.ok d M') = .ok d M := by
  subst hn
  unfold cutR
  simp only [hM]
  rw [if_pos]
  rw [Bool.and_eq_true]
  exact ⟨hd, h⟩
mutual
theorem D.lo_mono {n m : Nat} (h : n ≤ m) : ∀ d : D, D.lo n d = true → D.lo m d = true
  | .non, _ => rfl
  | .bl _, _ => rfl
  | .int _, _ => rfl
  | .str _, _ => rfl
  | .obj _, _ => rfl
  | .fn _, _ => rfl
  | .dct, _ => rfl
  | .kdi ks vs, e => by
    unfold D.lo at e ⊢
    rw [Bool.and_eq_true] at e ⊢
    exact ⟨D.los_mono h ks e.1, D.los_mono h vs e.2⟩
  | .ref k, e => decide_eq_true (Nat.lt_of_lt_of_le (of_decide_eq_true e) h)
  | .tup xs, e => D.los_mono h xs e
  | .lst xs, e => D.los_mono h xs e
  | .rol xs, e => D.los_mono h xs e
theorem D.los_mono {n m : Nat} (h : n ≤ m) : ∀ ds : List D, D.los n ds = true → D.los m ds = true
  | [], _ => rfl
  | d :: ds, e => by
    unfold D.los at e ⊢
    rw [Bool.and_eq_true] at e ⊢
    exact ⟨D.lo_mono h d e.1, D.los_mono h ds e.2⟩
end
theorem D.los_all {n : Nat} : ∀ {ds : List D}, D.los n ds = true ↔ ∀ d ∈ ds, D.lo n d = true
  | [] => by simp [D.los]
  | d :: ds => by
    unfold D.los
    rw [Bool.and_eq_true, D.los_all]
    simp
theorem MO.lo_mono {n m : Nat} (h : n ≤ m) (o : MO) (e : MO.lo n o = true) : MO.lo m o = true := by
  cases o with
  | lst xs => exact D.los_mono h xs e
  | dct xs => exact D.los_mono h _ e
  | dlk xs => exact D.los_mono h _ e
  | kd xs =>
    have e := (Bool.and_eq_true _ _ ▸ (show (D.los _ _ && D.los _ _) = true from e))
    show (D.los _ _ && D.los _ _) = true
    rw [D.los_mono h _ e.1, D.los_mono h _ e.2]; rfl
  | kdl xs =>
    have e := (Bool.and_eq_true _ _ ▸ (show (D.los _ _ && D.los _ _) = true from e))
    show (D.los _ _ && D.los _ _) = true
    rw [D.los_mono h _ e.1, D.los_mono h _ e.2]; rfl
theorem WF.app {M : List MO} (h : WF M) {o : MO} (ho : MO.lo (M.length + 1) o = true) : WF (M ++ [o]) := by
  unfold WF at h ⊢
  rw [List.all_append, Bool.and_eq_true, List.length_append]
  refine ⟨List.all_eq_true.mpr fun x hx => MO.lo_mono (Nat.le_succ _) x (List.all_eq_true.mp h x hx), ?_⟩
  simpa using ho
theorem WF.set {M : List MO} (h : WF M) {o : MO} {k : Nat} (ho : MO.lo M.length o = true) : WF (M.set k o) := by
  unfold WF at h ⊢
  rw [List.length_set]
  refine List.all_eq_true.mpr fun x hx => ?_
  rcases List.mem_or_eq_of_mem_set hx with hm | e
  · exact List.all_eq_true.mp h x hm
  · subst e; exact ho
theorem WF.at {M : List MO} (h : WF M) {o : MO} {k : Nat} (ho : M[k]? = some o) : MO.lo M.length o = true := List.all_eq_true.mp h o (List.mem_of_getElem? ho)

/-! ### loops -/
/-- I: what holds ahead of the items that are left; a turn may go on, leave with a value, or break -/
theorem forL_ind {gd : List MO → Prop} {gg : GG} {gb : GS} (I : List D → Ctx → List MO → Prop) (B : Ctx → List MO → Prop) (Rt : D → List MO → Prop)
    (hd : ∀ δ M, I [] δ M → gd M)
    (hs : ∀ x xs δ M, I (x :: xs) δ M → gd M ∧ ∃ δ1 M1, gg x δ M = .nx δ1 M1 ∧
      ((∃ δ2 M2, (gb δ1 M1 = .nx δ2 M2 ∨ gb δ1 M1 = .ct δ2 M2) ∧ I xs δ2 M2) ∨ (∃ d M2, gb δ1 M1 = .rt d M2 ∧ Rt d M2) ∨ (∃ δ2 M2, gb δ1 M1 = .bk δ2 M2 ∧ B δ2 M2))) :
    ∀ xs δ M, I xs δ M → (∃ δ' M', forL gd gg gb xs δ M = .nx δ' M' ∧ (I [] δ' M' ∨ B δ' M')) ∨ (∃ d M', forL gd gg gb xs δ M = .rt d M' ∧ Rt d M')
  | [], δ, M, h => .inl ⟨δ, M, by unfold forL; rw [if_pos (hd δ M h)], .inl h⟩
  | x :: xs, δ, M, h => by
    obtain ⟨g, δ1, M1, e1, q⟩ := hs x xs δ M h
    unfold forL
    rw [if_pos g, e1]
    rcases q with ⟨δ2, M2, e2, h2⟩ | ⟨d, M2, e2, h2⟩ | ⟨δ2, M2, e2, h2⟩
    · rcases e2 with e2 | e2
      · simp only [e2]
        exact forL_ind I B Rt hd hs xs δ2 M2 h2
      · simp only [e2]
        exact forL_ind I B Rt hd hs xs δ2 M2 h2
    · simp only [e2]
      exact .inr ⟨d, M2, rfl, h2⟩
    · simp only [e2]
      exact .inl ⟨δ2, M2, rfl, .inr h2⟩
/-- a loop that always runs through -/
theorem forL_thru {gd : List MO → Prop} {gg : GG} {gb : GS} (I : List D → Ctx → List MO → Prop)
    (hd : ∀ δ M, I [] δ M → gd M)
    (hs : ∀ x xs δ M, I (x :: xs) δ M → gd M ∧ ∃ δ1 M1, gg x δ M = .nx δ1 M1 ∧ ∃ δ2 M2, (gb δ1 M1 = .nx δ2 M2 ∨ gb δ1 M1 = .ct δ2 M2) ∧ I xs δ2 M2) (xs : List D) (δ : Ctx) (M : List MO) (h : I xs δ M) :
    ∃ δ' M', forL gd gg gb xs δ M = .nx δ' M' ∧ I [] δ' M' := by
  rcases forL_ind (gd := gd) (gg := gg) (gb := gb) I (fun _ _ => False) (fun _ _ => False) hd (fun x xs δ M h => by
    obtain ⟨g, δ1, M1, e1, δ2, M2, e2, h2⟩ := hs x xs δ M h
    exact ⟨g, δ1, M1, e1, .inl ⟨δ2, M2, e2, h2⟩⟩) xs δ M h with ⟨δ', M', e, q | q⟩ | ⟨d, M', e, q⟩
  · exact ⟨δ', M', e, q⟩
  · exact q.elim
  · exact q.elim
/-- a comprehension without ifs: I left acc M -/
theorem lcL_ind {gd : List MO → Prop} {gg : GG} {ge : GE} {δ : Ctx} (I : List D → List D → List MO → Prop)
    (hd : ∀ acc M, I [] acc M → gd M)
    (hs : ∀ x xs acc M, I (x :: xs) acc M → gd M ∧ acc.length < 100000 ∧ ∃ δ1 M1 d M2, gg x δ M = .nx δ1 M1 ∧ ge δ1 M1 = .ok d M2 ∧ I xs (acc ++ [d]) M2) :
    ∀ xs acc M, I xs acc M → ∃ acc' M', lcL gd gg gYes ge δ xs acc M = .ok acc' M' ∧ I [] acc' M'
  | [], acc, M, h => ⟨acc, M, by unfold lcL; rw [if_pos (hd acc M h)], h⟩
  | x :: xs, acc, M, h => by
    obtain ⟨g, hl, δ1, M1, d, M2, e1, e2, h2⟩ := hs x xs acc M h
    unfold lcL
    rw [if_pos g, e1]
    simp only [gYes, if_true, e2]
    rw [if_pos (show bigS acc.length from hl)]
    exact lcL_ind I hd hs xs (acc ++ [d]) M2 h2
/-- .. that changes nothing: a map -/
theorem lcL_map {α : Type} {gd : List MO → Prop} {gg : GG} {ge : GE} {δ : Ctx} {M : List MO} {em : α → D} {f : α → D} (hgd : gd M := by trivial) : ∀ (xs : List α) (acc : List D), acc.length + xs.length ≤ 100000 →
    (∀ x ∈ xs, ∃ δ1, gg (em x) δ M = .nx δ1 M ∧ ge δ1 M = .ok (f x) M) → lcL gd gg gYes ge δ (xs.map em) acc M = .ok (acc ++ xs.map f) M
  | [], acc, _, _ => by simp [lcL, hgd]
  | x :: xs, acc, hl, h => by
    obtain ⟨δ1, e1, e2⟩ := h x (List.mem_cons_self ..)
    rw [List.length_cons] at hl
    rw [List.map_cons]
    unfold lcL
    rw [if_pos hgd, e1]
    simp only [gYes, if_true, e2]
    rw [if_pos (show bigS acc.length from (by unfold bigS; omega))]
    rw [lcL_map hgd xs (acc ++ [f x]) (by simp; omega) (fun y hy => h y (List.mem_cons_of_mem _ hy))]
    simp
/-! ### fractions -/
def fD (q : Rat) : D := .tup [.int q.num, .int q.den]
theorem fD_inj {p q : Rat} (h : fD p = fD q) : p = q := by
  unfold fD at h
  simp only [D.tup.injEq, List.cons.injEq, D.int.injEq, and_true] at h
  exact Rat.ext h.1 (by exact_mod_cast h.2)
@[simp] theorem fD_lo (n : Nat) (q : Rat) : D.lo n (fD q) = true := rfl
theorem eqPy_int (i j : Int) (M : List MO) : eqPy (.int i) (.int j) M = some (i == j) := rfl
theorem oEq_int (i j : Int) (M : List MO) : oEq (.int i) (.int j) M = .ok (.bl (i == j)) M := rfl
theorem oNe_int (i j : Int) (M : List MO) : oNe (.int i) (.int j) M = .ok (.bl (!(i == j))) M := rfl
theorem eqPy_fr (p q : Rat) (M : List MO) : eqPy (fD p) (fD q) M = some (decide (p = q)) := by
  have h1 : eqPy (fD p) (fD q) M = some ((p.num == q.num) && ((p.den : Int) == (q.den : Int)) && true) := by
    unfold fD
    simp [eqPy, pyM, D.py, D.pys, SeqAt.shaped, PyData.canLay0, PyData.canLayAll0, PyData.depth, PyData.depthAll, PyData.eqv, PyData.eqvAll]
  rw [h1]
  congr 1
  by_cases e : p = q
  · subst e; simp
  · rw [decide_eq_false e]
    by_cases e1 : p.num = q.num
    · by_cases e2 : p.den = q.den
      · exact absurd (Rat.ext e1 e2) e
      · simp [e1]
        omega
    · simp [e1]
theorem oEq_fr (p q : Rat) (M : List MO) : oEq (fD p) (fD q) M = .ok (.bl (decide (p = q))) M := by unfold oEq; rw [eqPy_fr]
theorem oNe_fr (p q : Rat) (M : List MO) : oNe (fD p) (fD q) M = .ok (.bl (!decide (p = q))) M := by unfold oNe; rw [eqPy_fr]
/-- top by bottom, reduced -/
theorem norm_fr (t : Int) (b : Nat) (hb : b ≠ 0) : fD (Rat.normalize t b hb) = .tup [.int (t / ((t.natAbs.gcd b : Nat) : Int)), .int ((b : Int) / ((t.natAbs.gcd b : Nat) : Int))] := by
  rw [Rat.normalize_eq]
  unfold fD
  simp
theorem tyOk_int : tyOk "int" = true := by decide +kernel
theorem tyOk_bool : tyOk "bool" = true := by decide +kernel
theorem tyOk_tuple : tyOk "tuple" = true := by decide +kernel
theorem tyOk_list : tyOk "list" = true := by decide +kernel
theorem tyOk_str : tyOk "str" = true := by decide +kernel
end KM
namespace KM
open PySem L2
open Classical
section
variable (δ : Ctx) (M : List MO) (ga gb gc : GE) (gA gB : GB) (g h : GS) (o o' : OD) (u : OU) (m : OC) (a : GA) (gi : GI) (gg : GG) (os : OSet) (om : OM)
@[simp] theorem s_gVar (i : Nat) : gVar i δ M = match δ[i]? with | some (some d) => .ok d M | _ => .bad := rfl
@[simp] theorem s_gC (d : D) : gC d δ M = .ok d M := rfl
@[simp] theorem s_gOp : gOp o ga gb δ M = (ga δ M).bind fun x M1 => (gb δ M1).bind fun y M2 => o x y M2 := rfl
@[simp] theorem s_gUn : gUn u ga δ M = (ga δ M).bind fun x M1 => u x M1 := rfl
@[simp] theorem s_gANil : gANil δ M = .ok [] M := rfl
@[simp] theorem s_gACons : gACons ga a δ M = (ga δ M).bind fun x M1 => (a δ M1).bind fun xs M2 => .ok (x :: xs) M2 := rfl
@[simp] theorem s_gCall : gCall m a δ M = (a δ M).bind fun ds M1 => m ds M1 := rfl
@[simp] theorem s_gETup : gETup a δ M = (a δ M).bind fun ds M1 => if bigN ds.length then .ok (.tup ds) M1 else .bad := rfl
@[simp] theorem s_gLst : gLst a δ M = (a δ M).bind fun ds M1 => if bigN ds.length then .ok (.lst ds) M1 else .bad := rfl
@[simp] theorem s_gLstM : gLstM a δ M = (a δ M).bind fun ds M1 => if bigN ds.length then .ok (.ref M1.length) (M1 ++ [.lst ds]) else .bad := rfl
@[simp] theorem s_gTest : gTest ga δ M = (ga δ M).bind fun x M1 => match x with | .bl b => .ok b M1 | _ => .bad := rfl
@[simp] theorem s_gTru : gTru ga δ M = (ga δ M).bind fun x M1 => match trD M1 x with | some b => .ok b M1 | none => .bad := rfl
@[simp] theorem s_gAnd : gAnd gA gB δ M = (gA δ M).bind fun x M1 => if x = true then gB δ M1 else .ok false M1 := rfl
@[simp] theorem s_gOr : gOr gA gB δ M = (gA δ M).bind fun x M1 => if x = true then .ok true M1 else gB δ M1 := rfl
@[simp] theorem s_gNot : gNot gA δ M = (gA δ M).bind fun x M1 => .ok (!x) M1 := rfl
@[simp] theorem s_gAndV : gAndV ga gb δ M = (ga δ M).bind fun x M1 => match x with | .bl true => gb δ M1 | .bl false => .ok (.bl false) M1 | _ => .bad := rfl
@[simp] theorem s_gOrV : gOrV ga gb δ M = (ga δ M).bind fun x M1 => match x with | .bl true => .ok (.bl true) M1 | .bl false => gb δ M1 | _ => .bad := rfl
@[simp] theorem s_gNotV : gNotV ga δ M = (ga δ M).bind fun x M1 => match x with | .bl b => .ok (.bl (!b)) M1 | _ => .bad := rfl
@[simp] theorem s_gIfE : gIfE gA ga gb δ M = (gA δ M).bind fun x M1 => if x = true then ga δ M1 else gb δ M1 := rfl
@[simp] theorem s_gChain : gChain o o' ga gb gc δ M = (ga δ M).bind fun x M1 => (gb δ M1).bind fun y M2 => (o x y M2).bind fun z M3 => match z with
  | .bl true => (gc δ M3).bind fun u M4 => o' y u M4
  | .bl false => .ok (.bl false) M3
  | _ => .bad := rfl
@[simp] theorem s_gNoP : gNoP δ M = .ok none M := rfl
@[simp] theorem s_gP : gP ga δ M = (ga δ M).bind fun x M1 => match x with | .int i => .ok (some i) M1 | _ => .bad := rfl
@[simp] theorem s_gSl (gl gh : GO) : gSl ga gl gh δ M = (ga δ M).bind fun x M1 => (gl δ M1).bind fun lo M2 => (gh δ M2).bind fun hi M3 => oSl x lo hi M3 := rfl
@[simp] theorem s_gNext : gNext δ M = .nx δ M := rfl
@[simp] theorem s_gSeq : gSeq g h δ M = (g δ M).then h := rfl
@[simp] theorem s_gSet (i : Nat) : gSet i ga δ M = (ga δ M).toS δ fun d M1 => .nx (δ.set i (some d)) M1 := rfl
@[simp] theorem s_gDrop : gDrop ga δ M = (ga δ M).toS δ fun _ M1 => .nx δ M1 := rfl
@[simp] theorem s_gRet : gRet ga δ M = (ga δ M).toS δ fun d M1 => .rt d M1 := rfl
@[simp] theorem s_gRetN : gRetN δ M = .rt .non M := rfl
@[simp] theorem s_gIf : gIf gA g h δ M = (gA δ M).toS δ fun b M1 => if b = true then g δ M1 else h δ M1 := rfl
@[simp] theorem s_gBreak : gBreak δ M = .bk δ M := rfl
@[simp] theorem s_gCont : gCont δ M = .ct δ M := rfl
@[simp] theorem s_gNever : gNever δ M = .bad := rfl
@[simp] theorem s_gtName (i : Nat) (d : D) : gtName i d δ M = .nx (δ.set i (some d)) M := rfl
@[simp] theorem s_gtNil : gtNil [] δ M = .nx δ M := rfl
@[simp] theorem s_gtCons (r : List D → GS) (d : D) (ds : List D) : gtCons gg r (d :: ds) δ M = match gg d δ M with
    | .nx δ1 M1 => match r ds δ1 M1 with
      | .nx δ2 M2 => .nx δ2 M2
      | _ => .bad
    | _ => .bad := rfl
@[simp] theorem s_gtTup (n : Nat) (r : List D → GS) (ds : List D) : gtTup n r (.tup ds) δ M = if ds.length = n then r ds δ M else .bad := rfl
@[simp] theorem s_gtSub (d : D) : gtSub ga gb os d δ M = (ga δ M).toS δ fun x M1 => (gb δ M1).toS δ fun i M2 => match os x i d M2 with
  | some M3 => .nx δ M3
  | none => .bad := rfl
@[simp] theorem s_gAsg : gAsg ga gg δ M = (ga δ M).toS δ fun d M1 => match gg d δ M1 with
  | .nx δ2 M2 => .nx δ2 M2
  | .ex c _ M2 => .ex c δ M2
  | _ => .bad := rfl
@[simp] theorem s_gPar (i j : Nat) : gPar i j ga gb δ M = (ga δ M).toS δ fun x M1 => (gb δ M1).toS δ fun y M2 => .nx ((δ.set i (some x)).set j (some y)) M2 := rfl
@[simp] theorem s_gFor : gFor gi gg g δ M = (gi δ M).toS δ fun it M1 => forL it.gd gg g it.items δ M1 := rfl
@[simp] theorem s_gLcG (fin : List D → List MO → R D) (vs : List Nat) : gLcG fin gi gg gA ga vs δ M = (gi δ M).bind fun it M1 => (lcL it.gd gg gA ga (wipeD δ vs) it.items [] M1).bind fin := rfl
@[simp] theorem s_giRng1 : giRng1 a δ M = (a δ M).bind fun xs M1 => match xs with
  | [.int j] => if rngB j then .ok (itT (rngD 0 j.toNat)) M1 else .bad
  | _ => .bad := rfl
@[simp] theorem s_giRng2 : giRng2 a δ M = (a δ M).bind fun xs M1 => match xs with
  | [.int i, .int j] => if rngB i ∧ rngB j then .ok (itT (rngD i (j - i).toNat)) M1 else .bad
  | _ => .bad := rfl
@[simp] theorem s_giSeq : giSeq ga δ M = (ga δ M).bind fun x M1 => match tupOf x with
  | some xs => .ok (itT xs) M1
  | none => match listOf M1 x with
    | some xs => .ok ⟨xs, gdOf x xs⟩ M1
    | none => .bad := rfl
@[simp] theorem s_gBM : gBM om ga a δ M = (ga δ M).bind fun x M1 => match listOf M1 x with
  | some _ => (a δ M1).bind fun ds M2 => om x ds M2
  | none => .bad := rfl
@[simp] theorem s_itT (xs : List D) : (itT xs).items = xs := rfl
@[simp] theorem s_itTg (xs : List D) : (itT xs).gd = fun _ => True := rfl
@[simp] theorem s_tupOf (xs : List D) : tupOf (.tup xs) = some xs := rfl
@[simp] theorem s_tupOf_int (i : Int) : tupOf (.int i) = none := rfl
@[simp] theorem s_tupOf_lst (xs : List D) : tupOf (.lst xs) = none := rfl
@[simp] theorem s_tupOf_rol (xs : List D) : tupOf (.rol xs) = none := rfl
@[simp] theorem s_tupOf_ref (k : Nat) : tupOf (.ref k) = none := rfl
@[simp] theorem s_listOf_lst (xs : List D) : listOf M (.lst xs) = some xs := rfl
@[simp] theorem s_listOf_rol (xs : List D) : listOf M (.rol xs) = some xs := rfl
theorem s_listOf_ref {k : Nat} {xs : List D} (h : M[k]? = some (.lst xs)) : listOf M (.ref k) = some xs := by unfold listOf; simp only [h]
@[simp] theorem s_oLen_tup (xs : List D) : oLen [.tup xs] M = .ok (.int (xs.length : Int)) M := rfl
@[simp] theorem s_oLen_lst (xs : List D) : oLen [.lst xs] M = .ok (.int (xs.length : Int)) M := rfl
@[simp] theorem s_oLen_rol (xs : List D) : oLen [.rol xs] M = .ok (.int (xs.length : Int)) M := rfl
@[simp] theorem s_oTuple_lst (xs : List D) : oTuple [.lst xs] M = .ok (.tup xs) M := rfl
@[simp] theorem s_oInt (i : Int) : oInt [.int i] M = .ok (.int i) M := rfl
@[simp] theorem s_oIntB (b : Bool) : oInt [.bl b] M = .ok (.int (if b then 1 else 0)) M := rfl
@[simp] theorem s_oAbs (i : Int) : oAbs [.int i] M = .ok (.int (if i < 0 then -i else i)) M := rfl
@[simp] theorem s_oGcd (i j : Int) : oGcd [.int i, .int j] M = .ok (.int ((Nat.gcd i.natAbs j.natAbs : Nat) : Int)) M := rfl
@[simp] theorem s_trB (b : Bool) : trD M (.bl b) = some b := rfl
@[simp] theorem s_addI (i j : Int) : oAdd (.int i) (.int j) M = .ok (.int (i + j)) M := rfl
@[simp] theorem s_subI (i j : Int) : oSub (.int i) (.int j) M = .ok (.int (i - j)) M := rfl
@[simp] theorem s_mulI (i j : Int) : oMul (.int i) (.int j) M = if CMulB i j then .ok (.int (i * j)) M else .bad := rfl
@[simp] theorem s_divI (i j : Int) : oDiv (.int i) (.int j) M = if CDivB i j then .ok (.int (i / j)) M else .bad := rfl
@[simp] theorem s_modI (i j : Int) : oMod (.int i) (.int j) M = if CModB i j then .ok (.int (i % j)) M else .bad := rfl
@[simp] theorem s_powI (i j : Int) : oPow (.int i) (.int j) M = if CPowB i j then .ok (.int (i ^ j.toNat)) M else .bad := rfl
@[simp] theorem s_ltI (i j : Int) : oLt (.int i) (.int j) M = .ok (.bl (decide (i < j))) M := rfl
@[simp] theorem s_leI (i j : Int) : oLe (.int i) (.int j) M = .ok (.bl (decide (i ≤ j))) M := rfl
@[simp] theorem s_gtI (i j : Int) : oGt (.int i) (.int j) M = .ok (.bl (decide (j < i))) M := rfl
@[simp] theorem s_geI (i j : Int) : oGe (.int i) (.int j) M = .ok (.bl (decide (j ≤ i))) M := rfl
@[simp] theorem s_eqI (i j : Int) : oEq (.int i) (.int j) M = .ok (.bl (i == j)) M := rfl
@[simp] theorem s_neI (i j : Int) : oNe (.int i) (.int j) M = .ok (.bl (!(i == j))) M := rfl
@[simp] theorem s_negI (i : Int) : oNeg (.int i) M = .ok (.int (-i)) M := rfl
@[simp] theorem s_isi_tup (xs : List D) : oIsi "tuple" (.tup xs) M = .ok (.bl true) M := by simp [oIsi, tyM, tyN, isiB, tyOk_tuple]
@[simp] theorem s_isi_int (i : Int) : oIsi "int" (.int i) M = .ok (.bl true) M := by simp [oIsi, tyM, tyN, isiB, tyOk_int]
@[simp] theorem s_isi_intb (i : Int) : oIsi "bool" (.int i) M = .ok (.bl false) M := by simp [oIsi, tyM, tyN, isiB, tyOk_bool]
theorem s_ixT {xs : List D} {n : Nat} {d : D} (h : xs[n]? = some d) : oIx (.tup xs) (.int (n : Int)) M = .ok d M := by
  unfold oIx
  simp only [s_tupOf]
  rw [atI_nat h]
theorem s_ixL {x : D} {xs : List D} {n : Nat} {d : D} (ht : tupOf x = none) (hl : listOf M x = some xs) (h : xs[n]? = some d) : oIx x (.int (n : Int)) M = .ok d M := by
  unfold oIx
  simp only [ht, hl]
  rw [atI_nat h]
theorem s_fnM {N : Nat} {ds : List D} {d : D} {M' : List MO} (h : g (startD N ds) M = .rt d M') : fnM N g ds M = .ok d M' := by unfold fnM; rw [h]
end

theorem ixT_map {α : Type} {f : α → D} {xs : List α} {n : Nat} {x : α} (h : xs[n]? = some x) (M : List MO) : oIx (.tup (xs.map f)) (.int (n : Int)) M = .ok (f x) M := s_ixT M (by rw [List.getElem?_map, h]; rfl)
theorem put_last (M : List MO) (a b : MO) : (M ++ [a]).set M.length b = M ++ [b] := by simp
theorem get_last (M : List MO) (a : MO) : (M ++ [a])[M.length]? = some a := by simp
theorem oAppend_eq {M : List MO} {k : Nat} {xs : List D} (h : M[k]? = some (.lst xs)) (hl : xs.length < 100000) (d : D) : oAppend (.ref k) [d] M = .ok .non (M.set k (.lst (xs ++ [d]))) := by
  unfold oAppend
  simp only [h]
  rw [if_pos (show bigS xs.length from hl)]
theorem cmul_ok {i j : Int} {a b : Nat} (ha : i.natAbs < 2 ^ a) (hb : j.natAbs < 2 ^ b) (h : a + b < 999998) : CMulB i j := by
  have h1 : i.natAbs.log2 ≤ a := by
    by_cases h0 : i.natAbs = 0
    · rw [h0, Nat.log2_zero]; omega
    · exact Nat.le_of_lt ((Nat.log2_lt h0).mpr ha)
  have h2 : j.natAbs.log2 ≤ b := by
    by_cases h0 : j.natAbs = 0
    · rw [h0, Nat.log2_zero]; omega
    · exact Nat.le_of_lt ((Nat.log2_lt h0).mpr hb)
  exact .inr (by omega)
theorem cmul_l {i j : Int} (h1 : -1000000000000000000 ≤ i) (h2 : i ≤ 1000000000000000000) : CMulB i j := .inl (.inl ⟨by omega, by omega⟩)
theorem cmul_r {i j : Int} (h1 : -1000000000000000000 ≤ j) (h2 : j ≤ 1000000000000000000) : CMulB i j := .inl (.inr ⟨by omega, by omega⟩)
theorem cdiv_ok {i j : Int} (h0 : 0 < j) (h : j.natAbs < 2 ^ 8999) : CDivB i j := by
  refine ⟨h0, ?_⟩
  have : j.natAbs.log2 < 8999 := (Nat.log2_lt (by omega)).mpr h
  omega
theorem cdiv_s {i j : Int} (h0 : 0 < j) (h : j ≤ 1000000000000000000) : CDivB i j := cdiv_ok h0 (Nat.lt_of_lt_of_le (show j.natAbs < 2 ^ 64 by omega) (Nat.pow_le_pow_right (by decide) (by decide)))
theorem cmod_ok {i j : Int} (h0 : 0 < j) : CModB i j := h0
theorem bigN_ok {n : Nat} (h : n ≤ 100000) : bigN n := h
theorem rngB_ok {i : Int} (h1 : -1000000000000000000 ≤ i) (h2 : i ≤ 1000000000000000000) : rngB i := ⟨by omega, by omega⟩
/-- sums of fractions -/
def sq : List Rat → Rat
  | [] => 0
  | q :: qs => q + sq qs
theorem sq_append (xs ys : List Rat) : sq (xs ++ ys) = sq xs + sq ys := by
  induction xs with
  | nil => simp [sq, Rat.zero_add]
  | cons x xs ih => simp [sq, ih, Rat.add_assoc]
theorem divInt_same {a b c : Int} (hc : c ≠ 0) : Rat.divInt a c + Rat.divInt b c = Rat.divInt (a + b) c := by
  rw [Rat.divInt_add_divInt _ _ hc hc, ← Int.add_mul, Rat.divInt_mul_right hc]
theorem norm_div {t : Int} {b : Nat} (hb : b ≠ 0) : Rat.normalize t b hb = Rat.divInt t b := by
  first
    | rw [Rat.normalize_eq_mkRat, Rat.mkRat_eq_divInt]
    | (rw [← Rat.mkRat_eq_normalize]; rfl)
    | (unfold Rat.divInt; simp [mkRat, hb])
end KM
set_option Elab.async false
set_option linter.all false
set_option maxRecDepth 100000
set_option maxHeartbeats 2000000
namespace KM
open PySem L2
section
variable (δ : Ctx) (M : List MO) (ga gb gc : GE) (g : GS) (a : GA)
@[simp] theorem s_gRaise (c : Str) : gRaise c δ M = .ex c δ M := rfl
@[simp] theorem s_gTry (cs : List Str) (hs : List (Str × GS)) : gTry cs hs g δ M = match g δ M with
  | .ex c δ1 M1 => if cs.contains c = true then handL hs c δ1 M1 else .bad
  | r => r := rfl
@[simp] theorem s_gCallL (i : Nat) (tb : List (Str × OC)) : gCallL i tb a δ M = match δ[i]? with
  | some (some (.fn x)) => match tb.lookup x with
    | some m => (a δ M).bind fun ds M1 => m ds M1
    | none => .bad
  | _ => .bad := rfl
@[simp] theorem s_gDct2 : gDct2 ga gb δ M = match ga δ M with
  | .ok _ M1 => match gb δ M1 with
    | .ok _ M2 => .ok .dct M2
    | _ => .bad
  | _ => .bad := rfl
end
theorem tyOk_dict : tyOk "dict" = true := by decide +kernel
end KM
set_option linter.all false
set_option maxRecDepth 100000
namespace K11
open PySem L2 KM
abbrev csR : List Str := ["NoWorths"]
noncomputable def g__law_gcd : GS := gSeq (gSet 0 (gCall oAbs (gACons (gVar 0) (gANil))))
    (gSeq (gFor (giRng1 (gACons (gC (.int 90000)) (gANil))) (gtName 2) (gSeq (gIf (gTest (gOp oEq (gVar 1) (gC (.int 0)))) (gBreak) (gNext))
    (gPar 0 1 (gVar 1) (gOp oMod (gCall oInt (gACons (gVar 0) (gANil))) (gVar 1)))))
    (gRet (gVar 0)))
noncomputable def m__law_gcd : OC := cutM (fnM 3 g__law_gcd)
noncomputable def g__law_f : GS := gSeq (gSet 2 (gCall oAbs (gACons (gCall m__law_gcd (gACons (gVar 0) (gACons (gVar 1) (gANil)))) (gANil))))
    (gSeq (gIf (gTest (gOp oLt (gVar 1) (gC (.int 0)))) (gSet 2 (gUn oNeg (gVar 2))) (gNext))
    (gRet (gETup (gACons (gOp oDiv (gVar 0) (gVar 2)) (gACons (gOp oDiv (gVar 1) (gVar 2)) (gANil))))))
noncomputable def m__law_f : OC := cutM (fnM 3 g__law_f)
noncomputable def g__law_draw : GS := gSeq (gIf (gTest (gOp oGt (gOp oIx (gVar 0) (gC (.int 0))) (gC (.int 0)))) (gSeq (gSet 2 (gOp oMod (gCall oInt (gACons (gOp oIx (gVar 0) (gC (.int 0))) (gANil))) (gVar 1)))
    (gSeq (gAsg (gOp oDiv (gOp oIx (gVar 0) (gC (.int 0))) (gVar 1)) (gtSub (gVar 0) (gC (.int 0)) oSetL))
    (gRet (gVar 2)))) (gNext))
    (gSeq (gAsg (gOp oMod (gOp oAdd (gOp oMul (gCall oInt (gACons (gOp oIx (gVar 0) (gC (.int 1))) (gANil))) (gC (.int 48271))) (gC (.int 11))) (gC (.int 2147483647))) (gtSub (gVar 0) (gC (.int 1)) oSetL))
    (gSeq (gAsg (gOp oMod (gOp oAdd (gOp oMul (gCall oInt (gACons (gOp oIx (gVar 0) (gC (.int 1))) (gANil))) (gOp oAdd (gOp oMod (gOp oDiv (gOp oIx (gVar 0) (gC (.int 1))) (gC (.int 1009))) (gC (.int 65521))) (gC (.int 69621)))) (gC (.int 7))) (gC (.int 2147483629))) (gtSub (gVar 0) (gC (.int 1)) oSetL))
    (gRet (gOp oMod (gOp oDiv (gOp oIx (gVar 0) (gC (.int 1))) (gC (.int 16))) (gVar 1)))))
noncomputable def m__law_draw : OC := cutM (fnM 3 g__law_draw)
noncomputable def g__law_any : GS := gRet (gOp oIx (gVar 1) (gCall m__law_draw (gACons (gVar 0) (gACons (gCall oLen (gACons (gVar 1) (gANil))) (gANil)))))
noncomputable def m__law_any : OC := cutM (fnM 2 g__law_any)
noncomputable def g__law_worth : GS := gRet (gCall m__law_f (gACons (gOp oSub (gCall m__law_draw (gACons (gVar 0) (gACons (gC (.int 41)) (gANil)))) (gC (.int 20))) (gACons (gCall m__law_any (gACons (gVar 0) (gACons (gLst (gACons (gC (.int 1)) (gACons (gC (.int 2)) (gACons (gC (.int 3)) (gACons (gC (.int 4)) (gACons (gC (.int 7)) (gACons (gC (.int 10)) (gANil)))))))) (gANil)))) (gANil))))
noncomputable def m__law_worth : OC := cutM (fnM 1 g__law_worth)
noncomputable def g__law_mixed_order : GS := gSeq (gSet 2 (gListRg1M (gVar 1)))
    (gSeq (gSet 3 (gLstM (gANil)))
    (gSeq (gFor (giRng1 (gACons (gVar 1) (gANil))) (gtName 4) (gDrop (gBM oAppend (gVar 3) (gACons (gBM oPopAt (gVar 2) (gACons (gCall m__law_draw (gACons (gVar 0) (gACons (gCall oLen (gACons (gVar 2) (gANil))) (gANil)))) (gANil))) (gANil)))))
    (gRet (gVar 3))))
noncomputable def m__law_mixed_order : OC := fnM 5 g__law_mixed_order
noncomputable def g__law_minus : GS := gRet (gCall m__law_f (gACons (gOp oSub (gOp oMul (gOp oIx (gVar 0) (gC (.int 0))) (gOp oIx (gVar 1) (gC (.int 1)))) (gOp oMul (gOp oIx (gVar 1) (gC (.int 0))) (gOp oIx (gVar 0) (gC (.int 1))))) (gACons (gOp oMul (gOp oIx (gVar 0) (gC (.int 1))) (gOp oIx (gVar 1) (gC (.int 1)))) (gANil))))
noncomputable def m__law_minus : OC := cutM (fnM 2 g__law_minus)
noncomputable def g__law_less : GS := gRet (gOp oLt (gOp oMul (gOp oIx (gVar 0) (gC (.int 0))) (gOp oIx (gVar 1) (gC (.int 1)))) (gOp oMul (gOp oIx (gVar 1) (gC (.int 0))) (gOp oIx (gVar 0) (gC (.int 1)))))
noncomputable def m__law_less : OC := cutM (fnM 2 g__law_less)
noncomputable def g__law_plus : GS := gRet (gCall m__law_f (gACons (gOp oAdd (gOp oMul (gOp oIx (gVar 0) (gC (.int 0))) (gOp oIx (gVar 1) (gC (.int 1)))) (gOp oMul (gOp oIx (gVar 1) (gC (.int 0))) (gOp oIx (gVar 0) (gC (.int 1))))) (gACons (gOp oMul (gOp oIx (gVar 0) (gC (.int 1))) (gOp oIx (gVar 1) (gC (.int 1)))) (gANil))))
noncomputable def m__law_plus : OC := cutM (fnM 2 g__law_plus)
noncomputable def g_top_over : GS := gRet (gOp oMul (gOp oIx (gVar 0) (gC (.int 0))) (gOp oDiv (gVar 1) (gOp oIx (gVar 0) (gC (.int 1)))))
noncomputable def m_top_over : OC := cutM (fnM 2 g_top_over)
noncomputable def g_common : GS := gSeq (gSet 1 (gC (.int 1)))
    (gSeq (gFor (giSeq (gVar 0)) (gtName 2) (gSet 1 (gCall oLcm (gACons (gVar 1) (gACons (gOp oIx (gVar 2) (gC (.int 1))) (gANil))))))
    (gRet (gETup (gACons (gLcG finI (giSeq (gVar 0)) (gtName 2) (gYes) (gCall m_top_over (gACons (gVar 2) (gACons (gVar 1) (gANil)))) [2]) (gACons (gVar 1) (gANil))))))
noncomputable def m_common : OC := cutM (fnM 3 g_common)
noncomputable def g_best_lot : GS := gSeq (gSet 2 (gLstM (gANil)))
    (gSeq (gSet 3 (gUn oNeg (gVar 1)))
    (gSeq (gFor (giSeq (gCall oSortedP (gACons (gLcG finI (giEnum (gACons (gVar 0) (gANil))) (gtTup 2 (gtCons (gtName 5) (gtCons (gtName 6) (gtNil)))) (gYes) (gETup (gACons (gUn oNeg (gVar 6)) (gACons (gVar 5) (gANil)))) [5, 6]) (gANil)))) (gtTup 2 (gtCons (gtName 4) (gtCons (gtName 5) (gtNil)))) (gSeq (gSet 7 (gOp oSub (gVar 1) (gVar 4)))
    (gSeq (gIf (gAnd (gTru (gVar 2)) (gTest (gOp oLe (gOp oMul (gVar 7) (gCall oLen (gACons (gVar 2) (gANil)))) (gVar 3)))) (gBreak) (gNext))
    (gSeq (gDrop (gBM oAppend (gVar 2) (gACons (gVar 5) (gANil))))
    (gSet 3 (gOp oAdd (gVar 3) (gVar 7)))))))
    (gRet (gETup (gACons (gCall oTuple (gACons (gCall oSorted (gACons (gVar 2) (gANil))) (gANil))) (gACons (gVar 3) (gANil)))))))
noncomputable def m_best_lot : OC := cutM (fnM 8 g_best_lot)
noncomputable def g_reduced : GS := gSeq (gSet 2 (gCall oGcd (gACons (gVar 0) (gACons (gVar 1) (gANil)))))
    (gRet (gETup (gACons (gOp oDiv (gVar 0) (gVar 2)) (gACons (gOp oDiv (gVar 1) (gVar 2)) (gANil)))))
noncomputable def m_reduced : OC := cutM (fnM 3 g_reduced)
noncomputable def g_is_whole : GS := gRet (gAndV (gUn (oIsi "int") (gVar 0)) (gNotV (gUn (oIsi "bool") (gVar 0))))
noncomputable def m_is_whole : OC := cutM (fnM 1 g_is_whole)
noncomputable def g_is_fraction : GS := gSeq (gIf (gOr (gNot (gTru (gUn (oIsi "tuple") (gVar 0)))) (gTest (gOp oNe (gCall oLen (gACons (gVar 0) (gANil))) (gC (.int 2))))) (gRet (gC (.bl false))) (gNext))
    (gSeq (gAsg (gVar 0) (gtTup 2 (gtCons (gtName 1) (gtCons (gtName 2) (gtNil)))))
    (gSeq (gIf (gOr (gNot (gTru (gCall m_is_whole (gACons (gVar 1) (gANil))))) (gNot (gTru (gCall m_is_whole (gACons (gVar 2) (gANil)))))) (gRet (gC (.bl false))) (gNext))
    (gRet (gAndV (gOp oGe (gVar 2) (gC (.int 1))) (gOp oEq (gCall oGcd (gACons (gVar 1) (gACons (gVar 2) (gANil)))) (gC (.int 1)))))))
noncomputable def m_is_fraction : OC := cutM (fnM 3 g_is_fraction)
noncomputable def g_is_worths : GS := gSeq (gIf (gOr (gNot (gTru (gUn (oIsi "tuple") (gVar 0)))) (gNot (gTest (gChain oLe oLe (gC (.int 2)) (gCall oLen (gACons (gVar 0) (gANil))) (gC (.int 4)))))) (gRet (gC (.bl false))) (gNext))
    (gRet (gCall oAll (gACons (gLcG finI (giSeq (gVar 0)) (gtName 1) (gYes) (gCall m_is_fraction (gACons (gVar 1) (gANil))) [1]) (gANil))))
noncomputable def m_is_worths : OC := cutM (fnM 2 g_is_worths)
noncomputable def g_level : GS := gSeq (gIf (gNot (gTru (gCall m_is_worths (gACons (gVar 0) (gANil))))) (gRaise "NoWorths") (gNext))
    (gSeq (gAsg (gCall m_common (gACons (gVar 0) (gANil))) (gtTup 2 (gtCons (gtName 1) (gtCons (gtName 2) (gtNil)))))
    (gSeq (gAsg (gCall m_best_lot (gACons (gVar 1) (gACons (gVar 2) (gANil)))) (gtTup 2 (gtCons (gtName 3) (gtCons (gtName 4) (gtNil)))))
    (gRet (gCall m_reduced (gACons (gVar 4) (gACons (gOp oMul (gCall oLen (gACons (gVar 3) (gANil))) (gVar 2)) (gANil)))))))
noncomputable def m_level : OC := cutM (fnM 5 g_level)
noncomputable def g__law_times : GS := gRet (gCall m__law_f (gACons (gOp oMul (gOp oIx (gVar 0) (gC (.int 0))) (gOp oIx (gVar 1) (gC (.int 0)))) (gACons (gOp oMul (gOp oIx (gVar 0) (gC (.int 1))) (gOp oIx (gVar 1) (gC (.int 1)))) (gANil))))
noncomputable def m__law_times : OC := cutM (fnM 2 g__law_times)
noncomputable def g__law_mix_right : GS := gSeq (gSet 3 (gCall oTuple (gACons (gLcG finI (giSeq (gVar 1)) (gtName 4) (gYes) (gCall m__law_worth (gACons (gVar 0) (gANil))) [4]) (gANil))))
    (gSeq (gSet 5 (gCall m__law_any (gACons (gVar 0) (gACons (gLst (gACons (gETup (gACons (gC (.int 1)) (gACons (gC (.int 2)) (gANil)))) (gACons (gETup (gACons (gC (.int 1)) (gACons (gC (.int 3)) (gANil)))) (gACons (gETup (gACons (gC (.int 9)) (gACons (gC (.int 10)) (gANil)))) (gANil))))) (gANil)))))
    (gSeq (gSet 6 (gCall m__law_minus (gACons (gETup (gACons (gC (.int 1)) (gACons (gC (.int 1)) (gANil)))) (gACons (gVar 5) (gANil)))))
    (gSeq (gSet 7 (gCall oTuple (gACons (gLcG finI (giZip (gACons (gVar 1) (gACons (gVar 3) (gANil)))) (gtTup 2 (gtCons (gtName 4) (gtCons (gtName 8) (gtNil)))) (gYes) (gCall m__law_plus (gACons (gCall m__law_times (gACons (gVar 6) (gACons (gVar 4) (gANil)))) (gACons (gCall m__law_times (gACons (gVar 5) (gACons (gVar 8) (gANil)))) (gANil)))) [4, 8]) (gANil))))
    (gRet (gNotV (gCall m__law_less (gACons (gCall m__law_plus (gACons (gCall m__law_times (gACons (gVar 6) (gACons (gVar 2) (gANil)))) (gACons (gCall m__law_times (gACons (gVar 5) (gACons (gCall m_level (gACons (gVar 3) (gANil))) (gANil)))) (gANil)))) (gACons (gCall m_level (gACons (gVar 7) (gANil))) (gANil)))))))))
noncomputable def m__law_mix_right : OC := cutM (fnM 9 g__law_mix_right)
noncomputable def g_total : GS := gSeq (gSet 1 (gC (.int 0)))
    (gSeq (gSet 2 (gC (.int 1)))
    (gSeq (gFor (giSeq (gVar 0)) (gtTup 2 (gtCons (gtName 3) (gtCons (gtName 4) (gtNil)))) (gSeq (gSet 5 (gCall oLcm (gACons (gVar 2) (gACons (gVar 4) (gANil)))))
    (gSeq (gSet 1 (gOp oAdd (gOp oMul (gVar 1) (gOp oDiv (gVar 5) (gVar 2))) (gOp oMul (gVar 3) (gOp oDiv (gVar 5) (gVar 4)))))
    (gSet 2 (gVar 5)))))
    (gRet (gCall m_reduced (gACons (gVar 1) (gACons (gVar 2) (gANil)))))))
noncomputable def m_total : OC := cutM (fnM 6 g_total)
noncomputable def g_negated : GS := gSeq (gAsg (gVar 0) (gtTup 2 (gtCons (gtName 1) (gtCons (gtName 2) (gtNil)))))
    (gRet (gETup (gACons (gUn oNeg (gVar 1)) (gACons (gVar 2) (gANil)))))
noncomputable def m_negated : OC := cutM (fnM 3 g_negated)
noncomputable def g_minus : GS := gRet (gCall m_total (gACons (gLst (gACons (gVar 0) (gACons (gCall m_negated (gACons (gVar 1) (gANil))) (gANil)))) (gANil)))
noncomputable def m_minus : OC := cutM (fnM 2 g_minus)
noncomputable def g_filled : GS := gSeq (gSet 1 (gCall m_level (gACons (gVar 0) (gANil))))
    (gSeq (gSet 2 (gLstM (gANil)))
    (gSeq (gFor (giSeq (gVar 0)) (gtName 3) (gSeq (gSet 4 (gCall m_minus (gACons (gCall m_total (gACons (gLst (gACons (gVar 3) (gACons (gC (.tup [.int 1, .int 1])) (gANil)))) (gANil))) (gACons (gVar 1) (gANil)))))
    (gDrop (gBM oAppend (gVar 2) (gACons (gIfE (gTest (gOp oGt (gOp oIx (gVar 4) (gC (.int 0))) (gC (.int 0)))) (gVar 4) (gC (.tup [.int 0, .int 1]))) (gANil))))))
    (gRet (gCall oTuple (gACons (gVar 2) (gANil))))))
noncomputable def m_filled : OC := cutM (fnM 5 g_filled)
noncomputable def g_even_lot : GS := gSeq (gIf (gNot (gTru (gCall m_is_worths (gACons (gVar 0) (gANil))))) (gRaise "NoWorths") (gNext))
    (gSeq (gAsg (gCall m_common (gACons (gVar 0) (gANil))) (gtTup 2 (gtCons (gtName 1) (gtCons (gtName 2) (gtNil)))))
    (gRet (gOp oIx (gCall m_best_lot (gACons (gVar 1) (gACons (gVar 2) (gANil)))) (gC (.int 0)))))
noncomputable def m_even_lot : OC := cutM (fnM 3 g_even_lot)
noncomputable def g__law_same (r : OC) : GS := gSeq (gIf (gTru (gUn (oIsi "tuple") (gVar 1))) (gSeq (gIf (gOr (gNot (gTru (gUn (oIsi "tuple") (gVar 0)))) (gTest (gOp oNe (gCall oLen (gACons (gVar 0) (gANil))) (gCall oLen (gACons (gVar 1) (gANil)))))) (gRet (gC (.bl false))) (gNext))
    (gSeq (gFor (giZip (gACons (gVar 0) (gACons (gVar 1) (gANil)))) (gtTup 2 (gtCons (gtName 2) (gtCons (gtName 3) (gtNil)))) (gIf (gNot (gTru (gCall r (gACons (gVar 2) (gACons (gVar 3) (gANil)))))) (gRet (gC (.bl false))) (gNext)))
    (gRet (gC (.bl true))))) (gNext))
    (gSeq (gIf (gTest (gUn oIsN (gVar 1))) (gRet (gUn oIsN (gVar 0))) (gNext))
    (gSeq (gIf (gTru (gUn (oIsi "str") (gVar 1))) (gRet (gAndV (gUn (oIsi "str") (gVar 0)) (gOp oEq (gVar 0) (gVar 1)))) (gNext))
    (gRet (gAndV (gUn (oIsi "int") (gVar 0)) (gAndV (gNotV (gUn (oIsi "bool") (gVar 0))) (gOp oEq (gVar 0) (gVar 1)))))))
noncomputable def f__law_same : Nat → OC
  | 0 => fun _ _ => .bad
  | j + 1 => cutM (fnM 4 (g__law_same (f__law_same j)))
noncomputable def m__law_same : OC := f__law_same 3
noncomputable def g__law_is_fraction : GS := gSeq (gIf (gOr (gNot (gTru (gUn (oIsi "tuple") (gVar 0)))) (gTest (gOp oNe (gCall oLen (gACons (gVar 0) (gANil))) (gC (.int 2))))) (gRet (gC (.bl false))) (gNext))
    (gSeq (gIf (gNot (gTru (gCall oAll (gACons (gLcG finI (giSeq (gVar 0)) (gtName 1) (gYes) (gAndV (gUn (oIsi "int") (gVar 1)) (gNotV (gUn (oIsi "bool") (gVar 1)))) [1]) (gANil))))) (gRet (gC (.bl false))) (gNext))
    (gRet (gAndV (gOp oGt (gOp oIx (gVar 0) (gC (.int 1))) (gC (.int 0))) (gOp oEq (gCall m__law_gcd (gACons (gOp oIx (gVar 0) (gC (.int 0))) (gACons (gOp oIx (gVar 0) (gC (.int 1))) (gANil)))) (gC (.int 1))))))
noncomputable def m__law_is_fraction : OC := cutM (fnM 2 g__law_is_fraction)
noncomputable def g__law_raised_right : GS := gSeq (gSet 4 (gCall m__law_draw (gACons (gVar 0) (gACons (gCall oLen (gACons (gVar 1) (gANil))) (gANil)))))
    (gSeq (gSet 5 (gCall m__law_f (gACons (gOp oAdd (gC (.int 1)) (gCall m__law_draw (gACons (gVar 0) (gACons (gC (.int 20)) (gANil))))) (gACons (gCall m__law_any (gACons (gVar 0) (gACons (gLst (gACons (gC (.int 1)) (gACons (gC (.int 3)) (gACons (gC (.int 10)) (gANil))))) (gANil)))) (gANil)))))
    (gSeq (gSet 6 (gOp oAdd (gOp oAdd (gSl (gVar 1) (gNoP) (gP (gVar 4))) (gETup (gACons (gCall m__law_plus (gACons (gOp oIx (gVar 1) (gVar 4)) (gACons (gVar 5) (gANil)))) (gANil)))) (gSl (gVar 1) (gP (gOp oAdd (gVar 4) (gC (.int 1)))) (gNoP))))
    (gSeq (gAsg (gETup (gACons (gCall m_level (gACons (gVar 6) (gANil))) (gACons (gCall m_filled (gACons (gVar 6) (gANil))) (gANil)))) (gtTup 2 (gtCons (gtName 7) (gtCons (gtName 8) (gtNil)))))
    (gSeq (gIf (gOr (gTru (gCall m__law_less (gACons (gVar 7) (gACons (gVar 2) (gANil))))) (gOr (gTru (gCall m__law_less (gACons (gCall m__law_plus (gACons (gVar 2) (gACons (gVar 5) (gANil)))) (gACons (gVar 7) (gANil))))) (gTru (gCall m__law_less (gACons (gOp oIx (gVar 8) (gVar 4)) (gACons (gOp oIx (gVar 3) (gVar 4)) (gANil))))))) (gRet (gC (.bl false))) (gNext))
    (gRet (gNotV (gCall oAny (gACons (gLcG finI (giRng1 (gACons (gCall oLen (gACons (gVar 1) (gANil))) (gANil))) (gtName 9) (gYes) (gAndV (gOp oNe (gVar 9) (gVar 4)) (gCall m__law_less (gACons (gOp oIx (gVar 3) (gVar 9)) (gACons (gOp oIx (gVar 8) (gVar 9)) (gANil))))) [9]) (gANil)))))))))
noncomputable def m__law_raised_right : OC := cutM (fnM 10 g__law_raised_right)
noncomputable def g__law_low_right : GS := gSeq (gIf (gTest (gOp oEq (gCall oLen (gACons (gVar 0) (gANil))) (gC (.int 4)))) (gRet (gC (.bl true))) (gNext))
    (gSeq (gSet 2 (gCall m__law_minus (gACons (gVar 1) (gACons (gETup (gACons (gC (.int 1)) (gACons (gC (.int 1)) (gANil)))) (gANil)))))
    (gSeq (gSet 3 (gOp oAdd (gVar 0) (gETup (gACons (gVar 2) (gANil)))))
    (gSeq (gIf (gOr (gNot (gTru (gCall m__law_same (gACons (gCall m_level (gACons (gVar 3) (gANil))) (gACons (gVar 1) (gANil)))))) (gNot (gTru (gCall m__law_same (gACons (gCall m_filled (gACons (gVar 3) (gANil))) (gACons (gOp oAdd (gCall m_filled (gACons (gVar 0) (gANil))) (gETup (gACons (gETup (gACons (gC (.int 0)) (gACons (gC (.int 1)) (gANil)))) (gANil)))) (gANil))))))) (gRet (gC (.bl false))) (gNext))
    (gRet (gCall m__law_same (gACons (gCall m_even_lot (gACons (gVar 3) (gANil))) (gACons (gCall m_even_lot (gACons (gVar 0) (gANil))) (gANil))))))))
noncomputable def m__law_low_right : OC := cutM (fnM 4 g__law_low_right)
noncomputable def g__law_one : GS := gSeq (gSet 1 (gCall oTuple (gACons (gLcG finI (giRng1 (gACons (gOp oAdd (gC (.int 2)) (gCall m__law_draw (gACons (gVar 0) (gACons (gC (.int 3)) (gANil))))) (gANil))) (gtName 2) (gYes) (gCall m__law_worth (gACons (gVar 0) (gANil))) [2]) (gANil))))
    (gSeq (gAsg (gETup (gACons (gCall m_level (gACons (gVar 1) (gANil))) (gACons (gCall m_filled (gACons (gVar 1) (gANil))) (gACons (gCall m_even_lot (gACons (gVar 1) (gANil))) (gANil))))) (gtTup 3 (gtCons (gtName 3) (gtCons (gtName 4) (gtCons (gtName 5) (gtNil))))))
    (gSeq (gIf (gOr (gNot (gTru (gCall m__law_is_fraction (gACons (gVar 3) (gANil))))) (gOr (gNot (gTru (gUn (oIsi "tuple") (gVar 4)))) (gNot (gTru (gCall oAll (gACons (gLcG finI (giSeq (gVar 4)) (gtName 6) (gYes) (gCall m__law_is_fraction (gACons (gVar 6) (gANil))) [6]) (gANil))))))) (gRet (gC (.bl false))) (gNext))
    (gSeq (gSet 7 (gCall m__law_worth (gACons (gVar 0) (gANil))))
    (gSeq (gSet 8 (gCall oTuple (gACons (gLcG finI (giSeq (gVar 1)) (gtName 9) (gYes) (gCall m__law_plus (gACons (gVar 9) (gACons (gVar 7) (gANil)))) [9]) (gANil))))
    (gSeq (gIf (gOr (gNot (gTru (gCall m__law_same (gACons (gCall m_level (gACons (gVar 8) (gANil))) (gACons (gCall m__law_plus (gACons (gVar 3) (gACons (gVar 7) (gANil)))) (gANil)))))) (gNot (gTru (gCall m__law_same (gACons (gCall m_filled (gACons (gVar 8) (gANil))) (gACons (gVar 4) (gANil))))))) (gRet (gC (.bl false))) (gNext))
    (gSeq (gIf (gNot (gTru (gCall m__law_same (gACons (gCall m_even_lot (gACons (gVar 8) (gANil))) (gACons (gVar 5) (gANil)))))) (gRet (gC (.bl false))) (gNext))
    (gSeq (gSet 10 (gCall m__law_mixed_order (gACons (gVar 0) (gACons (gCall oLen (gACons (gVar 1) (gANil))) (gANil)))))
    (gSeq (gSet 11 (gCall oTuple (gACons (gLcG finI (giSeq (gVar 10)) (gtName 12) (gYes) (gOp oIx (gVar 1) (gVar 12)) [12]) (gANil))))
    (gSeq (gIf (gOr (gNot (gTru (gCall m__law_same (gACons (gCall m_level (gACons (gVar 11) (gANil))) (gACons (gVar 3) (gANil)))))) (gNot (gTru (gCall m__law_same (gACons (gCall m_filled (gACons (gVar 11) (gANil))) (gACons (gCall oTuple (gACons (gLcG finI (giSeq (gVar 10)) (gtName 12) (gYes) (gOp oIx (gVar 4) (gVar 12)) [12]) (gANil))) (gANil))))))) (gRet (gC (.bl false))) (gNext))
    (gSeq (gIf (gOr (gNot (gTru (gCall m__law_raised_right (gACons (gVar 0) (gACons (gVar 1) (gACons (gVar 3) (gACons (gVar 4) (gANil)))))))) (gNot (gTru (gCall m__law_low_right (gACons (gVar 1) (gACons (gVar 3) (gANil))))))) (gRet (gC (.bl false))) (gNext))
    (gRet (gCall m__law_mix_right (gACons (gVar 0) (gACons (gVar 1) (gACons (gVar 3) (gANil))))))))))))))))
noncomputable def m__law_one : OC := cutM (fnM 13 g__law_one)
noncomputable def g__law_hat : GS := gSeq (gSet 2 (gOp oMul (gOp oMul (gOp oMul (gOp oPow (gC (.int 10)) (gC (.int 64))) (gOp oPow (gC (.int 10)) (gC (.int 64)))) (gOp oPow (gC (.int 10)) (gC (.int 64)))) (gOp oPow (gC (.int 10)) (gC (.int 64)))))
    (gSeq (gSet 3 (gOp oMod (gCall oInt (gACons (gVar 0) (gANil))) (gVar 2)))
    (gSeq (gIf (gTest (gOp oGe (gVar 3) (gOp oPow (gC (.int 10)) (gC (.int 18))))) (gRet (gLstM (gACons (gVar 3) (gACons (gOp oAdd (gOp oMod (gCall oInt (gACons (gVar 3) (gANil))) (gC (.int 2147483563))) (gVar 1)) (gANil))))) (gNext))
    (gRet (gLstM (gACons (gC (.int 0)) (gACons (gOp oMod (gOp oAdd (gOp oAdd (gOp oMul (gOp oMod (gCall oInt (gACons (gVar 3) (gANil))) (gC (.int 2147483647))) (gC (.int 48271))) (gOp oMul (gC (.int 7919)) (gVar 1))) (gC (.int 1))) (gC (.int 2147483647))) (gANil)))))))
noncomputable def m__law_hat : OC := fnM 4 g__law_hat
noncomputable def g_law : GS := gSeq (gFor (giEnum (gACons (gSl (gOp oAdd (gCall oList (gACons (gVar 0) (gANil))) (gLst (gACons (gC (.int 4)) (gACons (gC (.int 13)) (gACons (gC (.int 41)) (gANil)))))) (gNoP) (gP (gC (.int 30)))) (gANil))) (gtTup 2 (gtCons (gtName 1) (gtCons (gtName 2) (gtNil)))) (gIf (gNot (gTru (gCall m__law_one (gACons (gCall m__law_hat (gACons (gVar 2) (gACons (gVar 1) (gANil)))) (gANil))))) (gRet (gC (.bl false))) (gNext)))
    (gRet (gC (.bl true)))
noncomputable def m_law : OC := fnM 3 g_law
end K11
set_option linter.all false
set_option maxRecDepth 100000
set_option maxHeartbeats 1000000
namespace LV
open KM
def mx (x : Rat) : Rat := if 0 < x then x else 0
theorem mx_mono {x y : Rat} (h : x ≤ y) : mx x ≤ mx y := by
  unfold mx
  grind
theorem mx_nn (x : Rat) : 0 ≤ mx x := by
  unfold mx
  grind
theorem mx_strict {x y : Rat} (h : x < y) (hx : 0 < mx x) : mx x < mx y := by
  unfold mx at *
  grind
def Fv (ws : List Rat) (v : Rat) : Rat := sq (ws.map fun w => mx (w + 1 - v))
theorem Fv_nn : ∀ (ws : List Rat) (v : Rat), 0 ≤ Fv ws v
  | [], v => by simp [Fv, sq]
  | w :: ws, v => by
    have h1 := Fv_nn ws v
    have h2 := mx_nn (w + 1 - v)
    show 0 ≤ mx (w + 1 - v) + Fv ws v
    grind
theorem Fv_mono : ∀ (ws : List Rat) {v v' : Rat}, v ≤ v' → Fv ws v' ≤ Fv ws v
  | [], v, v', h => by simp [Fv, sq]
  | w :: ws, v, v', h => by
    have h1 := Fv_mono ws h
    have h2 := mx_mono (x := w + 1 - v') (y := w + 1 - v) (by grind)
    show mx (w + 1 - v') + Fv ws v' ≤ mx (w + 1 - v) + Fv ws v
    grind
theorem Fv_strict : ∀ (ws : List Rat) {v v' : Rat}, v < v' → 0 < Fv ws v' → Fv ws v' < Fv ws v
  | [], v, v', h, hp => by simp [Fv, sq] at hp
  | w :: ws, v, v', h, hp => by
    have e : ∀ v, Fv (w :: ws) v = mx (w + 1 - v) + Fv ws v := fun _ => rfl
    rw [e] at hp ⊢
    rw [e]
    have m1 := Fv_mono ws (show v ≤ v' by grind)
    have m2 := mx_mono (x := w + 1 - v') (y := w + 1 - v) (by grind)
    by_cases c : 0 < mx (w + 1 - v')
    · have := mx_strict (x := w + 1 - v') (y := w + 1 - v) (by grind) c
      grind
    · have := Fv_strict ws h (by have := mx_nn (w + 1 - v'); grind)
      grind
theorem Fv_uniq {ws : List Rat} {v v' : Rat} (h : Fv ws v = 1) (h' : Fv ws v' = 1) : v = v' := by
  apply Classical.byContradiction
  intro n
  rcases (show v < v' ∨ v' < v by grind) with c | c
  · have := Fv_strict ws c (by rw [h']; decide)
    grind
  · have := Fv_strict ws c (by rw [h]; decide)
    grind
/-! ### the lot, by integers -/
def lotF (B : Int) : List (Int × Int) → List Int → Int → List Int × Int
  | [], lot, most => (lot, most)
  | p :: r, lot, most => if lot ≠ [] ∧ (B - p.1) * (lot.length : Int) ≤ most then (lot, most) else lotF B r (lot ++ [p.2]) (most + (B - p.1))
def sumB (B : Int) : List (Int × Int) → Int
  | [] => 0
  | p :: r => (B - p.1) + sumB B r
theorem sumB_snoc (B : Int) (p : Int × Int) : ∀ xs : List (Int × Int), sumB B (xs ++ [p]) = sumB B xs + (B - p.1)
  | [] => by simp [sumB]
  | x :: xs => by
    show (B - x.1) + sumB B (xs ++ [p]) = (B - x.1) + sumB B xs + (B - p.1)
    rw [sumB_snoc B p xs]
    omega
structure LotOk (B : Int) (S1 S2 : List (Int × Int)) : Prop where
  ne : S1 ≠ []
  gt : ∀ p ∈ S1, sumB B S1 - B < (B - p.1) * (S1.length : Int)
  le : ∀ p ∈ S2, (B - p.1) * (S1.length : Int) ≤ sumB B S1 - B
theorem lotF_spec {B : Int} (hB : 0 < B) : ∀ (r done : List (Int × Int)), (∀ p ∈ done, ∀ q ∈ r, p.1 ≤ q.1) → r.Pairwise (fun p q => p.1 ≤ q.1) → (∀ p ∈ done, sumB B done - B < (B - p.1) * (done.length : Int)) → done ++ r ≠ [] →
    ∃ S1 S2, done ++ r = S1 ++ S2 ∧ lotF B r (done.map fun p => p.2) (sumB B done - B) = (S1.map fun p => p.2, sumB B S1 - B) ∧ LotOk B S1 S2
  | [], done, h1, h2, h3, h4 => ⟨done, [], rfl, rfl, by simpa using h4, h3, fun p hp => by cases hp⟩
  | q :: r, done, h1, h2, h3, h4 => by
    unfold lotF
    rw [List.length_map]
    by_cases c : (done.map fun p => p.2) ≠ [] ∧ (B - q.1) * (done.length : Int) ≤ sumB B done - B
    · rw [if_pos c]
      refine ⟨done, q :: r, rfl, rfl, fun e => c.1 (by rw [e]; rfl), h3, fun p hp => ?_⟩
      have hk : (0 : Int) ≤ (done.length : Int) := by omega
      rcases List.mem_cons.mp hp with e | e
      · rw [e]; exact c.2
      · have hq := (List.pairwise_cons.mp h2).1 p e
        have : (B - p.1) * (done.length : Int) ≤ (B - q.1) * (done.length : Int) := Int.mul_le_mul_of_nonneg_right (by omega) hk
        exact Int.le_trans this c.2
    · rw [if_neg c]
      have e1 : (done.map fun p => p.2) ++ [q.2] = (done ++ [q]).map fun p => p.2 := by simp
      have e2 : sumB B done - B + (B - q.1) = sumB B (done ++ [q]) - B := by rw [sumB_snoc]; omega
      have el : ((done ++ [q]).length : Int) = (done.length : Int) + 1 := by simp
      rw [e1, e2]
      have hq : sumB B done - B < (B - q.1) * (done.length : Int) := by
        by_cases hd : done = []
        · subst hd
          show (0 : Int) - B < (B - q.1) * ((0 : Nat) : Int)
          simp
          omega
        · apply Classical.byContradiction
          intro n
          exact c ⟨fun e => hd (List.map_eq_nil_iff.mp e), by omega⟩
      obtain ⟨S1, S2, g1, g2, g3⟩ := lotF_spec hB r (done ++ [q]) (fun p hp z hz => by
        rcases List.mem_append.mp hp with e | e
        · exact h1 p e z (List.mem_cons_of_mem _ hz)
        · rw [List.mem_singleton.mp e]
          exact (List.pairwise_cons.mp h2).1 z hz) (List.pairwise_cons.mp h2).2 (fun p hp => by
        rw [sumB_snoc, el, Int.mul_add, Int.mul_one]
        rcases List.mem_append.mp hp with e | e
        · have a1 := h3 p e
          have a2 := h1 p e q (List.mem_cons_self ..)
          omega
        · rw [List.mem_singleton.mp e]
          omega) (by simp)
      exact ⟨S1, S2, by rw [← g1]; simp, g2, g3⟩
/-! ### by fractions -/
theorem sq_perm {xs ys : List Rat} (h : xs.Perm ys) : sq xs = sq ys := by
  induction h with
  | nil => rfl
  | cons x _ ih =>
    show x + sq _ = x + sq _
    rw [ih]
  | swap x y l =>
    show y + (x + sq l) = x + (y + sq l)
    grind
  | trans _ _ h1 h2 => exact h1.trans h2
def rp (B : Int) (p : Int × Int) : Rat := ((B - p.1 : Int) : Rat) / (B : Rat)
theorem sq_rp {B : Int} (v : Rat) : ∀ xs : List (Int × Int), sq (xs.map fun p => rp B p - v) = (sumB B xs : Rat) / (B : Rat) - v * ((xs.length : Int) : Rat)
  | [] => by
    simp [sq, sumB, Rat.div_def]
    try grind
  | p :: xs => by
    show (rp B p - v) + sq (xs.map fun p => rp B p - v) = _
    rw [sq_rp v xs]
    have e1 : ((sumB B (p :: xs) : Int) : Rat) = ((B - p.1 : Int) : Rat) + ((sumB B xs : Int) : Rat) := by
      show (((B - p.1) + sumB B xs : Int) : Rat) = _
      rw [Rat.intCast_add]
    have e2 : ((((p :: xs).length : Nat) : Int) : Rat) = (((xs.length : Nat) : Int) : Rat) + 1 := by
      rw [List.length_cons, show ((xs.length + 1 : Nat) : Int) = (xs.length : Int) + 1 by omega, Rat.intCast_add]
      rfl
    rw [e1, e2]
    unfold rp
    rw [Rat.div_def, Rat.div_def, Rat.div_def]
    grind
theorem root {B : Int} (hB : 0 < B) {S1 S2 : List (Int × Int)} (h : LotOk B S1 S2) {v : Rat} (hv : v * (((S1.length : Int) : Rat) * (B : Rat)) = ((sumB B S1 - B : Int) : Rat)) :
    sq ((S1 ++ S2).map fun p => mx (rp B p - v)) = 1 ∧ (∀ p ∈ S1, v < rp B p) ∧ ∀ p ∈ S2, rp B p ≤ v := by
  have hb : (0 : Rat) < (B : Rat) := by exact_mod_cast hB
  have hk0 : 0 < S1.length := List.length_pos_iff.mpr h.ne
  have hk : (0 : Rat) < ((S1.length : Int) : Rat) := by exact_mod_cast (show (0 : Int) < (S1.length : Int) by omega)
  have hkb : (0 : Rat) < ((S1.length : Int) : Rat) * (B : Rat) := Rat.mul_pos hk hb
  have er : ∀ p, rp B p * (((S1.length : Int) : Rat) * (B : Rat)) = (((B - p.1) * (S1.length : Int) : Int) : Rat) := fun p => by
    unfold rp
    rw [Rat.intCast_mul, Rat.div_def]
    have : (B : Rat) * (B : Rat)⁻¹ = 1 := Rat.mul_inv_cancel _ (by grind)
    grind
  have g1 : ∀ p ∈ S1, v < rp B p := fun p hp => by
    have q : ((sumB B S1 - B : Int) : Rat) < (((B - p.1) * (S1.length : Int) : Int) : Rat) := by exact_mod_cast h.gt p hp
    rw [← hv, ← er p] at q
    exact (Rat.mul_lt_mul_right hkb).mp q
  have g2 : ∀ p ∈ S2, rp B p ≤ v := fun p hp => by
    have q : (((B - p.1) * (S1.length : Int) : Int) : Rat) ≤ ((sumB B S1 - B : Int) : Rat) := by exact_mod_cast h.le p hp
    rw [← hv, ← er p] at q
    apply Classical.byContradiction
    intro n
    have c : v < rp B p := by grind
    have := (Rat.mul_lt_mul_right hkb).mpr c
    grind
  refine ⟨?_, g1, g2⟩
  rw [List.map_append, sq_append]
  have e1 : (S1.map fun p => mx (rp B p - v)) = S1.map fun p => rp B p - v := List.map_congr_left fun p hp => by
    have := g1 p hp
    unfold mx
    grind
  have e2 : sq (S2.map fun p => mx (rp B p - v)) = 0 := by
    have : ∀ l : List (Int × Int), (∀ p ∈ l, rp B p ≤ v) → sq (l.map fun p => mx (rp B p - v)) = 0 := by
      intro l
      induction l with
      | nil => intro _; rfl
      | cons p l ih =>
        intro hl
        show mx (rp B p - v) + sq (l.map fun p => mx (rp B p - v)) = 0
        rw [ih fun q hq => hl q (List.mem_cons_of_mem _ hq)]
        have := hl p (List.mem_cons_self ..)
        unfold mx
        grind
    exact this S2 g2
  rw [e1, e2, sq_rp]
  have e3 : ((sumB B S1 : Int) : Rat) = v * (((S1.length : Int) : Rat) * (B : Rat)) + (B : Rat) := by
    rw [hv, Rat.intCast_sub]
    grind
  rw [e3, Rat.div_def]
  have : (B : Rat) * (B : Rat)⁻¹ = 1 := Rat.mul_inv_cancel _ (by grind)
  grind
end LV
set_option linter.all false
set_option maxRecDepth 100000
set_option maxHeartbeats 2000000
namespace K11
open PySem L2 KM LV
def isWh : D → Bool
  | .int _ => true
  | _ => false
def notObj : D → Bool
  | .kdi _ _ => false
  | .obj _ => false
  | .ref _ => false
  | .fn _ => false
  | _ => true
theorem is_whole_eq {d : D} {M : List MO} (h : WF M) (hd : notObj d = true) : m_is_whole [d] M = .ok (.bl (isWh d)) M := by
  unfold m_is_whole cutM
  have e : fnM 1 g_is_whole [d] M = .ok (.bl (isWh d)) M := by
    cases d <;> first
      | (simp [fnM, g_is_whole, startD, oIsi, tyM, tyN, isiB, tyOk_int, tyOk_bool, isWh]; done)
      | (simp [notObj] at hd)
  rw [e, cut_same h rfl]
theorem is_whole_int {i : Int} {M : List MO} (h : WF M) : m_is_whole [.int i] M = .ok (.bl true) M := is_whole_eq h rfl
theorem is_fraction_fr {q : Rat} {M : List MO} (h : WF M) : m_is_fraction [fD q] M = .ok (.bl true) M := by
  unfold m_is_fraction cutM
  have h1 : (1 : Int) ≤ q.den := by have := q.den_pos; omega
  have h2 : q.num.natAbs.gcd q.den = 1 := q.reduced
  have e : fnM 3 g_is_fraction [fD q] M = .ok (.bl true) M := by
    simp [fnM, g_is_fraction, startD, fD, is_whole_int h, h1, h2]
  rw [e, cut_same h rfl]
theorem reduced_eq {t : Int} {b : Nat} (hb : b ≠ 0) (hz : b.log2 < 9000) {M : List MO} (h : WF M) : m_reduced [.int t, .int b] M = .ok (fD (Rat.normalize t b hb)) M := by
  unfold m_reduced cutM
  have hg : 0 < t.natAbs.gcd b := Nat.gcd_pos_of_pos_right _ (Nat.pos_of_ne_zero hb)
  have hle : t.natAbs.gcd b ≤ b := Nat.gcd_le_right _ (Nat.pos_of_ne_zero hb)
  have hc : ∀ i : Int, CDivB i ((t.natAbs.gcd b : Nat) : Int) := fun i => by
    refine ⟨by omega, ?_⟩
    rw [Int.natAbs_natCast]
    have : (t.natAbs.gcd b).log2 ≤ b.log2 := by
      rw [Nat.le_log2 hb]
      exact Nat.le_trans (Nat.log2_self_le (by omega)) hle
    omega
  have e : fnM 3 g_reduced [.int t, .int b] M = .ok (fD (Rat.normalize t b hb)) M := by
    rw [norm_fr]
    simp [fnM, g_reduced, startD, hc, bigN]
  rw [e, cut_same h rfl]
theorem bls_map {α : Type} (f : α → Bool) : ∀ xs : List α, bls (xs.map fun x => D.bl (f x)) = some (xs.map f)
  | [] => rfl
  | x :: xs => by
    rw [List.map_cons, List.map_cons]
    unfold bls
    rw [bls_map f xs]
    rfl
theorem oAll_map {α : Type} (f : α → Bool) (xs : List α) (M : List MO) : oAll [.lst (xs.map fun x => D.bl (f x))] M = .ok (.bl ((xs.map f).all id)) M := by
  unfold oAll
  simp only [s_listOf_lst, bls_map]
structure Bnd (L : Nat) (A : Nat) (q : Rat) : Prop where
  den : q.den ∣ L
  num : q.num.natAbs ≤ A * q.den
theorem total_loop {L A : Nat} (hL : L ≠ 0) (hL2 : L < 2 ^ 5000) (hA : A < 2 ^ 1000) {M : List MO} (parts : D) : ∀ (qs : List Rat) (n : Nat) (t : Int) (b : Nat) (x3 x4 x5 : Option D), n + qs.length ≤ 100000 → (∀ q ∈ qs, Bnd L A q) → b ≠ 0 → b ∣ L → t.natAbs ≤ n * A * b →
    ∃ (t' : Int) (b' : Nat) (y3 y4 y5 : Option D), forL (fun _ => True) (gtTup 2 (gtCons (gtName 3) (gtCons (gtName 4) gtNil)))
      (gSeq (gSet 5 (gCall oLcm (gACons (gVar 2) (gACons (gVar 4) gANil)))) (gSeq (gSet 1 (gOp oAdd (gOp oMul (gVar 1) (gOp oDiv (gVar 5) (gVar 2))) (gOp oMul (gVar 3) (gOp oDiv (gVar 5) (gVar 4))))) (gSet 2 (gVar 5))))
      (qs.map fD) [some parts, some (.int t), some (.int b), x3, x4, x5] M = .nx [some parts, some (.int t'), some (.int b'), y3, y4, y5] M ∧ b' ≠ 0 ∧ b' ∣ L ∧ Rat.divInt t' b' = Rat.divInt t b + sq qs
  | [], n, t, b, x3, x4, x5, hn, hq, hb, hbl, ht => ⟨t, b, x3, x4, x5, by simp [forL], hb, hbl, by simp [sq, Rat.add_zero]⟩
  | q :: qs, n, t, b, x3, x4, x5, hn, hq, hb, hbl, ht => by
    have Q := hq q (List.mem_cons_self ..)
    have hd : q.den ≠ 0 := q.den_nz
    have lp : ∀ {x : Nat}, x ∣ L → x < 2 ^ 5000 := fun h => Nat.lt_of_le_of_lt (Nat.le_of_dvd (Nat.pos_of_ne_zero hL) h) hL2
    have lg : ∀ {x : Nat}, x ≠ 0 → x ∣ L → x.log2 < 6000 := fun h0 h => Nat.lt_of_lt_of_le ((Nat.log2_lt h0).mpr (lp h)) (by decide)
    have hc : b.lcm q.den ∣ L := Nat.lcm_dvd hbl Q.den
    have hc0 : b.lcm q.den ≠ 0 := Nat.lcm_ne_zero hb hd
    obtain ⟨k1, e1⟩ := Nat.dvd_lcm_left b q.den
    obtain ⟨k2, e2⟩ := Nat.dvd_lcm_right b q.den
    have hk1 : k1 ≠ 0 := fun e => hc0 (by rw [e1, e, Nat.mul_zero])
    have hk2 : k2 ≠ 0 := fun e => hc0 (by rw [e2, e, Nat.mul_zero])
    have d1 : ((b.lcm q.den : Nat) : Int) / (b : Int) = k1 := by
      rw [e1, Int.natCast_mul]
      exact Int.mul_ediv_cancel_left _ (by omega)
    have d2 : ((b.lcm q.den : Nat) : Int) / (q.den : Int) = k2 := by
      rw [e2, Int.natCast_mul]
      exact Int.mul_ediv_cancel_left _ (by omega)
    have k1L : k1 < 2 ^ 5000 := Nat.lt_of_le_of_lt (by rw [e1]; exact Nat.le_mul_of_pos_left _ (Nat.pos_of_ne_zero hb)) (lp hc)
    have k2L : k2 < 2 ^ 5000 := Nat.lt_of_le_of_lt (by rw [e2]; exact Nat.le_mul_of_pos_left _ (Nat.pos_of_ne_zero hd)) (lp hc)
    have n17 : n < 2 ^ 17 := by rw [List.length_cons] at hn; omega
    have tb : t.natAbs < 2 ^ 7000 := Nat.lt_of_le_of_lt ht (Nat.lt_of_lt_of_le (Nat.mul_lt_mul'' (Nat.mul_lt_mul'' n17 hA) (lp hbl)) (by rw [← Nat.pow_add, ← Nat.pow_add]; exact Nat.pow_le_pow_right (by decide) (by decide)))
    have nb : q.num.natAbs < 2 ^ 7000 := Nat.lt_of_le_of_lt Q.num (Nat.lt_of_lt_of_le (Nat.mul_lt_mul'' hA (lp Q.den)) (by rw [← Nat.pow_add]; exact Nat.pow_le_pow_right (by decide) (by decide)))
    have c1 : CMulB t (k1 : Int) := cmul_ok tb (show (k1 : Int).natAbs < 2 ^ 5000 by rw [Int.natAbs_natCast]; exact k1L) (by decide)
    have c2 : CMulB q.num (k2 : Int) := cmul_ok nb (show (k2 : Int).natAbs < 2 ^ 5000 by rw [Int.natAbs_natCast]; exact k2L) (by decide)
    have v1 : CDivB ((b.lcm q.den : Nat) : Int) (b : Int) := cdiv_ok (by omega) (by rw [Int.natAbs_natCast]; exact Nat.lt_of_lt_of_le (lp hbl) (Nat.pow_le_pow_right (by decide) (by decide)))
    have v2 : CDivB ((b.lcm q.den : Nat) : Int) (q.den : Int) := cdiv_ok (by omega) (by rw [Int.natAbs_natCast]; exact Nat.lt_of_lt_of_le (lp Q.den) (Nat.pow_le_pow_right (by decide) (by decide)))
    have cl : CLcm (b : Int) (q.den : Int) := by
      exact ⟨by rw [Int.natAbs_natCast]; exact lg hb hbl, by rw [Int.natAbs_natCast]; exact lg hd Q.den⟩
    have ht2 : (t * k1 + q.num * k2).natAbs ≤ (n + 1) * A * (b.lcm q.den) := by
      have a1 : (t * k1).natAbs ≤ n * A * (b.lcm q.den) := by
        rw [Int.natAbs_mul, Int.natAbs_natCast, e1, ← Nat.mul_assoc]
        exact Nat.mul_le_mul_right _ ht
      have a2 : (q.num * k2).natAbs ≤ A * (b.lcm q.den) := by
        rw [Int.natAbs_mul, Int.natAbs_natCast, e2, ← Nat.mul_assoc]
        exact Nat.mul_le_mul_right _ Q.num
      have a3 := Int.natAbs_add_le (t * k1) (q.num * k2)
      have a4 : (n + 1) * A * (b.lcm q.den) = n * A * (b.lcm q.den) + A * (b.lcm q.den) := by
        rw [Nat.add_mul, Nat.add_mul, Nat.one_mul]
      omega
    obtain ⟨t', b', y3, y4, y5, e, h1, h2, h3⟩ := total_loop hL hL2 hA (M := M) parts qs (n + 1) (t * k1 + q.num * k2) (b.lcm q.den) (some (.int q.num)) (some (.int q.den)) (some (.int (b.lcm q.den : Nat))) (by rw [List.length_cons] at hn; omega) (fun p hp => hq p (List.mem_cons_of_mem _ hp)) hc0 hc ht2
    refine ⟨t', b', y3, y4, y5, ?_, h1, h2, ?_⟩
    · rw [List.map_cons]
      unfold forL
      rw [if_pos trivial]
      unfold fD
      simp [oLcm, cl, v1, v2, d1, d2, c1, c2]
      exact e
    · rw [h3]
      show _ = Rat.divInt t b + (q + sq qs)
      rw [← Rat.add_assoc]
      congr 1
      have b0 : (b : Int) ≠ 0 := by omega
      have dd0 : (q.den : Int) ≠ 0 := by omega
      have x1 : Rat.divInt t b = Rat.divInt (t * k1) ((b.lcm q.den : Nat) : Int) := by
        rw [e1, Int.natCast_mul, Rat.divInt_mul_right (by omega)]
      have x2 : q = Rat.divInt (q.num * k2) ((b.lcm q.den : Nat) : Int) := by
        rw [e2, Int.natCast_mul, Rat.divInt_mul_right (by omega)]
        exact (Rat.num_divInt_den q).symm
      rw [x1]
      refine Eq.trans (divInt_same (c := ((b.lcm q.den : Nat) : Int)) (by omega)).symm ?_
      rw [← x2]
theorem total_eq {L A : Nat} (hL : L ≠ 0) (hL2 : L < 2 ^ 5000) (hA : A < 2 ^ 1000) {M : List MO} (h : WF M) {qs : List Rat} (hn : qs.length ≤ 100000) (hq : ∀ q ∈ qs, Bnd L A q) : m_total [.lst (qs.map fD)] M = .ok (fD (sq qs)) M := by
  unfold m_total cutM
  obtain ⟨t', b', y3, y4, y5, e, h1, h2, h3⟩ := total_loop hL hL2 hA (M := M) (.lst (qs.map fD)) qs 0 0 1 none none none (by omega) hq (by decide) (Nat.one_dvd _) (by simp)
  have hz : b'.log2 < 9000 := Nat.lt_of_lt_of_le ((Nat.log2_lt h1).mpr (Nat.lt_of_le_of_lt (Nat.le_of_dvd (Nat.pos_of_ne_zero hL) h2) hL2)) (by decide)
  have e2 : fnM 6 g_total [.lst (qs.map fD)] M = .ok (fD (sq qs)) M := by
    have hs : Rat.normalize t' b' h1 = sq qs := by
      rw [norm_div, h3]
      simp [Rat.zero_add]
    have hr := reduced_eq (t := t') h1 hz h
    rw [hs] at hr
    have e' : forL (fun _ => True) (gtTup 2 (gtCons (gtName 3) (gtCons (gtName 4) gtNil)))
      (gSeq (gSet 5 (gCall oLcm (gACons (gVar 2) (gACons (gVar 4) gANil)))) (gSeq (gSet 1 (gOp oAdd (gOp oMul (gVar 1) (gOp oDiv (gVar 5) (gVar 2))) (gOp oMul (gVar 3) (gOp oDiv (gVar 5) (gVar 4))))) (gSet 2 (gVar 5))))
      (qs.map fD) [some (.lst (qs.map fD)), some (.int 0), some (.int 1), none, none, none] M = .nx [some (.lst (qs.map fD)), some (.int t'), some (.int b'), y3, y4, y5] M := e
    have gdl : gdOf (.lst (qs.map fD)) (qs.map fD) = fun _ => True := rfl
    simp [fnM, g_total, startD, gdl, e', hr]
  rw [e2, cut_same h rfl]
end K11
set_option linter.all false
set_option maxRecDepth 100000
set_option maxHeartbeats 4000000
namespace K11
open PySem L2 KM LV
/-! ### one bottom -/
def lcmF (b : Nat) (ws : List Rat) : Nat := ws.foldl (fun b w => b.lcm w.den) b
theorem lcmF_dvd {L : Nat} : ∀ (ws : List Rat) (b : Nat), b ∣ L → (∀ w ∈ ws, w.den ∣ L) → lcmF b ws ∣ L
  | [], b, h, _ => h
  | w :: ws, b, h, hw => lcmF_dvd ws (b.lcm w.den) (Nat.lcm_dvd h (hw w (List.mem_cons_self ..))) fun x hx => hw x (List.mem_cons_of_mem _ hx)
theorem lcmF_ne : ∀ (ws : List Rat) (b : Nat), b ≠ 0 → lcmF b ws ≠ 0
  | [], b, h => h
  | w :: ws, b, h => lcmF_ne ws (b.lcm w.den) (Nat.lcm_ne_zero h w.den_nz)
theorem lcmF_b : ∀ (ws : List Rat) (b : Nat), b ∣ lcmF b ws
  | [], b => Nat.dvd_refl _
  | w :: ws, b => Nat.dvd_trans (Nat.dvd_lcm_left _ _) (lcmF_b ws (b.lcm w.den))
theorem lcmF_all : ∀ (ws : List Rat) (b : Nat), ∀ w ∈ ws, w.den ∣ lcmF b ws
  | w :: ws, b, x, hx => by
    rcases List.mem_cons.mp hx with e | e
    · subst e
      exact Nat.dvd_trans (Nat.dvd_lcm_right _ _) (lcmF_b ws (b.lcm x.den))
    · exact lcmF_all ws _ x e
def topOf (B : Nat) (w : Rat) : Int := w.num * ((B / w.den : Nat) : Int)
theorem log_lt {L x : Nat} (hL : L ≠ 0) (hL2 : L < 2 ^ 5000) (h : x ∣ L) : x < 2 ^ 5000 := Nat.lt_of_le_of_lt (Nat.le_of_dvd (Nat.pos_of_ne_zero hL) h) hL2
theorem log_lt2 {x : Nat} (h : x < 2 ^ 5000) : x.log2 < 6000 := by
  by_cases h0 : x = 0
  · rw [h0, Nat.log2_zero]; omega
  · exact Nat.lt_of_lt_of_le ((Nat.log2_lt h0).mpr h) (by decide)
section
variable {L A : Nat} {M : List MO}
theorem common_loop (hL : L ≠ 0) (hL2 : L < 2 ^ 5000) (x0 : Option D) : ∀ (ws : List Rat) (b : Nat) (x2 : Option D), b ∣ L → (∀ w ∈ ws, w.den ∣ L) →
    ∃ y2, forL (fun _ => True) (gtName 2) (gSet 1 (gCall oLcm (gACons (gVar 1) (gACons (gOp oIx (gVar 2) (gC (.int 1))) (gANil))))) (ws.map fD) [x0, some (.int (b : Int)), x2] M = .nx [x0, some (.int ((lcmF b ws : Nat) : Int)), y2] M
  | [], b, x2, _, _ => ⟨x2, by simp [forL, lcmF]⟩
  | w :: ws, b, x2, hb, hw => by
    have hwd := hw w (List.mem_cons_self ..)
    obtain ⟨y2, e⟩ := common_loop hL hL2 x0 ws (b.lcm w.den) (some (fD w)) (Nat.lcm_dvd hb hwd) fun x hx => hw x (List.mem_cons_of_mem _ hx)
    refine ⟨y2, ?_⟩
    have i1 : oIx (fD w) (.int 1) M = .ok (.int (w.den : Int)) M := s_ixT M (n := 1) rfl
    have cl : CLcm (b : Int) (w.den : Int) := ⟨by rw [Int.natAbs_natCast]; exact log_lt2 (log_lt hL hL2 hb), by rw [Int.natAbs_natCast]; exact log_lt2 (log_lt hL hL2 hwd)⟩
    have ol : oLcm [.int (b : Int), .int (w.den : Int)] M = .ok (.int ((b.lcm w.den : Nat) : Int)) M := by
      unfold oLcm
      simp only
      rw [if_pos cl, Int.natAbs_natCast, Int.natAbs_natCast]
    rw [List.map_cons]
    unfold forL
    rw [if_pos trivial]
    simp only [s_gtName, s_gSet, s_gCall, s_gACons, s_gVar, s_gOp, s_gC, s_gANil, List.set, List.getElem?_cons_zero, List.getElem?_cons_succ, KM.R.bind_ok, i1, ol, KM.R.toS_ok]
    exact e
theorem top_over_eq (hL : L ≠ 0) (hL2 : L < 2 ^ 5000) (hA : A < 2 ^ 1000) {w : Rat} (hw : Bnd L A w) {B : Nat} (hB : B ∣ L) (hB0 : B ≠ 0) (hd : w.den ∣ B) (wf : WF M) : m_top_over [fD w, .int (B : Int)] M = .ok (.int (topOf B w)) M := by
  have i0 : oIx (fD w) (.int 0) M = .ok (.int w.num) M := s_ixT M (n := 0) rfl
  have i1 : oIx (fD w) (.int 1) M = .ok (.int (w.den : Int)) M := s_ixT M (n := 1) rfl
  have hw0 : w.den ≠ 0 := w.den_nz
  have cd : CDivB (B : Int) (w.den : Int) := cdiv_ok (by omega) (by rw [Int.natAbs_natCast]; exact Nat.lt_of_lt_of_le (log_lt hL hL2 hw.den) (Nat.pow_le_pow_right (by decide) (by decide)))
  have nb : w.num.natAbs < 2 ^ 7000 := Nat.lt_of_le_of_lt hw.num (Nat.lt_of_lt_of_le (Nat.mul_lt_mul'' hA (log_lt hL hL2 hw.den)) (by rw [← Nat.pow_add]; exact Nat.pow_le_pow_right (by decide) (by decide)))
  have qb : B / w.den < 2 ^ 5000 := Nat.lt_of_le_of_lt (Nat.div_le_self _ _) (log_lt hL hL2 hB)
  have cm : CMulB w.num ((B : Int) / (w.den : Int)) := by
    rw [← Int.natCast_ediv]
    exact cmul_ok nb (by rw [Int.natAbs_natCast]; exact qb) (by decide)
  have q : fnM 2 g_top_over [fD w, .int (B : Int)] M = .ok (.int (topOf B w)) M := by
    unfold topOf
    rw [Int.natCast_ediv]
    simp [fnM, g_top_over, startD, i0, i1, cd, cm]
  have e9 : m_top_over [fD w, .int (B : Int)] M = cutR M.length (fnM 2 g_top_over [fD w, .int (B : Int)] M) := rfl
  rw [e9, q]
  exact cut_same wf rfl
theorem common_eq (hL : L ≠ 0) (hL2 : L < 2 ^ 5000) (hA : A < 2 ^ 1000) {ws : List Rat} (hn : ws.length ≤ 1000) (hw : ∀ w ∈ ws, Bnd L A w) (wf : WF M) :
    m_common [.tup (ws.map fD)] M = .ok (.tup [.lst ((ws.map (topOf (lcmF 1 ws))).map D.int), .int ((lcmF 1 ws : Nat) : Int)]) M := by
  have hd := lcmF_dvd ws 1 (Nat.one_dvd L) fun w h => (hw w h).den
  have h0 := lcmF_ne ws 1 (by decide)
  obtain ⟨y2, e⟩ := common_loop hL hL2 (some (.tup (ws.map fD))) (M := M) ws 1 none (Nat.one_dvd L) fun w h => (hw w h).den
  have e' : forL (fun _ => True) (gtName 2) (gSet 1 (gCall oLcm (gACons (gVar 1) (gACons (gOp oIx (gVar 2) (gC (.int 1))) (gANil))))) (ws.map fD) [some (.tup (ws.map fD)), some (.int 1), none] M = .nx [some (.tup (ws.map fD)), some (.int ((lcmF 1 ws : Nat) : Int)), y2] M := e
  have lm := lcL_map (gd := fun _ => True) (gg := gtName 2) (ge := gCall m_top_over (gACons (gVar 2) (gACons (gVar 1) (gANil)))) (δ := [some (.tup (ws.map fD)), some (.int ((lcmF 1 ws : Nat) : Int)), none]) (M := M) (em := fD) (f := fun w => D.int (topOf (lcmF 1 ws) w)) trivial ws [] (by simp; omega) (fun w h => ⟨[some (.tup (ws.map fD)), some (.int ((lcmF 1 ws : Nat) : Int)), some (fD w)], rfl, by
    have := top_over_eq hL hL2 hA (hw w h) hd h0 (lcmF_all ws 1 w h) wf
    simp only [s_gCall, s_gACons, s_gVar, s_gANil, List.getElem?_cons_zero, List.getElem?_cons_succ, KM.R.bind_ok, this]⟩)
  rw [List.nil_append] at lm
  have q : g_common (startD 3 [.tup (ws.map fD)]) M = .rt (.tup [.lst ((ws.map (topOf (lcmF 1 ws))).map D.int), .int ((lcmF 1 ws : Nat) : Int)]) M := by
    have st : startD 3 [.tup (ws.map fD)] = [some (.tup (ws.map fD)), none, none] := rfl
    have em : (ws.map fun w => D.int (topOf (lcmF 1 ws) w)) = (ws.map (topOf (lcmF 1 ws))).map D.int := by rw [List.map_map]; rfl
    rw [em] at lm
    have b2 : ∀ x y : D, bigN [x, y].length := fun x y => by unfold bigN; simp
    rw [st]
    simp only [g_common, s_gSeq, s_gSet, s_gC, KM.R.toS_ok, List.set, SR.then_nx, s_gFor, s_giSeq, s_gVar, List.getElem?_cons_zero, List.getElem?_cons_succ, KM.R.bind_ok, s_tupOf, s_itT, s_itTg, e', s_gRet, s_gETup, s_gACons, s_gLcG, s_gANil, wipeD]
    simp only [wipeD, List.set, lm, KM.R.bind_ok, finI, if_pos (b2 _ _), KM.R.toS_ok]
  have e9 : m_common [.tup (ws.map fD)] M = cutR M.length (fnM 3 g_common [.tup (ws.map fD)] M) := rfl
  rw [e9]
  unfold fnM
  rw [q]
  refine cut_same wf ?_
  show (D.los M.length ((ws.map (topOf (lcmF 1 ws))).map D.int) && true) = true
  have : ∀ xs : List Int, D.los M.length (xs.map D.int) = true := by
    intro xs
    induction xs with
    | nil => rfl
    | cons x xs ih =>
      rw [List.map_cons]
      unfold D.los
      rw [ih]
      rfl
  rw [this]
  rfl
/-! ### the lot -/
def enumP : Nat → List Int → List (Int × Int)
  | _, [] => []
  | i, t :: ts => (-t, (i : Int)) :: enumP (i + 1) ts
theorem enumP_len : ∀ (ts : List Int) (i : Nat), (enumP i ts).length = ts.length
  | [], _ => rfl
  | t :: ts, i => by
    unfold enumP
    rw [List.length_cons, List.length_cons, enumP_len ts]
theorem enum_comp {δ : KM.Ctx} (d5 : 6 < δ.length) : ∀ (ts : List Int) (i : Nat) (acc : List (Int × Int)), acc.length + ts.length ≤ 1000 →
    lcL (fun _ => True) (gtTup 2 (gtCons (gtName 5) (gtCons (gtName 6) (gtNil)))) gYes (gETup (gACons (gUn oNeg (gVar 6)) (gACons (gVar 5) (gANil)))) δ (enumD i (ts.map D.int)) (acc.map pD) M = .ok ((acc ++ enumP i ts).map pD) M
  | [], i, acc, _ => by simp [enumD, enumP, lcL]
  | t :: ts, i, acc, hl => by
    rw [List.length_cons] at hl
    have ih := enum_comp d5 ts (i + 1) (acc ++ [(-t, (i : Int))]) (by simp; omega)
    have g6 : ((δ.set 5 (some (.int (i : Int)))).set 6 (some (.int t)))[6]? = some (some (.int t)) := List.getElem?_set_self (by rw [List.length_set]; exact d5)
    have g5 : ((δ.set 5 (some (.int (i : Int)))).set 6 (some (.int t)))[5]? = some (some (.int (i : Int))) := by
      rw [List.getElem?_set_ne (by decide)]
      exact List.getElem?_set_self (by omega)
    have b2 : ∀ x y : D, bigN [x, y].length := fun x y => by unfold bigN; simp
    have b2n : bigN (0 + 1 + 1) := by unfold bigN; omega
    have bs : bigS (acc.map pD).length := by rw [List.length_map]; unfold bigS; omega
    rw [List.map_cons]
    unfold enumD enumP lcL
    rw [if_pos trivial]
    simp only [s_gtTup, s_gtCons, s_gtName, s_gtNil, gYes, if_true, s_gETup, s_gACons, s_gUn, s_gVar, g6, g5, KM.R.bind_ok, s_negI, s_gANil, List.length_cons, List.length_nil, if_pos b2n, if_pos bs]
    rw [List.map_append, List.map_singleton] at ih
    rw [show acc ++ (-t, (i : Int)) :: enumP (i + 1) ts = acc ++ [(-t, (i : Int))] ++ enumP (i + 1) ts by simp]
    exact ih
theorem prsD_map : ∀ ps : List (Int × Int), prsD (ps.map pD) = some ps
  | [] => rfl
  | p :: ps => by
    rw [List.map_cons]
    show (prsD (ps.map pD)).map _ = _
    rw [prsD_map ps]
    rfl
noncomputable abbrev lB : GS := gSeq (gSet 7 (gOp oSub (gVar 1) (gVar 4)))
    (gSeq (gIf (gAnd (gTru (gVar 2)) (gTest (gOp oLe (gOp oMul (gVar 7) (gCall oLen (gACons (gVar 2) (gANil)))) (gVar 3)))) (gBreak) (gNext))
    (gSeq (gDrop (gBM oAppend (gVar 2) (gACons (gVar 5) (gANil))))
    (gSet 3 (gOp oAdd (gVar 3) (gVar 7)))))
theorem lot_loop (B : Int) (x0 x6 : Option D) : ∀ (r : List (Int × Int)) (lot : List Int) (most : Int) (x4 x5 x7 : Option D), lot.length + r.length ≤ 1000 →
    ∃ y4 y5 y7, forL (fun _ => True) (gtTup 2 (gtCons (gtName 4) (gtCons (gtName 5) (gtNil)))) lB (r.map pD) [x0, some (.int B), some (.ref M.length), some (.int most), x4, x5, x6, x7] (M ++ [.lst (lot.map D.int)]) =
      .nx [x0, some (.int B), some (.ref M.length), some (.int (lotF B r lot most).2), y4, y5, x6, y7] (M ++ [.lst ((lotF B r lot most).1.map D.int)])
  | [], lot, most, x4, x5, x7, _ => ⟨x4, x5, x7, by simp [forL, lotF]⟩
  | p :: r, lot, most, x4, x5, x7, hl => by
    rw [List.length_cons] at hl
    have lo := s_listOf_ref (M ++ [.lst (lot.map D.int)]) (get_last M _)
    have ln : oLen [.ref M.length] (M ++ [.lst (lot.map D.int)]) = .ok (.int (lot.length : Int)) (M ++ [.lst (lot.map D.int)]) := by
      unfold oLen
      simp only [s_tupOf_ref, lo, List.length_map]
    have cm : CMulB (B - p.1) (lot.length : Int) := cmul_r (by omega) (by omega)
    have tr : trD (M ++ [.lst (lot.map D.int)]) (.ref M.length) = some (!lot.isEmpty) := by
      unfold trD
      simp only [lo]
      cases lot <;> rfl
    unfold lotF
    rw [List.map_cons]
    by_cases c : lot ≠ [] ∧ (B - p.1) * (lot.length : Int) ≤ most
    · refine ⟨some (.int p.1), some (.int p.2), some (.int (B - p.1)), ?_⟩
      rw [if_pos c]
      have te : (!lot.isEmpty) = true := by
        cases lot with
        | nil => exact absurd rfl c.1
        | cons _ _ => rfl
      rw [te] at tr
      unfold forL
      rw [if_pos trivial]
      simp only [pD, s_gtTup, s_gtCons, s_gtName, s_gtNil, List.length_cons, List.length_nil, if_true, lB, s_gSeq, s_gSet, s_gOp, s_gVar, List.set, List.getElem?_cons_zero, List.getElem?_cons_succ, KM.R.bind_ok, s_subI, KM.R.toS_ok, SR.then_nx, s_gIf, s_gAnd, s_gTru, tr, s_gTest, s_gCall, s_gACons, s_gANil, ln, s_mulI, if_pos cm, s_leI, decide_eq_true c.2, s_gBreak, SR.then_bk]
    · rw [if_neg c]
      obtain ⟨y4, y5, y7, e⟩ := lot_loop B x0 x6 r (lot ++ [p.2]) (most + (B - p.1)) (some (.int p.1)) (some (.int p.2)) (some (.int (B - p.1))) (by simp; omega)
      refine ⟨y4, y5, y7, ?_⟩
      have ap := oAppend_eq (M := M ++ [.lst (lot.map D.int)]) (k := M.length) (get_last M _) (by simp; omega) (.int p.2)
      rw [put_last] at ap
      rw [List.map_append, List.map_singleton] at e
      unfold forL
      rw [if_pos trivial]
      by_cases te : lot = []
      · subst te
        have tr' : trD (M ++ [.lst (([] : List Int).map D.int)]) (.ref M.length) = some false := tr
        simp only [pD, s_gtTup, s_gtCons, s_gtName, s_gtNil, List.length_cons, List.length_nil, if_true, lB, s_gSeq, s_gSet, s_gOp, s_gVar, List.set, List.getElem?_cons_zero, List.getElem?_cons_succ, KM.R.bind_ok, s_subI, KM.R.toS_ok, SR.then_nx, s_gIf, s_gAnd, s_gTru, tr', Bool.false_eq_true, if_false, s_gNext, s_gDrop, s_gBM, lo, s_gACons, s_gANil, ap, s_addI]
        exact e
      · have te2 : (!lot.isEmpty) = true := by
          cases lot with
          | nil => exact absurd rfl te
          | cons _ _ => rfl
        have nc : ¬ (B - p.1) * (lot.length : Int) ≤ most := fun h => c ⟨te, h⟩
        rw [te2] at tr
        simp only [pD, s_gtTup, s_gtCons, s_gtName, s_gtNil, List.length_cons, List.length_nil, if_true, lB, s_gSeq, s_gSet, s_gOp, s_gVar, List.set, List.getElem?_cons_zero, List.getElem?_cons_succ, KM.R.bind_ok, s_subI, KM.R.toS_ok, SR.then_nx, s_gIf, s_gAnd, s_gTru, tr, s_gTest, s_gCall, s_gACons, s_gANil, ln, s_mulI, if_pos cm, s_leI, decide_eq_false nc, Bool.false_eq_true, if_false, s_gNext, s_gDrop, s_gBM, lo, ap, s_addI]
        exact e
end
end K11
set_option linter.all false
set_option maxRecDepth 100000
set_option maxHeartbeats 4000000
namespace K11
open PySem L2 KM LV
theorem los_mapD {α : Type} {f : α → D} {n : Nat} (h : ∀ x, D.lo n (f x) = true) (xs : List α) : D.los n (xs.map f) = true := by
  induction xs with
  | nil => rfl
  | cons x xs ih =>
    rw [List.map_cons]
    unfold D.los
    rw [h x, ih]
    rfl
theorem intsD_lst (xs : List Int) : intsD (xs.map D.int) = some xs := by
  induction xs with
  | nil => rfl
  | cons x xs ih =>
    rw [List.map_cons]
    unfold intsD
    rw [ih]
    rfl
section
variable {L A : Nat} {M : List MO}
/-- best_lot tells the letters of the first part of the sorted pairs -/
theorem best_lot_eq {B : Int} (hB : 0 < B) {ts : List Int} (h1 : ts ≠ []) (hn : ts.length ≤ 100) (wf : WF M) : ∃ S1 S2, srtP (enumP 0 ts) = S1 ++ S2 ∧ LotOk B S1 S2 ∧
    m_best_lot [.lst (ts.map D.int), .int B] M = .ok (.tup [.tup ((srtI (S1.map fun p => p.2)).map D.int), .int (sumB B S1 - B)]) M := by
  have hs := srtP_sorted (enumP 0 ts)
  have hs2 : (srtP (enumP 0 ts)).Pairwise (fun p q => p.1 ≤ q.1) := hs.imp fun h => by
    rw [SrtO.lexB_no] at h
    omega
  have hl : (srtP (enumP 0 ts)).length = ts.length := by rw [(srtP_perm _).length_eq, enumP_len]
  obtain ⟨S1, S2, g1, g2, g3⟩ := lotF_spec hB (srtP (enumP 0 ts)) [] (fun p hp => by cases hp) hs2 (fun p hp => by cases hp) (by
    intro e
    rw [List.nil_append] at e
    rw [e] at hl
    exact h1 (List.eq_nil_of_length_eq_zero hl.symm))
  refine ⟨S1, S2, by simpa using g1, g3, ?_⟩
  have g2' : lotF B (srtP (enumP 0 ts)) [] (-B) = (S1.map fun p => p.2, sumB B S1 - B) := by
    have : sumB B [] - B = -B := by simp [sumB]
    rw [← this]
    exact g2
  have ec := enum_comp (M := M ++ [.lst []]) (δ := [some (.lst (ts.map D.int)), some (.int B), some (.ref M.length), some (.int (-B)), none, none, none, none]) (show 6 < 8 by decide) ts 0 [] (by simp; omega)
  rw [List.nil_append, List.map_nil] at ec
  obtain ⟨y4, y5, y7, el⟩ := lot_loop (M := M) B (some (.lst (ts.map D.int))) none (srtP (enumP 0 ts)) [] (-B) none none none (by simp; omega)
  rw [g2'] at el
  have el' : forL (fun _ => True) (gtTup 2 (gtCons (gtName 4) (gtCons (gtName 5) (gtNil)))) lB ((srtP (enumP 0 ts)).map pD) [some (.lst (ts.map D.int)), some (.int B), some (.ref M.length), some (.int (-B)), none, none, none, none] (M ++ [.lst []]) =
      .nx [some (.lst (ts.map D.int)), some (.int B), some (.ref M.length), some (.int (sumB B S1 - B)), y4, y5, none, y7] (M ++ [.lst ((S1.map fun p => p.2).map D.int)]) := el
  have sp : oSortedP [.lst ((enumP 0 ts).map pD)] (M ++ [.lst []]) = .ok (.lst ((srtP (enumP 0 ts)).map pD)) (M ++ [.lst []]) := by
    unfold oSortedP
    simp only [s_listOf_lst, prsD_map]
  have lo := s_listOf_ref (M ++ [.lst ((S1.map fun p => p.2).map D.int)]) (get_last M _)
  have so : oSorted [.ref M.length] (M ++ [.lst ((S1.map fun p => p.2).map D.int)]) = .ok (.lst ((srtI (S1.map fun p => p.2)).map D.int)) (M ++ [.lst ((S1.map fun p => p.2).map D.int)]) := by
    unfold oSorted
    simp only [lo, intsD_lst]
  have ln1 : KM.listOf (M ++ [.lst []]) (.lst ((srtP (enumP 0 ts)).map pD)) = some ((srtP (enumP 0 ts)).map pD) := rfl
  have gd1 : gdOf (.lst ((srtP (enumP 0 ts)).map pD)) ((srtP (enumP 0 ts)).map pD) = fun _ => True := rfl
  have b0 : bigN ([] : List D).length := by unfold bigN; simp
  have b2 : ∀ x y : D, bigN [x, y].length := fun x y => by unfold bigN; simp
  have st : startD 8 [.lst (ts.map D.int), .int B] = [some (.lst (ts.map D.int)), some (.int B), none, none, none, none, none, none] := rfl
  have ge : ∀ δ M', giEnum (gACons (gVar 0) gANil) ((some (.lst (ts.map D.int))) :: δ) M' = .ok (itT (enumD 0 (ts.map D.int))) M' := fun δ M' => rfl
  have q : g_best_lot (startD 8 [.lst (ts.map D.int), .int B]) M = .rt (.tup [.tup ((srtI (S1.map fun p => p.2)).map D.int), .int (sumB B S1 - B)]) (M ++ [.lst ((S1.map fun p => p.2).map D.int)]) := by
    rw [st]
    simp only [g_best_lot, s_gSeq, s_gSet, s_gLstM, s_gANil, KM.R.bind_ok, if_pos b0, KM.R.toS_ok, List.set, SR.then_nx, s_gUn, s_gVar, List.getElem?_cons_zero, List.getElem?_cons_succ, s_negI, s_gFor, s_giSeq, s_gCall, s_gACons, s_gLcG, ge, s_itT, s_itTg, wipeD]
    simp only [wipeD, List.set, ec, KM.R.bind_ok, finI, sp, s_tupOf_lst, ln1, gd1, KM.R.toS_ok, el', SR.then_nx, s_gRet, s_gETup, s_gACons, s_gCall, s_gVar, s_gANil, List.getElem?_cons_zero, List.getElem?_cons_succ, so, s_oTuple_lst, if_pos (b2 _ _)]
  have e9 : m_best_lot [.lst (ts.map D.int), .int B] M = cutR M.length (fnM 8 g_best_lot [.lst (ts.map D.int), .int B] M) := rfl
  rw [e9]
  unfold fnM
  rw [q]
  refine cut_to rfl wf ?_ (by simp)
  show (D.los M.length ((srtI (S1.map fun p => p.2)).map D.int) && (true && true)) = true
  rw [los_mapD (fun _ => rfl)]
  rfl
/-! ### worths -/
theorem is_worths_eq {ws : List Rat} (h2 : 2 ≤ ws.length) (h4 : ws.length ≤ 4) (wf : WF M) : m_is_worths [.tup (ws.map fD)] M = .ok (.bl true) M := by
  have lm := lcL_map (gd := fun _ => True) (gg := gtName 1) (ge := gCall m_is_fraction (gACons (gVar 1) (gANil))) (δ := [some (.tup (ws.map fD)), none]) (M := M) (em := fD) (f := fun _ => D.bl true) trivial ws [] (by simp; omega) (fun w _ => ⟨[some (.tup (ws.map fD)), some (fD w)], rfl, by
    simp only [s_gCall, s_gACons, s_gVar, s_gANil, List.getElem?_cons_zero, List.getElem?_cons_succ, KM.R.bind_ok, is_fraction_fr wf]⟩)
  rw [List.nil_append] at lm
  have al := oAll_map (fun _ : Rat => true) ws M
  have at_ : (ws.map fun _ => true).all id = true := by simp
  rw [at_] at al
  have l1 : (2 : Int) ≤ (ws.length : Int) := by omega
  have l2 : (ws.length : Int) ≤ 4 := by omega
  have ln : oLen [.tup (ws.map fD)] M = .ok (.int (ws.length : Int)) M := by rw [s_oLen_tup, List.length_map]
  have q : fnM 2 g_is_worths [.tup (ws.map fD)] M = .ok (.bl true) M := by
    simp [fnM, g_is_worths, startD, ln, l1, l2, wipeD, lm, finI, al]
  have e9 : m_is_worths [.tup (ws.map fD)] M = cutR M.length (fnM 2 g_is_worths [.tup (ws.map fD)] M) := rfl
  rw [e9, q]
  exact cut_same wf rfl
/-- the worths over one bottom -/
theorem rp_top {B : Nat} (hB : B ≠ 0) {w : Rat} (hd : w.den ∣ B) (i : Int) : rp (B : Int) (-(topOf B w), i) = w + 1 := by
  unfold rp topOf
  obtain ⟨k, hk⟩ := hd
  have hw : w.den ≠ 0 := w.den_nz
  have ek : B / w.den = k := by rw [hk]; exact Nat.mul_div_cancel_left k (Nat.pos_of_ne_zero hw)
  rw [ek]
  have hb : ((B : Int) : Rat) ≠ 0 := by exact_mod_cast hB
  have e1 : (((B : Int) - (-(w.num * (k : Int)), i).1 : Int) : Rat) = ((B : Int) : Rat) + (w.num : Rat) * ((k : Int) : Rat) := by
    show (((B : Int) - -(w.num * (k : Int)) : Int) : Rat) = _
    rw [Int.sub_neg, Rat.intCast_add, Rat.intCast_mul]
  have e2 : ((B : Int) : Rat) = ((w.den : Int) : Rat) * ((k : Int) : Rat) := by
    rw [← Rat.intCast_mul, ← Int.natCast_mul, ← hk]
  have e3 : (w.num : Rat) = w * ((w.den : Int) : Rat) := by
    have hd : ((w.den : Int) : Rat) ≠ 0 := by exact_mod_cast hw
    have h4 : (w.num : Rat) / ((w.den : Int) : Rat) = w := (Rat.divInt_eq_div w.num (w.den : Int)).symm.trans (Rat.num_divInt_den w)
    rw [Rat.div_def] at h4
    have h6 : ((w.den : Int) : Rat) * ((w.den : Int) : Rat)⁻¹ = 1 := Rat.mul_inv_cancel _ hd
    grind
  rw [e1, Rat.div_def, e3]
  have h6 : ((B : Int) : Rat) * ((B : Int) : Rat)⁻¹ = 1 := Rat.mul_inv_cancel _ hb
  grind
end
end K11
set_option linter.all false
set_option maxRecDepth 100000
set_option maxHeartbeats 4000000
namespace K11
open PySem L2 KM LV
def lotFrom : Int → List Rat → Rat → List Int
  | _, [], _ => []
  | i, w :: ws, v => if v < w + 1 then i :: lotFrom (i + 1) ws v else lotFrom (i + 1) ws v
theorem lotFrom_ge : ∀ (ws : List Rat) (i : Int) (v : Rat), ∀ x ∈ lotFrom i ws v, i ≤ x
  | [], i, v, x, h => by cases h
  | w :: ws, i, v, x, h => by
    unfold lotFrom at h
    split at h
    · rcases List.mem_cons.mp h with e | e
      · omega
      · have := lotFrom_ge ws (i + 1) v x e
        omega
    · have := lotFrom_ge ws (i + 1) v x h
      omega
theorem lotFrom_srt : ∀ (ws : List Rat) (i : Int) (v : Rat), (lotFrom i ws v).Pairwise (· ≤ ·)
  | [], i, v => List.Pairwise.nil
  | w :: ws, i, v => by
    unfold lotFrom
    split
    · exact List.pairwise_cons.mpr ⟨fun x hx => by have := lotFrom_ge ws (i + 1) v x hx; omega, lotFrom_srt ws (i + 1) v⟩
    · exact lotFrom_srt ws (i + 1) v
theorem add_eq (p q : Rat) : p + q = Rat.divInt (p.num * q.den + q.num * p.den) ((p.den * q.den : Nat) : Int) := by
  have h1 : (p.den : Int) ≠ 0 := by have := p.den_pos; omega
  have h2 : (q.den : Int) ≠ 0 := by have := q.den_pos; omega
  have := Rat.divInt_add_divInt p.num q.num h1 h2
  rw [Rat.num_divInt_den, Rat.num_divInt_den] at this
  rw [this, Int.natCast_mul]
theorem dd_ne (p q : Rat) : p.den * q.den ≠ 0 := Nat.mul_ne_zero p.den_nz q.den_nz
theorem Bnd.zero (L : Nat) : Bnd L 0 0 := ⟨Nat.one_dvd _, by decide⟩
theorem Bnd.mono {L A A' : Nat} {q : Rat} (h : Bnd L A q) (hA : A ≤ A') : Bnd L A' q := ⟨h.den, Nat.le_trans h.num (Nat.mul_le_mul_right _ hA)⟩
theorem divInt_dvd {t : Int} {L : Nat} (hL : L ≠ 0) : (Rat.divInt t L).den ∣ L := by
  rw [← norm_div hL, Rat.normalize_eq]
  exact Nat.div_dvd_of_dvd (Nat.gcd_dvd_right _ _)
theorem divInt_num {t : Int} {b A : Nat} (hb : b ≠ 0) (h : t.natAbs ≤ A * b) : (Rat.divInt t b).num.natAbs ≤ A * (Rat.divInt t b).den := by
  rw [← norm_div hb, Rat.normalize_eq]
  simp only [Int.natAbs_ediv_of_dvd (show ((t.natAbs.gcd b : Nat) : Int) ∣ t from Int.natAbs_dvd_natAbs.mp (Nat.gcd_dvd_left _ _))]
  rw [Int.natAbs_natCast]
  have hg : 0 < t.natAbs.gcd b := Nat.gcd_pos_of_pos_right _ (Nat.pos_of_ne_zero hb)
  obtain ⟨b', eb⟩ := Nat.gcd_dvd_right t.natAbs b
  obtain ⟨t', et⟩ := Nat.gcd_dvd_left t.natAbs b
  have e1 : b / t.natAbs.gcd b = b' := Nat.div_eq_of_eq_mul_right hg eb
  have e2 : t.natAbs / t.natAbs.gcd b = t' := Nat.div_eq_of_eq_mul_right hg et
  rw [e1, e2]
  refine Nat.le_of_mul_le_mul_left ?_ hg
  rw [← et]
  calc t.natAbs ≤ A * b := h
    _ = A * (t.natAbs.gcd b * b') := by rw [← eb]
    _ = t.natAbs.gcd b * (A * b') := by rw [Nat.mul_left_comm]
theorem over_L {L : Nat} (hL : L ≠ 0) {q : Rat} (h : q.den ∣ L) : ∃ x : Int, q = Rat.divInt x L := by
  obtain ⟨k, e⟩ := h
  refine ⟨q.num * k, ?_⟩
  have hk : k ≠ 0 := fun z => hL (by rw [e, z, Nat.mul_zero])
  rw [e, Int.natCast_mul, Rat.divInt_mul_right (by omega)]
  exact (Rat.num_divInt_den q).symm
theorem Bnd.add {L A A' : Nat} (hL : L ≠ 0) {p q : Rat} (hp : Bnd L A p) (hq : Bnd L A' q) : Bnd L (A + A') (p + q) := by
  constructor
  · obtain ⟨x, ex⟩ := over_L hL hp.den
    obtain ⟨y, ey⟩ := over_L hL hq.den
    rw [ex, ey, divInt_same (by omega)]
    exact divInt_dvd hL
  · rw [add_eq]
    refine divInt_num (dd_ne p q) ?_
    have a1 := Int.natAbs_add_le (p.num * q.den) (q.num * p.den)
    rw [Int.natAbs_mul, Int.natAbs_mul, Int.natAbs_natCast, Int.natAbs_natCast] at a1
    have b1 := Nat.mul_le_mul_right q.den hp.num
    have b2 := Nat.mul_le_mul_right p.den hq.num
    have e : (A + A') * (p.den * q.den) = A * p.den * q.den + A' * q.den * p.den := by
      rw [Nat.add_mul]
      congr 1
      · rw [Nat.mul_assoc]
      · rw [Nat.mul_assoc, Nat.mul_comm q.den]
    omega
section
variable {L A : Nat} {M : List MO}
theorem enum_F {B : Nat} (hB : B ≠ 0) (v : Rat) : ∀ (ws : List Rat) (i : Nat), (∀ w ∈ ws, w.den ∣ B) → sq ((enumP i (ws.map (topOf B))).map fun p => mx (rp (B : Int) p - v)) = Fv ws v
  | [], i, _ => rfl
  | w :: ws, i, h => by
    have ih := enum_F hB v ws (i + 1) fun x hx => h x (List.mem_cons_of_mem _ hx)
    show mx (rp (B : Int) (-(topOf B w), (i : Int)) - v) + sq ((enumP (i + 1) (ws.map (topOf B))).map fun p => mx (rp (B : Int) p - v)) = mx (w + 1 - v) + Fv ws v
    rw [ih, rp_top hB (h w (List.mem_cons_self ..))]
theorem enum_lot {B : Nat} (hB : B ≠ 0) (v : Rat) : ∀ (ws : List Rat) (i : Nat), (∀ w ∈ ws, w.den ∣ B) → ((enumP i (ws.map (topOf B))).filter fun p => decide (v < rp (B : Int) p)).map (fun p => p.2) = lotFrom (i : Int) ws v
  | [], i, _ => rfl
  | w :: ws, i, h => by
    have ih := enum_lot hB v ws (i + 1) fun x hx => h x (List.mem_cons_of_mem _ hx)
    have e := rp_top hB (h w (List.mem_cons_self ..)) (i : Int)
    have ec : ((i + 1 : Nat) : Int) = (i : Int) + 1 := by omega
    rw [ec] at ih
    rw [List.map_cons]
    unfold enumP lotFrom
    by_cases c : v < w + 1
    · rw [if_pos c, List.filter_cons_of_pos (by rw [e]; exact decide_eq_true c), List.map_cons, ih]
    · rw [if_neg c, List.filter_cons_of_neg (by rw [e]; simpa using c), ih]
/-- the level of worths -/
theorem lot_eq (hL : L ≠ 0) (hL2 : L < 2 ^ 5000) (hA : A < 2 ^ 1000) {ws : List Rat} (h2 : 2 ≤ ws.length) (h4 : ws.length ≤ 4) (hw : ∀ w ∈ ws, Bnd L A w) (wf : WF M) :
    ∃ (S1 : List (Int × Int)) (v : Rat), m_best_lot [.lst ((ws.map (topOf (lcmF 1 ws))).map D.int), .int ((lcmF 1 ws : Nat) : Int)] M = .ok (.tup [.tup ((lotFrom 0 ws v).map D.int), .int (sumB ((lcmF 1 ws : Nat) : Int) S1 - ((lcmF 1 ws : Nat) : Int))]) M ∧
      (lotFrom 0 ws v).length = S1.length ∧ 1 ≤ S1.length ∧ S1.length ≤ 4 ∧ Rat.divInt (sumB ((lcmF 1 ws : Nat) : Int) S1 - ((lcmF 1 ws : Nat) : Int)) ((S1.length * lcmF 1 ws : Nat) : Int) = v ∧ Fv ws v = 1 := by
  have hd : lcmF 1 ws ∣ L := lcmF_dvd ws 1 (Nat.one_dvd L) fun w h => (hw w h).den
  have h0 : lcmF 1 ws ≠ 0 := lcmF_ne ws 1 (by decide)
  have hall : ∀ w ∈ ws, w.den ∣ lcmF 1 ws := lcmF_all ws 1
  generalize lcmF 1 ws = B at hd h0 hall
  obtain ⟨S1, S2, g1, g2, g3⟩ := best_lot_eq (M := M) (B := (B : Int)) (by omega) (ts := ws.map (topOf B)) (by
    intro e
    have := congrArg List.length e
    rw [List.length_map] at this
    have h3 : ws.length = 0 := this
    omega) (by rw [List.length_map]; omega) wf
  have hk : 1 ≤ S1.length := List.length_pos_iff.mpr g2.ne
  have hlen : S1.length + S2.length = ws.length := by
    have := congrArg List.length g1
    rw [(srtP_perm _).length_eq, enumP_len, List.length_map, List.length_append] at this
    omega
  have hkb : ((S1.length * B : Nat) : Int) ≠ 0 := by
    have : S1.length * B ≠ 0 := Nat.mul_ne_zero (by omega) h0
    omega
  have hv : Rat.divInt (sumB (B : Int) S1 - (B : Int)) ((S1.length * B : Nat) : Int) * (((S1.length : Int) : Rat) * ((B : Int) : Rat)) = ((sumB (B : Int) S1 - (B : Int) : Int) : Rat) := by
    rw [Rat.divInt_eq_div, ← Rat.intCast_mul, ← Int.natCast_mul, Rat.div_def]
    have h7 : (((S1.length * B : Nat) : Int) : Rat) ≠ 0 := by exact_mod_cast hkb
    have h6 : (((S1.length * B : Nat) : Int) : Rat) * (((S1.length * B : Nat) : Int) : Rat)⁻¹ = 1 := Rat.mul_inv_cancel _ h7
    grind
  obtain ⟨r1, r2, r3⟩ := root (B := (B : Int)) (by omega) g2 hv
  generalize hvv : Rat.divInt (sumB (B : Int) S1 - (B : Int)) ((S1.length * B : Nat) : Int) = v at hv r1 r2 r3
  have pm : (S1 ++ S2).Perm (enumP 0 (ws.map (topOf B))) := by rw [← g1]; exact srtP_perm _
  have fv : Fv ws v = 1 := by
    rw [← enum_F h0 v ws 0 hall, ← r1]
    exact (sq_perm (pm.map _)).symm
  have fl : (S1 ++ S2).filter (fun p => decide (v < rp (B : Int) p)) = S1 := by
    rw [List.filter_append, List.filter_eq_self.mpr fun p hp => decide_eq_true (r2 p hp), List.filter_eq_nil_iff.mpr fun p hp => by
      have := r3 p hp
      simp
      grind, List.append_nil]
  have lp : (S1.map fun p => p.2).Perm (lotFrom 0 ws v) := by
    have h5 := ((pm.filter (fun p => decide (v < rp (B : Int) p))).map fun p => p.2)
    rw [fl] at h5
    have h6 := enum_lot h0 v ws 0 hall
    have z : ((0 : Nat) : Int) = 0 := rfl
    rw [z] at h6
    rw [h6] at h5
    exact h5
  have sl : srtI (S1.map fun p => p.2) = lotFrom 0 ws v := List.Perm.eq_of_pairwise (le := (· ≤ ·)) (fun a b _ _ h1 h2 => Int.le_antisymm h1 h2) (srtI_sorted _) (lotFrom_srt ws 0 v) ((srtI_perm _).trans lp)
  rw [sl] at g3
  refine ⟨S1, v, g3, ?_, hk, by omega, hvv, fv⟩
  rw [← lp.length_eq, List.length_map]
theorem level_eq (hL : L ≠ 0) (hL2 : L < 2 ^ 5000) (hA : A < 2 ^ 1000) {ws : List Rat} (h2 : 2 ≤ ws.length) (h4 : ws.length ≤ 4) (hw : ∀ w ∈ ws, Bnd L A w) (wf : WF M) :
    ∃ v : Rat, m_level [.tup (ws.map fD)] M = .ok (fD v) M ∧ m_even_lot [.tup (ws.map fD)] M = .ok (.tup ((lotFrom 0 ws v).map D.int)) M ∧ Fv ws v = 1 ∧ v.den ∣ 12 * L := by
  obtain ⟨S1, v, e1, e2, k1, k4, e3, fv⟩ := lot_eq hL hL2 hA h2 h4 hw wf
  have ce := common_eq hL hL2 hA (ws := ws) (by omega) hw wf
  have iw := is_worths_eq h2 h4 wf
  have hd : lcmF 1 ws ∣ L := lcmF_dvd ws 1 (Nat.one_dvd L) fun w h => (hw w h).den
  have h0 : lcmF 1 ws ≠ 0 := lcmF_ne ws 1 (by decide)
  have hB := log_lt hL hL2 hd
  generalize lcmF 1 ws = B at *
  have hkb : S1.length * B ≠ 0 := Nat.mul_ne_zero (by omega) h0
  have hkl : (S1.length * B).log2 < 9000 := by
    have : S1.length * B < 2 ^ 6000 := Nat.lt_of_lt_of_le (Nat.mul_lt_mul'' (show S1.length < 2 ^ 3 by omega) hB) (by rw [← Nat.pow_add]; exact Nat.pow_le_pow_right (by decide) (by decide))
    exact Nat.lt_of_lt_of_le ((Nat.log2_lt hkb).mpr this) (by decide)
  have re := reduced_eq (t := sumB (B : Int) S1 - (B : Int)) hkb hkl wf
  rw [norm_div, e3] at re
  have cm : CMulB (S1.length : Int) (B : Int) := cmul_l (by omega) (by omega)
  have ek : ((S1.length : Int) * (B : Int)) = ((S1.length * B : Nat) : Int) := (Int.natCast_mul _ _).symm
  have ln : oLen [.tup ((lotFrom 0 ws v).map D.int)] M = .ok (.int (S1.length : Int)) M := by rw [s_oLen_tup, List.length_map, e2]
  refine ⟨v, ?_, ?_, fv, ?_⟩
  · have q : fnM 5 g_level [.tup (ws.map fD)] M = .ok (fD v) M := by
      have st : startD 5 [.tup (ws.map fD)] = [some (.tup (ws.map fD)), none, none, none, none] := rfl
      unfold fnM
      rw [st]
      simp only [g_level, s_gSeq, s_gIf, s_gNot, s_gTru, s_gCall, s_gACons, s_gANil, s_gVar, List.getElem?_cons_zero, List.getElem?_cons_succ, KM.R.bind_ok, iw, s_trB, KM.R.toS_ok, Bool.not_true, Bool.false_eq_true, if_false, s_gNext, SR.then_nx, s_gAsg, ce, s_gtTup, s_gtCons, s_gtName, s_gtNil, List.length_cons, List.length_nil, if_true, List.set, e1, s_gRet, s_gOp, ln, s_mulI, if_pos cm, ek, re]
    have e9 : m_level [.tup (ws.map fD)] M = cutR M.length (fnM 5 g_level [.tup (ws.map fD)] M) := rfl
    rw [e9, q]
    exact cut_same wf rfl
  · have i0 : ∀ x y : D, oIx (.tup [x, y]) (.int 0) M = .ok x M := fun x y => s_ixT M (n := 0) rfl
    have q : fnM 3 g_even_lot [.tup (ws.map fD)] M = .ok (.tup ((lotFrom 0 ws v).map D.int)) M := by
      have st : startD 3 [.tup (ws.map fD)] = [some (.tup (ws.map fD)), none, none] := rfl
      unfold fnM
      rw [st]
      simp only [g_even_lot, s_gSeq, s_gIf, s_gNot, s_gTru, s_gCall, s_gACons, s_gANil, s_gVar, List.getElem?_cons_zero, List.getElem?_cons_succ, KM.R.bind_ok, iw, s_trB, KM.R.toS_ok, Bool.not_true, Bool.false_eq_true, if_false, s_gNext, SR.then_nx, s_gAsg, ce, s_gtTup, s_gtCons, s_gtName, s_gtNil, List.length_cons, List.length_nil, if_true, List.set, e1, s_gRet, s_gOp, s_gC, i0]
    have e9 : m_even_lot [.tup (ws.map fD)] M = cutR M.length (fnM 3 g_even_lot [.tup (ws.map fD)] M) := rfl
    rw [e9, q]
    exact cut_same wf (los_mapD (fun _ => rfl) _)
  · have h1 : v.den ∣ S1.length * B := by
      rw [← e3]
      exact divInt_dvd hkb
    have h3 : S1.length ∣ 12 := by
      have : S1.length = 1 ∨ S1.length = 2 ∨ S1.length = 3 ∨ S1.length = 4 := by omega
      rcases this with h | h | h | h <;> rw [h] <;> decide
    exact Nat.dvd_trans h1 (Nat.mul_dvd_mul h3 hd)
end
end K11
set_option linter.all false
set_option maxRecDepth 100000
set_option maxHeartbeats 4000000
namespace K11
open PySem L2 KM LV
theorem num_eq (x : Rat) : (x.num : Rat) = x * ((x.den : Int) : Rat) := by
  have hd : ((x.den : Int) : Rat) ≠ 0 := by exact_mod_cast x.den_nz
  have h4 : (x.num : Rat) / ((x.den : Int) : Rat) = x := (Rat.divInt_eq_div x.num (x.den : Int)).symm.trans (Rat.num_divInt_den x)
  rw [Rat.div_def] at h4
  have h6 : ((x.den : Int) : Rat) * ((x.den : Int) : Rat)⁻¹ = 1 := Rat.mul_inv_cancel _ hd
  grind
theorem den_pos (x : Rat) : (0 : Rat) < ((x.den : Int) : Rat) := by
  have : (0 : Int) < (x.den : Int) := by have := x.den_nz; omega
  exact_mod_cast this
theorem num_le {x : Rat} {c : Int} (h : x ≤ (c : Rat)) : x.num ≤ c * (x.den : Int) := by
  have h1 : (x.num : Rat) ≤ ((c * (x.den : Int) : Int) : Rat) := by
    rw [num_eq, Rat.intCast_mul]
    exact Rat.mul_le_mul_of_nonneg_right h (Rat.le_of_lt (den_pos x))
  exact_mod_cast h1
theorem le_num {x : Rat} {c : Int} (h : (c : Rat) ≤ x) : c * (x.den : Int) ≤ x.num := by
  have h1 : ((c * (x.den : Int) : Int) : Rat) ≤ (x.num : Rat) := by
    rw [num_eq, Rat.intCast_mul]
    exact Rat.mul_le_mul_of_nonneg_right h (Rat.le_of_lt (den_pos x))
  exact_mod_cast h1
theorem of_num {x : Rat} {c : Int} (h : x.num ≤ c * (x.den : Int)) : x ≤ (c : Rat) := by
  apply Classical.byContradiction
  intro n
  have h1 : (x.num : Rat) ≤ ((c * (x.den : Int) : Int) : Rat) := by exact_mod_cast h
  rw [num_eq, Rat.intCast_mul] at h1
  have h2 := (Rat.mul_lt_mul_right (den_pos x)).mpr (show (c : Rat) < x by grind)
  grind
theorem of_num' {x : Rat} {c : Int} (h : c * (x.den : Int) ≤ x.num) : (c : Rat) ≤ x := by
  apply Classical.byContradiction
  intro n
  have h1 : ((c * (x.den : Int) : Int) : Rat) ≤ (x.num : Rat) := by exact_mod_cast h
  rw [num_eq, Rat.intCast_mul] at h1
  have h2 := (Rat.mul_lt_mul_right (den_pos x)).mpr (show x < (c : Rat) by grind)
  grind
theorem Bnd.le {L A : Nat} {q : Rat} (h : Bnd L A q) : q ≤ ((A : Int) : Rat) ∧ (-((A : Int)) : Rat) ≤ q := by
  have h1 := h.num
  have h2 : (q.num.natAbs : Int) ≤ (A : Int) * (q.den : Int) := by exact_mod_cast h1
  constructor
  · exact of_num (by omega)
  · have := of_num' (x := q) (c := -(A : Int)) (by rw [Int.neg_mul]; omega)
    rw [Rat.intCast_neg] at this
    exact this
theorem Bnd.of {L A : Nat} {q : Rat} (hd : q.den ∣ L) (h1 : q ≤ ((A : Int) : Rat)) (h2 : (-((A : Int)) : Rat) ≤ q) : Bnd L A q := by
  refine ⟨hd, ?_⟩
  have a1 := num_le h1
  have a2 := le_num (x := q) (c := -(A : Int)) (by rw [Rat.intCast_neg]; exact h2)
  rw [Int.neg_mul] at a2
  have : (q.num.natAbs : Int) ≤ (A : Int) * (q.den : Int) := by omega
  exact_mod_cast this
theorem Fv_mem {v : Rat} : ∀ {ws : List Rat} {w : Rat}, w ∈ ws → mx (w + 1 - v) ≤ Fv ws v
  | x :: ws, w, h => by
    show mx (w + 1 - v) ≤ mx (x + 1 - v) + Fv ws v
    rcases List.mem_cons.mp h with e | e
    · rw [e]
      have := Fv_nn ws v
      grind
    · have := Fv_mem (v := v) e
      have := mx_nn (x + 1 - v)
      grind
theorem Fv_ex {v : Rat} : ∀ {ws : List Rat}, 0 < Fv ws v → ∃ w ∈ ws, v < w + 1
  | [], h => by simp [Fv, sq] at h
  | x :: ws, h => by
    by_cases c : v < x + 1
    · exact ⟨x, List.mem_cons_self .., c⟩
    · have e : Fv (x :: ws) v = mx (x + 1 - v) + Fv ws v := rfl
      have : mx (x + 1 - v) = 0 := by unfold mx; grind
      rw [e, this] at h
      obtain ⟨w, hw, q⟩ := Fv_ex (v := v) (ws := ws) (by grind)
      exact ⟨w, List.mem_cons_of_mem _ hw, q⟩
theorem root_bnd {L A : Nat} {ws : List Rat} {v : Rat} (h2 : ws ≠ []) (hw : ∀ w ∈ ws, Bnd L A w) (fv : Fv ws v = 1) (hd : v.den ∣ 12 * L) : Bnd (12 * L) (A + 1) v := by
  have hA : (((A + 1 : Nat) : Int) : Rat) = ((A : Int) : Rat) + 1 := by
    rw [show ((A + 1 : Nat) : Int) = (A : Int) + 1 by omega, Rat.intCast_add]
    rfl
  refine Bnd.of hd ?_ ?_
  · obtain ⟨w, hm, q⟩ := Fv_ex (ws := ws) (v := v) (by rw [fv]; decide)
    have := (hw w hm).le.1
    rw [hA]
    grind
  · obtain ⟨w, r, rfl⟩ := List.exists_cons_of_ne_nil h2
    have h3 := Fv_mem (v := v) (List.mem_cons_self (a := w) (l := r))
    rw [fv] at h3
    have := (hw w (List.mem_cons_self ..)).le.2
    rw [hA]
    unfold mx at h3
    grind
section
variable {L A : Nat} {M : List MO}
theorem negated_eq {q : Rat} (wf : WF M) : m_negated [fD q] M = .ok (fD (-q)) M := by
  have tf : tupOf (fD q) = some [.int q.num, .int q.den] := rfl
  have b2 : ∀ x y : D, bigN [x, y].length := fun x y => by unfold bigN; simp
  have st : startD 3 [fD q] = [some (fD q), none, none] := rfl
  have qq : g_negated (startD 3 [fD q]) M = .rt (fD (-q)) M := by
    rw [st]
    simp only [g_negated, s_gSeq, s_gAsg, s_gVar, List.getElem?_cons_zero, KM.R.toS_ok, gtTup, tf, List.length_cons, List.length_nil, if_true, s_gtCons, s_gtName, s_gtNil, List.set, SR.then_nx, s_gRet, s_gETup, s_gACons, s_gUn, List.getElem?_cons_succ, KM.R.bind_ok, s_negI, s_gANil]
    rw [if_pos (show bigN (0 + 1 + 1) by unfold bigN; omega)]
    simp only [KM.R.toS_ok]
    unfold fD
    rw [Rat.neg_num, Rat.neg_den]
  have e9 : m_negated [fD q] M = cutR M.length (fnM 3 g_negated [fD q] M) := rfl
  rw [e9]
  unfold fnM
  rw [qq]
  exact cut_same wf rfl
theorem Bnd.neg {q : Rat} (h : Bnd L A q) : Bnd L A (-q) := ⟨by rw [Rat.neg_den]; exact h.den, by rw [Rat.neg_num, Rat.neg_den, Int.natAbs_neg]; exact h.num⟩
theorem minus_eq (hL : L ≠ 0) (hL2 : L < 2 ^ 5000) (hA : A < 2 ^ 1000) {p q : Rat} (hp : Bnd L A p) (hq : Bnd L A q) (wf : WF M) : m_minus [fD p, fD q] M = .ok (fD (p - q)) M := by
  have ne := negated_eq (q := q) wf
  have te := total_eq hL hL2 hA wf (qs := [p, -q]) (by simp) (fun x hx => by
    simp only [List.mem_cons, List.not_mem_nil, or_false] at hx
    rcases hx with rfl | rfl
    · exact hp
    · exact hq.neg)
  have es : sq [p, -q] = p - q := by
    show p + (-q + 0) = p - q
    grind
  rw [es] at te
  have te' : m_total [.lst [fD p, fD (-q)]] M = .ok (fD (p - q)) M := te
  have st : startD 2 [fD p, fD q] = [some (fD p), some (fD q)] := rfl
  have qq : g_minus (startD 2 [fD p, fD q]) M = .rt (fD (p - q)) M := by
    rw [st]
    simp only [g_minus, s_gRet, s_gCall, s_gACons, s_gLst, s_gVar, List.getElem?_cons_zero, List.getElem?_cons_succ, KM.R.bind_ok, s_gANil, ne]
    rw [if_pos (show bigN [fD p, fD (-q)].length by unfold bigN; simp)]
    simp only [KM.R.bind_ok, te', KM.R.toS_ok]
  have e9 : m_minus [fD p, fD q] M = cutR M.length (fnM 2 g_minus [fD p, fD q] M) := rfl
  rw [e9]
  unfold fnM
  rw [qq]
  exact cut_same wf rfl
noncomputable abbrev fB : GS := gSeq (gSet 4 (gCall m_minus (gACons (gCall m_total (gACons (gLst (gACons (gVar 3) (gACons (gC (.tup [.int 1, .int 1])) (gANil)))) (gANil))) (gACons (gVar 1) (gANil)))))
    (gDrop (gBM oAppend (gVar 2) (gACons (gIfE (gTest (gOp oGt (gOp oIx (gVar 4) (gC (.int 0))) (gC (.int 0)))) (gVar 4) (gC (.tup [.int 0, .int 1]))) (gANil))))
theorem num_pos (x : Rat) : (0 < x.num) ↔ 0 < x := by
  have h := num_eq x
  have hd := den_pos x
  constructor
  · intro c
    have h1 : (0 : Rat) < (x.num : Rat) := by exact_mod_cast c
    rw [h] at h1
    apply Classical.byContradiction
    intro n
    have := Rat.mul_le_mul_of_nonneg_right (show x ≤ 0 by grind) (Rat.le_of_lt hd)
    grind
  · intro c
    have h1 := Rat.mul_pos c hd
    rw [← h] at h1
    exact_mod_cast h1
theorem fill_loop (hL : L ≠ 0) (hL2 : L < 2 ^ 5000) (hA : A < 2 ^ 1000) (x0 : Option D) {v : Rat} (hv : Bnd L A v) (wf : WF M) : ∀ (ws done : List Rat) (x3 x4 : Option D), done.length + ws.length ≤ 1000 → (∀ w ∈ ws, Bnd L A w ∧ Bnd L A (w + 1)) → (1 ≤ A) →
    ∃ y3 y4, forL (fun _ => True) (gtName 3) fB (ws.map fD) [x0, some (fD v), some (.ref M.length), x3, x4] (M ++ [.lst (done.map fD)]) = .nx [x0, some (fD v), some (.ref M.length), y3, y4] (M ++ [.lst ((done ++ ws.map fun w => mx (w + 1 - v)).map fD)])
  | [], done, x3, x4, _, _, _ => ⟨x3, x4, by simp [forL]⟩
  | w :: ws, done, x3, x4, hl, hw, h1A => by
    rw [List.length_cons] at hl
    have hw1 := hw w (List.mem_cons_self ..)
    have wf2 : WF (M ++ [.lst (done.map fD)]) := wf.app (los_mapD (fun _ => rfl) done)
    obtain ⟨y3, y4, e⟩ := fill_loop hL hL2 hA x0 hv wf ws (done ++ [mx (w + 1 - v)]) (some (fD w)) (some (fD (w + 1 - v))) (by simp; omega) (fun x hx => hw x (List.mem_cons_of_mem _ hx)) h1A
    refine ⟨y3, y4, ?_⟩
    have te := total_eq hL hL2 hA wf2 (qs := [w, 1]) (by simp) (fun x hx => by
      simp only [List.mem_cons, List.not_mem_nil, or_false] at hx
      rcases hx with rfl | rfl
      · exact hw1.1
      · exact ⟨Nat.one_dvd _, by show 1 ≤ A * 1; omega⟩)
    have es : sq [w, 1] = w + 1 := by
      show w + (1 + 0) = w + 1
      grind
    rw [es] at te
    have te' : m_total [.lst [fD w, .tup [.int 1, .int 1]]] (M ++ [.lst (done.map fD)]) = .ok (fD (w + 1)) (M ++ [.lst (done.map fD)]) := te
    have me := minus_eq hL hL2 hA hw1.2 hv wf2
    have i0 : oIx (fD (w + 1 - v)) (.int 0) (M ++ [.lst (done.map fD)]) = .ok (.int (w + 1 - v).num) (M ++ [.lst (done.map fD)]) := s_ixT _ (n := 0) rfl
    have lo := s_listOf_ref (M ++ [.lst (done.map fD)]) (get_last M _)
    have ap := oAppend_eq (M := M ++ [.lst (done.map fD)]) (k := M.length) (get_last M _) (by simp; omega) (fD (mx (w + 1 - v)))
    rw [put_last] at ap
    have np := num_pos (w + 1 - v)
    have e2 : done ++ (w :: ws).map (fun w => mx (w + 1 - v)) = done ++ [mx (w + 1 - v)] ++ ws.map fun w => mx (w + 1 - v) := by simp
    rw [e2, List.map_cons]
    rw [List.map_append, List.map_singleton] at e
    have b2 : bigN [fD w, .tup [.int 1, .int 1]].length := by unfold bigN; simp
    unfold forL
    rw [if_pos trivial]
    by_cases c : 0 < w + 1 - v
    · have em : mx (w + 1 - v) = w + 1 - v := by unfold mx; rw [if_pos c]
      rw [em] at ap e ⊢
      simp only [fB, s_gtName, s_gSeq, s_gSet, s_gCall, s_gACons, s_gLst, s_gVar, s_gC, s_gANil, List.set, List.getElem?_cons_zero, List.getElem?_cons_succ, KM.R.bind_ok, if_pos b2, te', me, KM.R.toS_ok, SR.then_nx, s_gDrop, s_gBM, lo, s_gIfE, s_gTest, s_gOp, i0, s_gtI, decide_eq_true (np.mpr c), if_true, ap]
      exact e
    · have em : mx (w + 1 - v) = 0 := by unfold mx; rw [if_neg c]
      rw [em] at ap e ⊢
      have nc : ¬ 0 < (w + 1 - v).num := fun h => c (np.mp h)
      have z : fD 0 = .tup [.int 0, .int 1] := rfl
      rw [z] at ap
      simp only [fB, s_gtName, s_gSeq, s_gSet, s_gCall, s_gACons, s_gLst, s_gVar, s_gC, s_gANil, List.set, List.getElem?_cons_zero, List.getElem?_cons_succ, KM.R.bind_ok, if_pos b2, te', me, KM.R.toS_ok, SR.then_nx, s_gDrop, s_gBM, lo, s_gIfE, s_gTest, s_gOp, i0, s_gtI, decide_eq_false nc, Bool.false_eq_true, if_false, ap]
      exact e
end
end K11
set_option linter.all false
set_option maxRecDepth 100000
set_option maxHeartbeats 4000000
namespace K11
open PySem L2 KM LV
section
variable {L A : Nat} {M : List MO}
theorem Bnd.up {L L' A A' : Nat} {q : Rat} (h : Bnd L A q) (hL : L ∣ L') (hA : A ≤ A') : Bnd L' A' q := ⟨Nat.dvd_trans h.den hL, Nat.le_trans h.num (Nat.mul_le_mul_right _ hA)⟩
theorem Bnd.one (h1 : 1 ≤ A) : Bnd L A 1 := ⟨Nat.one_dvd _, by show 1 ≤ A * 1; omega⟩
/-- level, filled and even_lot of worths, all at once -/
theorem levels_eq (hL : L ≠ 0) (hL2 : L < 2 ^ 4900) (hA : A + 2 < 2 ^ 1000) {ws : List Rat} (h2 : 2 ≤ ws.length) (h4 : ws.length ≤ 4) (hw : ∀ w ∈ ws, Bnd L A w) :
    ∃ v : Rat, Fv ws v = 1 ∧ Bnd (12 * L) (A + 1) v ∧ ∀ {M : List MO}, WF M → m_level [.tup (ws.map fD)] M = .ok (fD v) M ∧ m_even_lot [.tup (ws.map fD)] M = .ok (.tup ((lotFrom 0 ws v).map D.int)) M ∧ m_filled [.tup (ws.map fD)] M = .ok (.tup ((ws.map fun w => mx (w + 1 - v)).map fD)) M := by
  have hL5 : L < 2 ^ 5000 := Nat.lt_of_lt_of_le hL2 (Nat.pow_le_pow_right (by decide) (by decide))
  have hA1 : A < 2 ^ 1000 := by omega
  have hne : ws ≠ [] := fun e => by rw [e] at h2; simp at h2
  obtain ⟨v, _, _, fv, hd⟩ := level_eq (M := []) hL hL5 hA1 h2 h4 hw WF.nil
  have hv := root_bnd hne hw fv hd
  refine ⟨v, fv, hv, fun {M} wf => ?_⟩
  obtain ⟨v', e1, e2, fv', _⟩ := level_eq (M := M) hL hL5 hA1 h2 h4 hw wf
  have ev : v' = v := Fv_uniq fv' fv
  subst ev
  refine ⟨e1, e2, ?_⟩
  have h12 : 12 * L ≠ 0 := by omega
  have h12b : 12 * L < 2 ^ 5000 := Nat.lt_of_lt_of_le (Nat.mul_lt_mul'' (show 12 < 2 ^ 4 by decide) hL2) (by rw [← Nat.pow_add]; exact Nat.pow_le_pow_right (by decide) (by decide))
  have hwA : ∀ w ∈ ws, Bnd (12 * L) (A + 1) w ∧ Bnd (12 * L) (A + 1) (w + 1) := fun w h => by
    have h1 := (hw w h).up (L' := 12 * L) (A' := A) (Nat.dvd_mul_left _ _) (Nat.le_refl _)
    refine ⟨h1.up (Nat.dvd_refl _) (by omega), ?_⟩
    exact Bnd.add h12 h1 (Bnd.one (Nat.le_refl 1))
  obtain ⟨y3, y4, el⟩ := fill_loop (M := M) h12 h12b (A := A + 1) (by omega) (some (.tup (ws.map fD))) hv wf ws [] none none (by simp; omega) hwA (by omega)
  rw [List.nil_append] at el
  have el' : forL (fun _ => True) (gtName 3) fB (ws.map fD) [some (.tup (ws.map fD)), some (fD v'), some (.ref M.length), none, none] (M ++ [.lst []]) = .nx [some (.tup (ws.map fD)), some (fD v'), some (.ref M.length), y3, y4] (M ++ [.lst ((ws.map fun w => mx (w + 1 - v')).map fD)]) := el
  have b0 : bigN ([] : List D).length := by unfold bigN; simp
  have lo := s_listOf_ref (M ++ [.lst ((ws.map fun w => mx (w + 1 - v')).map fD)]) (get_last M _)
  have tp : oTuple [.ref M.length] (M ++ [.lst ((ws.map fun w => mx (w + 1 - v')).map fD)]) = .ok (.tup ((ws.map fun w => mx (w + 1 - v')).map fD)) (M ++ [.lst ((ws.map fun w => mx (w + 1 - v')).map fD)]) := by
    unfold oTuple
    simp only [s_tupOf_ref, lo]
  have st : startD 5 [.tup (ws.map fD)] = [some (.tup (ws.map fD)), none, none, none, none] := rfl
  have q : g_filled (startD 5 [.tup (ws.map fD)]) M = .rt (.tup ((ws.map fun w => mx (w + 1 - v')).map fD)) (M ++ [.lst ((ws.map fun w => mx (w + 1 - v')).map fD)]) := by
    rw [st]
    simp only [g_filled, s_gSeq, s_gSet, s_gCall, s_gACons, s_gANil, s_gVar, List.getElem?_cons_zero, List.getElem?_cons_succ, KM.R.bind_ok, e1, KM.R.toS_ok, List.set, SR.then_nx, s_gLstM, if_pos b0, s_gFor, s_giSeq, s_tupOf, s_itT, s_itTg, el', s_gRet, tp]
  have e9 : m_filled [.tup (ws.map fD)] M = cutR M.length (fnM 5 g_filled [.tup (ws.map fD)] M) := rfl
  rw [e9]
  unfold fnM
  rw [q]
  exact cut_to rfl wf (los_mapD (fun _ => rfl) _) (by simp)
end
/-! ### the law's own fractions -/
section
variable {M : List MO}
theorem rngD_succ (lo : Int) (n : Nat) : rngD lo (n + 1) = .int lo :: rngD (lo + 1) n := by
  unfold rngD
  rw [List.range_succ_eq_map, List.map_cons, List.map_map]
  congr 1
  · simp
  · refine List.map_congr_left fun i _ => ?_
    show D.int (lo + ((i + 1 : Nat) : Int)) = D.int (lo + 1 + (i : Int))
    congr 1
    omega
noncomputable abbrev cB : GS := gSeq (gIf (gTest (gOp oEq (gVar 1) (gC (.int 0)))) (gBreak) (gNext)) (gPar 0 1 (gVar 1) (gOp oMod (gCall oInt (gACons (gVar 0) (gANil))) (gVar 1)))
theorem gcd_one (a : Nat) (n : Nat) (lo : Int) (x2 : Option D) (hn : 1 ≤ n) : ∃ δ', forL (fun _ => True) (gtName 2) cB (rngD lo n) [some (.int a), some (.int ((0 : Nat) : Int)), x2] M = .nx δ' M ∧ δ'[0]? = some (some (.int (a : Int))) := by
  obtain ⟨m, rfl⟩ : ∃ m, n = m + 1 := ⟨n - 1, by omega⟩
  rw [rngD_succ]
  refine ⟨[some (.int a), some (.int ((0 : Nat) : Int)), some (.int lo)], ?_, rfl⟩
  unfold forL
  rw [if_pos trivial]
  simp
theorem gcd_step (a b n : Nat) (lo : Int) (x2 : Option D) (hb : b ≠ 0) : forL (fun _ => True) (gtName 2) cB (rngD lo (n + 1)) [some (.int a), some (.int b), x2] M = forL (fun _ => True) (gtName 2) cB (rngD (lo + 1) n) [some (.int b), some (.int (a % b : Nat)), some (.int lo)] M := by
  rw [rngD_succ]
  conv => lhs; unfold forL
  rw [if_pos trivial]
  have c : CModB (a : Int) (b : Int) := cmod_ok (by omega)
  have hb2 : ((b : Int) == 0) = false := by simpa using hb
  simp [c, hb, hb2]
theorem gcd_loop : ∀ (k a b n : Nat) (lo : Int) (x2 : Option D), b < 2 ^ k → 2 * k + 1 ≤ n → ∃ δ', forL (fun _ => True) (gtName 2) cB (rngD lo n) [some (.int a), some (.int b), x2] M = .nx δ' M ∧ δ'[0]? = some (some (.int (a.gcd b : Nat))) := by
  intro k
  induction k with
  | zero =>
    intro a b n lo x2 hb hn
    have : b = 0 := by simpa using hb
    subst this
    have := gcd_one (M := M) a n lo x2 (by omega)
    simpa using this
  | succ k ih =>
    intro a b n lo x2 hb hn
    by_cases h0 : b = 0
    · subst h0
      have := gcd_one (M := M) a n lo x2 (by omega)
      simpa using this
    · obtain ⟨m, rfl⟩ : ∃ m, n = m + 1 := ⟨n - 1, by omega⟩
      rw [gcd_step a b m lo x2 h0]
      by_cases h1 : a % b = 0
      · rw [h1]
        have := gcd_one (M := M) b m (lo + 1) (some (.int lo)) (by omega)
        rw [Nat.gcd_comm a b, Nat.gcd_rec, h1]
        simpa using this
      · obtain ⟨m2, rfl⟩ : ∃ m2, m = m2 + 1 := ⟨m - 1, by omega⟩
        rw [gcd_step b (a % b) m2 (lo + 1) _ h1]
        have hr : a % b < b := Nat.mod_lt _ (Nat.pos_of_ne_zero h0)
        have hr2 : b % (a % b) < a % b := Nat.mod_lt _ (Nat.pos_of_ne_zero h1)
        have hsum : b % (a % b) + (a % b) ≤ b := by
          have := Nat.div_add_mod b (a % b)
          have hq : 1 ≤ b / (a % b) := Nat.div_pos (Nat.le_of_lt hr) (Nat.pos_of_ne_zero h1)
          have : (a % b) * 1 ≤ (a % b) * (b / (a % b)) := Nat.mul_le_mul_left _ hq
          omega
        have hlt : b % (a % b) < 2 ^ k := by
          rw [Nat.pow_succ] at hb
          omega
        have := ih (a % b) (b % (a % b)) m2 (lo + 1 + 1) (some (.int (lo + 1))) hlt (by omega)
        have e : (a % b).gcd (b % (a % b)) = a.gcd b := by rw [Nat.gcd_comm (a % b) (b % (a % b)), ← Nat.gcd_rec, Nat.gcd_comm a b, Nat.gcd_rec b a]
        rw [e] at this
        exact this
end
end K11
set_option linter.all false
set_option maxRecDepth 100000
set_option maxHeartbeats 2000000
namespace KG
open PySem L2 KM
/-! judges over data of any form; small tools -/
def isWh : D → Bool
  | .int _ => true
  | _ => false
def notObj : D → Bool
  | .kdi _ _ => false
  | .obj _ => false
  | .ref _ => false
  | .fn _ => false
  | _ => true
theorem is_whole_eq {d : D} {M : List MO} (h : WF M) (hd : notObj d = true) : m_is_whole [d] M = .ok (.bl (isWh d)) M := by
  unfold m_is_whole cutM
  have e : fnM 1 g_is_whole [d] M = .ok (.bl (isWh d)) M := by
    cases d <;> first
      | (simp [fnM, g_is_whole, startD, oIsi, tyM, tyN, isiB, tyOk_int, tyOk_bool, isWh]; done)
      | (simp [notObj] at hd)
  rw [e, cut_same h rfl]
theorem is_whole_int {i : Int} {M : List MO} (h : WF M) : m_is_whole [.int i] M = .ok (.bl true) M := is_whole_eq h rfl
theorem is_size_int {i : Int} {M : List MO} (h : WF M) : m_is_size [.int i] M = .ok (.bl (decide (2 ≤ i) && decide (i ≤ 4))) M := by
  unfold m_is_size cutM
  have e : fnM 1 g_is_size [.int i] M = .ok (.bl (decide (2 ≤ i) && decide (i ≤ 4))) M := by
    by_cases c : (2 : Int) ≤ i <;> simp [fnM, g_is_size, startD, is_whole_int h, c]
  rw [e, cut_same h rfl]
theorem is_below_int {i n : Int} {M : List MO} (h : WF M) : m_is_below [.int i, .int n] M = .ok (.bl (decide (0 ≤ i) && decide (i < n))) M := by
  unfold m_is_below cutM
  have e : fnM 2 g_is_below [.int i, .int n] M = .ok (.bl (decide (0 ≤ i) && decide (i < n))) M := by
    by_cases c : (0 : Int) ≤ i <;> simp [fnM, g_is_below, startD, is_whole_int h, c]
  rw [e, cut_same h rfl]
theorem bls_map {α : Type} (f : α → Bool) : ∀ xs : List α, bls (xs.map fun x => D.bl (f x)) = some (xs.map f)
  | [] => rfl
  | x :: xs => by
    rw [List.map_cons, List.map_cons]
    unfold bls
    rw [bls_map f xs]
    rfl
theorem oAll_map {α : Type} (f : α → Bool) (xs : List α) (M : List MO) : oAll [.lst (xs.map fun x => D.bl (f x))] M = .ok (.bl ((xs.map f).all id)) M := by
  unfold oAll
  simp only [s_listOf_lst, bls_map]
mutual
def okD (B : Nat) : D → Bool
  | .int i => decide (i.natAbs ≤ B)
  | .tup xs => decide (xs.length ≤ 5000) && okDs B xs
  | .lst xs => decide (xs.length ≤ 5000) && okDs B xs
  | .non => true
  | .bl _ => true
  | .str _ => true
  | .dct => true
  | .rol _ => false
  | .ref _ => false
  | .obj _ => false
  | .fn _ => false
  | .kdi _ _ => false
def okDs (B : Nat) : List D → Bool
  | [] => true
  | x :: xs => okD B x && okDs B xs
end
theorem okDs_iff {B : Nat} : ∀ {xs : List D}, okDs B xs = true ↔ ∀ x ∈ xs, okD B x = true
  | [] => by simp [okDs]
  | x :: xs => by
    unfold okDs
    rw [Bool.and_eq_true, okDs_iff]
    simp
theorem okD_tup {B : Nat} {xs : List D} : okD B (.tup xs) = true ↔ xs.length ≤ 5000 ∧ ∀ x ∈ xs, okD B x = true := by
  have e : okD B (.tup xs) = (decide (xs.length ≤ 5000) && okDs B xs) := by rw [okD]
  rw [e, Bool.and_eq_true, okDs_iff, decide_eq_true_iff]
theorem okD_lst {B : Nat} {xs : List D} : okD B (.lst xs) = true ↔ xs.length ≤ 5000 ∧ ∀ x ∈ xs, okD B x = true := by
  have e : okD B (.lst xs) = (decide (xs.length ≤ 5000) && okDs B xs) := by rw [okD]
  rw [e, Bool.and_eq_true, okDs_iff, decide_eq_true_iff]
theorem okD_int {B : Nat} {i : Int} : okD B (.int i) = true ↔ i.natAbs ≤ B := by
  unfold okD
  simp
mutual
theorem okD_lo {B n : Nat} : ∀ {d : D}, okD B d = true → D.lo n d = true
  | .int _, _ => rfl
  | .non, _ => rfl
  | .bl _, _ => rfl
  | .str _, _ => rfl
  | .dct, _ => rfl
  | .tup xs, h => by
    unfold okD at h
    rw [Bool.and_eq_true] at h
    exact okDs_lo h.2
  | .lst xs, h => by
    unfold okD at h
    rw [Bool.and_eq_true] at h
    exact okDs_lo h.2
theorem okDs_lo {B n : Nat} : ∀ {ds : List D}, okDs B ds = true → D.los n ds = true
  | [], _ => rfl
  | d :: ds, h => by
    unfold okDs at h
    rw [Bool.and_eq_true] at h
    unfold D.los
    rw [Bool.and_eq_true]
    exact ⟨okD_lo h.1, okDs_lo h.2⟩
end
mutual
theorem okD_mono {B C : Nat} (hb : B ≤ C) : ∀ {d : D}, okD B d = true → okD C d = true
  | .int i, h => by
    rw [okD_int] at h ⊢
    omega
  | .non, _ => rfl
  | .bl _, _ => rfl
  | .str _, _ => rfl
  | .dct, _ => rfl
  | .tup xs, h => by
    unfold okD at h ⊢
    rw [Bool.and_eq_true] at h ⊢
    exact ⟨h.1, okDs_mono hb h.2⟩
  | .lst xs, h => by
    unfold okD at h ⊢
    rw [Bool.and_eq_true] at h ⊢
    exact ⟨h.1, okDs_mono hb h.2⟩
theorem okDs_mono {B C : Nat} (hb : B ≤ C) : ∀ {ds : List D}, okDs B ds = true → okDs C ds = true
  | [], _ => rfl
  | d :: ds, h => by
    unfold okDs at h ⊢
    rw [Bool.and_eq_true] at h ⊢
    exact ⟨okD_mono hb h.1, okDs_mono hb h.2⟩
end
theorem okD_not {B : Nat} {d : D} (h : okD B d = true) : notObj d = true := by
  cases d <;> first | rfl | cases h
def isTup : D → Bool
  | .tup _ => true
  | _ => false
theorem isi_tup {d : D} (h : notObj d = true) (M : List MO) : oIsi "tuple" d M = .ok (.bl (isTup d)) M := by
  cases d <;> first | (simp [oIsi, tyM, tyN, isiB, tyOk_tuple, isTup]; done) | cases h
def isInD : D → Bool
  | .int _ => true
  | .bl _ => true
  | _ => false
def isBlD : D → Bool
  | .bl _ => true
  | _ => false
theorem isi_int {d : D} (h : notObj d = true) (M : List MO) : oIsi "int" d M = .ok (.bl (isInD d)) M := by
  cases d <;> first | (simp [oIsi, tyM, tyN, isiB, tyOk_int, isInD]; done) | cases h
theorem isi_bl {d : D} (h : notObj d = true) (M : List MO) : oIsi "bool" d M = .ok (.bl (isBlD d)) M := by
  cases d <;> first | (simp [oIsi, tyM, tyN, isiB, tyOk_bool, isBlD]; done) | cases h
theorem tup_of {d : D} (h : isTup d = true) : ∃ xs, d = .tup xs := by
  cases d <;> first | exact ⟨_, rfl⟩ | cases h
theorem wh_of {d : D} (h : isWh d = true) : ∃ i, d = .int i := by
  cases d <;> first | exact ⟨_, rfl⟩ | cases h
theorem two_of {xs : List D} (h : xs.length = 2) : ∃ x y, xs = [x, y] := by
  match xs, h with
  | [x, y], _ => exact ⟨x, y, rfl⟩

def isBel (n : Int) : D → Bool
  | .int i => decide (0 ≤ i) && decide (i < n)
  | _ => false
def isRw (k : Int) : D → Bool
  | .tup xs => decide (xs.length ≤ 400) && xs.all (isBel k)
  | _ => false
theorem ix2_0 (x y : D) (M : List MO) : oIx (.tup [x, y]) (.int 0) M = .ok x M := s_ixT M (n := 0) rfl
theorem ix2_1 (x y : D) (M : List MO) : oIx (.tup [x, y]) (.int 1) M = .ok y M := s_ixT M (n := 1) rfl
section
variable {M : List MO} {B : Nat}
theorem lcL_mapD {gg : GG} {ge : GE} {δ : KM.Ctx} {f : D → D} (xs : List D) (hl : xs.length ≤ 100000) (h : ∀ x ∈ xs, ∃ δ1, gg x δ M = .nx δ1 M ∧ ge δ1 M = .ok (f x) M) : lcL (fun _ => True) gg gYes ge δ xs [] M = .ok (xs.map f) M := by
  have e := lcL_map (em := fun d : D => d) (f := f) (gd := fun _ => True) trivial xs [] (by simpa using hl) h
  rw [List.map_id', List.nil_append] at e
  exact e
theorem is_below_any {d : D} {n : Int} (wf : WF M) (hd : okD B d = true) : m_is_below [d, .int n] M = .ok (.bl (isBel n d)) M := by
  unfold m_is_below cutM
  have f := is_whole_eq wf (okD_not hd)
  have e : fnM 2 g_is_below [d, .int n] M = .ok (.bl (isBel n d)) M := by
    by_cases h : isWh d = true
    · obtain ⟨i, rfl⟩ := wh_of h
      by_cases c : 0 ≤ i <;> simp [fnM, g_is_below, startD, f, isWh, isBel, c]
    · have h' : isWh d = false := by simpa using h
      have g : isBel n d = false := by
        cases d <;> first | rfl | cases h'
      simp [fnM, g_is_below, startD, f, h', g]
  rw [e, cut_same wf rfl]
theorem bls_mapD (f : D → Bool) : ∀ xs : List D, bls (xs.map fun x => D.bl (f x)) = some (xs.map f) := bls_map f
theorem oAll_mapD (f : D → Bool) (xs : List D) : oAll [.lst (xs.map fun x => D.bl (f x))] M = .ok (.bl (xs.all f)) M := by
  rw [oAll_map, List.all_map]
  rfl
def isSz : D → Bool
  | .int i => decide (2 ≤ i) && decide (i ≤ 4)
  | _ => false
theorem is_size_any {d : D} (wf : WF M) (hd : okD B d = true) : m_is_size [d] M = .ok (.bl (isSz d)) M := by
  by_cases h : isWh d = true
  · obtain ⟨i, rfl⟩ := wh_of h
    exact is_size_int wf
  · unfold m_is_size cutM
    have f := is_whole_eq wf (okD_not hd)
    have h' : isWh d = false := by simpa using h
    have e : fnM 1 g_is_size [d] M = .ok (.bl false) M := by simp [fnM, g_is_size, startD, f, h']
    have g : isSz d = false := by
      cases d <;> first | rfl | cases h'
    rw [e, cut_same wf rfl, g]
theorem is_row_any {d : D} {k : Int} (k2 : 2 ≤ k) (k4 : k ≤ 4) (wf : WF M) (hd : okD B d = true) : m_is_row [.int k, d] M = .ok (.bl (isRw k d)) M := by
  unfold m_is_row cutM
  have t := isi_tup (okD_not hd) M
  have e : fnM 3 g_is_row [.int k, d] M = .ok (.bl (isRw k d)) M := by
    by_cases ht : isTup d = true
    · obtain ⟨xs, rfl⟩ := tup_of ht
      rw [okD_tup] at hd
      by_cases hl : xs.length ≤ 400
      · have hl' : ¬ (400 : Int) < xs.length := by omega
        have hc := lcL_mapD (gg := gtName 2) (ge := gCall m_is_below (gACons (gVar 2) (gACons (gVar 0) gANil))) (δ := [some (.int k), some (.tup xs), none]) (f := fun x => .bl (isBel k x)) (M := M) xs (by omega)
          (fun x hx => ⟨_, rfl, by simp [is_below_any wf (hd.2 x hx)]⟩)
        simp [fnM, g_is_row, startD, is_size_int wf, k2, k4, t, isTup, hl', wipeD, hc, finI, oAll_mapD, isRw, hl]
      · have hl' : (400 : Int) < xs.length := by omega
        simp [fnM, g_is_row, startD, is_size_int wf, k2, k4, t, isTup, hl', isRw, hl]
    · have f : isRw k d = false := by
        cases d <;> first | rfl | exact absurd rfl ht
      simp [fnM, g_is_row, startD, is_size_int wf, k2, k4, t, ht, f]
  rw [e, cut_same wf rfl]
end
theorem cut_wf {M M' : List MO} (hl : M'.length = M.length) (h : WF M') {d : D} (hd : D.lo M.length d = true) : cutR M.length (.ok d M') = .ok d M' := by
  rw [← hl] at hd ⊢
  exact cut_same h hd
theorem oIx_L {x : D} {xs : List D} {i : Int} {d : D} {M : List MO} (ht : tupOf x = none) (hl : listOf M x = some xs) (h0 : 0 ≤ i) (h : xs[i.toNat]? = some d) : oIx x (.int i) M = .ok d M := by
  have e : i = ((i.toNat : Nat) : Int) := by omega
  rw [e]
  exact s_ixL M ht hl h
theorem los_ints (n : Nat) : ∀ c : List Int, D.los n (c.map D.int) = true
  | [] => rfl
  | _ :: c => by
    rw [List.map_cons]
    unfold D.los
    rw [los_ints n c]
    rfl
end KG
set_option linter.all false
set_option maxRecDepth 100000
set_option maxHeartbeats 2000000
namespace KG
open PySem L2 KM
/-! ### the pot of draws -/
theorem rngD_succ (lo : Int) (n : Nat) : rngD lo (n + 1) = .int lo :: rngD (lo + 1) n := by
  unfold rngD
  rw [List.range_succ_eq_map, List.map_cons, List.map_map]
  congr 1
  · simp
  · apply List.map_congr_left
    intro i _
    simp only [Function.comp]
    congr 1
    omega
def wl (c : List Int) (i d s n : Int) : MO := .lst [.lst (c.map D.int), .int i, .int d, .int s, .int n]
def Pot (k : Nat) (c : List Int) (M : List MO) : Prop := ∃ i d s n, 0 ≤ i ∧ M[k]? = some (wl c i d s n)
theorem wl_lo (m : Nat) (c : List Int) (i d s n : Int) : MO.lo m (wl c i d s n) = true := by
  show (D.los m (c.map D.int) && true) = true
  rw [los_ints]
  rfl
structure Nx (k : Nat) (c : List Int) (M M' : List MO) : Prop where
  len : M'.length = M.length
  oth : ∀ j, j ≠ k → M'[j]? = M[j]?
  w : Pot k c M'
  wf : WF M'
theorem Nx.refl {k : Nat} {c : List Int} {M : List MO} (h : WF M) (w : Pot k c M) : Nx k c M M := ⟨rfl, fun _ _ => rfl, w, h⟩
theorem Nx.trans {k : Nat} {c : List Int} {M M1 M2 : List MO} (a : Nx k c M M1) (b : Nx k c M1 M2) : Nx k c M M2 := ⟨b.len.trans a.len, fun j hj => (b.oth j hj).trans (a.oth j hj), b.w, b.wf⟩
theorem Nx.set {k : Nat} {c : List Int} {M : List MO} {i d s n i' d' s' n' : Int} (wf : WF M) (e : M[k]? = some (wl c i d s n)) (h0 : 0 ≤ i') : Nx k c M (M.set k (wl c i' d' s' n')) := by
  have hk := (List.getElem?_eq_some_iff.mp e).1
  exact ⟨List.length_set, fun j hj => List.getElem?_set_ne (Ne.symm hj), ⟨i', d', s', n', h0, List.getElem?_set_self hk⟩, wf.set (wl_lo _ _ _ _ _ _)⟩
theorem Pot.lt {k : Nat} {c : List Int} {M : List MO} (h : Pot k c M) : k < M.length := by
  obtain ⟨_, _, _, _, _, e⟩ := h
  exact (List.getElem?_eq_some_iff.mp e).1
section
variable {k : Nat} {c : List Int} {M : List MO} {i d s n : Int}
theorem ixW {j : Nat} {x : D} (e : M[k]? = some (wl c i d s n)) (hj : [D.lst (c.map D.int), .int i, .int d, .int s, .int n][j]? = some x) : oIx (.ref k) (.int (j : Int)) M = .ok x M := s_ixL M rfl (s_listOf_ref M e) hj
theorem ixW0 (e : M[k]? = some (wl c i d s n)) : oIx (.ref k) (.int 0) M = .ok (.lst (c.map D.int)) M := ixW (j := 0) e rfl
theorem ixW1 (e : M[k]? = some (wl c i d s n)) : oIx (.ref k) (.int 1) M = .ok (.int i) M := ixW (j := 1) e rfl
theorem ixW2 (e : M[k]? = some (wl c i d s n)) : oIx (.ref k) (.int 2) M = .ok (.int d) M := ixW (j := 2) e rfl
theorem ixW3 (e : M[k]? = some (wl c i d s n)) : oIx (.ref k) (.int 3) M = .ok (.int s) M := ixW (j := 3) e rfl
theorem ixW4 (e : M[k]? = some (wl c i d s n)) : oIx (.ref k) (.int 4) M = .ok (.int n) M := ixW (j := 4) e rfl
theorem setW1 (e : M[k]? = some (wl c i d s n)) (x : Int) : oSetL (.ref k) (.int 1) (.int x) M = some (M.set k (wl c x d s n)) := by
  unfold oSetL
  simp only [e]
  rfl
theorem setW2 (e : M[k]? = some (wl c i d s n)) (x : Int) : oSetL (.ref k) (.int 2) (.int x) M = some (M.set k (wl c i x s n)) := by
  unfold oSetL
  simp only [e]
  rfl
theorem setW3 (e : M[k]? = some (wl c i d s n)) (x : Int) : oSetL (.ref k) (.int 3) (.int x) M = some (M.set k (wl c i d x n)) := by
  unfold oSetL
  simp only [e]
  rfl
theorem setW4 (e : M[k]? = some (wl c i d s n)) (x : Int) : oSetL (.ref k) (.int 4) (.int x) M = some (M.set k (wl c i d s x)) := by
  unfold oSetL
  simp only [e]
  rfl
theorem getW (e : M[k]? = some (wl c i d s n)) (o : MO) : (M.set k o)[k]? = some o := List.getElem?_set_self (List.getElem?_eq_some_iff.mp e).1
end
noncomputable def gDrawA : GS := gIf (gAnd (gTest (gOp oEq (gOp oIx (gVar 0) (gC (.int 2))) (gC (.int 0)))) (gTest (gOp oLt (gOp oIx (gVar 0) (gC (.int 1))) (gCall oLen (gACons (gOp oIx (gVar 0) (gC (.int 0))) (gANil)))))) (gSeq (gSet 2 (gOp oIx (gOp oIx (gVar 0) (gC (.int 0))) (gOp oIx (gVar 0) (gC (.int 1)))))
    (gSeq (gAsg (gOp oAdd (gOp oIx (gVar 0) (gC (.int 1))) (gC (.int 1))) (gtSub (gVar 0) (gC (.int 1)) oSetL))
    (gSeq (gAsg (gOp oMod (gCall oInt (gACons (gOp oAdd (gOp oAdd (gOp oMul (gOp oIx (gVar 0) (gC (.int 3))) (gC (.int 69621))) (gVar 2)) (gC (.int 11))) (gANil))) (gC (.int 2147483629))) (gtSub (gVar 0) (gC (.int 3)) oSetL))
    (gIf (gTest (gOp oGe (gVar 2) (gOp oPow (gC (.int 10)) (gC (.int 18))))) (gAsg (gVar 2) (gtSub (gVar 0) (gC (.int 2)) oSetL)) (gNext))))) (gNext)
/-- the second half of a draw -/
noncomputable def gDrawB : GS := gSeq (gIf (gTest (gOp oGt (gOp oIx (gVar 0) (gC (.int 2))) (gC (.int 0)))) (gSeq (gSet 3 (gOp oMod (gCall oInt (gACons (gOp oIx (gVar 0) (gC (.int 2))) (gANil))) (gVar 1)))
    (gSeq (gAsg (gOp oDiv (gOp oIx (gVar 0) (gC (.int 2))) (gVar 1)) (gtSub (gVar 0) (gC (.int 2)) oSetL))
    (gRet (gVar 3)))) (gNext))
    (gSeq (gAsg (gOp oAdd (gOp oIx (gVar 0) (gC (.int 4))) (gC (.int 1))) (gtSub (gVar 0) (gC (.int 4)) oSetL))
    (gSeq (gSet 4 (gOp oMod (gCall oInt (gACons (gOp oMul (gCall oInt (gACons (gOp oAdd (gOp oIx (gVar 0) (gC (.int 3))) (gOp oMul (gC (.int 7919)) (gOp oIx (gVar 0) (gC (.int 4))))) (gANil))) (gC (.int 48271))) (gANil))) (gC (.int 2147483647))))
    (gSeq (gSet 4 (gOp oMod (gCall oInt (gACons (gOp oMul (gVar 4) (gOp oAdd (gOp oDiv (gVar 4) (gC (.int 1009))) (gC (.int 69621)))) (gANil))) (gC (.int 2147483647))))
    (gSeq (gSet 4 (gOp oMod (gCall oInt (gACons (gOp oMul (gVar 4) (gOp oAdd (gOp oDiv (gVar 4) (gC (.int 2003))) (gC (.int 40692)))) (gANil))) (gC (.int 2147483399))))
    (gRet (gOp oMod (gCall oInt (gACons (gOp oDiv (gVar 4) (gC (.int 16))) (gANil))) (gVar 1)))))))
theorem drawB_eq {k : Nat} {c : List Int} {M : List MO} (wf : WF M) (w : Pot k c M) {many : Int} (m0 : 0 < many) (m1 : many ≤ 1000000000000000000) (x2 : Option D) :
    ∃ t M', gDrawB [some (.ref k), some (.int many), x2, none, none] M = .rt (.int t) M' ∧ 0 ≤ t ∧ t < many ∧ Nx k c M M' := by
  obtain ⟨i, d, s, n, h0, e⟩ := w
  have md : ∀ i : Int, CModB i many := fun _ => cmod_ok m0
  have dv : ∀ i : Int, CDivB i many := fun _ => cdiv_s m0 m1
  have t2 := ixW2 e
  by_cases hd : 0 < d
  · have s2 := setW2 e (d / many)
    refine ⟨d % many, M.set k (wl c i (d / many) s n), ?_, Int.emod_nonneg _ (by omega), Int.emod_lt_of_pos _ m0, Nx.set wf e h0⟩
    simp [gDrawB, t2, hd, md, dv, s2]
  · have t4 := ixW4 e
    have s4 := setW4 e (n + 1)
    have g1 := getW e (wl c i d s (n + 1))
    have u3 := ixW3 g1
    have u4 := ixW4 g1
    have c1 : ∀ i : Int, CMulB 7919 i := fun _ => cmul_l (by decide) (by decide)
    have c2 : ∀ i : Int, CMulB i 48271 := fun _ => cmul_r (by decide) (by decide)
    have c3 : ∀ i j : Int, CMulB (i % 2147483647) j := fun i j => cmul_l (by omega) (by omega)
    have n1 : ∀ i : Int, CModB i 2147483647 := fun _ => cmod_ok (by decide)
    have n2 : ∀ i : Int, CModB i 2147483399 := fun _ => cmod_ok (by decide)
    have v1 : ∀ i : Int, CDivB i 1009 := fun _ => cdiv_s (by decide) (by decide)
    have v2 : ∀ i : Int, CDivB i 2003 := fun _ => cdiv_s (by decide) (by decide)
    have v3 : ∀ i : Int, CDivB i 16 := fun _ => cdiv_s (by decide) (by decide)
    refine ⟨((s + 7919 * (n + 1)) * 48271 % 2147483647 * ((s + 7919 * (n + 1)) * 48271 % 2147483647 / 1009 + 69621) % 2147483647 * ((s + 7919 * (n + 1)) * 48271 % 2147483647 * ((s + 7919 * (n + 1)) * 48271 % 2147483647 / 1009 + 69621) % 2147483647 / 2003 + 40692) % 2147483399 / 16) % many, M.set k (wl c i d s (n + 1)), ?_, Int.emod_nonneg _ (by omega), Int.emod_lt_of_pos _ m0, Nx.set wf e h0⟩
    simp [gDrawB, t2, hd, md, t4, s4, u3, u4, c1, c2, c3, n1, n2, v1, v2, v3]
theorem draw_eq {k : Nat} {c : List Int} {M : List MO} (wf : WF M) (w : Pot k c M) {many : Int} (m0 : 0 < many) (m1 : many ≤ 1000000000000000000) :
    ∃ t M', m__law_draw [.ref k, .int many] M = .ok (.int t) M' ∧ 0 ≤ t ∧ t < many ∧ Nx k c M M' := by
  obtain ⟨i, d, s, n, h0, e⟩ := id w
  have fin : ∀ {t : Int} {M' : List MO} {x : Option D}, (∃ M1 x2, g__law_draw (startD 5 [.ref k, .int many]) M = gDrawB [some (.ref k), some (.int many), x2, none, none] M1 ∧ Nx k c M M1) →
      ∃ t M', m__law_draw [.ref k, .int many] M = .ok (.int t) M' ∧ 0 ≤ t ∧ t < many ∧ Nx k c M M' := fun {t M' x} h => by
    obtain ⟨M1, x2, e1, n1⟩ := h
    obtain ⟨t, M', e2, a, b, n2⟩ := drawB_eq n1.wf n1.w m0 m1 x2
    have nx := n1.trans n2
    refine ⟨t, M', ?_, a, b, nx⟩
    unfold m__law_draw cutM
    have e3 : fnM 5 g__law_draw [.ref k, .int many] M = .ok (.int t) M' := by unfold fnM; rw [e1.trans e2]
    rw [e3]
    exact cut_wf nx.len nx.wf rfl
  have t2 := ixW2 e
  have t1 := ixW1 e
  have t0 := ixW0 e
  have st : startD 5 [.ref k, .int many] = [some (D.ref k), some (.int many), none, none, none] := rfl
  rw [st] at fin
  by_cases hd : d = 0
  · subst hd
    by_cases hc : i < (c.length : Int)
    · have hn : i.toNat < c.length := by omega
      have i0 : ∀ M', oIx (.lst (c.map D.int)) (.int i) M' = .ok (.int c[i.toNat]) M' := fun M' => oIx_L rfl rfl h0 (by rw [List.getElem?_map, List.getElem?_eq_getElem hn]; rfl)
      generalize c[i.toNat] = cell at i0
      have s1 := setW1 e (i + 1)
      have g1 := getW e (wl c (i + 1) 0 s n)
      have u3 := ixW3 g1
      have s3 := setW3 g1 ((s * 69621 + cell + 11) % 2147483629)
      rw [List.set_set] at s3
      have g2 := getW e (wl c (i + 1) 0 ((s * 69621 + cell + 11) % 2147483629) n)
      have s2 := setW2 g2 cell
      rw [List.set_set] at s2
      have cm : ∀ i : Int, CMulB i 69621 := fun _ => cmul_r (by decide) (by decide)
      have md : ∀ i : Int, CModB i 2147483629 := fun _ => cmod_ok (by decide)
      have cp : CPowB 10 18 := ⟨⟨by decide, by decide⟩, by decide⟩
      by_cases hb : (10 : Int) ^ 18 ≤ cell
      · have hb2 : (1000000000000000000 : Int) ≤ cell := hb
        refine fin (t := 0) (M' := M) (x := none) ⟨M.set k (wl c (i + 1) cell ((s * 69621 + cell + 11) % 2147483629) n), some (.int cell), ?_, Nx.set wf e (by omega)⟩
        show (gDrawA _ _).then gDrawB = _
        have q : gDrawA [some (D.ref k), some (.int many), none, none, none] M = .nx [some (D.ref k), some (.int many), some (.int cell), none, none] (M.set k (wl c (i + 1) cell ((s * 69621 + cell + 11) % 2147483629) n)) := by
          simp [gDrawA, t2, t1, t0, hc, i0, s1, u3, s3, s2, cm, md, cp, hb2]
        rw [q]
        rfl
      · have hb2 : ¬ (1000000000000000000 : Int) ≤ cell := hb
        refine fin (t := 0) (M' := M) (x := none) ⟨M.set k (wl c (i + 1) 0 ((s * 69621 + cell + 11) % 2147483629) n), some (.int cell), ?_, Nx.set wf e (by omega)⟩
        show (gDrawA _ _).then gDrawB = _
        have q : gDrawA [some (D.ref k), some (.int many), none, none, none] M = .nx [some (D.ref k), some (.int many), some (.int cell), none, none] (M.set k (wl c (i + 1) 0 ((s * 69621 + cell + 11) % 2147483629) n)) := by
          simp [gDrawA, t2, t1, t0, hc, i0, s1, u3, s3, cm, md, cp, hb2]
        rw [q]
        rfl
    · refine fin (t := 0) (M' := M) (x := none) ⟨M, none, ?_, Nx.refl wf w⟩
      show (gDrawA _ _).then gDrawB = _
      have q : gDrawA [some (D.ref k), some (.int many), none, none, none] M = .nx [some (D.ref k), some (.int many), none, none, none] M := by
        simp [gDrawA, t2, t1, t0, hc]
      rw [q]
      rfl
  · refine fin (t := 0) (M' := M) (x := none) ⟨M, none, ?_, Nx.refl wf w⟩
    show (gDrawA _ _).then gDrawB = _
    have q : gDrawA [some (D.ref k), some (.int many), none, none, none] M = .nx [some (D.ref k), some (.int many), none, none, none] M := by
      simp [gDrawA, t2, hd]
    rw [q]
    rfl
/-- one of some things -/
theorem any_eq {k : Nat} {c : List Int} {M : List MO} (wf : WF M) (w : Pot k c M) {x : D} {xs : List D} (hx : x = .lst xs ∨ x = .tup xs) (h1 : 1 ≤ xs.length) (h2 : xs.length ≤ 100000) (hl : ∀ d ∈ xs, D.lo M.length d = true) :
    ∃ d M', m__law_any [.ref k, x] M = .ok d M' ∧ d ∈ xs ∧ Nx k c M M' := by
  obtain ⟨t, M', e, a, b, nx⟩ := draw_eq wf w (many := (xs.length : Int)) (by omega) (by omega)
  have ht : t.toNat < xs.length := by omega
  have hm : xs[t.toNat]? = some xs[t.toNat] := List.getElem?_eq_getElem ht
  have hlen : ∀ M, oLen [x] M = .ok (.int (xs.length : Int)) M := fun M => by rcases hx with rfl | rfl <;> rfl
  have hix : oIx x (.int t) M' = .ok xs[t.toNat] M' := by
    have et : ((t.toNat : Nat) : Int) = t := by omega
    rcases hx with rfl | rfl
    · have q := s_ixL M' (x := .lst xs) rfl rfl hm
      rw [et] at q
      exact q
    · have q := s_ixT M' hm
      rw [et] at q
      exact q
  refine ⟨xs[t.toNat], M', ?_, List.getElem_mem ht, nx⟩
  unfold m__law_any cutM
  have q : fnM 2 g__law_any [.ref k, x] M = .ok xs[t.toNat] M' := by
    simp [fnM, g__law_any, startD, hlen, e, hix]
  rw [q]
  exact cut_wf nx.len nx.wf (hl _ (List.getElem_mem ht))
end KG
set_option linter.all false
set_option maxRecDepth 100000
set_option maxHeartbeats 2000000
namespace KG
open PySem L2 KM
/-! ### advisers and circles, judged -/
def isAvd (k n : Int) : D → Bool
  | .tup [x, .tup ns] => isBel k x && ((ns.length : Int) == k) && ns.all (isBel n)
  | _ => false
def isAdv : D → Bool
  | .tup [.int s, .tup rs] => decide (2 ≤ s) && decide (s ≤ 4) && decide (1 ≤ rs.length) && decide (rs.length ≤ 6) && rs.all (isAvd s rs.length)
  | _ => false
theorem isAvd_two {k n : Int} {xs : List D} (h : xs.length ≠ 2) : isAvd k n (.tup xs) = false := by
  cases hb : isAvd k n (.tup xs) with
  | false => rfl
  | true =>
    unfold isAvd at hb
    split at hb
    · rename_i heq
      cases heq
      exact absurd rfl h
    · cases hb
theorem isAdv_two {xs : List D} (h : xs.length ≠ 2) : isAdv (.tup xs) = false := by
  cases hb : isAdv (.tup xs) with
  | false => rfl
  | true =>
    unfold isAdv at hb
    split at hb
    · rename_i heq
      cases heq
      exact absurd rfl h
    · cases hb
def isBs (k n : Int) : D → Bool
  | .tup xs => ((xs.length : Int) == k) && xs.all (isBel n)
  | _ => false
section
variable {M : List MO} {B : Nat}
theorem are_below_any {d : D} {k n : Int} (wf : WF M) (hd : okD B d = true) : m_are_below [d, .int k, .int n] M = .ok (.bl (isBs k n d)) M := by
  unfold m_are_below cutM
  have t := isi_tup (okD_not hd) M
  have e : fnM 4 g_are_below [d, .int k, .int n] M = .ok (.bl (isBs k n d)) M := by
    by_cases ht : isTup d = true
    · obtain ⟨xs, rfl⟩ := tup_of ht
      rw [okD_tup] at hd
      by_cases hl : (xs.length : Int) = k
      · have hc := lcL_mapD (gg := gtName 3) (ge := gCall m_is_below (gACons (gVar 3) (gACons (gVar 2) gANil))) (δ := [some (.tup xs), some (.int k), some (.int n), none]) (f := fun x => .bl (isBel n x)) (M := M) xs (by omega)
          (fun x hx => ⟨_, rfl, by simp [is_below_any wf (hd.2 x hx)]⟩)
        simp [fnM, g_are_below, startD, t, isTup, hl, wipeD, hc, finI, oAll_mapD, isBs]
      · simp [fnM, g_are_below, startD, t, isTup, hl, isBs]
    · have f : isBs k n d = false := by
        cases d <;> first | rfl | exact absurd rfl ht
      simp [fnM, g_are_below, startD, t, ht, f]
  rw [e, cut_same wf rfl]
theorem isAvd_eq (k n : Int) (x y : D) : isAvd k n (.tup [x, y]) = (isBel k x && isBs k n y) := by
  cases y <;> simp [isAvd, isBs, Bool.and_assoc]
theorem is_advice_any {d : D} {k n : Int} (wf : WF M) (hd : okD B d = true) : m_is_advice [d, .int k, .int n] M = .ok (.bl (isAvd k n d)) M := by
  unfold m_is_advice cutM
  have t := isi_tup (okD_not hd) M
  have e : fnM 3 g_is_advice [d, .int k, .int n] M = .ok (.bl (isAvd k n d)) M := by
    by_cases ht : isTup d = true
    · obtain ⟨xs, rfl⟩ := tup_of ht
      rw [okD_tup] at hd
      by_cases hl : xs.length = 2
      · obtain ⟨x, y, rfl⟩ := two_of hl
        have a1 := is_below_any (n := k) wf (hd.2 x (by simp))
        have a2 := are_below_any (k := k) (n := n) wf (hd.2 y (by simp))
        rw [isAvd_eq]
        cases c : isBel k x <;> simp [fnM, g_is_advice, startD, t, isTup, ix2_0, ix2_1, a1, a2, c]
      · have hl2 : ¬ (xs.length : Int) = 2 := by omega
        simp [fnM, g_is_advice, startD, t, isTup, hl2, isAvd_two hl]
    · have f : isAvd k n d = false := by
        cases d <;> first | rfl | exact absurd rfl ht
      simp [fnM, g_is_advice, startD, t, ht, f]
  rw [e, cut_same wf rfl]
theorem is_ruled_adv {d : D} (wf : WF M) (hd : okD B d = true) : m_is_ruled [d, .int 6, .fn "is_advice"] M = .ok (.bl (isAdv d)) M := by
  unfold m_is_ruled cutM
  have t := isi_tup (okD_not hd) M
  have e : fnM 7 g_is_ruled [d, .int 6, .fn "is_advice"] M = .ok (.bl (isAdv d)) M := by
    by_cases ht : isTup d = true
    · obtain ⟨xs, rfl⟩ := tup_of ht
      rw [okD_tup] at hd
      by_cases hl : xs.length = 2
      · obtain ⟨x, y, rfl⟩ := two_of hl
        have o1 := hd.2 x (by simp)
        have o2 := hd.2 y (by simp)
        have s := is_size_any wf o1
        have t2 := isi_tup (okD_not o2) M
        by_cases hx : ∃ i, x = .int i ∧ 2 ≤ i ∧ i ≤ 4
        · obtain ⟨i, rfl, i2, i4⟩ := hx
          by_cases hy : isTup y = true
          · obtain ⟨rs, rfl⟩ := tup_of hy
            rw [okD_tup] at o2
            have hc := lcL_mapD (gg := gtName 6) (ge := gCallL 2 [("is_advice", m_is_advice)] (gACons (gVar 6) (gACons (gVar 3) (gACons (gVar 5) gANil)))) (δ := [some (.tup [.int i, .tup rs]), some (.int 6), some (.fn "is_advice"), some (.int i), some (.tup rs), some (.int rs.length), none]) (f := fun x => .bl (isAvd i rs.length x)) (M := M) rs (by omega)
              (fun x hx => ⟨_, rfl, by simp [gCallL, is_advice_any wf (o2.2 x hx)]⟩)
            by_cases c1 : 1 ≤ rs.length
            · have c1' : (1 : Int) ≤ rs.length := by omega
              by_cases c2 : rs.length ≤ 6
              · have c2' : (rs.length : Int) ≤ 6 := by omega
                simp [fnM, g_is_ruled, startD, t, t2, isTup, s, isSz, i2, i4, c1', c2', wipeD, hc, finI, oAll_mapD, isAdv, c1, c2]
              · have c2' : ¬ (rs.length : Int) ≤ 6 := by omega
                simp [fnM, g_is_ruled, startD, t, t2, isTup, s, isSz, i2, i4, c1', c2', isAdv, c1, c2]
            · have c1' : ¬ (1 : Int) ≤ rs.length := by omega
              simp [fnM, g_is_ruled, startD, t, t2, isTup, s, isSz, i2, i4, c1', isAdv, c1]
          · have f : isAdv (.tup [.int i, y]) = false := by
              cases y <;> first | rfl | exact absurd rfl hy
            have hy' : isTup y = false := by simpa using hy
            rw [hy'] at t2
            rw [show isTup (.tup [.int i, y]) = true from rfl] at t
            simp [fnM, g_is_ruled, startD, t, t2, s, isSz, i2, i4, f]
        · have f : isAdv (.tup [x, y]) = false := by
            cases x <;> first | rfl | skip
            rename_i i
            cases y <;> first | rfl | skip
            have : ¬ (2 ≤ i ∧ i ≤ 4) := fun c => hx ⟨i, rfl, c⟩
            by_cases c1 : 2 ≤ i
            · have c2 : ¬ i ≤ 4 := fun c => this ⟨c1, c⟩
              simp [isAdv, c2]
            · simp [isAdv, c1]
          have g : isSz x = false := by
            cases x <;> first | rfl | skip
            rename_i i
            have : ¬ (2 ≤ i ∧ i ≤ 4) := fun c => hx ⟨i, rfl, c⟩
            by_cases c1 : 2 ≤ i
            · have c2 : ¬ i ≤ 4 := fun c => this ⟨c1, c⟩
              simp [isSz, c2]
            · simp [isSz, c1]
          rw [g] at s
          simp [fnM, g_is_ruled, startD, t, isTup, s, f]
      · have hl2 : ¬ (xs.length : Int) = 2 := by omega
        simp [fnM, g_is_ruled, startD, t, isTup, hl2, isAdv_two hl]
    · have f : isAdv d = false := by
        cases d <;> first | rfl | exact absurd rfl ht
      simp [fnM, g_is_ruled, startD, t, ht, f]
  rw [e, cut_same wf rfl]
theorem is_adviser_any {d : D} (wf : WF M) (hd : okD B d = true) : m_is_adviser [d] M = .ok (.bl (isAdv d)) M := by
  unfold m_is_adviser cutM
  have e : fnM 1 g_is_adviser [d] M = .ok (.bl (isAdv d)) M := by
    simp [fnM, g_is_adviser, startD, is_ruled_adv wf hd]
  rw [e, cut_same wf rfl]
/-- the size an adviser has -/
def szD : D → Int
  | .tup (.int s :: _) => s
  | _ => 0
theorem isAdv_form {d : D} (h : isAdv d = true) : ∃ (s : Int) (rs : List D), d = .tup [.int s, .tup rs] ∧ 2 ≤ s ∧ s ≤ 4 ∧ 1 ≤ rs.length ∧ rs.length ≤ 6 ∧ rs.all (isAvd s rs.length) = true := by
  unfold isAdv at h
  split at h
  · rename_i s rs
    simp only [Bool.and_eq_true, decide_eq_true_eq] at h
    exact ⟨s, rs, rfl, h.1.1.1.1, h.1.1.1.2, h.1.1.2, h.1.2, h.2⟩
  · cases h
def isCir : D → Bool
  | .tup xs => decide (1 ≤ xs.length) && decide (xs.length ≤ 4) && xs.all isAdv && xs.all (fun x => szD x == szD (xs.headD .non))
  | _ => false
theorem is_circle_any {d : D} (wf : WF M) (hd : okD B d = true) : m_is_circle [d] M = .ok (.bl (isCir d)) M := by
  unfold m_is_circle cutM
  have t := isi_tup (okD_not hd) M
  have e : fnM 2 g_is_circle [d] M = .ok (.bl (isCir d)) M := by
    by_cases ht : isTup d = true
    · obtain ⟨xs, rfl⟩ := tup_of ht
      rw [okD_tup] at hd
      by_cases c1 : 1 ≤ xs.length
      · have c1' : (1 : Int) ≤ xs.length := by omega
        by_cases c2 : xs.length ≤ 4
        · have c2' : (xs.length : Int) ≤ 4 := by omega
          have hc := lcL_mapD (gg := gtName 1) (ge := gCall m_is_adviser (gACons (gVar 1) gANil)) (δ := [some (.tup xs), none]) (f := fun x => .bl (isAdv x)) (M := M) xs (by omega)
            (fun x hx => ⟨_, rfl, by simp [is_adviser_any wf (hd.2 x hx)]⟩)
          by_cases c3 : xs.all isAdv = true
          · have hc2 := lcL_mapD (gg := gtName 1) (ge := gOp oEq (gOp oIx (gVar 1) (gC (.int 0))) (gOp oIx (gOp oIx (gVar 0) (gC (.int 0))) (gC (.int 0)))) (δ := [some (.tup xs), none]) (f := fun x => .bl (szD x == szD (xs.headD .non))) (M := M) xs (by omega)
              (fun x hx => ⟨_, rfl, by
                obtain ⟨s, rs, rfl, _⟩ := isAdv_form (List.all_eq_true.mp c3 x hx)
                cases xs with
                | nil => cases hx
                | cons y ys =>
                  obtain ⟨s', rs', rfl, _⟩ := isAdv_form (List.all_eq_true.mp c3 y (by simp))
                  have i0 : oIx (.tup (.tup [.int s', .tup rs'] :: ys)) (.int 0) M = .ok (.tup [.int s', .tup rs']) M := s_ixT M (n := 0) rfl
                  simp [ix2_0, i0, szD]⟩)
            simp [fnM, g_is_circle, startD, t, isTup, c1', c2', wipeD, hc, hc2, finI, oAll_mapD, isCir, c1, c2, c3]
          · have c3' : xs.all isAdv = false := by simpa using c3
            simp [fnM, g_is_circle, startD, t, isTup, c1', c2', wipeD, hc, finI, oAll_mapD, isCir, c1, c2, c3']
        · have c2' : ¬ (xs.length : Int) ≤ 4 := by omega
          simp [fnM, g_is_circle, startD, t, isTup, c1', c2', isCir, c1, c2]
      · have c1' : ¬ (1 : Int) ≤ xs.length := by omega
        simp [fnM, g_is_circle, startD, t, isTup, c1', isCir, c1]
    · have f : isCir d = false := by
        cases d <;> first | rfl | exact absurd rfl ht
      simp [fnM, g_is_circle, startD, t, ht, f]
  rw [e, cut_same wf rfl]
end
end KG
set_option linter.all false
set_option maxRecDepth 100000
set_option maxHeartbeats 2000000
namespace KG
open PySem L2 KM
def isBt (lo hi : Int) : D → Bool
  | .int i => decide (lo ≤ i) && decide (i ≤ hi)
  | _ => false
section
variable {M : List MO} {B : Nat}
theorem is_int_any {d : D} {lo hi : Int} (wf : WF M) (hd : okD B d = true) : m__law_is_int [d, .int lo, .int hi] M = .ok (.bl (isBt lo hi d)) M := by
  unfold m__law_is_int cutM
  have t1 := isi_int (okD_not hd) M
  have t2 := isi_bl (okD_not hd) M
  have e : fnM 3 g__law_is_int [d, .int lo, .int hi] M = .ok (.bl (isBt lo hi d)) M := by
    cases d <;> first
      | (simp [fnM, g__law_is_int, startD, t1, t2, isInD, isBlD, isBt]; done)
      | skip
    rename_i i
    by_cases c : lo ≤ i <;> simp [fnM, g__law_is_int, startD, t1, t2, isInD, isBlD, isBt, c]
  rw [e, cut_same wf rfl]
theorem isBt_bel (n : Int) (d : D) : isBt 0 (n - 1) d = isBel n d := by
  cases d <;> first | rfl | skip
  rename_i i
  show (decide (0 ≤ i) && decide (i ≤ n - 1)) = (decide (0 ≤ i) && decide (i < n))
  congr 1
  exact decide_eq_decide.mpr (by omega)
end
/-! ### data of right advisers -/
abbrev Adv := Nat × List (Nat × List Nat)
def nsD (ns : List Nat) : D := .tup (ns.map fun (n : Nat) => D.int n)
def arD (r : Nat × List Nat) : D := .tup [.int r.1, nsD r.2]
def advD (a : Adv) : D := .tup [.int a.1, .tup (a.2.map arD)]
def cirD (c : List Adv) : D := .tup (c.map advD)
structure AdvOk (k : Nat) (a : Adv) : Prop where
  s : a.1 = k
  s2 : 2 ≤ k
  s4 : k ≤ 4
  l1 : 1 ≤ a.2.length
  l6 : a.2.length ≤ 6
  ru : ∀ r ∈ a.2, r.1 < k ∧ r.2.length = k ∧ ∀ n ∈ r.2, n < a.2.length
structure CirOk (k : Nat) (c : List Adv) : Prop where
  l1 : 1 ≤ c.length
  l4 : c.length ≤ 4
  ad : ∀ a ∈ c, AdvOk k a
theorem CirOk.s2 {k : Nat} {c : List Adv} (h : CirOk k c) : 2 ≤ k := by
  have := h.l1
  exact (h.ad c[0] (List.getElem_mem (by omega))).s2
theorem CirOk.s4 {k : Nat} {c : List Adv} (h : CirOk k c) : k ≤ 4 := by
  have := h.l1
  exact (h.ad c[0] (List.getElem_mem (by omega))).s4
theorem nsD_lo (n : Nat) (ns : List Nat) : D.lo n (nsD ns) = true := by
  show D.los n _ = true
  rw [D.los_all]
  intro d hd
  obtain ⟨x, _, rfl⟩ := List.mem_map.mp hd
  rfl
theorem nsD_ok {B : Nat} {ns : List Nat} (hl : ns.length ≤ 5000) (h : ∀ n ∈ ns, n ≤ B) : okD B (nsD ns) = true := by
  unfold nsD
  rw [okD_tup]
  refine ⟨by simpa using hl, fun d hd => ?_⟩
  obtain ⟨x, hx, rfl⟩ := List.mem_map.mp hd
  rw [okD_int]
  have := h x hx
  omega
theorem arD_ok {B k m : Nat} {r : Nat × List Nat} (h : r.1 < k ∧ r.2.length = k ∧ ∀ n ∈ r.2, n < m) (h4 : k ≤ 4) (hm : m ≤ 6) (hB : 10 ≤ B) : okD B (arD r) = true := by
  unfold arD
  rw [okD_tup]
  refine ⟨by simp, fun d hd => ?_⟩
  have hd' : d = .int r.1 ∨ d = nsD r.2 := by simpa using hd
  rcases hd' with rfl | rfl
  · rw [okD_int]; omega
  · exact nsD_ok (by omega) (fun n hn => by have := h.2.2 n hn; omega)
theorem AdvOk.ok {B k : Nat} {a : Adv} (h : AdvOk k a) (hB : 10 ≤ B) : okD B (advD a) = true := by
  unfold advD
  rw [okD_tup]
  refine ⟨by simp, fun d hd => ?_⟩
  have hd' : d = .int a.1 ∨ d = .tup (a.2.map arD) := by simpa using hd
  rcases hd' with rfl | rfl
  · rw [okD_int]; have := h.s; have := h.s4; omega
  · rw [okD_tup]
    refine ⟨by have := h.l6; simp; omega, fun d hd => ?_⟩
    obtain ⟨r, hr, rfl⟩ := List.mem_map.mp hd
    exact arD_ok (h.ru r hr) h.s4 h.l6 hB
theorem CirOk.ok {B k : Nat} {c : List Adv} (h : CirOk k c) (hB : 10 ≤ B) : okD B (cirD c) = true := by
  unfold cirD
  rw [okD_tup]
  refine ⟨by have := h.l4; simp; omega, fun d hd => ?_⟩
  obtain ⟨r, hr, rfl⟩ := List.mem_map.mp hd
  exact (h.ad r hr).ok hB
theorem isBel_nat {k n : Nat} (h : n < k) : isBel (k : Int) (.int (n : Int)) = true := by
  simp [isBel]
  omega
theorem AdvOk.isAdv {k : Nat} {a : Adv} (h : AdvOk k a) : isAdv (advD a) = true := by
  have h1 := h.s
  have h2 := h.s2
  have h3 := h.s4
  have h4 := h.l1
  have h5 := h.l6
  have hr : (a.2.map arD).all (isAvd (a.1 : Int) ((a.2.map arD).length : Nat)) = true := by
    rw [List.all_eq_true]
    intro d hd
    obtain ⟨r, hr, rfl⟩ := List.mem_map.mp hd
    have q := h.ru r hr
    unfold arD
    rw [isAvd_eq]
    rw [Bool.and_eq_true]
    refine ⟨isBel_nat (by rw [h1]; exact q.1), ?_⟩
    unfold nsD isBs
    simp only [List.length_map, List.all_map, Bool.and_eq_true, beq_iff_eq]
    refine ⟨by rw [q.2.1, h1], ?_⟩
    rw [List.all_eq_true]
    intro n hn
    exact isBel_nat (by simpa using q.2.2 n hn)
  show (decide (2 ≤ (a.1 : Int)) && decide ((a.1 : Int) ≤ 4) && decide (1 ≤ (a.2.map arD).length) && decide ((a.2.map arD).length ≤ 6) && (a.2.map arD).all (isAvd (a.1 : Int) ((a.2.map arD).length : Nat))) = true
  rw [hr]
  simp
  omega
theorem CirOk.isCir {k : Nat} {c : List Adv} (h : CirOk k c) : isCir (cirD c) = true := by
  have h1 := h.l1
  have h4 := h.l4
  have e1 : (c.map advD).all KG.isAdv = true := by
    rw [List.all_eq_true]
    intro d hd
    obtain ⟨a, ha, rfl⟩ := List.mem_map.mp hd
    exact (h.ad a ha).isAdv
  have e2 : (c.map advD).all (fun x => szD x == szD ((c.map advD).headD .non)) = true := by
    rw [List.all_eq_true]
    intro d hd
    obtain ⟨a, ha, rfl⟩ := List.mem_map.mp hd
    cases c with
    | nil => simp at h1
    | cons b bs =>
      have q1 := (h.ad a ha).s
      have q2 := (h.ad b (by simp)).s
      simp [advD, szD, q1, q2]
  show (decide (1 ≤ (c.map advD).length) && decide ((c.map advD).length ≤ 4) && (c.map advD).all KG.isAdv && (c.map advD).all (fun x => szD x == szD ((c.map advD).headD .non))) = true
  rw [e1, e2]
  simp
  omega
/-! ### what is heard -/
/-- an adviser behind a letter: its state, and whether it missed -/
def advAt (a : Adv) (s : Nat) : Nat × List Nat := a.2.getD s (0, [])
def advTold (a : Adv) (s : Nat) : Nat := (advAt a s).1
def advNext (a : Adv) (s x : Nat) : Nat := (advAt a s).2.getD x 0
def missOne (a : Adv) (s x : Nat) : Nat := if advTold a s = x then 0 else 1
theorem advAt_get {k : Nat} {a : Adv} (h : AdvOk k a) {s : Nat} (hs : s < a.2.length) : a.2[s]? = some (advAt a s) ∧ advTold a s < k ∧ (advAt a s).2.length = k ∧ ∀ n ∈ (advAt a s).2, n < a.2.length := by
  have e : a.2[s]? = some a.2[s] := List.getElem?_eq_getElem hs
  have e2 : advAt a s = a.2[s] := by unfold advAt; rw [List.getD_eq_getElem?_getD, e]; rfl
  have q := h.ru _ (List.getElem_mem hs)
  rw [← e2] at q
  exact ⟨by rw [e, e2], q.1, q.2.1, q.2.2⟩
theorem advNext_lt {k : Nat} {a : Adv} (h : AdvOk k a) {s x : Nat} (hs : s < a.2.length) (hx : x < k) : (advAt a s).2[x]? = some (advNext a s x) ∧ advNext a s x < a.2.length := by
  obtain ⟨_, _, q2, q3⟩ := advAt_get h hs
  have hl : x < (advAt a s).2.length := by omega
  have e : (advAt a s).2[x]? = some (advAt a s).2[x] := List.getElem?_eq_getElem hl
  have e2 : advNext a s x = (advAt a s).2[x] := by unfold advNext; rw [List.getD_eq_getElem?_getD, e]; rfl
  rw [e2]
  exact ⟨e, q3 _ (List.getElem_mem hl)⟩
def nxts (c : List Adv) (ss : List Nat) (x : Nat) : List Nat := (c.zip ss).map fun p => advNext p.1 p.2 x
def msts (c : List Adv) (ss ms : List Nat) (x : Nat) : List Nat := ((c.zip ss).zip ms).map fun p => p.2 + missOne p.1.1 p.1.2 x
theorem app_a (M0 : List MO) (xs ys : List D) (hl : xs.length < 100000) (d : D) : oAppend (.ref M0.length) [d] (M0 ++ [.lst xs, .lst ys]) = .ok .non (M0 ++ [.lst (xs ++ [d]), .lst ys]) := by
  have e : (M0 ++ [MO.lst xs, .lst ys])[M0.length]? = some (.lst xs) := by simp
  rw [oAppend_eq e hl]
  simp
theorem app_b (M0 : List MO) (xs ys : List D) (hl : ys.length < 100000) (d : D) : oAppend (.ref (M0.length + 1)) [d] (M0 ++ [.lst xs, .lst ys]) = .ok .non (M0 ++ [.lst xs, .lst (ys ++ [d])]) := by
  have e : (M0 ++ [MO.lst xs, .lst ys])[M0.length + 1]? = some (.lst ys) := by
    rw [List.getElem?_append_right (by omega)]
    simp
  rw [oAppend_eq e hl]
  congr 1
  rw [List.set_append_right _ _ (by omega)]
  simp
theorem lo_a (M0 : List MO) (xs ys : List D) : listOf (M0 ++ [.lst xs, .lst ys]) (.ref M0.length) = some xs := s_listOf_ref _ (by simp)
theorem lo_b (M0 : List MO) (xs ys : List D) : listOf (M0 ++ [.lst xs, .lst ys]) (.ref (M0.length + 1)) = some ys := s_listOf_ref _ (by
    rw [List.getElem?_append_right (by omega)]
    simp)
theorem heard_loop {k : Nat} {M0 : List MO} {x : Nat} (hx : x < k) (C0 S0 N0 : Option D) : ∀ (c : List Adv) (ss ms : List Nat) (b m : List D) (u6 u7 u8 u9 u10 u11 : Option D), (∀ a ∈ c, AdvOk k a) → c.length = ss.length → c.length = ms.length → (∀ p ∈ c.zip ss, p.2 < p.1.2.length) → b.length + c.length ≤ 100 → m.length + c.length ≤ 100 →
    ∃ v6 v7 v8 v9 v10 v11, forL (fun _ => True) (gtTup 3 (gtCons (gtTup 2 (gtCons (gtName 6) (gtCons (gtName 7) (gtNil)))) (gtCons (gtName 8) (gtCons (gtName 9) (gtNil))))) (gSeq (gAsg (gOp oIx (gVar 7) (gVar 8)) (gtTup 2 (gtCons (gtName 10) (gtCons (gtName 11) (gtNil)))))
    (gSeq (gDrop (gBM oAppend (gVar 4) (gACons (gOp oIx (gVar 11) (gVar 3)) (gANil))))
    (gDrop (gBM oAppend (gVar 5) (gACons (gIfE (gTest (gOp oEq (gVar 10) (gVar 3))) (gVar 9) (gOp oAdd (gVar 9) (gC (.int 1)))) (gANil))))))
      (zipD3 (c.map advD) (ss.map fun (n : Nat) => D.int n) (ms.map fun (n : Nat) => D.int n)) [C0, S0, N0, some (.int x), some (.ref M0.length), some (.ref (M0.length + 1)), u6, u7, u8, u9, u10, u11] (M0 ++ [.lst b, .lst m]) =
      .nx [C0, S0, N0, some (.int x), some (.ref M0.length), some (.ref (M0.length + 1)), v6, v7, v8, v9, v10, v11] (M0 ++ [.lst (b ++ (nxts c ss x).map fun (n : Nat) => D.int n), .lst (m ++ (msts c ss ms x).map fun (n : Nat) => D.int n)])
  | [], ss, ms, b, m, u6, u7, u8, u9, u10, u11, ha, h1, h2, hz, l1, l2 => by
    cases ss with
    | cons => simp at h1
    | nil => exact ⟨u6, u7, u8, u9, u10, u11, by simp [zipD3, forL, nxts, msts]⟩
  | a :: c, [], ms, b, m, u6, u7, u8, u9, u10, u11, ha, h1, h2, hz, l1, l2 => by simp at h1
  | a :: c, s :: ss, [], b, m, u6, u7, u8, u9, u10, u11, ha, h1, h2, hz, l1, l2 => by simp at h2
  | a :: c, s :: ss, n :: ms, b, m, u6, u7, u8, u9, u10, u11, ha, h1, h2, hz, l1, l2 => by
    have oa := ha a (by simp)
    have hs : s < a.2.length := hz (a, s) (by simp)
    obtain ⟨q1, q2, q3, q4⟩ := advAt_get oa hs
    obtain ⟨r1, r2⟩ := advNext_lt oa hs hx
    simp only [List.length_cons] at l1 l2 h1 h2
    obtain ⟨v6, v7, v8, v9, v10, v11, e⟩ := heard_loop (M0 := M0) hx C0 S0 N0 c ss ms (b ++ [.int (advNext a s x)]) (m ++ [.int ((n + missOne a s x : Nat) : Int)]) (some (.int a.1)) (some (.tup (a.2.map arD))) (some (.int s)) (some (.int n)) (some (.int (advTold a s))) (some (nsD (advAt a s).2)) (fun y hy => ha y (by simp [hy])) (by omega) (by omega) (fun p hp => hz p (by simp [hp])) (by simp; omega) (by simp; omega)
    refine ⟨v6, v7, v8, v9, v10, v11, ?_⟩
    have i1 : ∀ M, oIx (.tup (a.2.map arD)) (.int s) M = .ok (.tup [.int (advTold a s), nsD (advAt a s).2]) M := fun M => ixT_map (f := arD) q1 M
    have i2 : ∀ M, oIx (nsD (advAt a s).2) (.int x) M = .ok (.int (advNext a s x)) M := fun M => ixT_map (f := fun (n : Nat) => D.int n) r1 M
    have e1 : nxts (a :: c) (s :: ss) x = advNext a s x :: nxts c ss x := rfl
    have e2 : msts (a :: c) (s :: ss) (n :: ms) x = (n + missOne a s x) :: msts c ss ms x := rfl
    rw [e1, e2]
    simp only [List.map_cons, zipD3]
    unfold forL
    have la := lo_a M0 b m
    have aa := app_a M0 b m (by omega) (.int (advNext a s x))
    have lb := lo_b M0 (b ++ [.int (advNext a s x)]) m
    have ab := app_b M0 (b ++ [.int (advNext a s x)]) m (by omega) (.int ((n : Int) + (missOne a s x : Int)))
    have hm : (if (advTold a s : Int) = (x : Int) then (R.ok (D.int (n : Int)) (M0 ++ [.lst (b ++ [.int (advNext a s x)]), .lst m])) else .ok (.int ((n : Int) + 1)) (M0 ++ [.lst (b ++ [.int (advNext a s x)]), .lst m])) = .ok (.int ((n : Int) + (missOne a s x : Int))) (M0 ++ [.lst (b ++ [.int (advNext a s x)]), .lst m]) := by
      unfold missOne
      by_cases c : advTold a s = x
      · simp [c]
      · have c' : ¬ (advTold a s : Int) = (x : Int) := by omega
        simp [c, c']
    simp only [List.append_assoc, List.cons_append, List.nil_append] at e
    simp [advD, i1, i2, la, aa, lb, hm, ab]
    simpa using e
theorem heard_eq {k : Nat} {M : List MO} (wf : WF M) {c : List Adv} (h : CirOk k c) {ss ms : List Nat} (h1 : c.length = ss.length) (h2 : c.length = ms.length) (hz : ∀ p ∈ c.zip ss, p.2 < p.1.2.length) {x : Nat} (hx : x < k) :
    m_heard [cirD c, nsD ss, nsD ms, .int x] M = .ok (.tup [nsD (nxts c ss x), nsD (msts c ss ms x)]) M := by
  have l4 := h.l4
  obtain ⟨v6, v7, v8, v9, v10, v11, e⟩ := heard_loop (M0 := M) hx (some (cirD c)) (some (nsD ss)) (some (nsD ms)) c ss ms [] [] none none none none none none h.ad h1 h2 hz (by simp; omega) (by simp; omega)
  unfold m_heard cutM
  rw [List.nil_append, List.nil_append] at e
  have t1 := lo_a M ((nxts c ss x).map fun (n : Nat) => D.int n) ((msts c ss ms x).map fun (n : Nat) => D.int n)
  have t2 := lo_b M ((nxts c ss x).map fun (n : Nat) => D.int n) ((msts c ss ms x).map fun (n : Nat) => D.int n)
  have q : fnM 12 g_heard [cirD c, nsD ss, nsD ms, .int x] M = .ok (.tup [nsD (nxts c ss x), nsD (msts c ss ms x)]) (M ++ [.lst ((nxts c ss x).map fun (n : Nat) => D.int n), .lst ((msts c ss ms x).map fun (n : Nat) => D.int n)]) := by
    have z : ∀ δ M', giZip3 (gACons (gVar 0) (gACons (gVar 1) (gACons (gVar 2) gANil))) ([some (cirD c), some (nsD ss), some (nsD ms)] ++ δ) M' = .ok (itT (zipD3 (c.map advD) (ss.map fun (n : Nat) => D.int n) (ms.map fun (n : Nat) => D.int n))) M' := fun δ M' => by
      simp [giZip3, cirD, nsD, sqOf]
    have z' := z [some (.int x), some (.ref M.length), some (.ref (M.length + 1)), none, none, none, none, none, none]
    simp only [List.cons_append, List.nil_append] at z'
    simp [fnM, g_heard, startD, bigN, z', e, oTuple, t1, t2]
    exact ⟨rfl, rfl⟩
  rw [q]
  exact cut_to rfl wf (by show (D.lo _ (nsD _) && (D.lo _ (nsD _) && true)) = true; rw [nsD_lo, nsD_lo]; rfl) (by simp)
end KG
set_option linter.all false
set_option maxRecDepth 100000
set_option maxHeartbeats 2000000
namespace KG
open PySem L2 KM
/-! ### advisers along a row -/
def advStep (a : Adv) (p : Nat × Nat) (x : Nat) : Nat × Nat := (advNext a p.1 x, p.2 + missOne a p.1 x)
def advFrom (a : Adv) (p : Nat × Nat) (row : List Nat) : Nat × Nat := row.foldl (advStep a) p
def advRun (a : Adv) (row : List Nat) : Nat × Nat := advFrom a (0, 0) row
theorem zip_map {α β γ : Type} (f : α → β) (g : α × β → γ) : ∀ c : List α, (c.zip (c.map f)).map g = c.map fun a => g (a, f a)
  | [] => rfl
  | a :: c => by
    show g (a, f a) :: _ = g (a, f a) :: _
    rw [← zip_map f g c]
    rfl
theorem nxts_map (c : List Adv) (f : Adv → Nat) (x : Nat) : nxts c (c.map f) x = c.map fun a => advNext a (f a) x := zip_map f _ c
theorem zip_map2 {α β γ δ : Type} (f : α → β) (h : α → γ) (g : (α × β) × γ → δ) : ∀ c : List α, ((c.zip (c.map f)).zip (c.map h)).map g = c.map fun a => g ((a, f a), h a)
  | [] => rfl
  | a :: c => by
    show g ((a, f a), h a) :: _ = g ((a, f a), h a) :: _
    rw [← zip_map2 f h g c]
    rfl
theorem msts_map (c : List Adv) (f h : Adv → Nat) (x : Nat) : msts c (c.map f) (c.map h) x = c.map fun a => h a + missOne a (f a) x := zip_map2 f h _ c
theorem zip_lt {c : List Adv} {f : Adv → Nat} (h : ∀ a ∈ c, f a < a.2.length) : ∀ p ∈ c.zip (c.map f), p.2 < p.1.2.length := by
  intro p hp
  have e : c.zip (c.map f) = c.map fun a => (a, f a) := by
    have := zip_map f (fun q => q) c
    rw [List.map_id'] at this
    exact this
  rw [e] at hp
  obtain ⟨a, ha, rfl⟩ := List.mem_map.mp hp
  exact h a ha
theorem advStep_lt {k : Nat} {a : Adv} (h : AdvOk k a) {p : Nat × Nat} (hp : p.1 < a.2.length) {x : Nat} (hx : x < k) : (advStep a p x).1 < a.2.length := (advNext_lt h hp hx).2
theorem misses_loop {k : Nat} {M : List MO} (wf : WF M) {c : List Adv} (h : CirOk k c) (R0 : Option D) : ∀ (row : List Nat) (f : Adv → Nat × Nat) (u4 : Option D), (∀ x ∈ row, x < k) → (∀ a ∈ c, (f a).1 < a.2.length) →
    ∃ v4, forL (fun _ => True) (gtName 4) (gAsg (gCall m_heard (gACons (gVar 0) (gACons (gVar 2) (gACons (gVar 3) (gACons (gVar 4) (gANil)))))) (gtTup 2 (gtCons (gtName 2) (gtCons (gtName 3) (gtNil)))))
      (row.map fun (n : Nat) => D.int n) [some (cirD c), R0, some (nsD (c.map fun a => (f a).1)), some (nsD (c.map fun a => (f a).2)), u4] M =
      .nx [some (cirD c), R0, some (nsD (c.map fun a => (advFrom a (f a) row).1)), some (nsD (c.map fun a => (advFrom a (f a) row).2)), v4] M
  | [], f, u4, hr, hf => ⟨u4, by simp [forL, advFrom]⟩
  | x :: row, f, u4, hr, hf => by
    obtain ⟨v4, e⟩ := misses_loop wf h R0 row (fun a => advStep a (f a) x) (some (.int x)) (fun y hy => hr y (by simp [hy])) (fun a ha => advStep_lt (h.ad a ha) (hf a ha) (hr x (by simp)))
    refine ⟨v4, ?_⟩
    have hh := heard_eq wf h (ss := c.map fun a => (f a).1) (ms := c.map fun a => (f a).2) (by simp) (by simp) (zip_lt hf) (hr x (by simp))
    rw [nxts_map, msts_map] at hh
    rw [List.map_cons]
    unfold forL
    simp [hh]
    exact e
theorem nothing_heard_eq {M : List MO} (wf : WF M) {k : Nat} {c : List Adv} (h : CirOk k c) : m_nothing_heard [cirD c] M = .ok (.tup [nsD (c.map fun _ => 0), nsD (c.map fun _ => 0)]) M := by
  have l1 := h.l1
  have l4 := h.l4
  unfold m_nothing_heard cutM
  have e0 : ∀ M', oMul (.tup [.int 0]) (.int (c.length : Int)) M' = .ok (nsD (c.map fun _ => 0)) M' := fun M' => by
    have e : nsD (c.map fun _ => 0) = .tup (List.replicate c.length (.int 0)) := by
      unfold nsD
      rw [List.map_map, ← List.map_const']
      rfl
    rw [e]
    have hc : c.length = 1 ∨ c.length = 2 ∨ c.length = 3 ∨ c.length = 4 := by omega
    rcases hc with q | q | q | q <;> rw [q] <;> simp [oMul, bigN] <;> rfl
  have q : fnM 1 g_nothing_heard [cirD c] M = .ok (.tup [nsD (c.map fun _ => 0), nsD (c.map fun _ => 0)]) M := by
    have hl : ∀ M', oLen [cirD c] M' = .ok (.int (c.length : Int)) M' := fun M' => by unfold cirD; simp
    simp [fnM, g_nothing_heard, startD, hl, e0, bigN]
  rw [q]
  exact cut_same wf (by show (D.lo _ (nsD _) && (D.lo _ (nsD _) && true)) = true; rw [nsD_lo]; rfl)
theorem isRw_row {k : Nat} {row : List Nat} (hl : row.length ≤ 400) (hr : ∀ x ∈ row, x < k) : isRw (k : Int) (nsD row) = true := by
  unfold nsD isRw
  rw [Bool.and_eq_true]
  refine ⟨by simpa using hl, ?_⟩
  rw [List.all_map, List.all_eq_true]
  intro x hx
  exact isBel_nat (hr x hx)
theorem adviser_misses_eq {k : Nat} {M : List MO} (wf : WF M) {c : List Adv} (h : CirOk k c) {row : List Nat} (hl : row.length ≤ 400) (hr : ∀ x ∈ row, x < k) :
    m_adviser_misses [cirD c, nsD row] M = .ok (nsD (c.map fun a => (advRun a row).2)) M := by
  have h2 := h.s2
  have h4 := h.s4
  unfold m_adviser_misses cutM
  have ic := is_circle_any (B := 10) wf (h.ok (Nat.le_refl _))
  rw [h.isCir] at ic
  have ir := is_row_any (B := 10) (d := nsD row) (k := (k : Int)) (by omega) (by omega) wf (nsD_ok (by omega) (fun n hn => by have := hr n hn; omega))
  rw [isRw_row hl hr] at ir
  obtain ⟨v4, e⟩ := misses_loop wf h (some (nsD row)) row (fun _ => (0, 0)) none hr (fun a ha => (h.ad a ha).l1)
  have n0 := nothing_heard_eq wf h
  obtain ⟨a0, i0, sz⟩ : ∃ a0, oIx (cirD c) (.int 0) M = .ok (advD a0) M ∧ a0.1 = k := by
    have l1 := h.l1
    cases c with
    | nil => simp at l1
    | cons a c => exact ⟨a, s_ixT M (n := 0) rfl, (h.ad a (by simp)).s⟩
  have i1 : oIx (advD a0) (.int 0) M = .ok (.int k) M := by
    unfold advD
    rw [ix2_0, sz]
  have gs : tupOf (nsD row) = some (row.map fun (n : Nat) => D.int n) := rfl
  have q : fnM 5 g_adviser_misses [cirD c, nsD row] M = .ok (nsD (c.map fun a => (advRun a row).2)) M := by
    simp [fnM, g_adviser_misses, startD, ic, i0, i1, ir, n0, gs, e]
    rfl
  rw [q]
  exact cut_same wf (nsD_lo _ _)
theorem missed_loop {k : Nat} {M : List MO} {a : Adv} (h : AdvOk k a) (R0 : Option D) : ∀ (row : List Nat) (p : Nat × Nat) (u4 u5 u6 : Option D), (∀ x ∈ row, x < k) → p.1 < a.2.length →
    ∃ v4 v5 v6, forL (fun _ => True) (gtName 4) (gSeq (gAsg (gOp oIx (gOp oIx (gVar 0) (gC (.int 1))) (gVar 2)) (gtTup 2 (gtCons (gtName 5) (gtCons (gtName 6) (gtNil)))))
    (gPar 3 2 (gOp oAdd (gVar 3) (gCall oInt (gACons (gOp oNe (gVar 5) (gVar 4)) (gANil)))) (gOp oIx (gVar 6) (gVar 4))))
      (row.map fun (n : Nat) => D.int n) [some (advD a), R0, some (.int p.1), some (.int p.2), u4, u5, u6] M = .nx [some (advD a), R0, some (.int (advFrom a p row).1), some (.int (advFrom a p row).2), v4, v5, v6] M
  | [], p, u4, u5, u6, hr, hp => ⟨u4, u5, u6, by simp [forL, advFrom]⟩
  | x :: row, p, u4, u5, u6, hr, hp => by
    obtain ⟨q1, q2, q3, q4⟩ := advAt_get h hp
    obtain ⟨r1, r2⟩ := advNext_lt h hp (hr x (by simp))
    obtain ⟨v4, v5, v6, e⟩ := missed_loop (M := M) h R0 row (advStep a p x) (some (.int x)) (some (.int (advTold a p.1))) (some (nsD (advAt a p.1).2)) (fun y hy => hr y (by simp [hy])) r2
    refine ⟨v4, v5, v6, ?_⟩
    have i0 : ∀ M, oIx (advD a) (.int 1) M = .ok (.tup (a.2.map arD)) M := fun M => ix2_1 _ _ M
    have i1 : ∀ M, oIx (.tup (a.2.map arD)) (.int p.1) M = .ok (.tup [.int (advTold a p.1), nsD (advAt a p.1).2]) M := fun M => ixT_map (f := arD) q1 M
    have i2 : ∀ M, oIx (nsD (advAt a p.1).2) (.int x) M = .ok (.int (advNext a p.1 x)) M := fun M => ixT_map (f := fun (n : Nat) => D.int n) r1 M
    rw [List.map_cons]
    unfold forL
    have hm : (p.2 : Int) + (if (advTold a p.1 : Int) = (x : Int) then 0 else 1) = (((advStep a p x).2 : Nat) : Int) := by
      unfold advStep missOne
      by_cases c : advTold a p.1 = x
      · simp [c]
      · have c' : ¬ (advTold a p.1 : Int) = (x : Int) := by omega
        simp [c, c']
    have hm2 : (p.2 : Int) + (if (!decide ((advTold a p.1 : Int) = (x : Int))) = true then 1 else 0) = (((advStep a p x).2 : Nat) : Int) := by
      rw [← hm]
      by_cases c : (advTold a p.1 : Int) = (x : Int) <;> simp [c]
    simp [i0, i1, i2]
    rw [hm]
    exact e
theorem law_missed_eq {k : Nat} {M : List MO} (wf : WF M) {a : Adv} (h : AdvOk k a) {row : List Nat} (hr : ∀ x ∈ row, x < k) : m__law_missed [advD a, nsD row] M = .ok (.int ((advRun a row).2 : Nat)) M := by
  obtain ⟨v4, v5, v6, e⟩ := missed_loop (M := M) h (some (nsD row)) row (0, 0) none none none hr h.l1
  unfold m__law_missed cutM
  have q : fnM 7 g__law_missed [advD a, nsD row] M = .ok (.int ((advRun a row).2 : Nat)) M := by
    have gs : tupOf (nsD row) = some (row.map fun (n : Nat) => D.int n) := rfl
    simp at e
    simp [fnM, g__law_missed, startD, gs, bigN, e]
    rfl
  rw [q]
  exact cut_same wf rfl
end KG
set_option linter.all false
set_option maxRecDepth 100000
set_option maxHeartbeats 2000000
namespace KG
open PySem L2 KM
/-- what a block leaves of the world below n, and its own list behind -/
structure Lv (k : Nat) (c : List Int) (M0 M : List MO) (own : List D) : Prop where
  len : M.length = M0.length + 1
  oth : ∀ j, j ≠ k → j < M0.length → M[j]? = M0[j]?
  own : M[M0.length]? = some (.lst own)
  w : Pot k c M
  wf : WF M
theorem Lv.nx {k : Nat} {c : List Int} {M0 M M' : List MO} {own : List D} (l : Lv k c M0 M own) (hk : k < M0.length) (n : Nx k c M M') : Lv k c M0 M' own :=
  ⟨n.len.trans l.len, fun j hj hl => (n.oth j hj).trans (l.oth j hj hl), (n.oth _ (by omega)).trans l.own, n.w, n.wf⟩
theorem Lv.app {k : Nat} {c : List Int} {M0 M : List MO} {own : List D} (l : Lv k c M0 M own) (hk : k < M0.length) {d : D} (hd : ∀ n, D.lo n d = true) (ho : ∀ x ∈ own, ∀ n, D.lo n x = true) : Lv k c M0 (M.set M0.length (.lst (own ++ [d]))) (own ++ [d]) := by
  obtain ⟨n, p, h, h5, h0, e⟩ := l.w
  refine ⟨by rw [List.length_set]; exact l.len, fun j hj hl => by rw [List.getElem?_set_ne (by omega)]; exact l.oth j hj hl, List.getElem?_set_self (by rw [l.len]; omega), ⟨n, p, h, h5, h0, by rw [List.getElem?_set_ne (by omega)]; exact e⟩, l.wf.set ?_⟩
  unfold MO.lo
  rw [D.los_all]
  intro x hx
  rcases List.mem_append.mp hx with hx | hx
  · exact ho x hx _
  · have : x = d := by simpa using hx
    subst this
    exact hd _
theorem Lv.cut {k : Nat} {c : List Int} {M0 M : List MO} {own : List D} (wf0 : WF M0) (l : Lv k c M0 M own) (hk : k < M0.length) : Nx k c M0 (M.take M0.length) := by
  have hl : (M.take M0.length).length = M0.length := by rw [List.length_take, l.len]; omega
  have ho : ∀ j, j ≠ k → (M.take M0.length)[j]? = M0[j]? := fun j hj => by
    rw [List.getElem?_take]
    split
    · rename_i hlt
      exact l.oth j hj hlt
    · rw [List.getElem?_eq_none (by omega)]
  obtain ⟨n, p, h, h5, h0, e⟩ := l.w
  have hw : (M.take M0.length)[k]? = some (wl c n p h h5) := by rw [List.getElem?_take, if_pos hk]; exact e
  refine ⟨hl, ho, ⟨n, p, h, h5, h0, hw⟩, ?_⟩
  unfold WF
  rw [hl]
  refine List.all_eq_true.mpr fun o hm => ?_
  obtain ⟨j, hj⟩ := List.getElem?_of_mem hm
  by_cases hjk : j = k
  · subst hjk
    rw [hw] at hj
    cases hj
    exact wl_lo _ _ _ _ _ _
  · rw [ho j hjk] at hj
    exact List.all_eq_true.mp wf0 o (List.mem_of_getElem? hj)
theorem cut_lv {k : Nat} {c : List Int} {M0 M : List MO} {own : List D} (wf0 : WF M0) (l : Lv k c M0 M own) (hk : k < M0.length) {d : D} (hd : D.lo M0.length d = true) : cutR M0.length (.ok d M) = .ok d (M.take M0.length) := by
  have q := l.cut wf0 hk
  have hb : (D.lo M0.length d && (M.take M0.length).all (MO.lo M0.length)) = true := by
    rw [Bool.and_eq_true]
    refine ⟨hd, ?_⟩
    have := q.wf
    unfold WF at this
    rw [q.len] at this
    exact this
  show (if (D.lo M0.length d && (M.take M0.length).all (MO.lo M0.length)) = true then R.ok d (M.take M0.length) else R.bad) = _
  rw [if_pos hb]
theorem Lv.new {k : Nat} {c : List Int} {M : List MO} (wf : WF M) (w : Pot k c M) : Lv k c M (M ++ [.lst []]) [] := by
  obtain ⟨n, p, h, h5, h0, e⟩ := w
  have hk := (List.getElem?_eq_some_iff.mp e).1
  exact ⟨by simp, fun j hj hl => by rw [List.getElem?_append_left hl], get_last _ _, ⟨n, p, h, h5, h0, by rw [List.getElem?_append_left hk]; exact e⟩, wf.app rfl⟩
theorem mapD_lo {α : Type} {f : α → D} (h : ∀ n x, D.lo n (f x) = true) (xs : List α) : ∀ x ∈ xs.map f, ∀ n, D.lo n x = true := fun x hx n => by
  obtain ⟨y, _, rfl⟩ := List.mem_map.mp hx
  exact h n y
theorem nD_lo (n : Nat) (m : Nat) : D.lo n (.int m) = true := rfl
theorem arD_lo (n : Nat) (r : Nat × List Nat) : D.lo n (arD r) = true := by
  show (true && (D.lo n (nsD r.2) && true)) = true
  rw [nsD_lo]
  rfl
theorem los_mapD {α : Type} {f : α → D} {n : Nat} (h : ∀ x, D.lo n (f x) = true) (xs : List α) : D.los n (xs.map f) = true := by
  rw [D.los_all]
  intro d hd
  obtain ⟨x, _, rfl⟩ := List.mem_map.mp hd
  exact h x
theorem advD_lo (n : Nat) (a : Adv) : D.lo n (advD a) = true := by
  show (true && (D.los n (a.2.map arD) && true)) = true
  rw [los_mapD (arD_lo n)]
  rfl
theorem cirD_lo (n : Nat) (c : List Adv) : D.lo n (cirD c) = true := los_mapD (advD_lo n) c
/-- some draws in a comprehension -/
theorem draws_comp {k : Nat} {c : List Int} {m sl sv : Nat} {x : D} (hm : 1 ≤ m) (hm2 : m ≤ 1000) {δ : KM.Ctx} {ge : GE} (hv : ∀ (i : Int) (M : List MO), WF M → Pot k c M → ge (δ.set sv (some (.int i))) M = m__law_draw [.ref k, .int (m : Int)] M) : ∀ (n : Nat) (lo : Int) (acc : List Nat) (M : List MO), WF M → Pot k c M → acc.length + n ≤ 1000 → (∀ s ∈ acc, s < m) →
    ∃ (r : List Nat) (M' : List MO), lcL (fun _ => True) (gtName sv) gYes ge δ (rngD lo n) (acc.map fun (n : Nat) => D.int n) M = .ok (r.map fun (n : Nat) => D.int n) M' ∧ Nx k c M M' ∧ r.length = acc.length + n ∧ ∀ s ∈ r, s < m
  | 0, lo, acc, M, wf, w, hl, ha => ⟨acc, M, by simp [rngD, lcL], Nx.refl wf w, rfl, ha⟩
  | n + 1, lo, acc, M, wf, w, hl, ha => by
    obtain ⟨t, M2, e2, a2, b2, n2⟩ := draw_eq wf w (many := (m : Int)) (by omega) (by omega)
    have et : t = ((t.toNat : Nat) : Int) := by omega
    obtain ⟨r, M', e, nx, hr, hq⟩ := draws_comp (sl := sl) (x := x) hm hm2 hv n (lo + 1) (acc ++ [t.toNat]) M2 n2.wf n2.w (by simp; omega) (fun s hs => by
      rcases List.mem_append.mp hs with hs | hs
      · exact ha s hs
      · have : s = t.toNat := by simpa using hs
        omega)
    refine ⟨r, M', ?_, n2.trans nx, by rw [hr]; simp; omega, hq⟩
    rw [rngD_succ]
    unfold lcL
    rw [if_pos trivial]
    have bs : bigS (acc.map fun (n : Nat) => D.int n).length := by rw [List.length_map]; unfold bigS; omega
    rw [List.map_append, List.map_cons, List.map_nil, ← et] at e
    simp only [s_gtName, gYes, if_true, hv lo M wf w, e2, if_pos bs]
    exact e
theorem adv_loop {k : Nat} {c : List Int} {M0 : List MO} (hk : k < M0.length) {size states : Nat} (h2 : 2 ≤ size) (h4 : size ≤ 4) (hs : 1 ≤ states) (hs2 : states ≤ 6) (x2 : Option D) : ∀ (n : Nat) (lo : Int) (rs : List (Nat × List Nat)) (M : List MO) (x5 x6 : Option D), rs.length + n ≤ 1000 → (∀ r ∈ rs, r.1 < size ∧ r.2.length = size ∧ ∀ n ∈ r.2, n < states) → Lv k c M0 M (rs.map arD) →
    ∃ (rs' : List (Nat × List Nat)) (M' : List MO) (y5 y6 : Option D), forL (fun _ => True) (gtName 5) (gDrop (gBM oAppend (gVar 4) (gACons (gETup (gACons (gCall m__law_draw (gACons (gVar 0) (gACons (gVar 1) (gANil)))) (gACons (gCall oTuple (gACons (gLcG finI (giRng1 (gACons (gVar 1) (gANil))) (gtName 6) (gYes) (gCall m__law_draw (gACons (gVar 0) (gACons (gVar 3) (gANil)))) [6]) (gANil))) (gANil)))) (gANil))))
      (rngD lo n) [some (.ref k), some (.int size), x2, some (.int states), some (.ref M0.length), x5, x6] M = .nx [some (.ref k), some (.int size), x2, some (.int states), some (.ref M0.length), y5, y6] M' ∧
      Lv k c M0 M' (rs'.map arD) ∧ rs'.length = rs.length + n ∧ ∀ r ∈ rs', r.1 < size ∧ r.2.length = size ∧ ∀ n ∈ r.2, n < states
  | 0, lo, rs, M, x5, x6, hl, hr, lv => ⟨rs, M, x5, x6, by simp [rngD, forL], lv, rfl, hr⟩
  | n + 1, lo, rs, M, x5, x6, hl, hr, lv => by
    obtain ⟨t, M1, e1, a1, b1, n1⟩ := draw_eq lv.wf lv.w (many := (size : Int)) (by omega) (by omega)
    have et : t = ((t.toNat : Nat) : Int) := by omega
    obtain ⟨r, M2, e2, n2, r1, r2⟩ := draws_comp (k := k) (c := c) (sl := 0) (x := .non) (m := states) (sv := 6) (by omega) (by omega) (δ := [some (.ref k), some (.int size), x2, some (.int states), some (.ref M0.length), some (.int lo), none]) (ge := gCall m__law_draw (gACons (gVar 0) (gACons (gVar 3) (gANil)))) (fun i M _ _ => by simp) size 0 [] M1 n1.wf n1.w (by simp; omega) (by simp)
    have lv2 := lv.nx hk (n1.trans n2)
    have lv3 := lv2.app hk (d := arD (t.toNat, r)) (fun n => arD_lo n _) (mapD_lo arD_lo rs)
    rw [← List.map_singleton, ← List.map_append] at lv3
    obtain ⟨rs', M', y5, y6, e, l', q1, q2⟩ := adv_loop hk h2 h4 hs hs2 x2 n (lo + 1) (rs ++ [(t.toNat, r)]) _ (some (.int lo)) x6 (by simp; omega) (fun x hx => by
      rcases List.mem_append.mp hx with hx | hx
      · exact hr x hx
      · have : x = (t.toNat, r) := by simpa using hx
        subst this
        exact ⟨by show t.toNat < size; omega, by simpa using r1, r2⟩) lv3
    refine ⟨rs', M', y5, y6, ?_, l', by rw [q1]; simp; omega, q2⟩
    rw [rngD_succ]
    unfold forL
    rw [if_pos trivial]
    have ap := oAppend_eq lv2.own (by simp; omega) (arD (t.toNat, r))
    have lo1 := s_listOf_ref M2 lv2.own
    have lo0 := s_listOf_ref M lv.own
    have rb : rngB (size : Int) := rngB_ok (by omega) (by omega)
    rw [List.map_nil] at e2
    have er : D.tup [.int t, .tup (r.map fun (n : Nat) => D.int n)] = arD (t.toNat, r) := by unfold arD nsD; rw [← et]
    rw [List.map_append, List.map_singleton] at e
    simp [e1, lo0, rb, wipeD, e2, finI, bigN, er, ap]
    simpa using e
theorem adviser_eq {k : Nat} {c : List Int} {M : List MO} (wf : WF M) (w : Pot k c M) {size most : Nat} (h2 : 2 ≤ size) (h4 : size ≤ 4) (m1 : 1 ≤ most) (m6 : most ≤ 6) : ∃ a M', m__law_adviser [.ref k, .int size, .int most] M = .ok (advD a) M' ∧ AdvOk size a ∧ Nx k c M M' := by
  obtain ⟨t, M1, e1, a1, b1, n1⟩ := draw_eq wf w (many := (most : Int)) (by omega) (by omega)
  have es : 1 + t = (((1 + t).toNat : Nat) : Int) := by omega
  have hk1 : k < M1.length := n1.w.lt
  obtain ⟨rs, M', y5, y6, e, l, q1, q2⟩ := adv_loop hk1 (size := size) (states := (1 + t).toNat) h2 h4 (by omega) (by omega) (some (.int most)) (1 + t).toNat 0 [] _ none none (by simp; omega) (by simp) (Lv.new n1.wf n1.w)
  have q1' : rs.length = (1 + t).toNat := by simpa using q1
  refine ⟨(size, rs), M'.take M1.length, ?_, ⟨rfl, h2, h4, by show 1 ≤ rs.length; omega, by show rs.length ≤ 6; omega, fun r hr => ⟨(q2 r hr).1, (q2 r hr).2.1, fun n hn => by have := (q2 r hr).2.2 n hn; show n < rs.length; omega⟩⟩, n1.trans (l.cut n1.wf hk1)⟩
  have q : fnM 7 g__law_adviser [.ref k, .int size, .int most] M = .ok (advD (size, rs)) M' := by
    have rb : rngB (1 + t) := rngB_ok (by omega) (by omega)
    have lo1 := s_listOf_ref M' l.own
    have tp : oTuple [.ref M1.length] M' = .ok (.tup (rs.map arD)) M' := by
      unfold oTuple
      simp only [s_tupOf_ref, lo1]
    rw [← es] at e
    unfold advD
    simp [fnM, g__law_adviser, startD, e1, bigN, rb, e, tp]
  have e9 : m__law_adviser [.ref k, .int size, .int most] M = cutR M.length (fnM 7 g__law_adviser [.ref k, .int size, .int most] M) := rfl
  rw [e9, q, ← n1.len]
  exact cut_lv n1.wf l hk1 (advD_lo _ _)
end KG
set_option linter.all false
set_option maxRecDepth 100000
set_option maxHeartbeats 2000000
namespace KG
open PySem L2 KM
theorem circ_comp {k : Nat} {c : List Int} {size most sv : Nat} (h2 : 2 ≤ size) (h4 : size ≤ 4) (m1 : 1 ≤ most) (m6 : most ≤ 6) {δ : KM.Ctx} {ge : GE} (hv : ∀ (i : Int) (M : List MO), WF M → Pot k c M → ge (δ.set sv (some (.int i))) M = m__law_adviser [.ref k, .int size, .int most] M) : ∀ (n : Nat) (lo : Int) (acc : List Adv) (M : List MO), WF M → Pot k c M → acc.length + n ≤ 1000 → (∀ a ∈ acc, AdvOk size a) →
    ∃ (r : List Adv) (M' : List MO), lcL (fun _ => True) (gtName sv) gYes ge δ (rngD lo n) (acc.map advD) M = .ok (r.map advD) M' ∧ Nx k c M M' ∧ r.length = acc.length + n ∧ ∀ a ∈ r, AdvOk size a
  | 0, lo, acc, M, wf, w, hl, ha => ⟨acc, M, by simp [rngD, lcL], Nx.refl wf w, rfl, ha⟩
  | n + 1, lo, acc, M, wf, w, hl, ha => by
    obtain ⟨a, M2, e2, oa, n2⟩ := adviser_eq wf w h2 h4 m1 m6
    obtain ⟨r, M', e, nx, hr, hq⟩ := circ_comp h2 h4 m1 m6 hv n (lo + 1) (acc ++ [a]) M2 n2.wf n2.w (by simp; omega) (fun s hs => by
      rcases List.mem_append.mp hs with hs | hs
      · exact ha s hs
      · have : s = a := by simpa using hs
        subst this
        exact oa)
    refine ⟨r, M', ?_, n2.trans nx, by rw [hr]; simp; omega, hq⟩
    rw [rngD_succ]
    unfold lcL
    rw [if_pos trivial]
    have bs : bigS (acc.map advD).length := by rw [List.length_map]; unfold bigS; omega
    rw [List.map_append, List.map_cons, List.map_nil] at e
    simp only [s_gtName, gYes, if_true, hv lo M wf w, e2, if_pos bs]
    exact e
theorem ixN_last {n : Nat} (h : 1 ≤ n) : ixN n (-1) = some (n - 1) := by
  unfold ixN
  rw [if_neg (by decide), if_pos (by omega)]
  congr 1
  omega
theorem circle_eq {k : Nat} {c : List Int} {M : List MO} (wf : WF M) (w : Pot k c M) {sizes many : List Nat} {most : Nat} (s1 : 1 ≤ sizes.length) (s9 : sizes.length ≤ 1000) (hs : ∀ s ∈ sizes, 2 ≤ s ∧ s ≤ 4) (l1 : 1 ≤ many.length) (l9 : many.length ≤ 1000) (hm : ∀ s ∈ many, 1 ≤ s ∧ s ≤ 4) (m1 : 1 ≤ most) (m6 : most ≤ 6) :
    ∃ (size : Nat) (r : List Adv) (M' : List MO), m__law_circle [.ref k, .lst (sizes.map fun (n : Nat) => D.int n), .lst (many.map fun (n : Nat) => D.int n), .int most] M = .ok (cirD r) M' ∧ size ∈ sizes ∧ r.length ∈ many ∧ CirOk size r ∧ Nx k c M M' := by
  have hk := w.lt
  obtain ⟨d1, M1, e1, q1, n1⟩ := any_eq wf w (x := .lst (sizes.map fun (n : Nat) => D.int n)) (.inl rfl) (by simpa using s1) (by simp; omega) (fun d hd => by
    obtain ⟨x, _, rfl⟩ := List.mem_map.mp hd
    rfl)
  obtain ⟨size, hsz, rfl⟩ := List.mem_map.mp q1
  obtain ⟨d2, M2, e2, q2, n2⟩ := any_eq n1.wf n1.w (x := .lst (many.map fun (n : Nat) => D.int n)) (.inl rfl) (by simpa using l1) (by simp; omega) (fun d hd => by
    obtain ⟨x, _, rfl⟩ := List.mem_map.mp hd
    rfl)
  obtain ⟨num, hnum, rfl⟩ := List.mem_map.mp q2
  have N2 := n1.trans n2
  have hh := hs size hsz
  have hn := hm num hnum
  obtain ⟨r, M3, e3, n3, r1, r2⟩ := circ_comp (k := k) (c := c) (size := size) (most := most) (sv := 6) hh.1 hh.2 m1 m6 (δ := [some (.ref k), some (.lst (sizes.map fun (n : Nat) => D.int n)), some (.lst (many.map fun (n : Nat) => D.int n)), some (.int most), some (.int size), none, none])
    (ge := gCall m__law_adviser (gACons (gVar 0) (gACons (gVar 4) (gACons (gVar 3) (gANil))))) (fun i M _ _ => by simp) num 0 [] M2 n2.wf n2.w (by simp; omega) (by simp)
  rw [List.map_nil] at e3
  have N3 := N2.trans n3
  have rl : r.length = num := by simpa using r1
  have rb : rngB (num : Int) := rngB_ok (by omega) (by omega)
  have lv : Lv k c M3 (M3 ++ [.lst (r.map advD)]) (r.map advD) := by
    have l0 := Lv.new n3.wf n3.w
    obtain ⟨n, p, h, h5, h0, e⟩ := n3.w
    have hk := (List.getElem?_eq_some_iff.mp e).1
    exact ⟨by simp, fun j hj hl => by rw [List.getElem?_append_left hl], get_last _ _, ⟨n, p, h, h5, h0, by rw [List.getElem?_append_left hk]; exact e⟩, n3.wf.app (los_mapD (advD_lo _) r)⟩
  have hk3 : k < M3.length := n3.w.lt
  have fin : ∀ (r' : List Adv) (M' : List MO), g__law_circle (startD 7 [.ref k, .lst (sizes.map fun (n : Nat) => D.int n), .lst (many.map fun (n : Nat) => D.int n), .int most]) M = .rt (cirD r') M' → Lv k c M3 M' (r'.map advD) → r'.length = num → (∀ a ∈ r', AdvOk size a) →
      ∃ (size : Nat) (r : List Adv) (M' : List MO), m__law_circle [.ref k, .lst (sizes.map fun (n : Nat) => D.int n), .lst (many.map fun (n : Nat) => D.int n), .int most] M = .ok (cirD r) M' ∧ size ∈ sizes ∧ r.length ∈ many ∧ CirOk size r ∧ Nx k c M M' := by
    intro r' M' e l hl ha
    refine ⟨size, r', M'.take M3.length, ?_, hsz, by rw [hl]; exact hnum, ⟨by omega, by omega, ha⟩, N3.trans (l.cut n3.wf hk3)⟩
    unfold m__law_circle cutM
    have q : fnM 7 g__law_circle [.ref k, .lst (sizes.map fun (n : Nat) => D.int n), .lst (many.map fun (n : Nat) => D.int n), .int most] M = .ok (cirD r') M' := by unfold fnM; rw [e]
    rw [q, ← N3.len]
    exact cut_lv n3.wf l hk3 (cirD_lo _ _)
  have tp : ∀ {M' : List MO} {r' : List Adv}, Lv k c M3 M' (r'.map advD) → oTuple [.ref M3.length] M' = .ok (cirD r') M' := fun {M' r'} l => by
    unfold oTuple
    simp only [s_tupOf_ref, s_listOf_ref M' l.own]
    rfl
  have ln : ∀ {M' : List MO} {r' : List Adv}, Lv k c M3 M' (r'.map advD) → oLen [.ref M3.length] M' = .ok (.int (r'.length : Int)) M' := fun {M' r'} l => by
    unfold oLen
    simp only [s_tupOf_ref, s_listOf_ref M' l.own]
    simp
  have st : startD 7 [.ref k, .lst (sizes.map fun (n : Nat) => D.int n), .lst (many.map fun (n : Nat) => D.int n), .int most] = [some (.ref k), some (.lst (sizes.map fun (n : Nat) => D.int n)), some (.lst (many.map fun (n : Nat) => D.int n)), some (.int most), none, none, none] := rfl
  rw [st] at fin
  have ln3 := ln lv
  have tp3 := tp lv
  by_cases h1 : 1 < r.length
  · have h1' : (1 : Int) < r.length := by omega
    obtain ⟨t, M4, e4, a4, b4, n4⟩ := draw_eq lv.wf lv.w (many := 6) (by decide) (by decide)
    have lv4 := lv.nx hk3 n4
    by_cases ht : t = 0
    · subst ht
      have i0 : oIx (.ref M3.length) (.int 0) M4 = .ok (advD r[0]) M4 := s_ixL M4 (n := 0) rfl (s_listOf_ref M4 lv4.own) (by rw [List.getElem?_map, List.getElem?_eq_getElem (by omega)]; rfl)
      have ss : oSetL (.ref M3.length) (.int (-1)) (advD r[0]) M4 = some (M4.set M3.length (.lst ((r.set (r.length - 1) r[0]).map advD))) := by
        unfold oSetL
        simp only [lv4.own, List.length_map, ixN_last (show 1 ≤ r.length by omega), List.map_set]
      have lv5 : Lv k c M3 (M4.set M3.length (.lst ((r.set (r.length - 1) r[0]).map advD))) ((r.set (r.length - 1) r[0]).map advD) := by
        obtain ⟨n, p, h, h5, h0, e⟩ := lv4.w
        refine ⟨by rw [List.length_set]; exact lv4.len, fun j hj hl => by rw [List.getElem?_set_ne (by omega)]; exact lv4.oth j hj hl, List.getElem?_set_self (by rw [lv4.len]; omega), ⟨n, p, h, h5, h0, by rw [List.getElem?_set_ne (by omega)]; exact e⟩, lv4.wf.set (los_mapD (advD_lo _) _)⟩
      refine fin (r.set (r.length - 1) r[0]) _ ?_ lv5 (by rw [List.length_set]; exact rl) (fun a ha => ?_)
      · have tp5 := tp lv5
        simp only [List.map_set] at tp5
        simp [g__law_circle, e1, e2, rb, wipeD, e3, finM, ln3, h1', e4, i0, ss, tp5]
      · rcases List.mem_or_eq_of_mem_set ha with h | h
        · exact r2 a h
        · rw [h]; exact r2 _ (List.getElem_mem _)
    · refine fin r M4 ?_ lv4 rl r2
      have tp4 := tp lv4
      simp [g__law_circle, e1, e2, rb, wipeD, e3, finM, ln3, h1', e4, ht, tp4]
  · have h1' : ¬ (1 : Int) < r.length := by omega
    refine fin r _ ?_ lv rl r2
    simp [g__law_circle, e1, e2, rb, wipeD, e3, finM, ln3, h1', tp3]
/-- the pot, new -/
theorem pot_eq {ns : List Int} (hl : ns.length ≤ 63) : ∃ c, m__law_pot [.rol (ns.map D.int)] [] = .ok (.ref 0) [wl c 0 0 (1 + (c.length : Int)) 0] ∧ c.length = ns.length := by
  refine ⟨ns.map fun i => if i < 0 then -i else i, ?_, by simp⟩
  have e1 : cutD (ns.map D.int) none (some 63) = ns.map D.int := by
    unfold cutD
    have h1 : HT.sIx (ns.map D.int).length 0 none = 0 := rfl
    have h2 : HT.sIx (ns.map D.int).length (ns.map D.int).length (some 63) = ns.length := by
      have q : (ns.map D.int).length = ns.length := List.length_map ..
      rw [q]
      unfold HT.sIx
      simp
      omega
    rw [h1, h2, List.drop_zero, Nat.sub_zero, List.take_of_length_le (by simp)]
  have gd : gdOf (.lst (ns.map D.int)) (ns.map D.int) = fun _ => True := rfl
  have hc := lcL_map (gd := fun _ => True) (gg := gtName 2) (ge := gCall oAbs (gACons (gCall oInt (gACons (gVar 2) (gANil))) (gANil))) (δ := [some (.rol (ns.map D.int)), none, none]) (M := []) (em := D.int) (f := fun i => D.int (if i < 0 then -i else i)) trivial ns [] (by simp; omega) (fun x _ => ⟨_, rfl, by simp⟩)
  rw [List.nil_append] at hc
  unfold m__law_pot
  have so : oSl (.rol (ns.map D.int)) none (some 63) [] = .ok (.lst (ns.map D.int)) [] := by
    unfold oSl
    simp only [s_tupOf_rol, s_listOf_rol, e1]
  simp [fnM, g__law_pot, startD, so, wipeD, gd, hc, finI, bigN, wl]
theorem pot_at {c : List Int} {s : Int} : Pot 0 c [wl c 0 0 s 0] := ⟨0, 0, s, 0, by decide, rfl⟩
theorem pot_wf {c : List Int} {s : Int} : WF [wl c 0 0 s 0] := by
  unfold WF
  simp [wl_lo]
/-- what is nested deep -/
theorem deep_loop {k : Nat} {c : List Int} {B : Nat} : ∀ (n : Nat) (lo : Int) (f : D) (M : List MO) (x2 : Option D), WF M → Pot k c M → okD B f = true →
    ∃ (f' : D) (M' : List MO) (y2 : Option D), forL (fun _ => True) (gtName 2) (gSet 1 (gCall m__law_any (gACons (gVar 0) (gACons (gLst (gACons (gLst (gACons (gVar 1) (gANil))) (gACons (gETup (gACons (gVar 1) (gANil))) (gACons (gDctO (gVar 1)) (gANil))))) (gANil)))))
      (rngD lo n) [some (.ref k), some f, x2] M = .nx [some (.ref k), some f', y2] M' ∧ okD B f' = true ∧ Nx k c M M'
  | 0, lo, f, M, x2, wf, w, hf => ⟨f, M, x2, by simp [rngD, forL], hf, Nx.refl wf w⟩
  | n + 1, lo, f, M, x2, wf, w, hf => by
    have hall : ∀ d ∈ [D.lst [f], .tup [f], .dct], okD B d = true := by
      intro d hd
      have : d = .lst [f] ∨ d = .tup [f] ∨ d = .dct := by simpa using hd
      rcases this with rfl | rfl | rfl
      · rw [okD_lst]; simp [hf]
      · rw [okD_tup]; simp [hf]
      · rfl
    obtain ⟨d, M1, e1, hd, n1⟩ := any_eq wf w (x := .lst [.lst [f], .tup [f], .dct]) (.inl rfl) (by simp) (by simp) (fun d hd => okD_lo (hall d hd))
    obtain ⟨f', M', y2, e, q1, q2⟩ := deep_loop n (lo + 1) d M1 (some (.int lo)) n1.wf n1.w (hall d hd)
    refine ⟨f', M', y2, ?_, q1, n1.trans q2⟩
    rw [rngD_succ]
    unfold forL
    simp [bigN, gDctO, e1]
    exact e
theorem deep_eq {k : Nat} {c : List Int} {B : Nat} {M : List MO} (wf : WF M) (w : Pot k c M) : ∃ f M', m__law_deep [.ref k] M = .ok f M' ∧ okD B f = true ∧ Nx k c M M' := by
  have hall : ∀ d ∈ [D.non, .tup [], .int 0, .bl true], okD B d = true := by
    intro d hd
    have : d = .non ∨ d = .tup [] ∨ d = .int 0 ∨ d = .bl true := by simpa using hd
    rcases this with rfl | rfl | rfl | rfl <;> simp [okD, okDs]
  obtain ⟨d, M1, e1, hd, n1⟩ := any_eq wf w (x := .lst [.non, .tup [], .int 0, .bl true]) (.inl rfl) (by simp) (by simp) (fun d hd => okD_lo (hall d hd))
  obtain ⟨t, M2, e2, a2, b2, n2⟩ := draw_eq n1.wf n1.w (many := 12) (by decide) (by decide)
  obtain ⟨f', M', y2, e, q1, q2⟩ := deep_loop (B := B) (8 + t).toNat 0 d M2 none n2.wf n2.w (hall d hd)
  have N := (n1.trans n2).trans q2
  refine ⟨f', M', ?_, q1, N⟩
  unfold m__law_deep cutM
  have rb : rngB (8 + t) := rngB_ok (by omega) (by omega)
  have q : fnM 3 g__law_deep [.ref k] M = .ok f' M' := by
    simp [fnM, g__law_deep, startD, bigN, e1, e2, rb, e]
  rw [q]
  exact cut_wf N.len N.wf (okD_lo q1)
theorem tyOk_l : tyOk "list" = true := by decide +kernel
/-- equal flags are told equal -/
theorem law_is_bl {M : List MO} (wf : WF M) (a b : Bool) : m__law_is [.bl a, .bl b] M = .ok (.bl (a == b)) M := by
  show f__law_is 4 [.bl a, .bl b] M = _
  unfold f__law_is cutM
  have q : fnM 3 (g__law_is (f__law_is 3)) [.bl a, .bl b] M = .ok (.bl (a == b)) M := by
    have e1 : oIsi2 "tuple" "list" (.bl b) M = .ok (.bl false) M := by simp [oIsi2, tyM, tyN, isiB, tyOk_tuple, tyOk_l]
    have e2 : ∀ c, oIsi "bool" (.bl c) M = .ok (.bl true) M := fun c => by simp [oIsi, tyM, tyN, isiB, tyOk_bool]
    have e3 : oEq (.bl true) (.bl true) M = .ok (.bl true) M := rfl
    have e4 : oEq (.bl a) (.bl b) M = .ok (.bl (a == b)) M := by cases a <;> cases b <;> rfl
    simp [fnM, g__law_is, startD, e1, e2, e3, e4]
  rw [q]
  exact cut_same wf rfl
end KG
set_option linter.all false
set_option maxRecDepth 100000
set_option maxHeartbeats 2000000
namespace KG
open PySem L2 KM
/-! ### what is told at a def's end as what never changes -/
section
variable {n : Nat} {M : List MO}
@[simp] theorem frz_int (f : Nat) (i : Int) : frz n M (f + 1) (.int i) = some (.int i) := rfl
@[simp] theorem frz_bl (f : Nat) (b : Bool) : frz n M (f + 1) (.bl b) = some (.bl b) := rfl
theorem mapM_all {α β : Type} {f : α → Option β} {g : α → β} : ∀ {xs : List α}, (∀ x ∈ xs, f x = some (g x)) → xs.mapM f = some (xs.map g)
  | [], _ => rfl
  | x :: xs, h => by
    rw [List.mapM_cons, h x (by simp), mapM_all fun y hy => h y (by simp [hy])]
    rfl
theorem mapM_id' {α : Type} {f : α → Option α} {xs : List α} (h : ∀ x ∈ xs, f x = some x) : xs.mapM f = some xs := by
  rw [mapM_all (g := id) h, List.map_id]
theorem frz_tup {f : Nat} {xs ys : List D} (h : xs.mapM (frz n M f) = some ys) : frz n M (f + 1) (.tup xs) = some (.tup ys) := by
  show (xs.mapM (frz n M f)).map D.tup = _
  rw [h]; rfl
theorem frz_lst {f : Nat} {xs ys : List D} (h : xs.mapM (frz n M f) = some ys) : frz n M (f + 1) (.lst xs) = some (.lst ys) := by
  show (xs.mapM (frz n M f)).map D.lst = _
  rw [h]; rfl
theorem frz_ref {f k : Nat} {xs ys : List D} (hk : n ≤ k) (e : M[k]? = some (.lst xs)) (h : xs.mapM (frz n M f) = some ys) : frz n M (f + 1) (.ref k) = some (.lst ys) := by
  show (if k < n then some (D.ref k) else match M[k]? with
      | some (.lst xs) => (xs.mapM (frz n M f)).map D.lst
      | some (.kd kvs) => ((kvs.map fun p => p.2).mapM (frz n M f)).map fun vs => .kdi (kvs.map fun p => p.1) vs
      | _ => none) = _
  rw [if_neg (by omega), e]
  simp only
  rw [h]; rfl
theorem frz_refK {f k : Nat} {kvs : List (D × D)} {ys : List D} (hk : n ≤ k) (e : M[k]? = some (.kd kvs)) (h : (kvs.map fun p => p.2).mapM (frz n M f) = some ys) : frz n M (f + 1) (.ref k) = some (.kdi (kvs.map fun p => p.1) ys) := by
  show (if k < n then some (D.ref k) else match M[k]? with
      | some (.lst xs) => (xs.mapM (frz n M f)).map D.lst
      | some (.kd kvs) => ((kvs.map fun p => p.2).mapM (frz n M f)).map fun vs => .kdi (kvs.map fun p => p.1) vs
      | _ => none) = _
  rw [if_neg (by omega), e]
  simp only
  rw [h]; rfl
theorem frz_kdi {f : Nat} {ks vs ys : List D} (h : vs.mapM (frz n M f) = some ys) : frz n M (f + 1) (.kdi ks vs) = some (.kdi ks ys) := by
  show (vs.mapM (frz n M f)).map (fun vs => D.kdi ks vs) = _
  rw [h]; rfl
theorem frz_nsD (f : Nat) (ns : List Nat) : frz n M (f + 2) (nsD ns) = some (nsD ns) := by
  refine frz_tup ?_
  rw [mapM_all (g := id), List.map_id]
  intro x hx
  obtain ⟨i, _, rfl⟩ := List.mem_map.mp hx
  rfl
end
/-! ### places -/
abbrev Plc := List Nat × List Nat
def plD (p : Plc) : D := .tup [nsD p.1, nsD p.2]
structure PlOk (c : List Adv) (p : Plc) : Prop where
  h1 : c.length = p.1.length
  h2 : c.length = p.2.length
  hz : ∀ q ∈ c.zip p.1, q.2 < q.1.2.length
def lowN : List Nat → Nat
  | [] => 0
  | n :: ns => ns.foldl min n
theorem foldl_min_le : ∀ (ns : List Nat) (n : Nat), ns.foldl min n ≤ n ∧ ∀ m ∈ ns, ns.foldl min n ≤ m
  | [], n => ⟨Nat.le_refl _, fun _ h => by simp at h⟩
  | m :: ns, n => by
    obtain ⟨h1, h2⟩ := foldl_min_le ns (min n m)
    refine ⟨Nat.le_trans h1 (Nat.min_le_left _ _), fun x hx => ?_⟩
    rcases List.mem_cons.mp hx with rfl | hx
    · exact Nat.le_trans h1 (Nat.min_le_right _ _)
    · exact h2 x hx
theorem lowN_le {ns : List Nat} {m : Nat} (h : m ∈ ns) : lowN ns ≤ m := by
  cases ns with
  | nil => simp at h
  | cons n ns =>
    obtain ⟨h1, h2⟩ := foldl_min_le ns n
    rcases List.mem_cons.mp h with rfl | h
    · exact h1
    · exact h2 m h
theorem foldl_min_mem : ∀ (ns : List Nat) (n : Nat), ns.foldl min n ∈ n :: ns
  | [], n => by simp
  | m :: ns, n => by
    have := foldl_min_mem ns (min n m)
    rw [List.foldl_cons]
    rcases List.mem_cons.mp this with h | h
    · rw [h]
      by_cases q : n ≤ m
      · rw [Nat.min_eq_left q]; simp
      · rw [Nat.min_eq_right (by omega)]; simp
    · simp [h]
theorem lowN_mem {ns : List Nat} (h : ns ≠ []) : lowN ns ∈ ns := by
  cases ns with
  | nil => exact absurd rfl h
  | cons n ns => exact foldl_min_mem ns n
theorem minL_nat : ∀ (ns : List Nat) (n : Nat), minL (n : Int) (ns.map fun (m : Nat) => (m : Int)) = ((ns.foldl min n : Nat) : Int)
  | [], n => rfl
  | m :: ns, n => by
    have e : minL (n : Int) ((m :: ns).map fun (m : Nat) => (m : Int)) = minL (if (m : Int) < n then (m : Int) else n) (ns.map fun (m : Nat) => (m : Int)) := rfl
    rw [e, List.foldl_cons, ← minL_nat ns (min n m)]
    congr 1
    by_cases q : m < n
    · rw [if_pos (by omega), Nat.min_eq_right (by omega)]
    · rw [if_neg (by omega), Nat.min_eq_left (by omega)]
theorem intsD_nat : ∀ ns : List Nat, intsD (ns.map fun (n : Nat) => D.int n) = some (ns.map fun (m : Nat) => (m : Int))
  | [] => rfl
  | n :: ns => by
    have := intsD_nat ns
    simp [intsD, this]
theorem min_nsD {ns : List Nat} (h : ns ≠ []) (M : List MO) : oMinA [nsD ns] M = .ok (.int (lowN ns)) M := by
  cases ns with
  | nil => exact absurd rfl h
  | cons n ns =>
    have e := intsD_nat (n :: ns)
    rw [List.map_cons, List.map_cons] at e
    unfold oMinA nsD
    simp only [s_tupOf, List.map_cons, e]
    rw [minL_nat]
    rfl
def wayB (c : List Adv) (p : Plc) (x : Nat) : Plc := (nxts c p.1 x, (msts c p.1 p.2 x).map fun m => m - lowN (msts c p.1 p.2 x))
def wayR (c : List Adv) (p : Plc) (x : Nat) : Nat := lowN (msts c p.1 p.2 x)
def wayD (c : List Adv) (p : Plc) (x : Nat) : D := .tup [plD (wayB c p x), .int (wayR c p x)]
def waysD (c : List Adv) (k : Nat) (p : Plc) : D := .lst ((List.range' 0 k).map (wayD c p))
theorem plD_lo (n : Nat) (p : Plc) : D.lo n (plD p) = true := by
  show (D.lo n (nsD p.1) && (D.lo n (nsD p.2) && true)) = true
  rw [nsD_lo, nsD_lo]; rfl
theorem wayD_lo (n : Nat) (c : List Adv) (p : Plc) (x : Nat) : D.lo n (wayD c p x) = true := by
  show (D.lo n (plD _) && (true && true)) = true
  rw [plD_lo]; rfl
theorem frz_plD {n : Nat} {M : List MO} (f : Nat) (p : Plc) : frz n M (f + 3) (plD p) = some (plD p) := by
  refine frz_tup ?_
  rw [List.mapM_cons, frz_nsD, List.mapM_cons, frz_nsD]
  rfl
theorem frz_wayD {n : Nat} {M : List MO} (f : Nat) (c : List Adv) (p : Plc) (x : Nat) : frz n M (f + 4) (wayD c p x) = some (wayD c p x) := by
  refine frz_tup ?_
  rw [List.mapM_cons, frz_plD, List.mapM_cons, frz_int]
  rfl
theorem msts_len {c : List Adv} {p : Plc} (h : PlOk c p) (x : Nat) : (msts c p.1 p.2 x).length = c.length := by
  have a := h.h1
  have b := h.h2
  simp [msts]
  omega
theorem nxts_len {c : List Adv} {p : Plc} (h : PlOk c p) (x : Nat) : (nxts c p.1 x).length = c.length := by
  have a := h.h1
  simp [nxts]
  omega
theorem nxts_ok {k : Nat} {c : List Adv} (h : ∀ a ∈ c, AdvOk k a) {x : Nat} (hx : x < k) : ∀ {ss : List Nat}, (∀ q ∈ c.zip ss, q.2 < q.1.2.length) → ∀ q ∈ c.zip (nxts c ss x), q.2 < q.1.2.length := by
  induction c with
  | nil => intro ss _ q hq; simp at hq
  | cons a c ih =>
    intro ss hz q hq
    cases ss with
    | nil => simp [nxts] at hq
    | cons s ss =>
      have e : nxts (a :: c) (s :: ss) x = advNext a s x :: nxts c ss x := rfl
      rw [e, List.zip_cons_cons] at hq
      rcases List.mem_cons.mp hq with rfl | hq
      · exact (advNext_lt (h a (by simp)) (hz (a, s) (by simp)) hx).2
      · exact ih (fun b hb => h b (by simp [hb])) (fun r hr => hz r (by simp [hr])) q hq
theorem PlOk.way {k : Nat} {c : List Adv} (h : CirOk k c) {p : Plc} (hp : PlOk c p) {x : Nat} (hx : x < k) : PlOk c (wayB c p x) :=
  ⟨(nxts_len hp x).symm, by show c.length = (List.map _ _).length; rw [List.length_map, msts_len hp], nxts_ok h.ad hx hp.hz⟩
theorem app1 (M0 : List MO) (xs : List D) (hl : xs.length < 100000) (d : D) : oAppend (.ref M0.length) [d] (M0 ++ [.lst xs]) = .ok .non (M0 ++ [.lst (xs ++ [d])]) := by
  have e : (M0 ++ [MO.lst xs])[M0.length]? = some (.lst xs) := by simp
  rw [oAppend_eq e hl]
  simp
theorem lo1 (M0 : List MO) (xs : List D) : listOf (M0 ++ [.lst xs]) (.ref M0.length) = some xs := s_listOf_ref _ (by simp)
theorem wf1 {M : List MO} (wf : WF M) {xs : List D} (h : ∀ x ∈ xs, ∀ n, D.lo n x = true) : WF (M ++ [.lst xs]) := wf.app (by
  show D.los _ xs = true
  rw [D.los_all]
  exact fun d hd => h d hd _)
noncomputable def bWays : GS := gSeq (gAsg (gCall m_heard (gACons (gVar 0) (gACons (gOp oIx (gVar 1) (gC (.int 0))) (gACons (gOp oIx (gVar 1) (gC (.int 1))) (gACons (gVar 3) (gANil)))))) (gtTup 2 (gtCons (gtName 4) (gtCons (gtName 5) (gtNil)))))
    (gSeq (gSet 6 (gCall oMinA (gACons (gVar 5) (gANil))))
    (gDrop (gBM oAppend (gVar 2) (gACons (gETup (gACons (gETup (gACons (gVar 4) (gACons (gCall oTuple (gACons (gLcG finI (giSeq (gVar 5)) (gtName 7) (gYes) (gOp oSub (gVar 7) (gVar 6)) [7]) (gANil))) (gANil)))) (gACons (gVar 6) (gANil)))) (gANil)))))
theorem ways_loop {k : Nat} {M0 : List MO} (wf : WF M0) {c : List Adv} (h : CirOk k c) {p : Plc} (hp : PlOk c p) : ∀ (n lo : Nat) (acc : List D) (u3 u4 u5 u6 u7 : Option D), lo + n ≤ k → acc.length + n ≤ 1000 → (∀ x ∈ acc, ∀ n, D.lo n x = true) →
    ∃ v3 v4 v5 v6 v7, forL (fun _ => True) (gtName 3) bWays (rngD lo n) [some (cirD c), some (plD p), some (.ref M0.length), u3, u4, u5, u6, u7] (M0 ++ [.lst acc]) =
      .nx [some (cirD c), some (plD p), some (.ref M0.length), v3, v4, v5, v6, v7] (M0 ++ [.lst (acc ++ (List.range' lo n).map (wayD c p))])
  | 0, lo, acc, u3, u4, u5, u6, u7, hk, hl, ha => ⟨u3, u4, u5, u6, u7, by simp [rngD, forL]⟩
  | n + 1, lo, acc, u3, u4, u5, u6, u7, hk, hl, ha => by
    have hx : lo < k := by omega
    obtain ⟨v3, v4, v5, v6, v7, e⟩ := ways_loop wf h hp n (lo + 1) (acc ++ [wayD c p lo]) (some (.int lo)) (some (nsD (nxts c p.1 lo))) (some (nsD (msts c p.1 p.2 lo))) (some (.int (wayR c p lo))) u7 (by omega) (by simp; omega) (fun x hx n => by
      rcases List.mem_append.mp hx with q | q
      · exact ha x q n
      · rw [List.mem_singleton.mp q]
        exact wayD_lo n c p lo)
    refine ⟨v3, v4, v5, v6, v7, ?_⟩
    have wf2 := wf1 wf ha
    have hh := heard_eq wf2 h hp.h1 hp.h2 hp.hz hx
    have ne : msts c p.1 p.2 lo ≠ [] := fun z => by
      have := msts_len hp lo
      rw [z] at this
      have l1 := h.l1
      simp at this
      omega
    have i0 : ∀ M, oIx (plD p) (.int 0) M = .ok (nsD p.1) M := fun M => ix2_0 _ _ M
    have i1 : ∀ M, oIx (plD p) (.int 1) M = .ok (nsD p.2) M := fun M => ix2_1 _ _ M
    have mn := min_nsD ne (M0 ++ [.lst acc])
    have cm : lcL (fun _ => True) (gtName 7) gYes (gOp oSub (gVar 7) (gVar 6)) [some (cirD c), some (plD p), some (.ref M0.length), some (.int lo), some (nsD (nxts c p.1 lo)), some (nsD (msts c p.1 p.2 lo)), some (.int (lowN (msts c p.1 p.2 lo))), none] ((msts c p.1 p.2 lo).map fun (n : Nat) => D.int n) [] (M0 ++ [.lst acc]) =
        .ok ((wayB c p lo).2.map fun (n : Nat) => D.int n) (M0 ++ [.lst acc]) := by
      rw [lcL_mapD (f := fun d => match d with
        | .int i => .int (i - (lowN (msts c p.1 p.2 lo) : Int))
        | d => d) _ (by rw [List.length_map, msts_len hp]; have := h.l4; omega) (fun x hx => by
          obtain ⟨i, hi, rfl⟩ := List.mem_map.mp hx
          exact ⟨_, rfl, by simp [oSub, oI2]⟩)]
      congr 1
      unfold wayB
      rw [List.map_map, List.map_map]
      refine List.map_congr_left fun m hm => ?_
      have := lowN_le hm
      show D.int ((m : Int) - (lowN (msts c p.1 p.2 lo) : Int)) = D.int ((m - lowN (msts c p.1 p.2 lo) : Nat) : Int)
      congr 1
      omega
    have la := lo1 M0 acc
    have aa := app1 M0 acc (by omega) (wayD c p lo)
    have ew : ∀ M, oTuple [.lst ((wayB c p lo).2.map fun (n : Nat) => D.int n)] M = .ok (nsD (wayB c p lo).2) M := fun M => by simp [oTuple]; rfl
    rw [rngD_succ, List.range'_succ, List.map_cons]
    unfold forL
    rw [if_pos trivial]
    have eb : bWays [some (cirD c), some (plD p), some (.ref M0.length), some (.int lo), u4, u5, u6, u7] (M0 ++ [.lst acc]) = .nx [some (cirD c), some (plD p), some (.ref M0.length), some (.int lo), some (nsD (nxts c p.1 lo)), some (nsD (msts c p.1 p.2 lo)), some (.int (wayR c p lo)), u7] (M0 ++ [.lst (acc ++ [wayD c p lo])]) := by
      unfold bWays
      have sq : tupOf (nsD (msts c p.1 p.2 lo)) = some ((msts c p.1 p.2 lo).map fun (n : Nat) => D.int n) := rfl
      simp [i0, i1, hh, mn, sq, la, wipeD, ew]
      have aa2 : oAppend (.ref M0.length) [.tup [.tup [nsD (nxts c p.1 lo), nsD (wayB c p lo).2], .int (lowN (msts c p.1 p.2 lo) : Nat)]] (M0 ++ [.lst acc]) = .ok .non (M0 ++ [.lst (acc ++ [wayD c p lo])]) := aa
      rw [cm]
      simp [finI, ew, bigN, aa2]
      rfl
    simp only [s_gtName, List.set_cons_succ, List.set_cons_zero, eb]
    rw [show ((lo : Nat) : Int) + 1 = ((lo + 1 : Nat) : Int) by omega]
    simpa using e
theorem ways_eq {k : Nat} {M : List MO} (wf : WF M) {c : List Adv} (h : CirOk k c) {p : Plc} (hp : PlOk c p) : m_ways [cirD c, plD p] M = .ok (waysD c k p) M := by
  have s4 := h.s4
  obtain ⟨v3, v4, v5, v6, v7, e⟩ := ways_loop wf h hp k 0 [] none none none none none (by omega) (by simp; omega) (by simp)
  have hs : szD (cirD c) = 0 ∨ True := .inr trivial
  have l1 := h.l1
  have e0 : ∀ M', oIx (cirD c) (.int 0) M' = .ok (advD c[0]) M' := fun M' => ixT_map (f := advD) (by simp [List.getElem?_eq_getElem (show 0 < c.length by omega)]) M'
  have e1 : ∀ M', oIx (advD c[0]) (.int 0) M' = .ok (.int k) M' := fun M' => by
    have := (h.ad c[0] (List.getElem_mem (by omega))).s
    rw [← this]
    exact ix2_0 _ _ M'
  unfold m_ways frzM
  have q : fnM 8 g_ways [cirD c, plD p] M = .ok (.ref M.length) (M ++ [.lst ((List.range' 0 k).map (wayD c p))]) := by
    rw [List.nil_append] at e
    have e' := e
    unfold bWays at e'
    have rb : rngB (k : Int) := by unfold rngB; omega
    have e2 := e'
    simp only [Int.ofNat_zero, Int.natCast_zero] at e2
    simp [fnM, g_ways, startD, bigN, e0, e1, rb, e2]
  rw [q]
  have b1 : ((M ++ [MO.lst ((List.range' 0 k).map (wayD c p))]).take M.length).all (MO.lo M.length) = true := by
    rw [List.take_left]
    exact wf
  have b2 : ((M ++ [MO.lst ((List.range' 0 k).map (wayD c p))]).drop M.length).all (fun o => !o.isL) = true := by
    rw [List.drop_left]
    rfl
  have b3 : frz M.length (M ++ [MO.lst ((List.range' 0 k).map (wayD c p))]) 9 (.ref M.length) = some (waysD c k p) := by
    exact frz_ref (Nat.le_refl _) (by simp) (mapM_id' fun x hx => by
      obtain ⟨i, _, rfl⟩ := List.mem_map.mp hx
      exact frz_wayD 4 c p i)
  show (if (((M ++ [MO.lst ((List.range' 0 k).map (wayD c p))]).take M.length).all (MO.lo M.length) && ((M ++ [MO.lst ((List.range' 0 k).map (wayD c p))]).drop M.length).all (fun o => !o.isL)) = true then (match frz M.length (M ++ [MO.lst ((List.range' 0 k).map (wayD c p))]) 9 (.ref M.length) with
    | some d' => R.ok d' ((M ++ [MO.lst ((List.range' 0 k).map (wayD c p))]).take M.length)
    | none => .bad) else .bad) = _
  rw [b1, b2, b3, List.take_left]
  rfl
end KG
set_option linter.all false
set_option maxRecDepth 100000
set_option maxHeartbeats 2000000
namespace KG
open PySem L2 KM
/-! ### places as keys -/
def nk (ns : List Nat) : NestedKey := .tup (ns.map fun (n : Nat) => NestedKey.num n)
def pk (p : Plc) : NestedKey := .tup [nk p.1, nk p.2]
theorem keysOf_nat : ∀ ns : List Nat, keysOf (ns.map fun (n : Nat) => D.int n) = some (ns.map fun (n : Nat) => NestedKey.num n)
  | [] => by simp [keysOf]
  | n :: ns => by
    rw [List.map_cons]
    unfold keysOf
    rw [keysOf_nat ns]
    simp [keyOf]
theorem keyOf_nsD (ns : List Nat) : keyOf (nsD ns) = some (nk ns) := by
  unfold nsD keyOf
  rw [keysOf_nat]
  rfl
theorem depthAll_nat : ∀ ns : List Nat, NestedKey.depthAll (ns.map fun (n : Nat) => NestedKey.num n) = 0
  | [] => by simp [NestedKey.depthAll]
  | n :: ns => by
    rw [List.map_cons]
    unfold NestedKey.depthAll
    rw [depthAll_nat ns]
    simp [NestedKey.depth]
theorem depth_nk (ns : List Nat) : (nk ns).depth = 1 := by
  unfold nk NestedKey.depth
  rw [depthAll_nat]
theorem tkey_pl (p : Plc) : tkey (plD p) = some (pk p) := by
  have e : keyOf (plD p) = some (pk p) := by
    unfold plD keyOf
    unfold keysOf
    rw [keyOf_nsD]
    unfold keysOf
    rw [keyOf_nsD]
    unfold keysOf
    rfl
  have d : (pk p).depth = 2 := by
    unfold pk NestedKey.depth
    unfold NestedKey.depthAll
    unfold NestedKey.depthAll
    unfold NestedKey.depthAll
    rw [depth_nk, depth_nk]
    rfl
  show (match keyOf (plD p) with
    | some k => if k.depth ≤ 8 then some k else none
    | none => none) = _
  rw [e]
  simp only
  rw [if_pos (by omega)]
theorem nk_inj {a b : List Nat} (h : nk a = nk b) : a = b := by
  unfold nk at h
  injection h with h
  have : Function.Injective fun (n : Nat) => NestedKey.num n := fun x y e => by
    injection e with e
    omega
  exact (List.map_inj_right fun x y e => this e).mp h
theorem pk_inj {p q : Plc} (h : pk p = pk q) : p = q := by
  unfold pk at h
  injection h with h
  injection h with h1 h2
  injection h2 with h2 _
  exact Prod.ext (nk_inj h1) (nk_inj h2)
/-- a dict with places as keys -/
def dcP (f : Plc → D) (ps : List Plc) : List (D × D) := ps.map fun p => (plD p, f p)
theorem dcP_fst (f : Plc → D) (ps : List Plc) : (dcP f ps).map (fun p => p.1) = ps.map plD := by
  unfold dcP
  rw [List.map_map]
  rfl
theorem dcP_snd (f : Plc → D) (ps : List Plc) : (dcP f ps).map (fun p => p.2) = ps.map f := by
  unfold dcP
  rw [List.map_map]
  rfl
theorem dcP_zip (f : Plc → D) : ∀ ps : List Plc, (ps.map plD).zip (ps.map f) = dcP f ps
  | [] => rfl
  | p :: ps => by
    rw [List.map_cons, List.map_cons, List.zip_cons_cons, dcP_zip f ps]
    rfl
theorem kget_in {f : Plc → D} {q : Plc} : ∀ {ps : List Plc}, q ∈ ps → kget (dcP f ps) (pk q) = some (f q)
  | [], h => by simp at h
  | p :: ps, h => by
    show (if tkey (plD p) = some (pk q) then some (f p) else kget (dcP f ps) (pk q)) = _
    rw [tkey_pl]
    by_cases e : p = q
    · subst e
      rw [if_pos rfl]
    · rw [if_neg fun z => e (pk_inj (Option.some.inj z))]
      rcases List.mem_cons.mp h with rfl | h
      · exact absurd rfl e
      · exact kget_in h
theorem kput_new {f : Plc → D} {q : Plc} {d : D} : ∀ {ps : List Plc}, q ∉ ps → kput (dcP f ps) (pk q) (plD q) d = dcP f ps ++ [(plD q, d)]
  | [], _ => rfl
  | p :: ps, h => by
    show (if tkey (plD p) = some (pk q) then (plD p, d) :: dcP f ps else (plD p, f p) :: kput (dcP f ps) (pk q) (plD q) d) = _
    rw [tkey_pl, if_neg fun z => h (by rw [pk_inj (Option.some.inj z)]; simp), kput_new fun z => h (by simp [z])]
    rfl
theorem kput_old {f : Plc → D} {q : Plc} : ∀ {ps : List Plc}, q ∈ ps → kput (dcP f ps) (pk q) (plD q) (f q) = dcP f ps
  | [], h => by simp at h
  | p :: ps, h => by
    show (if tkey (plD p) = some (pk q) then (plD p, f q) :: dcP f ps else (plD p, f p) :: kput (dcP f ps) (pk q) (plD q) (f q)) = _
    rw [tkey_pl]
    by_cases e : p = q
    · subst e
      rw [if_pos rfl]
      rfl
    · rw [if_neg fun z => e (pk_inj (Option.some.inj z))]
      rcases List.mem_cons.mp h with rfl | h
      · exact absurd rfl e
      · rw [kput_old h]
        rfl
theorem dcP_app (f : Plc → D) (ps qs : List Plc) : dcP f (ps ++ qs) = dcP f ps ++ dcP f qs := List.map_append
/-- one comprehension over distinct places -/
theorem kc_map {gk gv : GE} {δ : KM.Ctx} {M : List MO} {f : Plc → D} {s : Nat} : ∀ (ps acc : List Plc), (acc ++ ps).Nodup → acc.length + ps.length ≤ 100000 → (∀ p ∈ ps, gk (δ.set s (some (plD p))) M = .ok (plD p) M ∧ gv (δ.set s (some (plD p))) M = .ok (f p) M) →
    kcL (fun _ => True) (gtName s) gYes gk gv δ (ps.map plD) (dcP f acc) M = .ok (dcP f (acc ++ ps)) M
  | [], acc, _, _, _ => by simp [kcL]
  | p :: ps, acc, nd, hl, h => by
    rw [List.length_cons] at hl
    obtain ⟨h1, h2⟩ := h p (by simp)
    have np : p ∉ acc := fun z => by
      rw [List.nodup_append] at nd
      exact nd.2.2 p z p (by simp) rfl
    have e : acc ++ p :: ps = (acc ++ [p]) ++ ps := by simp
    rw [List.map_cons]
    unfold kcL
    rw [if_pos trivial]
    simp only [s_gtName, h1, h2, gYes, if_true]
    rw [tkey_pl]
    simp only
    rw [if_pos (by simp [dcP]; omega), kput_new np, show dcP f acc ++ [(plD p, f p)] = dcP f (acc ++ [p]) by rw [dcP_app]; rfl, kc_map ps (acc ++ [p]) (by rw [← e]; exact nd) (by simp; omega) fun q hq => h q (by simp [hq]), e]
/-- a place is put in, if it is new -/
def ins (acc : List Plc) (p : Plc) : List Plc := if p ∈ acc then acc else acc ++ [p]
theorem ins_mem {acc : List Plc} {p q : Plc} : q ∈ ins acc p ↔ q ∈ acc ∨ q = p := by
  unfold ins
  split
  · constructor
    · exact .inl
    · rintro (h | rfl)
      · exact h
      · assumption
  · simp
theorem ins_nd {acc : List Plc} {p : Plc} (h : acc.Nodup) : (ins acc p).Nodup := by
  unfold ins
  split
  · exact h
  · rename_i q
    rw [List.nodup_append]
    exact ⟨h, by simp, fun a ha b hb e => q (by rw [List.mem_singleton.mp hb] at e; rw [← e]; exact ha)⟩
theorem ins_len (acc : List Plc) (p : Plc) : (ins acc p).length ≤ acc.length + 1 := by
  unfold ins
  split <;> simp
theorem foldl_ins_mem : ∀ {ps acc : List Plc} {q : Plc}, q ∈ ps.foldl ins acc ↔ q ∈ acc ∨ q ∈ ps
  | [], acc, q => by simp
  | p :: ps, acc, q => by
    rw [List.foldl_cons, foldl_ins_mem, ins_mem]
    simp [or_assoc]
theorem foldl_ins_nd : ∀ {ps acc : List Plc}, acc.Nodup → (ps.foldl ins acc).Nodup
  | [], acc, h => h
  | p :: ps, acc, h => foldl_ins_nd (ps := ps) (ins_nd h)
theorem foldl_ins_len : ∀ (ps acc : List Plc), (ps.foldl ins acc).length ≤ acc.length + ps.length
  | [], acc => by simp
  | p :: ps, acc => by
    have := foldl_ins_len ps (ins acc p)
    have := ins_len acc p
    rw [List.foldl_cons, List.length_cons]
    omega
def eT : Plc → D := fun _ => .bl true
theorem kput_ins (acc : List Plc) (p : Plc) : kput (dcP eT acc) (pk p) (plD p) (.bl true) = dcP eT (ins acc p) := by
  unfold ins
  split
  · rename_i h
    exact kput_old (f := eT) h
  · rename_i h
    rw [kput_new h, dcP_app]
    rfl
/-- the ways of one place are put in -/
theorem kc_ways {δ : KM.Ctx} {M : List MO} {c : List Adv} {p : Plc} (hd : 8 < δ.length) : ∀ (xs : List Nat) (acc : List Plc), acc.length + xs.length ≤ 100000 →
    kcL (fun _ => True) (gtTup 2 (gtCons (gtName 8) (gtCons (gtName 4) (gtNil)))) gYes (gVar 8) (gC (.bl true)) δ (xs.map (wayD c p)) (dcP eT acc) M = .ok (dcP eT ((xs.map (wayB c p)).foldl ins acc)) M
  | [], acc, _ => by simp [kcL]
  | x :: xs, acc, hl => by
    rw [List.length_cons] at hl
    rw [List.map_cons, List.map_cons, List.foldl_cons]
    unfold kcL
    rw [if_pos trivial]
    have hv : ((δ.set 8 (some (plD (wayB c p x)))).set 4 (some (.int (wayR c p x))))[8]? = some (some (plD (wayB c p x))) := by
      rw [List.getElem?_set_ne (by decide), List.getElem?_set_self hd]
    simp only [wayD, s_gtTup, List.length_cons, List.length_nil, s_gtCons, s_gtName, s_gtNil, gYes, if_true, s_gVar, hv, s_gC, tkey_pl]
    have := ins_len acc (wayB c p x)
    rw [if_pos (by simp [dcP]; omega), kput_ins]
    exact kc_ways hd xs (ins acc (wayB c p x)) (by omega)
/-- of all places -/
def insW (c : List Adv) (k : Nat) (acc : List Plc) (p : Plc) : List Plc := ((List.range' 0 k).map (wayB c p)).foldl ins acc
def nextP (c : List Adv) (k : Nat) (ps : List Plc) : List Plc := ps.foldl (insW c k) []
theorem kc2_next {k : Nat} {M : List MO} {c : List Adv} {δ : KM.Ctx} (hd : 8 < δ.length) : ∀ (ps acc : List Plc), acc.length + k * ps.length ≤ 100000 →
    kc2L (fun _ => True) (gtName 7) gYes (giSeq (gVar 7)) (gtTup 2 (gtCons (gtName 8) (gtCons (gtName 4) (gtNil)))) gYes (gVar 8) (gC (.bl true)) [8, 4] δ (ps.map (waysD c k)) (dcP eT acc) M = .ok (dcP eT (ps.foldl (insW c k) acc)) M
  | [], acc, _ => by simp [kc2L]
  | p :: ps, acc, hl => by
    rw [List.length_cons, Nat.mul_add, Nat.mul_one] at hl
    rw [List.map_cons, List.foldl_cons]
    unfold kc2L
    rw [if_pos trivial]
    have hv : (δ.set 7 (some (waysD c k p)))[7]? = some (some (waysD c k p)) := List.getElem?_set_self (by omega)
    have hw := kc_ways (M := M) (c := c) (p := p) (δ := wipeD (δ.set 7 (some (waysD c k p))) [8, 4]) (by simp [wipeD]; exact hd) (List.range' 0 k) acc (by rw [List.length_range']; omega)
    have hl2 := foldl_ins_len ((List.range' 0 k).map (wayB c p)) acc
    rw [List.length_map, List.length_range'] at hl2
    simp only [s_gtName, gYes, if_true, s_giSeq, s_gVar, hv, R.bind_ok]
    have e1 : tupOf (waysD c k p) = none := rfl
    have e2 : listOf M (waysD c k p) = some ((List.range' 0 k).map (wayD c p)) := rfl
    have e3 : gdOf (waysD c k p) ((List.range' 0 k).map (wayD c p)) = fun _ => True := rfl
    simp only [e1, e2, e3, hw]
    exact kc2_next hd ps _ (by omega)
theorem insW_mem {c : List Adv} {k : Nat} {acc : List Plc} {p q : Plc} : q ∈ insW c k acc p ↔ q ∈ acc ∨ ∃ x, x < k ∧ q = wayB c p x := by
  unfold insW
  rw [foldl_ins_mem]
  constructor
  · rintro (h | h)
    · exact .inl h
    · obtain ⟨x, hx, rfl⟩ := List.mem_map.mp h
      rw [List.mem_range'] at hx
      obtain ⟨i, hi, rfl⟩ := hx
      exact .inr ⟨_, by omega, rfl⟩
  · rintro (h | ⟨x, hx, rfl⟩)
    · exact .inl h
    · exact .inr (List.mem_map.mpr ⟨x, List.mem_range'.mpr ⟨x, hx, by omega⟩, rfl⟩)
theorem foldW_mem {c : List Adv} {k : Nat} : ∀ {ps acc : List Plc} {q : Plc}, q ∈ ps.foldl (insW c k) acc ↔ q ∈ acc ∨ ∃ p ∈ ps, ∃ x, x < k ∧ q = wayB c p x
  | [], acc, q => by simp
  | p :: ps, acc, q => by
    rw [List.foldl_cons, foldW_mem, insW_mem]
    constructor
    · rintro ((h | ⟨x, hx, e⟩) | ⟨p', hp, r⟩)
      · exact .inl h
      · exact .inr ⟨p, by simp, x, hx, e⟩
      · exact .inr ⟨p', by simp [hp], r⟩
    · rintro (h | ⟨p', hp, x, hx, e⟩)
      · exact .inl (.inl h)
      · rcases List.mem_cons.mp hp with rfl | hp
        · exact .inl (.inr ⟨x, hx, e⟩)
        · exact .inr ⟨p', hp, x, hx, e⟩
theorem foldW_nd {c : List Adv} {k : Nat} : ∀ {ps acc : List Plc}, acc.Nodup → (ps.foldl (insW c k) acc).Nodup
  | [], acc, h => h
  | p :: ps, acc, h => foldW_nd (ps := ps) (foldl_ins_nd h)
theorem foldW_len {c : List Adv} {k : Nat} : ∀ (ps acc : List Plc), (ps.foldl (insW c k) acc).length ≤ acc.length + k * ps.length
  | [], acc => by simp
  | p :: ps, acc => by
    have h1 := foldW_len (c := c) (k := k) ps (insW c k acc p)
    have h2 := foldl_ins_len ((List.range' 0 k).map (wayB c p)) acc
    rw [List.length_map, List.length_range'] at h2
    rw [List.foldl_cons, List.length_cons, Nat.mul_add, Nat.mul_one]
    unfold insW at h1 ⊢
    omega
theorem nextP_mem {c : List Adv} {k : Nat} {ps : List Plc} {q : Plc} : q ∈ nextP c k ps ↔ ∃ p ∈ ps, ∃ x, x < k ∧ q = wayB c p x := by
  unfold nextP
  rw [foldW_mem]
  simp
theorem nextP_nd {c : List Adv} {k : Nat} {ps : List Plc} : (nextP c k ps).Nodup := foldW_nd (by simp)
theorem nextP_len {c : List Adv} {k : Nat} (ps : List Plc) : (nextP c k ps).length ≤ k * ps.length := by
  have := foldW_len (c := c) (k := k) ps []
  simpa [nextP] using this
/-- the places behind so many letters -/
def rootP (c : List Adv) : Plc := (c.map fun _ => 0, c.map fun _ => 0)
def plcs (c : List Adv) (k : Nat) : Nat → List Plc
  | 0 => [rootP c]
  | n + 1 => nextP c k (plcs c k n)
theorem plcs_nd (c : List Adv) (k : Nat) : ∀ n, (plcs c k n).Nodup
  | 0 => by simp [plcs]
  | n + 1 => nextP_nd
theorem plcs_len (c : List Adv) (k : Nat) : ∀ n, (plcs c k n).length ≤ k ^ n
  | 0 => by simp [plcs]
  | n + 1 => by
    have h1 := nextP_len (c := c) (k := k) (plcs c k n)
    have h2 := Nat.mul_le_mul_left k (plcs_len c k n)
    show (nextP c k (plcs c k n)).length ≤ k ^ (n + 1)
    rw [Nat.pow_succ, Nat.mul_comm]
    omega
theorem rootP_ok {k : Nat} {c : List Adv} (h : CirOk k c) : PlOk c (rootP c) := by
  refine ⟨by simp [rootP], by simp [rootP], ?_⟩
  exact zip_lt (f := fun _ => 0) fun a ha => by
    have := (h.ad a ha).l1
    show 0 < a.2.length
    omega
theorem plcs_ok {k : Nat} {c : List Adv} (h : CirOk k c) : ∀ n, ∀ p ∈ plcs c k n, PlOk c p
  | 0, p, hp => by
    rw [List.mem_singleton.mp hp]
    exact rootP_ok h
  | n + 1, p, hp => by
    obtain ⟨q, hq, x, hx, rfl⟩ := nextP_mem.mp hp
    exact (plcs_ok h n q hq).way h hx
end KG
set_option linter.all false
set_option maxRecDepth 100000
set_option maxHeartbeats 2000000
namespace KG
open PySem L2 KM
def kdP (f : Plc → D) (ps : List Plc) : D := .kdi (ps.map plD) (ps.map f)
section
variable {M : List MO} (f : Plc → D) (ps : List Plc)
theorem kiOf_P : kiOf M (kdP f ps) = some (dcP f ps) := by
  show some ((ps.map plD).zip (ps.map f)) = _
  rw [dcP_zip]
theorem kdOf_P : kdOf M (kdP f ps) = some (dcP f ps) := by
  show some ((ps.map plD).zip (ps.map f)) = _
  rw [dcP_zip]
theorem kkeys_P : kkeys (dcP f ps) = ps.map plD := dcP_fst f ps
theorem kvals_P : kvals (dcP f ps) = ps.map f := dcP_snd f ps
theorem kitems_P : kitems (dcP f ps) = ps.map fun p => .tup [plD p, f p] := by
  unfold kitems dcP
  rw [List.map_map]
  rfl
theorem finK_P : finK (dcP f ps) M = .ok (kdP f ps) M := by
  unfold finK kdP
  rw [dcP_fst, dcP_snd]
theorem lenK_P (h : ps.length < 1000000) : oLenK [kdP f ps] M = .ok (.int (ps.length : Int)) M := by
  unfold oLenK
  simp only [kdOf_P]
  rw [if_pos (by simp [dcP]; omega)]
  simp [dcP]
end
theorem giK_P {M : List MO} {δ : KM.Ctx} {g : List (D × D) → List D} {i : Nat} {f : Plc → D} {ps : List Plc} (h : δ[i]? = some (some (kdP f ps))) : giK g (gVar i) δ M = .ok (itT (g (dcP f ps))) M := by
  unfold giK
  simp [h, kiOf_P]
def dWay (c : List Adv) (k : Nat) (j : Nat) : D := kdP (waysD c k) (plcs c k j)
def foundD (c : List Adv) (k n : Nat) : List D := (List.range' 0 n).map (dWay c k) ++ [kdP (fun _ => .lst []) (plcs c k n)]
theorem kdP_lo {f : Plc → D} (h : ∀ n p, D.lo n (f p) = true) (n : Nat) (ps : List Plc) : D.lo n (kdP f ps) = true := by
  show (D.los n _ && D.los n _) = true
  rw [los_mapD (plD_lo n), los_mapD (h n)]
  rfl
theorem waysD_lo (n : Nat) (c : List Adv) (k : Nat) (p : Plc) : D.lo n (waysD c k p) = true := los_mapD (fun x => wayD_lo n c p x) _
theorem dWay_lo (n : Nat) (c : List Adv) (k j : Nat) : D.lo n (dWay c k j) = true := kdP_lo (fun n p => waysD_lo n c k p) n _
noncomputable def bPl : GS := (gSeq (gSet 5 (gKc (giK kkeys (gVar 3)) (gtName 6) (gYes) (gVar 6) (gCall m_ways (gACons (gVar 0) (gACons (gVar 6) (gANil)))) [6]))
    (gSeq (gSet 3 (gKc2 (giK kvals (gVar 5)) (gtName 7) (gYes) (giSeq (gVar 7)) (gtTup 2 (gtCons (gtName 8) (gtCons (gtName 4) (gtNil)))) (gYes) (gVar 8) (gC (.bl true)) [7, 8, 4] [8, 4]))
    (gSeq (gIf (gTest (gOp oGt (gCall oLenK (gACons (gVar 3) (gANil))) (gC (.int 3000)))) (gNever) (gNext))
    (gDrop (gBM oAppend (gVar 2) (gACons (gVar 5) (gANil)))))))
theorem pl_loop {k : Nat} {M0 : List MO} (wf : WF M0) {c : List Adv} (h : CirOk k c) {N : Nat} (hN : N ≤ 1000) (hb : ∀ j, j ≤ N → (plcs c k j).length ≤ 3000) (n1 : Option D) : ∀ (n lo : Nat) (u4 u5 u6 u7 u8 : Option D), lo + n ≤ N →
    ∃ v4 v5 v6 v7 v8, forL (fun _ => True) (gtName 4) bPl (rngD lo n) [some (cirD c), n1, some (.ref M0.length), some (kdP eT (plcs c k lo)), u4, u5, u6, u7, u8] (M0 ++ [.lst ((List.range' 0 lo).map (dWay c k))]) =
      .nx [some (cirD c), n1, some (.ref M0.length), some (kdP eT (plcs c k (lo + n))), v4, v5, v6, v7, v8] (M0 ++ [.lst ((List.range' 0 (lo + n)).map (dWay c k))])
  | 0, lo, u4, u5, u6, u7, u8, hk => ⟨u4, u5, u6, u7, u8, by simp [rngD, forL]⟩
  | n + 1, lo, u4, u5, u6, u7, u8, hk => by
    obtain ⟨v4, v5, v6, v7, v8, e⟩ := pl_loop wf h hN hb n1 n (lo + 1) (some (.int lo)) (some (dWay c k lo)) u6 u7 u8 (by omega)
    refine ⟨v4, v5, v6, v7, v8, ?_⟩
    have s4 := h.s4
    have wf2 : WF (M0 ++ [.lst ((List.range' 0 lo).map (dWay c k))]) := wf1 wf (fun x hx n => by
      obtain ⟨i, _, rfl⟩ := List.mem_map.mp hx
      exact dWay_lo n c k i)
    have l0 := hb lo (by omega)
    have l1 := hb (lo + 1) (by omega)
    have c1 := kc_map (gk := gVar 6) (gv := gCall m_ways (gACons (gVar 0) (gACons (gVar 6) (gANil)))) (δ := [some (cirD c), n1, some (.ref M0.length), some (kdP eT (plcs c k lo)), some (.int lo), u5, none, u7, u8]) (M := M0 ++ [.lst ((List.range' 0 lo).map (dWay c k))]) (f := waysD c k) (s := 6) (plcs c k lo) [] (by rw [List.nil_append]; exact plcs_nd c k lo) (by simp; omega) (fun p hp => ⟨by simp, by simp [ways_eq wf2 h (plcs_ok h lo p hp)]⟩)
    have c2 := kc2_next (k := k) (M := M0 ++ [.lst ((List.range' 0 lo).map (dWay c k))]) (c := c) (δ := [some (cirD c), n1, some (.ref M0.length), some (kdP eT (plcs c k lo)), none, some (kdP (waysD c k) (plcs c k lo)), u6, none, none]) (by simp) (plcs c k lo) [] (by
      have : k * (plcs c k lo).length ≤ 4 * 3000 := Nat.mul_le_mul s4 l0
      simp
      omega)
    rw [List.nil_append] at c1
    have e0 : dcP (waysD c k) [] = [] := rfl
    have e0' : dcP eT [] = [] := rfl
    rw [e0] at c1
    rw [e0', show (plcs c k lo).foldl (insW c k) [] = plcs c k (lo + 1) from rfl] at c2
    have k1 : ∀ M, kiOf M (kdP eT (plcs c k lo)) = some (dcP eT (plcs c k lo)) := fun M => kiOf_P eT _
    have k2 : ∀ M, kiOf M (kdP (waysD c k) (plcs c k lo)) = some (dcP (waysD c k) (plcs c k lo)) := fun M => kiOf_P _ _
    have len : oLenK [kdP eT (plcs c k (lo + 1))] (M0 ++ [.lst ((List.range' 0 lo).map (dWay c k))]) = .ok (.int ((plcs c k (lo + 1)).length : Int)) (M0 ++ [.lst ((List.range' 0 lo).map (dWay c k))]) := lenK_P eT _ (by omega)
    have gt : ¬ (3000 : Int) < ((plcs c k (lo + 1)).length : Int) := by omega
    have la := lo1 M0 ((List.range' 0 lo).map (dWay c k))
    have aa := app1 M0 ((List.range' 0 lo).map (dWay c k)) (by simp; omega) (dWay c k lo)
    have er : (List.range' 0 lo).map (dWay c k) ++ [dWay c k lo] = (List.range' 0 (lo + 1)).map (dWay c k) := by
      rw [List.range'_concat, List.map_append]
      simp
    rw [er] at aa
    rw [rngD_succ]
    unfold forL
    rw [if_pos trivial]
    have eb : bPl [some (cirD c), n1, some (.ref M0.length), some (kdP eT (plcs c k lo)), some (.int lo), u5, u6, u7, u8] (M0 ++ [.lst ((List.range' 0 lo).map (dWay c k))]) =
        .nx [some (cirD c), n1, some (.ref M0.length), some (kdP eT (plcs c k (lo + 1))), some (.int lo), some (dWay c k lo), u6, u7, u8] (M0 ++ [.lst ((List.range' 0 (lo + 1)).map (dWay c k))]) := by
      unfold bPl
      simp [gKc, gKc2, giK, k1, kkeys_P, c1, wipeD, finK_P, k2, kvals_P]
      rw [c2]
      have gt' : ¬ (3000 : Int) < ((plcs c k (lo + 1)).length : Int) := gt
      have aa' : oAppend (.ref M0.length) [kdP (waysD c k) (plcs c k lo)] (M0 ++ [.lst ((List.range' 0 lo).map (dWay c k))]) = .ok .non (M0 ++ [.lst ((List.range' 0 (lo + 1)).map (dWay c k))]) := aa
      simp [finK_P, len, oGt, oI2, gt', la, aa']
      rfl
    simp only [s_gtName, List.set_cons_succ, List.set_cons_zero, eb]
    rw [show ((lo : Nat) : Int) + 1 = ((lo + 1 : Nat) : Int) by omega, show lo + (n + 1) = (lo + 1) + n by omega]
    exact e
theorem frz_waysD {n : Nat} {M : List MO} (f : Nat) (c : List Adv) (k : Nat) (p : Plc) : frz n M (f + 5) (waysD c k p) = some (waysD c k p) := frz_lst (mapM_id' fun x hx => by
  obtain ⟨i, _, rfl⟩ := List.mem_map.mp hx
  exact frz_wayD f c p i)
theorem frz_kdP {n : Nat} {M : List MO} {f : Nat} {g : Plc → D} (ps : List Plc) (h : ∀ p ∈ ps, frz n M f (g p) = some (g p)) : frz n M (f + 1) (kdP g ps) = some (kdP g ps) := frz_kdi (mapM_id' fun x hx => by
  obtain ⟨p, hp, rfl⟩ := List.mem_map.mp hx
  exact h p hp)
theorem places_within_eq {k : Nat} {M : List MO} (wf : WF M) {c : List Adv} (h : CirOk k c) {n : Nat} (hn : n ≤ 100) (hb : ∀ j, j ≤ n → (plcs c k j).length ≤ 3000) : m_places_within [cirD c, .int n] M = .ok (.lst (foundD c k n)) M := by
  obtain ⟨v4, v5, v6, v7, v8, e⟩ := pl_loop wf h (N := n) (by omega) hb (some (.int n)) n 0 none none none none none (by omega)
  unfold m_places_within frzM
  have wfA : WF (M ++ [.lst []]) := wf1 wf (by simp)
  have wfB : WF (M ++ [.lst ((List.range' 0 n).map (dWay c k))]) := wf1 wf (fun x hx n => by
    obtain ⟨i, _, rfl⟩ := List.mem_map.mp hx
    exact dWay_lo n c k i)
  have nh := nothing_heard_eq wfA h
  have q : fnM 9 g_places_within [cirD c, .int n] M = .ok (.ref M.length) (M ++ [.lst (foundD c k n)]) := by
    have rb : rngB (n : Int) := by unfold rngB; omega
    have root : D.tup [nsD (c.map fun _ => 0), nsD (c.map fun _ => 0)] = plD (rootP c) := rfl
    rw [root] at nh
    have kd0 : D.kdi [plD (rootP c)] [.bl true] = kdP eT (plcs c k 0) := rfl
    have e' := e
    unfold bPl at e'
    rw [Nat.zero_add] at e'
    simp only [Int.natCast_zero, List.range'_zero, List.map_nil] at e'
    have k1 : ∀ M, kiOf M (kdP eT (plcs c k n)) = some (dcP eT (plcs c k n)) := fun M => kiOf_P eT _
    have c1 := kc_map (gk := gVar 6) (gv := gLst gANil) (δ := [some (cirD c), some (.int n), some (.ref M.length), some (kdP eT (plcs c k n)), v4, v5, none, v7, v8]) (M := M ++ [.lst ((List.range' 0 n).map (dWay c k))]) (f := fun _ => .lst []) (s := 6) (plcs c k n) [] (by rw [List.nil_append]; exact plcs_nd c k n) (by have := hb n (by omega); simp; omega) (fun p hp => ⟨by simp, by simp [bigN]⟩)
    rw [List.nil_append, show dcP (fun _ => D.lst []) [] = [] from rfl] at c1
    have la := lo1 M ((List.range' 0 n).map (dWay c k))
    have aa := app1 M ((List.range' 0 n).map (dWay c k)) (by simp; omega) (kdP (fun _ => .lst []) (plcs c k n))
    simp [fnM, g_places_within, startD, bigN, gKd1, nh, tkey_pl, kd0, rb, e', gKc, giK, k1, kkeys_P, wipeD, c1, finK_P, la, aa]
    rfl
  rw [q]
  have b1 : ((M ++ [MO.lst (foundD c k n)]).take M.length).all (MO.lo M.length) = true := by
    rw [List.take_left]
    exact wf
  have b2 : ((M ++ [MO.lst (foundD c k n)]).drop M.length).all (fun o => !o.isL) = true := by
    rw [List.drop_left]
    rfl
  have b3 : frz M.length (M ++ [MO.lst (foundD c k n)]) 9 (.ref M.length) = some (.lst (foundD c k n)) := by
    refine frz_ref (Nat.le_refl _) (by simp) (mapM_id' fun x hx => ?_)
    rcases List.mem_append.mp hx with q | q
    · obtain ⟨i, _, rfl⟩ := List.mem_map.mp q
      exact frz_kdP _ fun p _ => frz_waysD 2 c k p
    · rw [List.mem_singleton.mp q]
      exact frz_kdP _ fun p _ => rfl
  show (if (((M ++ [MO.lst (foundD c k n)]).take M.length).all (MO.lo M.length) && ((M ++ [MO.lst (foundD c k n)]).drop M.length).all (fun o => !o.isL)) = true then (match frz M.length (M ++ [MO.lst (foundD c k n)]) 9 (.ref M.length) with
    | some d' => R.ok d' ((M ++ [MO.lst (foundD c k n)]).take M.length)
    | none => .bad) else .bad) = _
  rw [b1, b2, b3, List.take_left]
  rfl
end KG
set_option linter.all false
set_option maxRecDepth 100000
set_option maxHeartbeats 2000000
namespace KG
open PySem L2 KM LV
/-! ### levels of worths that are told over one bottom -/
noncomputable def lvl (ws : List Rat) : Rat := open Classical in if h : ∃ v, Fv ws v = 1 then h.choose else 0
theorem lvl_eq {ws : List Rat} {v : Rat} (h : Fv ws v = 1) : lvl ws = v := by
  unfold lvl
  rw [dif_pos ⟨v, h⟩]
  exact Fv_uniq (Exists.choose_spec (⟨v, h⟩ : ∃ v, Fv ws v = 1)) h
theorem enumI_F {B : Int} (hB : 0 < B) (v : Rat) : ∀ (ts : List Int) (i : Nat), sq ((K11.enumP i ts).map fun p => mx (rp B p - v)) = Fv (ts.map fun (t : Int) => (t : Rat) / (B : Rat)) v
  | [], i => rfl
  | t :: ts, i => by
    have ih := enumI_F hB v ts (i + 1)
    show mx (rp B (-t, (i : Int)) - v) + sq ((K11.enumP (i + 1) ts).map fun p => mx (rp B p - v)) = mx ((t : Rat) / (B : Rat) + 1 - v) + Fv (ts.map fun (t : Int) => (t : Rat) / (B : Rat)) v
    rw [ih]
    have e : rp B (-t, (i : Int)) = (t : Rat) / (B : Rat) + 1 := by
      unfold rp
      have hb : (B : Rat) ≠ 0 := by
        have : (0 : Rat) < (B : Rat) := by exact_mod_cast hB
        grind
      show ((B - -t : Int) : Rat) / (B : Rat) = _
      rw [show B - -t = B + t by omega, Rat.intCast_add]
      rw [Rat.div_def, Rat.div_def]
      have : (B : Rat) * (B : Rat)⁻¹ = 1 := Rat.mul_inv_cancel _ hb
      grind
    rw [e]
theorem lotI {B : Int} (hB : 0 < B) {ts : List Int} (h2 : 2 ≤ ts.length) (h4 : ts.length ≤ 4) {M : List MO} (wf : WF M) : ∃ (ls : List Int) (most : Int), m_best_lot [.lst (ts.map D.int), .int B] M = .ok (.tup [.tup (ls.map D.int), .int most]) M ∧ 1 ≤ ls.length ∧ ls.length ≤ 4 ∧
    Fv (ts.map fun (t : Int) => (t : Rat) / (B : Rat)) (lvl (ts.map fun (t : Int) => (t : Rat) / (B : Rat))) = 1 ∧ (most : Rat) = lvl (ts.map fun (t : Int) => (t : Rat) / (B : Rat)) * (((ls.length : Int) : Rat) * (B : Rat)) := by
  obtain ⟨S1, S2, g1, g2, g3⟩ := K11.best_lot_eq hB (ts := ts) (by intro e; rw [e] at h2; simp at h2) (by omega) wf
  have hs1 : S1.length + S2.length = ts.length := by
    have := congrArg List.length g1
    rw [(srtP_perm _).length_eq, K11.enumP_len, List.length_append] at this
    omega
  have hk0 : 0 < S1.length := List.length_pos_iff.mpr g2.ne
  have hb : (0 : Rat) < (B : Rat) := by exact_mod_cast hB
  have hk : (0 : Rat) < ((S1.length : Int) : Rat) := by exact_mod_cast (show (0 : Int) < (S1.length : Int) by omega)
  have hkb : (0 : Rat) < ((S1.length : Int) : Rat) * (B : Rat) := Rat.mul_pos hk hb
  have hv : (((sumB B S1 - B : Int) : Rat) / (((S1.length : Int) : Rat) * (B : Rat))) * (((S1.length : Int) : Rat) * (B : Rat)) = ((sumB B S1 - B : Int) : Rat) := by
    rw [Rat.div_def, Rat.mul_assoc, Rat.inv_mul_cancel _ (by grind), Rat.mul_one]
  obtain ⟨r1, _, _⟩ := root hB g2 hv
  rw [← g1] at r1
  have r2 : Fv (ts.map fun (t : Int) => (t : Rat) / (B : Rat)) (((sumB B S1 - B : Int) : Rat) / (((S1.length : Int) : Rat) * (B : Rat))) = 1 := by
    rw [← enumI_F hB _ ts 0, ← r1]
    exact sq_perm ((srtP_perm _).symm.map _)
  refine ⟨srtI (S1.map fun p => p.2), sumB B S1 - B, g3, ?_, ?_, ?_, ?_⟩
  · rw [(srtI_perm _).length_eq, List.length_map]; omega
  · rw [(srtI_perm _).length_eq, List.length_map]; omega
  · rw [lvl_eq r2]; exact r2
  · rw [lvl_eq r2, (srtI_perm _).length_eq, List.length_map, hv]
end KG
set_option linter.all false
set_option maxRecDepth 100000
set_option maxHeartbeats 2000000
namespace KG
open PySem L2 KM LV
/-! ### lags -/
noncomputable def La (c : List Adv) (k : Nat) : Nat → Plc → Rat
  | 0, _ => 0
  | n + 1, p => lvl ((List.range' 0 k).map fun x => La c k n (wayB c p x) - ((wayR c p x : Int) : Rat))
def sc (n : Nat) : Int := (12 : Int) ^ n
theorem sc_pos (n : Nat) : 0 < sc n := Int.pow_pos (by decide)
theorem sc_succ (n : Nat) : sc (n + 1) = sc n * 12 := Int.pow_succ ..
noncomputable def laI (c : List Adv) (k n : Nat) (p : Plc) : Int := (La c k n p * (sc n : Rat)).num
def tsOf (c : List Adv) (k n : Nat) (T : Plc → Int) (p : Plc) : List Int := (List.range' 0 k).map fun x => T (wayB c p x) - (wayR c p x : Int) * sc n
theorem ts_rat {c : List Adv} {k n : Nat} {p : Plc} (hT : ∀ x, x < k → (laI c k n (wayB c p x) : Rat) = La c k n (wayB c p x) * (sc n : Rat)) :
    (tsOf c k n (laI c k n) p).map (fun (t : Int) => (t : Rat) / (sc n : Rat)) = (List.range' 0 k).map fun x => La c k n (wayB c p x) - ((wayR c p x : Int) : Rat) := by
  unfold tsOf
  rw [List.map_map]
  refine List.map_congr_left fun x hx => ?_
  rw [List.mem_range'] at hx
  obtain ⟨i, hi, rfl⟩ := hx
  have hs : (sc n : Rat) ≠ 0 := by
    have : (0 : Rat) < (sc n : Rat) := by exact_mod_cast sc_pos n
    grind
  show ((laI c k n (wayB c p (0 + 1 * i)) - (wayR c p (0 + 1 * i) : Int) * sc n : Int) : Rat) / (sc n : Rat) = _
  rw [Rat.intCast_sub, Rat.intCast_mul, hT _ (by omega), Rat.div_def]
  have : (sc n : Rat) * (sc n : Rat)⁻¹ = 1 := Rat.mul_inv_cancel _ hs
  grind
theorem tw {l : Nat} (h1 : 1 ≤ l) (h4 : l ≤ 4) : (l : Int) * (12 / (l : Int)) = 12 := by
  have : l = 1 ∨ l = 2 ∨ l = 3 ∨ l = 4 := by omega
  rcases this with rfl | rfl | rfl | rfl <;> decide
theorem num_of {q : Rat} {i : Int} (h : (i : Rat) = q) : q.num = i := by
  rw [← h]
  rfl
/-- the lag of a place, and the number by which it is told -/
theorem la_step {k : Nat} {c : List Adv} (h : CirOk k c) {n : Nat} {p : Plc} (hT : ∀ x, x < k → (laI c k n (wayB c p x) : Rat) = La c k n (wayB c p x) * (sc n : Rat)) {M : List MO} (wf : WF M) :
    ∃ (ls : List Int) (most : Int), m_best_lot [.lst ((tsOf c k n (laI c k n) p).map D.int), .int (sc n)] M = .ok (.tup [.tup (ls.map D.int), .int most]) M ∧ 1 ≤ ls.length ∧ ls.length ≤ 4 ∧ most * (12 / (ls.length : Int)) = laI c k (n + 1) p ∧ (laI c k (n + 1) p : Rat) = La c k (n + 1) p * (sc (n + 1) : Rat) ∧
    Fv ((List.range' 0 k).map fun x => La c k n (wayB c p x) - ((wayR c p x : Int) : Rat)) (La c k (n + 1) p) = 1 := by
  have s2 := h.s2
  have s4 := h.s4
  obtain ⟨ls, most, g1, g2, g3, g4, g5⟩ := lotI (sc_pos n) (ts := tsOf c k n (laI c k n) p) (by simp [tsOf]; omega) (by simp [tsOf]; omega) wf
  rw [ts_rat hT] at g4 g5
  have e : ((most * (12 / (ls.length : Int)) : Int) : Rat) = La c k (n + 1) p * (sc (n + 1) : Rat) := by
    rw [sc_succ, Rat.intCast_mul, Rat.intCast_mul, g5]
    have t : (((ls.length : Int) : Rat)) * ((12 / (ls.length : Int) : Int) : Rat) = ((12 : Int) : Rat) := by
      rw [← Rat.intCast_mul, tw g2 g3]
    show lvl _ * _ * _ = lvl _ * _
    grind
  have e2 := num_of e
  refine ⟨ls, most, g1, g2, g3, e2.symm, ?_, g4⟩
  unfold laI
  rw [e2]
  exact e
theorem la_int {k : Nat} {c : List Adv} (h : CirOk k c) : ∀ (n : Nat) (p : Plc), PlOk c p → (laI c k n p : Rat) = La c k n p * (sc n : Rat)
  | 0, p, hp => by
    unfold laI La
    rw [Rat.zero_mul]
    rfl
  | n + 1, p, hp => by
    obtain ⟨ls, most, _, _, _, _, e, _⟩ := la_step h (n := n) (p := p) (fun x hx => la_int h n _ (hp.way h hx)) WF.nil
    exact e
theorem la_fv {k : Nat} {c : List Adv} (h : CirOk k c) (n : Nat) {p : Plc} (hp : PlOk c p) : Fv ((List.range' 0 k).map fun x => La c k n (wayB c p x) - ((wayR c p x : Int) : Rat)) (La c k (n + 1) p) = 1 := by
  obtain ⟨ls, most, _, _, _, _, _, e⟩ := la_step h (n := n) (p := p) (fun x hx => la_int h n _ (hp.way h hx)) WF.nil
  exact e
theorem sc_lt {n : Nat} (h : n ≤ 16) : sc n < 2 ^ 64 := by
  have : n = 0 ∨ n = 1 ∨ n = 2 ∨ n = 3 ∨ n = 4 ∨ n = 5 ∨ n = 6 ∨ n = 7 ∨ n = 8 ∨ n = 9 ∨ n = 10 ∨ n = 11 ∨ n = 12 ∨ n = 13 ∨ n = 14 ∨ n = 15 ∨ n = 16 := by omega
  rcases this with rfl | rfl | rfl | rfl | rfl | rfl | rfl | rfl | rfl | rfl | rfl | rfl | rfl | rfl | rfl | rfl | rfl <;> decide
theorem mul_sc {n : Nat} (h : n ≤ 16) (i : Int) : CMulB i (sc n) := .inl (.inr ⟨by have := sc_pos n; omega, sc_lt h⟩)
/-! ### worths -/
noncomputable def lagD (c : List Adv) (k n : Nat) : Plc → D := fun p => .int (laI c k n p)
theorem worths_in_eq {k : Nat} {M : List MO} (wf : WF M) {c : List Adv} (h : CirOk k c) {n : Nat} (hn : n ≤ 16) {p : Plc} {ld : D} {qs : List Plc} (hld : kdOf M ld = some (dcP (lagD c k n) qs)) (hq : ∀ x, x < k → wayB c p x ∈ qs) :
    m_worths_in [waysD c k p, ld, .int (sc n)] M = .ok (.lst ((tsOf c k n (laI c k n) p).map D.int)) M := by
  have s4 := h.s4
  unfold m_worths_in cutM
  have e1 : tupOf (waysD c k p) = none := rfl
  have e2 : listOf M (waysD c k p) = some ((List.range' 0 k).map (wayD c p)) := rfl
  have e3 : gdOf (waysD c k p) ((List.range' 0 k).map (wayD c p)) = fun _ => True := rfl
  have ix : ∀ x, x < k → oIxK ld (plD (wayB c p x)) M = .ok (.int (laI c k n (wayB c p x))) M := fun x hx => by
    unfold oIxK
    simp only [hld, tkey_pl, kget_in (hq x hx)]
    rfl
  have cm := lcL_map (gd := fun _ => True) (M := M) (gg := gtTup 2 (gtCons (gtName 3) (gtCons (gtName 4) (gtNil)))) (ge := gOp oSub (gOp oIxK (gVar 1) (gVar 3)) (gOp oMul (gVar 4) (gVar 2))) (δ := [some (waysD c k p), some ld, some (.int (sc n)), none, none]) (em := wayD c p) (f := fun x => D.int (laI c k n (wayB c p x) - (wayR c p x : Int) * sc n)) trivial (List.range' 0 k) [] (by simp; omega) (fun x hx => by
    rw [List.mem_range'] at hx
    obtain ⟨i, hi, rfl⟩ := hx
    exact ⟨_, rfl, by
      have := ix (0 + 1 * i) (by omega)
      simp only [Nat.zero_add, Nat.one_mul] at this
      have mm := mul_sc hn ((wayR c p i : Nat) : Int)
      simp [this, oSub, oI2, mm]⟩)
  rw [List.nil_append] at cm
  have q : fnM 5 g_worths_in [waysD c k p, ld, .int (sc n)] M = .ok (.lst ((tsOf c k n (laI c k n) p).map D.int)) M := by
    simp [fnM, g_worths_in, startD, e1, e2, e3, wipeD, cm, finI, tsOf, Function.comp_def]
  rw [q]
  exact cut_same wf (by show D.los _ _ = true; exact los_mapD (fun _ => rfl) _)
theorem mul_small {i j : Int} (h0 : 0 ≤ j) (h : j ≤ 1000) : CMulB i j := .inl (.inr ⟨by omega, by omega⟩)
theorem div_small {i j : Int} (h0 : 1 ≤ j) (h : j ≤ 4) : CDivB i j := ⟨by omega, by
  have : j = 1 ∨ j = 2 ∨ j = 3 ∨ j = 4 := by omega
  rcases this with rfl | rfl | rfl | rfl <;> decide⟩
noncomputable def bIn : GS := (gSeq (gAsg (gCall m_best_lot (gACons (gCall m_worths_in (gACons (gVar 7) (gACons (gVar 2) (gACons (gVar 4) (gANil))))) (gACons (gVar 4) (gANil)))) (gtTup 2 (gtCons (gtName 8) (gtCons (gtName 9) (gtNil)))))
    (gAsg (gOp oMul (gVar 9) (gOp oDiv (gC (.int 12)) (gCall oLenK (gACons (gVar 8) (gANil))))) (gtSub (gVar 6) (gVar 3) (oSetK oSetL))))
theorem wfK {M : List MO} (wf : WF M) {kvs : List (D × D)} (h : ∀ p ∈ kvs, ∀ n, D.lo n p.1 = true ∧ D.lo n p.2 = true) : WF (M ++ [.kd kvs]) := wf.app (by
  show (D.los _ _ && D.los _ _) = true
  rw [Bool.and_eq_true, D.los_all, D.los_all]
  constructor
  · intro d hd
    obtain ⟨p, hp, rfl⟩ := List.mem_map.mp hd
    exact (h p hp _).1
  · intro d hd
    obtain ⟨p, hp, rfl⟩ := List.mem_map.mp hd
    exact (h p hp _).2)
theorem dcP_lo {f : Plc → D} (hf : ∀ n p, D.lo n (f p) = true) (ps : List Plc) : ∀ p ∈ dcP f ps, ∀ n, D.lo n p.1 = true ∧ D.lo n p.2 = true := fun p hp n => by
  obtain ⟨q, _, rfl⟩ := List.mem_map.mp hp
  exact ⟨plD_lo n q, hf n q⟩
/-- lags stay to be told while more is laid -/
def LdOk (M : List MO) (ld : D) : Prop := (∃ ks vs, ld = .kdi ks vs) ∨ ∃ r, ld = .ref r ∧ r < M.length
theorem LdOk.app {M : List MO} {ld : D} (h : LdOk M ld) (o : MO) : kdOf (M ++ [o]) ld = kdOf M ld := by
  rcases h with ⟨ks, vs, rfl⟩ | ⟨r, rfl, hr⟩
  · rfl
  · unfold kdOf
    simp only
    rw [List.getElem?_append_left hr]
theorem in_loop {k : Nat} {M0 : List MO} (wf : WF M0) {c : List Adv} (h : CirOk k c) {n : Nat} (hn : n ≤ 16) {ld : D} {qs : List Plc} (hl : LdOk M0 ld) (hld : kdOf M0 ld = some (dcP (lagD c k n) qs)) (x0 x1 x5 : Option D) : ∀ (ps acc : List Plc) (u3 u7 u8 u9 : Option D),
    (∀ p ∈ ps, PlOk c p ∧ ∀ x, x < k → wayB c p x ∈ qs) → (acc ++ ps).Nodup → acc.length + ps.length ≤ 100000 →
    ∃ v3 v7 v8 v9, forL (fun _ => True) (gtTup 2 (gtCons (gtName 3) (gtCons (gtName 7) (gtNil)))) bIn (ps.map fun p => D.tup [plD p, waysD c k p]) [x0, x1, some ld, u3, some (.int (sc n)), x5, some (.ref M0.length), u7, u8, u9] (M0 ++ [.kd (dcP (lagD c k (n + 1)) acc)]) =
      .nx [x0, x1, some ld, v3, some (.int (sc n)), x5, some (.ref M0.length), v7, v8, v9] (M0 ++ [.kd (dcP (lagD c k (n + 1)) (acc ++ ps))])
  | [], acc, u3, u7, u8, u9, _, _, _ => ⟨u3, u7, u8, u9, by simp [forL]⟩
  | p :: ps, acc, u3, u7, u8, u9, hp, nd, hz => by
    rw [List.length_cons] at hz
    obtain ⟨ok, hq⟩ := hp p (by simp)
    have e0 : acc ++ p :: ps = (acc ++ [p]) ++ ps := by simp
    have np : p ∉ acc := fun z => by
      rw [List.nodup_append] at nd
      exact nd.2.2 p z p (by simp) rfl
    have wf2 : WF (M0 ++ [.kd (dcP (lagD c k (n + 1)) acc)]) := wfK wf (dcP_lo (fun _ _ => rfl) acc)
    obtain ⟨ls, most, g1, g2, g3, g4, _, _⟩ := la_step h (n := n) (p := p) (fun x hx => la_int h n _ (ok.way h hx)) wf2
    have wi := worths_in_eq wf2 h hn (ld := ld) (qs := qs) (by rw [hl.app]; exact hld) hq
    obtain ⟨v3, v7, v8, v9, e⟩ := in_loop wf h hn hl hld x0 x1 x5 ps (acc ++ [p]) (some (plD p)) (some (waysD c k p)) (some (.tup (ls.map D.int))) (some (.int most)) (fun q hq => hp q (by simp [hq])) (by rw [← e0]; exact nd) (by simp; omega)
    refine ⟨v3, v7, v8, v9, ?_⟩
    have lk : ∀ M, oLenK [.tup (ls.map D.int)] M = .ok (.int (ls.length : Int)) M := fun M => by
      show oLen [.tup (ls.map D.int)] M = _
      simp
    have dv := div_small (i := 12) (j := (ls.length : Int)) (by omega) (by omega)
    have d12 : (0 : Int) ≤ 12 / (ls.length : Int) ∧ (12 : Int) / (ls.length : Int) ≤ 1000 := by
      have : ls.length = 1 ∨ ls.length = 2 ∨ ls.length = 3 ∨ ls.length = 4 := by omega
      rcases this with q | q | q | q <;> rw [q] <;> decide
    have mv := mul_small (i := most) d12.1 d12.2
    have st : oSetK oSetL (.ref M0.length) (plD p) (.int (laI c k (n + 1) p)) (M0 ++ [.kd (dcP (lagD c k (n + 1)) acc)]) = some (M0 ++ [.kd (dcP (lagD c k (n + 1)) (acc ++ [p]))]) := by
      unfold oSetK
      have g : (M0 ++ [MO.kd (dcP (lagD c k (n + 1)) acc)])[M0.length]? = some (.kd (dcP (lagD c k (n + 1)) acc)) := by simp
      simp only [g, tkey_pl]
      rw [if_pos (by simp [dcP]; omega), kput_new np]
      rw [dcP_app]
      simp
      rfl
    rw [List.map_cons]
    unfold forL
    rw [if_pos trivial]
    have eb : bIn [x0, x1, some ld, some (plD p), some (.int (sc n)), x5, some (.ref M0.length), some (waysD c k p), u8, u9] (M0 ++ [.kd (dcP (lagD c k (n + 1)) acc)]) =
        .nx [x0, x1, some ld, some (plD p), some (.int (sc n)), x5, some (.ref M0.length), some (waysD c k p), some (.tup (ls.map D.int)), some (.int most)] (M0 ++ [.kd (dcP (lagD c k (n + 1)) (acc ++ [p]))]) := by
      unfold bIn
      simp [wi, g1, lk, dv, mv, g4, st]
    simp only [s_gtTup, List.length_cons, List.length_nil, s_gtCons, s_gtName, s_gtNil, List.set_cons_succ, List.set_cons_zero, eb, if_true]
    rw [e0]
    exact e
end KG
set_option linter.all false
set_option maxRecDepth 100000
set_option maxHeartbeats 2000000
namespace KG
open PySem L2 KM LV
noncomputable def bOut : GS := (gSeq (gSet 6 (gKNewM))
    (gSeq (gFor (giK kitems (gVar 5)) (gtTup 2 (gtCons (gtName 3) (gtCons (gtName 7) (gtNil)))) (gSeq (gAsg (gCall m_best_lot (gACons (gCall m_worths_in (gACons (gVar 7) (gACons (gVar 2) (gACons (gVar 4) (gANil))))) (gACons (gVar 4) (gANil)))) (gtTup 2 (gtCons (gtName 8) (gtCons (gtName 9) (gtNil)))))
    (gAsg (gOp oMul (gVar 9) (gOp oDiv (gC (.int 12)) (gCall oLenK (gACons (gVar 8) (gANil))))) (gtSub (gVar 6) (gVar 3) (oSetK oSetL)))))
    (gSeq (gSet 2 (gVar 6))
    (gSet 4 (gOp oMul (gVar 4) (gC (.int 12)))))))
/-- what was laid on the way -/
def KdS (T : List MO) : Prop := ∀ o ∈ T, (∃ kvs, o = MO.kd kvs)
theorem out_loop {k : Nat} {M0 : List MO} {c : List Adv} (h : CirOk k c) {N : Nat} (hN : N ≤ 16) (hb : ∀ j, j ≤ N → (plcs c k j).length ≤ 3000) (x0 x1 : Option D) : ∀ (m many : Nat) (M : List MO) (ld : D) (u3 u5 u6 u7 u8 u9 : Option D),
    many + m ≤ N → WF M → (∃ T, M = M0 ++ T ∧ KdS T) → LdOk M ld → kdOf M ld = some (dcP (lagD c k (N - (many + m))) (plcs c k (many + m))) →
    ∃ ld' M' v3 v5 v6 v7 v8 v9, forL (fun _ => True) (gtName 5) bOut ((List.range' many m).reverse.map (dWay c k)) [x0, x1, some ld, u3, some (.int (sc (N - (many + m)))), u5, u6, u7, u8, u9] M =
      .nx [x0, x1, some ld', v3, some (.int (sc (N - many))), v5, v6, v7, v8, v9] M' ∧ WF M' ∧ (∃ T, M' = M0 ++ T ∧ KdS T) ∧ LdOk M' ld' ∧ kdOf M' ld' = some (dcP (lagD c k (N - many)) (plcs c k many)) ∧ ((∃ r, ld' = .ref r ∧ M0.length ≤ r) ∨ (m = 0 ∧ ld' = ld))
  | 0, many, M, ld, u3, u5, u6, u7, u8, u9, hm, wf, hT, hl, hld => ⟨ld, M, u3, u5, u6, u7, u8, u9, by simp [forL], wf, hT, hl, hld, .inr ⟨rfl, rfl⟩⟩
  | m + 1, many, M, ld, u3, u5, u6, u7, u8, u9, hm, wf, ⟨T, eT, kT⟩, hl, hld => by
    have hx : N - (many + m) = (N - (many + (m + 1))) + 1 := by omega
    have l0 := hb (many + m) (by omega)
    obtain ⟨v3, v7, v8, v9, e1⟩ := in_loop wf h (n := N - (many + (m + 1))) (by omega) hl hld x0 x1 (some (dWay c k (many + m))) (plcs c k (many + m)) [] u3 u7 u8 u9 (fun p hp => ⟨plcs_ok h _ p hp, fun x hx => by
      show wayB c p x ∈ nextP c k (plcs c k (many + m))
      exact nextP_mem.mpr ⟨p, hp, x, hx, rfl⟩⟩) (by rw [List.nil_append]; exact plcs_nd c k _) (by simp; omega)
    rw [List.nil_append, ← hx, show dcP (lagD c k (N - (many + m))) [] = [] from rfl] at e1
    have wf2 : WF (M ++ [.kd (dcP (lagD c k (N - (many + m))) (plcs c k (many + m)))]) := wfK wf (dcP_lo (fun _ _ => rfl) _)
    have g : (M ++ [MO.kd (dcP (lagD c k (N - (many + m))) (plcs c k (many + m)))])[M.length]? = some (.kd (dcP (lagD c k (N - (many + m))) (plcs c k (many + m)))) := by simp
    obtain ⟨ld', M', w3, w5, w6, w7, w8, w9, e2, wf', hT', hl', hld', hr⟩ := out_loop h hN hb x0 x1 m many (M ++ [.kd (dcP (lagD c k (N - (many + m))) (plcs c k (many + m)))]) (.ref M.length) v3 (some (dWay c k (many + m))) (some (.ref M.length)) v7 v8 v9 (by omega) wf2
      ⟨T ++ [.kd (dcP (lagD c k (N - (many + m))) (plcs c k (many + m)))], by rw [eT, List.append_assoc], fun o ho => by
        rcases List.mem_append.mp ho with q | q
        · exact kT o q
        · exact ⟨_, List.mem_singleton.mp q⟩⟩ (.inr ⟨_, rfl, by simp⟩) (by unfold kdOf; simp only [g])
    refine ⟨ld', M', w3, w5, w6, w7, w8, w9, ?_, wf', hT', hl', hld', ?_⟩
    · rw [List.range'_concat, List.reverse_append, List.map_append]
      show forL _ _ _ (dWay c k (many + 1 * m) :: _) _ _ = _
      rw [Nat.one_mul]
      unfold forL
      rw [if_pos trivial]
      have ki : ∀ M, kiOf M (dWay c k (many + m)) = some (dcP (waysD c k) (plcs c k (many + m))) := fun M => kiOf_P _ _
      have ms : CMulB (sc (N - (many + (m + 1)))) 12 := mul_small (by decide) (by decide)
      have es : sc (N - (many + (m + 1))) * 12 = sc (N - (many + m)) := by rw [hx, sc_succ]
      have e1' := e1
      unfold bIn at e1'
      have eb : bOut [x0, x1, some ld, u3, some (.int (sc (N - (many + (m + 1))))), some (dWay c k (many + m)), u6, u7, u8, u9] M =
          .nx [x0, x1, some (.ref M.length), v3, some (.int (sc (N - (many + m)))), some (dWay c k (many + m)), some (.ref M.length), v7, v8, v9] (M ++ [.kd (dcP (lagD c k (N - (many + m))) (plcs c k (many + m)))]) := by
        unfold bOut
        simp [gKNewM, giK, ki, kitems_P, e1', ms, es]
      simp only [s_gtName, List.set_cons_succ, List.set_cons_zero, eb]
      exact e2
    · rcases hr with q | ⟨q, q2⟩
      · exact .inl q
      · exact .inl ⟨M.length, q2, by rw [eT]; simp⟩
end KG
set_option linter.all false
set_option maxRecDepth 100000
set_option maxHeartbeats 2000000
namespace KG
open PySem L2 KM LV
theorem foundD_len (c : List Adv) (k n : Nat) : (foundD c k n).length = n + 1 := by simp [foundD]
theorem ixK_last (c : List Adv) (k n : Nat) (M : List MO) : oIxK (.lst (foundD c k n)) (.int (-1)) M = .ok (kdP (fun _ => .lst []) (plcs c k n)) M := by
  show oIx (.lst (foundD c k n)) (.int (-1)) M = _
  unfold oIx
  simp only [s_tupOf_lst, s_listOf_lst]
  have e : L2.atI (foundD c k n) (-1) = some (kdP (fun _ => .lst []) (plcs c k n)) := by
    unfold L2.atI
    rw [foundD_len, ixN_last (by omega)]
    show (foundD c k n)[n + 1 - 1]? = _
    unfold foundD
    simp
  rw [e]
theorem slice_found {c : List Adv} {k n many : Nat} (h : many ≤ n) (M : List MO) : oSl (.lst (foundD c k n)) (some (many : Int)) (some (-1)) M = .ok (.lst ((List.range' many (n - many)).map (dWay c k))) M := by
  unfold oSl
  simp only [s_tupOf_lst, s_listOf_lst]
  have e1 : HT.sIx (foundD c k n).length (foundD c k n).length (some (-1)) = n := by
    rw [foundD_len]
    show (if ((-1 : Int)) < 0 then (((-1 : Int)) + ((n + 1 : Nat) : Int)).toNat else min ((-1 : Int)).toNat (n + 1)) = n
    rw [if_pos (by decide)]
    omega
  have e2 : HT.sIx (foundD c k n).length 0 (some (many : Int)) = many := by
    rw [HT.sIx_nat, foundD_len, Nat.min_eq_left (by omega)]
  unfold cutD
  rw [e1, e2]
  congr 2
  unfold foundD
  rw [List.drop_append_of_le_length (by simp; omega), List.take_append_of_le_length (by simp), ← List.map_drop, List.drop_range', ← List.map_take, List.take_of_length_le (by simp)]
  simp
theorem laI_zero (c : List Adv) (k : Nat) (p : Plc) : laI c k 0 p = 0 := by
  unfold laI La
  rw [Rat.zero_mul]
  rfl
theorem lags_from_eq {k : Nat} {M : List MO} (wf : WF M) {c : List Adv} (h : CirOk k c) {n many : Nat} (hn : n ≤ 16) (hm : many ≤ n) (hb : ∀ j, j ≤ n → (plcs c k j).length ≤ 3000) :
    m_lags_from [.lst (foundD c k n), .int many] M = .ok (.tup [kdP (lagD c k (n - many)) (plcs c k many), .int (sc (n - many))]) M := by
  have ki : ∀ M, kiOf M (kdP (fun _ => D.lst []) (plcs c k n)) = some (dcP (fun _ => D.lst []) (plcs c k n)) := fun M => kiOf_P _ _
  have l0 := hb n (by omega)
  have c1 := kc_map (gk := gVar 3) (gv := gC (.int 0)) (δ := [some (.lst (foundD c k n)), some (.int many), none, none, none, none, none, none, none, none]) (M := M) (f := lagD c k 0) (s := 3) (plcs c k n) [] (by rw [List.nil_append]; exact plcs_nd c k n) (by simp; omega) (fun p hp => ⟨by simp, by simp [lagD, laI_zero]⟩)
  rw [List.nil_append, show dcP (lagD c k 0) [] = [] from rfl] at c1
  have hms : many + (n - many) = n := by omega
  obtain ⟨ld', M', v3, v5, v6, v7, v8, v9, e, wf', ⟨T, eT, kT⟩, hl', hld', hr⟩ := out_loop (M0 := M) h hn hb (some (.lst (foundD c k n))) (some (.int many)) (n - many) many M (kdP (lagD c k 0) (plcs c k n)) none none none none none none (by omega) wf ⟨[], by simp, fun o ho => by simp at ho⟩ (.inl ⟨_, _, rfl⟩) (by rw [hms, Nat.sub_self]; exact kdOf_P _ _)
  rw [hms, Nat.sub_self] at e
  unfold m_lags_from frzM
  have q : fnM 10 g_lags_from [.lst (foundD c k n), .int many] M = .ok (.tup [ld', .int (sc (n - many))]) M' := by
    have e' := e
    unfold bOut at e'
    have s0 : sc 0 = 1 := rfl
    rw [s0] at e'
    have sl := slice_found (c := c) (k := k) hm M
    simp [fnM, g_lags_from, startD, gKc, giK, ixK_last, ki, kkeys_P, wipeD, c1, finK_P, giRev, sl, ← List.map_reverse, e', bigN]
  rw [q]
  subst eT
  have b1 : ((M ++ T).take M.length).all (MO.lo M.length) = true := by
    rw [List.take_left]
    exact wf
  have b2 : ((M ++ T).drop M.length).all (fun o => !o.isL) = true := by
    rw [List.drop_left]
    refine List.all_eq_true.mpr fun o ho => ?_
    obtain ⟨kvs, rfl⟩ := kT o ho
    rfl
  have b3 : frz M.length (M ++ T) 9 (.tup [ld', .int (sc (n - many))]) = some (.tup [kdP (lagD c k (n - many)) (plcs c k many), .int (sc (n - many))]) := by
    have f1 : frz M.length (M ++ T) 8 ld' = some (kdP (lagD c k (n - many)) (plcs c k many)) := by
      rcases hr with ⟨r, rfl, hr⟩ | ⟨hz, rfl⟩
      · obtain ⟨kvs, hk⟩ : ∃ kvs, (M ++ T)[r]? = some (.kd kvs) := by
          rcases hl' with ⟨_, _, q⟩ | ⟨r', q, hr'⟩
          · cases q
          · cases q
            rw [List.getElem?_append_right hr]
            have : r - M.length < T.length := by rw [List.length_append] at hr'; omega
            obtain ⟨kvs, e⟩ := kT _ (List.getElem_mem this)
            exact ⟨kvs, by rw [List.getElem?_eq_getElem this, e]⟩
        have hk2 : kvs = dcP (lagD c k (n - many)) (plcs c k many) := by
          unfold kdOf at hld'
          simp only [hk] at hld'
          exact Option.some.inj hld'
        subst hk2
        have z := frz_refK (f := 7) (n := M.length) (M := M ++ T) hr hk (ys := (plcs c k many).map (lagD c k (n - many))) (by
          rw [dcP_snd]
          exact mapM_id' fun x hx => by
            obtain ⟨p, _, rfl⟩ := List.mem_map.mp hx
            rfl)
        rw [z, dcP_fst]
        rfl
      · have hz2 : n - many = 0 := hz
        rw [hz2, show many = n by omega]
        exact frz_kdP _ fun p _ => rfl
    refine frz_tup ?_
    rw [List.mapM_cons, f1, List.mapM_cons, frz_int]
    rfl
  show (if (((M ++ T).take M.length).all (MO.lo M.length) && ((M ++ T).drop M.length).all (fun o => !o.isL)) = true then (match frz M.length (M ++ T) 9 (.tup [ld', .int (sc (n - many))]) with
    | some d' => R.ok d' ((M ++ T).take M.length)
    | none => .bad) else .bad) = _
  rw [b1, b2, b3, List.take_left]
  rfl
end KG
set_option linter.all false
set_option maxRecDepth 100000
set_option maxHeartbeats 2000000
namespace KG
open PySem L2 KM LV
/-- places of which some adviser missed least, 0 -/
structure PlN (c : List Adv) (p : Plc) : Prop extends PlOk c p where
  lo : lowN p.2 = 0
theorem lowN_of {ns : List Nat} {m : Nat} (h : m ∈ ns) (hl : ∀ x ∈ ns, m ≤ x) : lowN ns = m := by
  have h1 := lowN_le h
  have h2 := hl _ (lowN_mem (by intro e; rw [e] at h; simp at h))
  omega
theorem lowN_sub {ns : List Nat} (h : ns ≠ []) : lowN (ns.map fun m => m - lowN ns) = 0 := by
  have := lowN_mem h
  refine lowN_of (List.mem_map.mpr ⟨_, this, by omega⟩) fun x hx => by omega
theorem msts_ne {k : Nat} {c : List Adv} (h : CirOk k c) {p : Plc} (hp : PlOk c p) (x : Nat) : msts c p.1 p.2 x ≠ [] := fun z => by
  have := msts_len hp x
  rw [z] at this
  have l1 := h.l1
  simp at this
  omega
theorem PlN.way {k : Nat} {c : List Adv} (h : CirOk k c) {p : Plc} (hp : PlN c p) {x : Nat} (hx : x < k) : PlN c (wayB c p x) := ⟨hp.toPlOk.way h hx, lowN_sub (msts_ne h hp.toPlOk x)⟩
theorem rootP_n {k : Nat} {c : List Adv} (h : CirOk k c) : PlN c (rootP c) := ⟨rootP_ok h, by
  have l1 := h.l1
  refine lowN_of (m := 0) ?_ fun x _ => Nat.zero_le _
  show 0 ∈ c.map fun _ => 0
  exact List.mem_map.mpr ⟨c[0], List.getElem_mem (by omega), rfl⟩⟩
theorem plcs_n {k : Nat} {c : List Adv} (h : CirOk k c) : ∀ n, ∀ p ∈ plcs c k n, PlN c p
  | 0, p, hp => by
    rw [List.mem_singleton.mp hp]
    exact rootP_n h
  | n + 1, p, hp => by
    obtain ⟨q, hq, x, hx, rfl⟩ := nextP_mem.mp hp
    exact (plcs_n h n q hq).way h hx
theorem msts_mem {c : List Adv} {ss : List Nat} {x : Nat} : ∀ {ms : List Nat}, c.length = ss.length → c.length = ms.length → ∀ {m : Nat}, m ∈ ms → ∃ m' ∈ msts c ss ms x, m' ≤ m + 1 := by
  induction c generalizing ss with
  | nil =>
    intro ms _ h2 m hm
    cases ms with
    | nil => simp at hm
    | cons => simp at h2
  | cons a c ih =>
    intro ms h1 h2 m hm
    cases ss with
    | nil => simp at h1
    | cons s ss =>
      cases ms with
      | nil => simp at h2
      | cons m0 ms =>
        have e : msts (a :: c) (s :: ss) (m0 :: ms) x = (m0 + missOne a s x) :: msts c ss ms x := rfl
        rw [e]
        rcases List.mem_cons.mp hm with rfl | hm
        · refine ⟨m + missOne a s x, by simp, ?_⟩
          unfold missOne
          split <;> omega
        · obtain ⟨m', h3, h4⟩ := ih (by simpa using h1) (by simpa using h2) hm
          exact ⟨m', by simp [h3], h4⟩
theorem wayR_le {k : Nat} {c : List Adv} (h : CirOk k c) {p : Plc} (hp : PlN c p) (x : Nat) : wayR c p x ≤ 1 := by
  have l1 := h.l1
  have ne : p.2 ≠ [] := fun z => by
    have := hp.h2
    rw [z, List.length_nil] at this
    omega
  have m0 := lowN_mem ne
  rw [hp.lo] at m0
  obtain ⟨m', h1, h2⟩ := msts_mem (x := x) hp.h1 hp.h2 m0
  have := lowN_le h1
  show lowN _ ≤ 1
  omega
/-! bounds -/
theorem Bnd_int {L A : Nat} {i : Int} (h : i.natAbs ≤ A) : K11.Bnd L A (i : Rat) := ⟨by
  show (1 : Nat) ∣ L
  exact Nat.one_dvd _, by show i.natAbs ≤ A * 1; omega⟩
theorem sc_nat (n : Nat) : sc n = ((12 ^ n : Nat) : Int) := by
  unfold sc
  exact_mod_cast rfl
theorem pow_ne (n : Nat) : (12 ^ n : Nat) ≠ 0 := Nat.ne_of_gt (Nat.pow_pos (by decide))
theorem la_den {k : Nat} {c : List Adv} (h : CirOk k c) (n : Nat) {p : Plc} (hp : PlOk c p) : (La c k n p).den ∣ 12 ^ n := by
  have e := la_int h n p hp
  have e2 : La c k n p = Rat.divInt (laI c k n p) ((12 ^ n : Nat) : Int) := by
    have hs : (sc n : Rat) ≠ 0 := by
      have : (0 : Rat) < (sc n : Rat) := by exact_mod_cast sc_pos n
      grind
    rw [← sc_nat, Rat.divInt_eq_div, e, Rat.div_def, Rat.mul_assoc, Rat.mul_inv_cancel _ hs, Rat.mul_one]
  rw [e2]
  exact K11.divInt_dvd (pow_ne n)
theorem wv_bnd {k : Nat} {c : List Adv} (h : CirOk k c) {n : Nat} {p : Plc} (hp : PlN c p) (ih : ∀ x, x < k → K11.Bnd (12 ^ n) (2 * n) (La c k n (wayB c p x))) : ∀ w ∈ (List.range' 0 k).map (fun x => La c k n (wayB c p x) - ((wayR c p x : Int) : Rat)), K11.Bnd (12 ^ n) (2 * n + 1) w := by
  intro w hw
  obtain ⟨x, hx, rfl⟩ := List.mem_map.mp hw
  rw [List.mem_range'] at hx
  obtain ⟨i, hi, rfl⟩ := hx
  have r1 := wayR_le h hp (0 + 1 * i)
  rw [Rat.sub_eq_add_neg, ← Rat.intCast_neg]
  exact (ih _ (by omega)).add (pow_ne n) (Bnd_int (by omega))
theorem la_bnd {k : Nat} {c : List Adv} (h : CirOk k c) : ∀ (n : Nat) (p : Plc), PlN c p → K11.Bnd (12 ^ n) (2 * n) (La c k n p)
  | 0, p, hp => K11.Bnd.zero _
  | n + 1, p, hp => by
    have s2 := h.s2
    have wb := wv_bnd h hp fun x hx => la_bnd h n _ (hp.way h hx)
    have fv := la_fv h n hp.toPlOk
    have d := la_den h (n + 1) hp.toPlOk
    have e : (12 ^ (n + 1) : Nat) = 12 * 12 ^ n := by rw [Nat.pow_succ, Nat.mul_comm]
    rw [e] at d ⊢
    exact K11.root_bnd (by
      intro z
      have := congrArg List.length z
      simp at this
      omega) wb fv d
end KG
set_option linter.all false
set_option maxRecDepth 100000
set_option maxHeartbeats 2000000
namespace KG
open PySem L2 KM LV
theorem check_circle_eq {k : Nat} {M : List MO} (wf : WF M) {c : List Adv} (h : CirOk k c) {n : Nat} (hn : n ≤ 10) : m_check_circle [cirD c, .int n] M = .ok .non M := by
  have ic := is_circle_any (B := 100) wf (h.ok (by decide))
  rw [h.isCir] at ic
  have ib := is_below_int (i := (n : Int)) (n := 11) wf
  have e1 : decide ((0 : Int) ≤ (n : Int)) = true := by simp
  have e2 : decide ((n : Int) < 11) = true := by simp; omega
  rw [e1, e2] at ib
  unfold m_check_circle cutM
  have q : fnM 2 g_check_circle [cirD c, .int n] M = .ok .non M := by
    simp [fnM, g_check_circle, startD, ic, ib, oAdd, oI2]
  rw [q]
  exact cut_same wf rfl
theorem la_norm {k : Nat} {c : List Adv} (h : CirOk k c) (n : Nat) {p : Plc} (hp : PlOk c p) : Rat.normalize (laI c k n p) (12 ^ n) (pow_ne n) = La c k n p := by
  have e := la_int h n p hp
  have hs : (sc n : Rat) ≠ 0 := by
    have : (0 : Rat) < (sc n : Rat) := by exact_mod_cast sc_pos n
    grind
  rw [Rat.normalize_eq_mkRat, ← Rat.divInt_ofNat, ← sc_nat, Rat.divInt_eq_div, e, Rat.div_def, Rat.mul_assoc, Rat.mul_inv_cancel _ hs, Rat.mul_one]
theorem pow_log {n : Nat} (hn : n ≤ 16) : (12 ^ n : Nat).log2 < 9000 := by
  have h1 : (12 ^ n : Nat) ≤ 12 ^ 16 := Nat.pow_le_pow_right (by decide) hn
  have h2 := Nat.log2_self_le (pow_ne n)
  apply Classical.byContradiction
  intro z
  have h3 : 2 ^ 9000 ≤ 2 ^ (12 ^ n : Nat).log2 := Nat.pow_le_pow_right (by decide) (by omega)
  have h4 : (12 ^ 16 : Nat) < 2 ^ 9000 := by
    have : (12 ^ 16 : Nat) < 2 ^ 64 := by decide
    exact Nat.lt_of_lt_of_le this (Nat.pow_le_pow_right (by decide) (by decide))
  omega
theorem red_eq {M : List MO} (wf : WF M) {n : Nat} (hn : n ≤ 16) (t : Int) : m_reduced [.int t, .int (sc n)] M = .ok (fD (Rat.normalize t (12 ^ n) (pow_ne n))) M := by
  rw [sc_nat]
  exact K11.reduced_eq (pow_ne n) (pow_log hn) wf
theorem lag_eq {k : Nat} {M : List MO} (wf : WF M) {c : List Adv} (h : CirOk k c) {n : Nat} (hn : n ≤ 10) (hb : ∀ j, j ≤ n → (plcs c k j).length ≤ 3000) : m_lag [cirD c, .int n] M = .ok (fD (La c k n (rootP c))) M := by
  have c1 := check_circle_eq wf h hn
  have c2 := places_within_eq wf h (n := n) (by omega) hb
  have c3 := lags_from_eq wf h (n := n) (many := 0) (by omega) (by omega) hb
  have c4 := nothing_heard_eq wf h
  rw [show D.tup [nsD (c.map fun _ => 0), nsD (c.map fun _ => 0)] = plD (rootP c) from rfl] at c4
  rw [Nat.sub_zero] at c3
  have c5 := red_eq wf (n := n) (by omega) (laI c k n (rootP c))
  rw [la_norm h n (rootP_ok h)] at c5
  have ix : oIxK (kdP (lagD c k n) (plcs c k 0)) (plD (rootP c)) M = .ok (.int (laI c k n (rootP c))) M := by
    unfold oIxK
    simp only [kdOf_P, tkey_pl, kget_in (show rootP c ∈ plcs c k 0 by simp [plcs])]
    rfl
  unfold m_lag cutM
  have q : fnM 4 g_lag [cirD c, .int n] M = .ok (fD (La c k n (rootP c))) M := by
    simp only [Int.natCast_zero] at c3
    simp [fnM, g_lag, startD, c1, c2, c3, c4, ix, c5]
  rw [q]
  exact cut_same wf rfl
/-! ### followed -/
def plAfter (c : List Adv) (p : Plc) (row : List Nat) : Plc := row.foldl (wayB c) p
theorem plAfter_in {k : Nat} {c : List Adv} : ∀ (row : List Nat) (p : Plc) (j : Nat), p ∈ plcs c k j → (∀ x ∈ row, x < k) → plAfter c p row ∈ plcs c k (j + row.length)
  | [], p, j, h, _ => h
  | x :: row, p, j, h, hr => by
    have := plAfter_in row (wayB c p x) (j + 1) (nextP_mem.mpr ⟨p, h, x, hr x (by simp), rfl⟩) fun y hy => hr y (by simp [hy])
    rw [List.length_cons, show j + (row.length + 1) = j + 1 + row.length by omega]
    exact this
theorem follow_loop {k : Nat} {M : List MO} (wf : WF M) {c : List Adv} (h : CirOk k c) (x1 x2 x3 x6 x7 x8 x9 : Option D) : ∀ (row : List Nat) (p : Plc) (u5 : Option D), PlOk c p → (∀ x ∈ row, x < k) →
    ∃ v5, forL (fun _ => True) (gtName 5) (gSet 4 (gOp oIxK (gOp oIxK (gCall m_ways (gACons (gVar 0) (gACons (gVar 4) (gANil)))) (gVar 5)) (gC (.int 0)))) (row.map fun (n : Nat) => D.int n) [some (cirD c), x1, x2, x3, some (plD p), u5, x6, x7, x8, x9] M =
      .nx [some (cirD c), x1, x2, x3, some (plD (plAfter c p row)), v5, x6, x7, x8, x9] M
  | [], p, u5, hp, _ => ⟨u5, by simp [forL, plAfter]⟩
  | x :: row, p, u5, hp, hr => by
    have hx := hr x (by simp)
    obtain ⟨v5, e⟩ := follow_loop wf h x1 x2 x3 x6 x7 x8 x9 row (wayB c p x) (some (.int x)) (hp.way h hx) fun y hy => hr y (by simp [hy])
    refine ⟨v5, ?_⟩
    have w := ways_eq wf h hp
    have i1 : oIxK (waysD c k p) (.int x) M = .ok (wayD c p x) M := by
      show oIx (waysD c k p) (.int x) M = _
      refine s_ixL M rfl rfl ?_
      rw [List.getElem?_map, List.getElem?_range' (by omega)]
      simp
    have i2 : oIxK (wayD c p x) (.int 0) M = .ok (plD (wayB c p x)) M := by
      show oIx (.tup [plD (wayB c p x), .int (wayR c p x)]) (.int 0) M = _
      exact ix2_0 _ _ M
    rw [List.map_cons]
    unfold forL
    simp [w, i1, i2]
    exact e
end KG
set_option linter.all false
set_option maxRecDepth 100000
set_option maxHeartbeats 2000000
namespace KG
open PySem L2 KM LV
noncomputable def wvs (c : List Adv) (k m : Nat) (p : Plc) : List Rat := (List.range' 0 k).map fun x => La c k m (wayB c p x) - ((wayR c p x : Int) : Rat)
noncomputable def chs (c : List Adv) (k m : Nat) (p : Plc) : List Rat := (wvs c k m p).map fun w => mx (w + 1 - La c k (m + 1) p)
theorem ts_norm {k : Nat} {c : List Adv} (h : CirOk k c) {m : Nat} {p : Plc} (hp : PlOk c p) : (tsOf c k m (laI c k m) p).map (fun t => fD (Rat.normalize t (12 ^ m) (pow_ne m))) = (wvs c k m p).map fD := by
  have e := ts_rat (k := k) (n := m) (p := p) fun x hx => la_int h m _ (hp.way h hx)
  show _ = ((List.range' 0 k).map fun x => La c k m (wayB c p x) - ((wayR c p x : Int) : Rat)).map fD
  rw [← e, List.map_map]
  refine List.map_congr_left fun t _ => ?_
  show fD _ = fD _
  congr 1
  rw [Rat.normalize_eq_mkRat, ← Rat.divInt_ofNat, ← sc_nat, Rat.divInt_eq_div]
theorem followed_eq {k : Nat} {M : List MO} (wf : WF M) {c : List Adv} (h : CirOk k c) {n : Nat} (hn : n ≤ 10) (hb : ∀ j, j ≤ n → (plcs c k j).length ≤ 3000) {row : List Nat} (hr : ∀ x ∈ row, x < k) {m : Nat} (hm : row.length + m + 1 = n) :
    m_followed [cirD c, .int n, nsD row] M = .ok (.tup ((chs c k m (plAfter c (rootP c) row)).map fD)) M := by
  have s2 := h.s2
  have s4 := h.s4
  have l1 := h.l1
  have c1 := check_circle_eq wf h hn
  have c2 := places_within_eq wf h (n := n) (by omega) hb
  have c3 := lags_from_eq wf h (n := n) (many := row.length + 1) (by omega) (by omega) hb
  rw [show n - (row.length + 1) = m by omega] at c3
  have c4 := nothing_heard_eq wf h
  rw [show D.tup [nsD (c.map fun _ => 0), nsD (c.map fun _ => 0)] = plD (rootP c) from rfl] at c4
  obtain ⟨v5, c5⟩ := follow_loop wf h (some (.int n)) (some (nsD row)) (some (.lst (foundD c k n))) none none none none row (rootP c) none (rootP_ok h) hr
  have pin := plAfter_in (c := c) (k := k) row (rootP c) 0 (List.mem_singleton.mpr rfl) hr
  rw [Nat.zero_add] at pin
  have pn := plcs_n h _ _ pin
  have c6 := ways_eq wf h pn.toPlOk
  have c7 := worths_in_eq wf h (n := m) (by omega) (p := plAfter c (rootP c) row) (ld := kdP (lagD c k m) (plcs c k (row.length + 1))) (qs := plcs c k (row.length + 1)) (kdOf_P _ _) (fun x hx => nextP_mem.mpr ⟨_, pin, x, hx, rfl⟩)
  have c8 := lcL_map (gd := fun _ => True) (M := M) (gg := gtName 9) (ge := gCall m_reduced (gACons (gVar 9) (gACons (gVar 7) (gANil)))) (δ := [some (cirD c), some (.int n), some (nsD row), some (.lst (foundD c k n)), some (plD (plAfter c (rootP c) row)), v5, some (kdP (lagD c k m) (plcs c k (row.length + 1))), some (.int (sc m)), some (.lst ((tsOf c k m (laI c k m) (plAfter c (rootP c) row)).map D.int)), none]) (em := D.int) (f := fun t => fD (Rat.normalize t (12 ^ m) (pow_ne m))) trivial (tsOf c k m (laI c k m) (plAfter c (rootP c) row)) [] (by simp [tsOf]; omega) (fun t _ => ⟨_, rfl, by simp [red_eq wf (show m ≤ 16 by omega)]⟩)
  rw [List.nil_append, ts_norm h pn.toPlOk] at c8
  have wb := wv_bnd h pn fun x hx => la_bnd h m _ (pn.way h hx)
  have p12 : (12 ^ m : Nat) < 2 ^ 4900 := by
    have a1 : (12 ^ m : Nat) ≤ 12 ^ 16 := Nat.pow_le_pow_right (by decide) (by omega)
    have a2 : (12 ^ 16 : Nat) < 2 ^ 64 := by decide
    have a3 : (2 : Nat) ^ 64 ≤ 2 ^ 4900 := Nat.pow_le_pow_right (by decide) (by decide)
    omega
  obtain ⟨v, g1, _, g3⟩ := K11.levels_eq (pow_ne m) p12 (A := 2 * m + 1) (by
    have a3 : (2 : Nat) ^ 64 ≤ 2 ^ 1000 := Nat.pow_le_pow_right (by decide) (by decide)
    have : (2 : Nat) ^ 64 = 18446744073709551616 := by decide
    omega) (ws := wvs c k m (plAfter c (rootP c) row)) (by simp [wvs]; omega) (by simp [wvs]; omega) wb
  have ev : v = La c k (m + 1) (plAfter c (rootP c) row) := Fv_uniq g1 (la_fv h m pn.toPlOk)
  obtain ⟨_, _, c9⟩ := g3 wf
  rw [ev] at c9
  have c9' : m_filled [.tup ((wvs c k m (plAfter c (rootP c) row)).map fD)] M = .ok (.tup ((chs c k m (plAfter c (rootP c) row)).map fD)) M := c9
  have ir := is_row_any (B := 1000) (d := nsD row) (k := (k : Int)) (by omega) (by omega) wf (nsD_ok (by omega) fun x hx => by have := hr x hx; omega)
  rw [isRw_row (by omega) hr] at ir
  have e0 : oIxK (cirD c) (.int 0) M = .ok (advD c[0]) M := by
    show oIx (cirD c) (.int 0) M = _
    exact ixT_map (f := advD) (by simp [List.getElem?_eq_getElem (show 0 < c.length by omega)]) M
  have e1 : oIxK (advD c[0]) (.int 0) M = .ok (.int k) M := by
    have := (h.ad c[0] (List.getElem_mem (by omega))).s
    rw [← this]
    show oIx (.tup [.int c[0].1, .tup (c[0].2.map arD)]) (.int 0) M = _
    exact ix2_0 _ _ M
  have ln : oLenK [nsD row] M = .ok (.int (row.length : Int)) M := by
    show oLen [.tup (row.map fun (n : Nat) => D.int n)] M = _
    simp
  have ge : ¬ ((n : Int) ≤ (row.length : Int)) := by omega
  have sq : tupOf (nsD row) = some (row.map fun (n : Nat) => D.int n) := rfl
  unfold m_followed cutM
  have ca : (row.length : Int) + 1 = ((row.length + 1 : Nat) : Int) := by omega
  have q : fnM 10 g_followed [cirD c, .int n, nsD row] M = .ok (.tup ((chs c k m (plAfter c (rootP c) row)).map fD)) M := by
    simp [fnM, g_followed, startD, c1, e0, e1, ir, ln, oGe, oI2, ge, c2, c4, sq, c5]
    rw [ca, c3]
    have gd : ∀ xs : List D, gdOf (.lst xs) xs = fun _ => True := fun _ => rfl
    simp [c6, c7, wipeD, gd, c8, finI, c9']
  rw [q]
  exact cut_same wf (by show D.los _ _ = true; exact los_mapD (fun _ => rfl) _)
end KG
set_option linter.all false
set_option maxRecDepth 100000
set_option maxHeartbeats 2000000
namespace KG
open PySem L2 KM LV
/-! ### the game over all rows -/
def low (c : List Adv) (row : List Nat) : Nat := lowN (c.map fun a => (advRun a row).2)
def plOf (c : List Adv) (row : List Nat) : Plc := (c.map fun a => (advRun a row).1, c.map fun a => (advRun a row).2 - low c row)
theorem advRun_snoc (a : Adv) (row : List Nat) (x : Nat) : advRun a (row ++ [x]) = advStep a (advRun a row) x := by
  unfold advRun advFrom
  rw [List.foldl_append]
  rfl
theorem low_le {c : List Adv} {row : List Nat} {a : Adv} (h : a ∈ c) : low c row ≤ (advRun a row).2 := lowN_le (List.mem_map.mpr ⟨a, h, rfl⟩)
theorem low_ex {c : List Adv} (h : c ≠ []) (row : List Nat) : ∃ a ∈ c, low c row = (advRun a row).2 := by
  have := lowN_mem (ns := c.map fun a => (advRun a row).2) (by simpa using h)
  obtain ⟨a, ha, e⟩ := List.mem_map.mp this
  exact ⟨a, ha, e.symm⟩
theorem low_mono (c : List Adv) (row : List Nat) (x : Nat) : low c row ≤ low c (row ++ [x]) := by
  cases hc : c with
  | nil => exact Nat.zero_le _
  | cons a0 c0 =>
    rw [← hc]
    obtain ⟨a, ha, e⟩ := low_ex (c := c) (by rw [hc]; simp) (row ++ [x])
    rw [e, advRun_snoc]
    have := low_le (row := row) ha
    show low c row ≤ (advRun a row).2 + _
    omega
theorem msts_plOf (c : List Adv) (row : List Nat) (x : Nat) : msts c (plOf c row).1 (plOf c row).2 x = c.map fun a => (advRun a (row ++ [x])).2 - low c row := by
  show msts c (c.map fun a => (advRun a row).1) (c.map fun a => (advRun a row).2 - low c row) x = _
  rw [msts_map]
  refine List.map_congr_left fun a ha => ?_
  have := low_le (row := row) ha
  rw [advRun_snoc]
  show (advRun a row).2 - low c row + missOne a (advRun a row).1 x = (advRun a row).2 + missOne a (advRun a row).1 x - low c row
  omega
theorem wayR_plOf {c : List Adv} (hc : c ≠ []) (row : List Nat) (x : Nat) : wayR c (plOf c row) x = low c (row ++ [x]) - low c row := by
  unfold wayR
  rw [msts_plOf]
  obtain ⟨a, ha, e⟩ := low_ex hc (row ++ [x])
  refine lowN_of (List.mem_map.mpr ⟨a, ha, by rw [e]⟩) fun y hy => ?_
  obtain ⟨b, hb, rfl⟩ := List.mem_map.mp hy
  have := low_le (row := row ++ [x]) hb
  omega
theorem wayB_plOf {c : List Adv} (hc : c ≠ []) (row : List Nat) (x : Nat) : wayB c (plOf c row) x = plOf c (row ++ [x]) := by
  have r := wayR_plOf hc row x
  unfold wayR at r
  unfold wayB
  rw [r, msts_plOf]
  refine Prod.ext ?_ ?_
  · show nxts c (c.map fun a => (advRun a row).1) x = c.map fun a => (advRun a (row ++ [x])).1
    rw [nxts_map]
    exact List.map_congr_left fun a _ => by rw [advRun_snoc]; rfl
  · show (c.map fun a => (advRun a (row ++ [x])).2 - low c row).map (fun m => m - (low c (row ++ [x]) - low c row)) = c.map fun a => (advRun a (row ++ [x])).2 - low c (row ++ [x])
    rw [List.map_map]
    refine List.map_congr_left fun a ha => ?_
    have h1 := low_le (row := row ++ [x]) ha
    have h2 := low_mono c row x
    show (advRun a (row ++ [x])).2 - low c row - (low c (row ++ [x]) - low c row) = _
    omega
theorem plOf_nil {c : List Adv} (hc : c ≠ []) : plOf c [] = rootP c := by
  have e : low c [] = 0 := by
    obtain ⟨a, _, e⟩ := low_ex hc []
    exact e
  unfold plOf rootP
  rw [e]
  rfl
theorem plAfter_plOf {c : List Adv} (hc : c ≠ []) : ∀ (row q : List Nat), plAfter c (plOf c q) row = plOf c (q ++ row)
  | [], q => by simp [plAfter]
  | x :: row, q => by
    have := plAfter_plOf hc row (q ++ [x])
    show plAfter c (wayB c (plOf c q) x) row = _
    rw [wayB_plOf hc, this]
    simp
theorem plAfter_root {c : List Adv} (hc : c ≠ []) (row : List Nat) : plAfter c (rootP c) row = plOf c row := by
  rw [← plOf_nil hc, plAfter_plOf hc, List.nil_append]
theorem plOf_in {k : Nat} {c : List Adv} (h : CirOk k c) {row : List Nat} (hr : ∀ x ∈ row, x < k) : plOf c row ∈ plcs c k row.length := by
  have hc : c ≠ [] := fun e => by have := h.l1; rw [e] at this; simp at this
  have := plAfter_in (c := c) (k := k) row (rootP c) 0 (List.mem_singleton.mpr rfl) hr
  rw [Nat.zero_add, plAfter_root hc] at this
  exact this
/-- the value of the game behind a row: so much more than nothing must be missed -/
noncomputable def Gm (c : List Adv) (k n : Nat) (row : List Nat) : Rat := La c k n (plOf c row) - ((low c row : Int) : Rat)
theorem gm_zero (c : List Adv) (k : Nat) (row : List Nat) : Gm c k 0 row = -((low c row : Int) : Rat) := by
  unfold Gm La
  grind
theorem Fv_shift (d : Rat) : ∀ (ws : List Rat) (v : Rat), Fv (ws.map fun w => w + d) (v + d) = Fv ws v
  | [], v => rfl
  | w :: ws, v => by
    show mx (w + d + 1 - (v + d)) + Fv (ws.map fun w => w + d) (v + d) = mx (w + 1 - v) + Fv ws v
    rw [Fv_shift d ws v, show w + d + 1 - (v + d) = w + 1 - v by grind]
theorem wvs_gm {k : Nat} {c : List Adv} (hc : c ≠ []) (m : Nat) (row : List Nat) : wvs c k m (plOf c row) = ((List.range' 0 k).map fun x => Gm c k m (row ++ [x])).map fun w => w + ((low c row : Int) : Rat) := by
  unfold wvs
  rw [List.map_map]
  refine List.map_congr_left fun x _ => ?_
  rw [wayB_plOf hc, wayR_plOf hc]
  have := low_mono c row x
  show _ = Gm c k m (row ++ [x]) + _
  unfold Gm
  rw [show ((low c (row ++ [x]) - low c row : Nat) : Int) = (low c (row ++ [x]) : Int) - (low c row : Int) by omega, Rat.intCast_sub]
  grind
theorem gm_fv {k : Nat} {c : List Adv} (h : CirOk k c) (n : Nat) {row : List Nat} (hr : ∀ x ∈ row, x < k) : Fv ((List.range' 0 k).map fun x => Gm c k n (row ++ [x])) (Gm c k (n + 1) row) = 1 := by
  have hc : c ≠ [] := fun e => by have := h.l1; rw [e] at this; simp at this
  have fv := la_fv h n (plcs_ok h _ _ (plOf_in h hr))
  have e : (List.range' 0 k).map (fun x => La c k n (wayB c (plOf c row) x) - ((wayR c (plOf c row) x : Int) : Rat)) = wvs c k n (plOf c row) := rfl
  rw [e, wvs_gm hc] at fv
  rw [← fv, ← Fv_shift ((low c row : Int) : Rat) _ (Gm c k (n + 1) row)]
  congr 1
  unfold Gm
  grind
theorem la_root {k : Nat} {c : List Adv} (h : CirOk k c) (n : Nat) : La c k n (rootP c) = Gm c k n [] := by
  have hc : c ≠ [] := fun e => by have := h.l1; rw [e] at this; simp at this
  have e : low c [] = 0 := by
    obtain ⟨a, _, e⟩ := low_ex hc []
    exact e
  unfold Gm
  rw [plOf_nil hc, e]
  grind
theorem chs_gm {k : Nat} {c : List Adv} (h : CirOk k c) (m : Nat) (row : List Nat) : chs c k m (plAfter c (rootP c) row) = (List.range' 0 k).map fun x => mx (Gm c k m (row ++ [x]) + 1 - Gm c k (m + 1) row) := by
  have hc : c ≠ [] := fun e => by have := h.l1; rw [e] at this; simp at this
  unfold chs
  rw [plAfter_root hc, wvs_gm hc, List.map_map, List.map_map]
  refine List.map_congr_left fun x _ => ?_
  show mx (Gm c k m (row ++ [x]) + _ + 1 - La c k (m + 1) (plOf c row)) = _
  congr 1
  unfold Gm
  grind
end KG
set_option linter.all false
set_option maxRecDepth 100000
set_option maxHeartbeats 2000000
namespace KG
open PySem L2 KM LV
/-! ### two advisers who always differ -/
def Vt : Nat → Nat → Nat → Rat
  | 0, x, y => -((min x y : Nat) : Int)
  | n + 1, x, y => (Vt n (x + 1) y + Vt n x (y + 1) + 1) / 2
theorem vt_close : ∀ (n x y : Nat), Vt n (x + 1) y - Vt n x (y + 1) ≤ 1 ∧ Vt n x (y + 1) - Vt n (x + 1) y ≤ 1
  | 0, x, y => by
    show (-((min (x + 1) y : Nat) : Int) : Rat) - -((min x (y + 1) : Nat) : Int) ≤ 1 ∧ (-((min x (y + 1) : Nat) : Int) : Rat) - -((min (x + 1) y : Nat) : Int) ≤ 1
    have h1 : (min x (y + 1) : Nat) ≤ min (x + 1) y + 1 := by omega
    have h2 : (min (x + 1) y : Nat) ≤ min x (y + 1) + 1 := by omega
    have g1 : (((min x (y + 1) : Nat) : Int) : Rat) ≤ (((min (x + 1) y : Nat) : Int) : Rat) + 1 := by exact_mod_cast (show ((min x (y + 1) : Nat) : Int) ≤ ((min (x + 1) y : Nat) : Int) + 1 by omega)
    have g2 : (((min (x + 1) y : Nat) : Int) : Rat) ≤ (((min x (y + 1) : Nat) : Int) : Rat) + 1 := by exact_mod_cast (show ((min (x + 1) y : Nat) : Int) ≤ ((min x (y + 1) : Nat) : Int) + 1 by omega)
    constructor <;> grind
  | n + 1, x, y => by
    obtain ⟨a1, a2⟩ := vt_close n (x + 1) y
    obtain ⟨b1, b2⟩ := vt_close n x (y + 1)
    show (Vt n (x + 1 + 1) y + Vt n (x + 1) (y + 1) + 1) / 2 - (Vt n (x + 1) (y + 1) + Vt n x (y + 1 + 1) + 1) / 2 ≤ 1 ∧ (Vt n (x + 1) (y + 1) + Vt n x (y + 1 + 1) + 1) / 2 - (Vt n (x + 1 + 1) y + Vt n (x + 1) (y + 1) + 1) / 2 ≤ 1
    constructor <;> grind
theorem mx_ge {x : Rat} (h : 0 ≤ x) : mx x = x := by
  unfold mx
  split
  · rfl
  · grind
theorem mx_np {x : Rat} (h : x ≤ 0) : mx x = 0 := by
  unfold mx
  rw [if_neg (by grind)]
theorem Fv_two {a b : Rat} (h1 : a - b ≤ 1) (h2 : b - a ≤ 1) : Fv [a, b] ((a + b + 1) / 2) = 1 := by
  show mx (a + 1 - (a + b + 1) / 2) + (mx (b + 1 - (a + b + 1) / 2) + 0) = 1
  rw [mx_ge (by grind), mx_ge (by grind)]
  grind
theorem Fv_swap (a b v : Rat) : Fv [a, b] v = Fv [b, a] v := by
  show mx (a + 1 - v) + (mx (b + 1 - v) + 0) = mx (b + 1 - v) + (mx (a + 1 - v) + 0)
  grind
/-- who tells just the other letter -/
def Opp (a b : Adv) : Prop := ∀ row : List Nat, (∀ x ∈ row, x < 2) → advTold b (advRun b row).1 = 1 - advTold a (advRun a row).1
theorem told_lt {k : Nat} {a : Adv} (h : AdvOk k a) {row : List Nat} (hr : ∀ x ∈ row, x < k) : (advRun a row).1 < a.2.length ∧ advTold a (advRun a row).1 < k := by
  have h1 : ∀ (row : List Nat) (p : Nat × Nat), p.1 < a.2.length → (∀ x ∈ row, x < k) → (advFrom a p row).1 < a.2.length := by
    intro row
    induction row with
    | nil => intro p hp _; exact hp
    | cons x row ih =>
      intro p hp hr
      exact ih _ (advStep_lt h hp (hr x (by simp))) fun y hy => hr y (by simp [hy])
  have := h1 row (0, 0) (by have := h.l1; show 0 < _; omega) hr
  exact ⟨this, (advAt_get h this).2.1⟩
structure Two (a b : Adv) (c : List Adv) : Prop where
  ok : CirOk 2 c
  ha : a ∈ c
  hb : b ∈ c
  all : ∀ d ∈ c, d = a ∨ d = b
  opp : Opp a b
theorem Two.low {a b : Adv} {c : List Adv} (t : Two a b c) (row : List Nat) : low c row = min (advRun a row).2 (advRun b row).2 := by
  have h1 := low_le (row := row) t.ha
  have h2 := low_le (row := row) t.hb
  obtain ⟨d, hd, e⟩ := low_ex (c := c) (fun z => by have := t.ha; rw [z] at this; simp at this) row
  rcases t.all d hd with rfl | rfl <;> omega
theorem mem2 {row : List Nat} (hr : ∀ x ∈ row, x < 2) {x : Nat} (hx : x < 2) : ∀ y ∈ row ++ [x], y < 2 := fun y hy => by
  rcases List.mem_append.mp hy with h | h
  · exact hr y h
  · rw [List.mem_singleton.mp h]; exact hx
theorem Two.gm {a b : Adv} {c : List Adv} (t : Two a b c) : ∀ (n : Nat) (row : List Nat), (∀ x ∈ row, x < 2) → Gm c 2 n row = Vt n (advRun a row).2 (advRun b row).2
  | 0, row, hr => by
    rw [gm_zero, t.low]
    rfl
  | n + 1, row, hr => by
    have fv := gm_fv t.ok n hr
    have i0 := Two.gm t n (row ++ [0]) (mem2 hr (by decide))
    have i1 := Two.gm t n (row ++ [1]) (mem2 hr (by decide))
    have e : (List.range' 0 2).map (fun x => Gm c 2 n (row ++ [x])) = [Gm c 2 n (row ++ [0]), Gm c 2 n (row ++ [1])] := rfl
    rw [e, i0, i1, advRun_snoc, advRun_snoc, advRun_snoc, advRun_snoc] at fv
    have op := t.opp row hr
    obtain ⟨_, tl⟩ := told_lt (t.ok.ad a t.ha) hr
    obtain ⟨v1, v2⟩ := vt_close n (advRun a row).2 (advRun b row).2
    have f2 := Fv_two v1 v2
    show _ = (Vt n ((advRun a row).2 + 1) (advRun b row).2 + Vt n (advRun a row).2 ((advRun b row).2 + 1) + 1) / 2
    have s : ∀ (d : Adv) (x : Nat), (advStep d (advRun d row) x).2 = (advRun d row).2 + (if advTold d (advRun d row).1 = x then 0 else 1) := fun d x => rfl
    rw [s, s, s, s, op] at fv
    have hc : advTold a (advRun a row).1 = 0 ∨ advTold a (advRun a row).1 = 1 := by omega
    rcases hc with q | q
    · rw [q] at fv
      have fv' : Fv [Vt n (advRun a row).2 ((advRun b row).2 + 1), Vt n ((advRun a row).2 + 1) (advRun b row).2] (Gm c 2 (n + 1) row) = 1 := fv
      rw [Fv_swap] at fv'
      exact Fv_uniq fv' f2
    · rw [q] at fv
      have fv' : Fv [Vt n ((advRun a row).2 + 1) (advRun b row).2, Vt n (advRun a row).2 ((advRun b row).2 + 1)] (Gm c 2 (n + 1) row) = 1 := fv
      exact Fv_uniq fv' f2
/-- one adviser alone, or several who are one -/
theorem gm_one {a : Adv} {c : List Adv} (ok : CirOk 2 c) (ha : a ∈ c) (all : ∀ d ∈ c, d = a) : ∀ (n : Nat) (row : List Nat), (∀ x ∈ row, x < 2) → Gm c 2 n row = -(((advRun a row).2 : Int) : Rat)
  | 0, row, hr => by
    rw [gm_zero]
    obtain ⟨d, hd, e⟩ := low_ex (c := c) (fun z => by rw [z] at ha; simp at ha) row
    rw [e, all d hd]
  | n + 1, row, hr => by
    have fv := gm_fv ok n hr
    have i0 := gm_one ok ha all n (row ++ [0]) (mem2 hr (by decide))
    have i1 := gm_one ok ha all n (row ++ [1]) (mem2 hr (by decide))
    have e : (List.range' 0 2).map (fun x => Gm c 2 n (row ++ [x])) = [Gm c 2 n (row ++ [0]), Gm c 2 n (row ++ [1])] := rfl
    rw [e, i0, i1, advRun_snoc, advRun_snoc] at fv
    obtain ⟨_, tl⟩ := told_lt (ok.ad a ha) hr
    have s : ∀ (x : Nat), (advStep a (advRun a row) x).2 = (advRun a row).2 + (if advTold a (advRun a row).1 = x then 0 else 1) := fun x => rfl
    rw [s, s] at fv
    have hc : advTold a (advRun a row).1 = 0 ∨ advTold a (advRun a row).1 = 1 := by omega
    have key : ∀ z : Rat, Fv [-z, -(z + 1)] (-z) = 1 := fun z => by
      show mx (-z + 1 - -z) + (mx (-(z + 1) + 1 - -z) + 0) = 1
      rw [mx_ge (by grind), mx_np (by grind)]
      grind
    have up : (((((advRun a row).2 + 1 : Nat)) : Int) : Rat) = (((advRun a row).2 : Int) : Rat) + 1 := by
      rw [Int.natCast_add, Rat.intCast_add]
      rfl
    rcases hc with q | q
    · rw [q] at fv
      have fv' : Fv [-(((advRun a row).2 : Int) : Rat), -(((((advRun a row).2 + 1 : Nat)) : Int) : Rat)] (Gm c 2 (n + 1) row) = 1 := fv
      rw [up] at fv'
      exact Fv_uniq fv' (key _)
    · rw [q] at fv
      have fv' : Fv [-(((((advRun a row).2 + 1 : Nat)) : Int) : Rat), -(((advRun a row).2 : Int) : Rat)] (Gm c 2 (n + 1) row) = 1 := fv
      rw [up, Fv_swap] at fv'
      exact Fv_uniq fv' (key _)
end KG
set_option linter.all false
set_option maxRecDepth 100000
set_option maxHeartbeats 2000000
namespace KG
open PySem L2 KM LV
def agn (a : Adv) : Adv := (2, a.2.map fun r => (1 - r.1, r.2))
theorem agn_ok {a : Adv} (h : AdvOk 2 a) : AdvOk 2 (agn a) := by
  refine ⟨rfl, by decide, by decide, by show 1 ≤ (List.map _ _).length; rw [List.length_map]; exact h.l1, by show (List.map _ _).length ≤ 6; rw [List.length_map]; exact h.l6, fun r hr => ?_⟩
  obtain ⟨q, hq, rfl⟩ := List.mem_map.mp hr
  obtain ⟨g1, g2, g3⟩ := h.ru q hq
  refine ⟨by show 1 - q.1 < 2; omega, g2, fun n hn => ?_⟩
  show n < (List.map _ _).length
  rw [List.length_map]
  exact g3 n hn
theorem agn_at (a : Adv) {s : Nat} (hs : s < a.2.length) : advAt (agn a) s = (1 - (advAt a s).1, (advAt a s).2) := by
  unfold advAt agn
  simp [List.getD_eq_getElem?_getD, List.getElem?_map, List.getElem?_eq_getElem hs]
/-- an adviser that goes as another one -/
structure Sim (a b : Adv) (φ : Nat → Nat) : Prop where
  z : φ 0 = 0
  t : ∀ s, s < b.2.length → φ s < a.2.length ∧ advTold b s = advTold a (φ s) ∧ ∀ x, x < 2 → φ (advNext b s x) = advNext a (φ s) x
theorem Sim.told {a b : Adv} {φ : Nat → Nat} (h : Sim a b φ) (hb : AdvOk 2 b) {row : List Nat} (hr : ∀ x ∈ row, x < 2) : advTold b (advRun b row).1 = advTold a (advRun a row).1 := by
  have key : ∀ (row : List Nat) (p q : Nat × Nat), p.1 < b.2.length → φ p.1 = q.1 → (∀ x ∈ row, x < 2) → (advFrom b p row).1 < b.2.length ∧ φ (advFrom b p row).1 = (advFrom a q row).1 := by
    intro row
    induction row with
    | nil => intro p q h1 h2 _; exact ⟨h1, h2⟩
    | cons x row ih =>
      intro p q h1 h2 hr
      have hx := hr x (by simp)
      refine ih (advStep b p x) (advStep a q x) (advStep_lt hb h1 hx) ?_ fun y hy => hr y (by simp [hy])
      show φ (advNext b p.1 x) = advNext a q.1 x
      rw [((h.t p.1 h1).2.2 x hx), h2]
  obtain ⟨k1, k2⟩ := key row (0, 0) (0, 0) (by have := hb.l1; show 0 < _; omega) h.z hr
  show advTold b (advFrom b (0, 0) row).1 = advTold a (advFrom a (0, 0) row).1
  rw [(h.t _ k1).2.1, k2]
theorem agn_run {a : Adv} (h : AdvOk 2 a) {row : List Nat} (hr : ∀ x ∈ row, x < 2) : (advRun (agn a) row).1 = (advRun a row).1 := by
  have key : ∀ (row : List Nat) (p q : Nat × Nat), p.1 = q.1 → q.1 < a.2.length → (∀ x ∈ row, x < 2) → (advFrom (agn a) p row).1 = (advFrom a q row).1 := by
    intro row
    induction row with
    | nil => intro p q h1 _ _; exact h1
    | cons x row ih =>
      intro p q h1 h2 hr
      have hx := hr x (by simp)
      refine ih (advStep (agn a) p x) (advStep a q x) ?_ (advStep_lt h h2 hx) fun y hy => hr y (by simp [hy])
      show advNext (agn a) p.1 x = advNext a q.1 x
      unfold advNext
      rw [h1, agn_at a h2]
  exact key row (0, 0) (0, 0) rfl (by have := h.l1; show 0 < _; omega) hr
theorem agn_opp {a b : Adv} {φ : Nat → Nat} (h : AdvOk 2 a) (hb : AdvOk 2 b) (s : Sim (agn a) b φ) : Opp a b := fun row hr => by
  rw [s.told hb hr, agn_run h hr]
  unfold advTold
  rw [agn_at a (told_lt h hr).1]
theorem against_eq {M : List MO} (wf : WF M) {a : Adv} (h : AdvOk 2 a) : K43.m__law_against [advD a] M = .ok (advD (agn a)) M := by
  unfold K43.m__law_against cutM
  have i1 : oIx (advD a) (.int 1) M = .ok (.tup (a.2.map arD)) M := ix2_1 _ _ M
  have l6 := h.l6
  have cm := lcL_map (gd := fun _ => True) (M := M) (gg := gtTup 2 (gtCons (gtName 1) (gtCons (gtName 2) (gtNil)))) (ge := gETup (gACons (gOp oSub (gC (.int 1)) (gVar 1)) (gACons (gVar 2) (gANil)))) (δ := [some (advD a), none, none]) (em := arD) (f := fun r => arD (1 - r.1, r.2)) trivial a.2 [] (by simp; omega) (fun r hr => ⟨_, rfl, by
    obtain ⟨g1, _, _⟩ := h.ru r hr
    have e : (1 : Int) - (r.1 : Int) = ((1 - r.1 : Nat) : Int) := by omega
    simp [oSub, oI2, bigN, e, arD]⟩)
  rw [List.nil_append] at cm
  have q : fnM 3 K43.g__law_against [advD a] M = .ok (advD (agn a)) M := by
    simp [fnM, K43.g__law_against, startD, i1, wipeD, cm, finI, bigN]
    unfold advD agn
    simp [Function.comp_def]
  rw [q]
  exact cut_same wf (advD_lo _ _)
end KG
set_option linter.all false
set_option maxRecDepth 100000
set_option maxHeartbeats 2000000
namespace KG
open PySem L2 KM LV
def RelN (one many : Nat) : List Nat → List Nat → Prop
  | [], [] => True
  | a :: as, b :: bs => (b = a ∨ (a = one ∧ b = many)) ∧ RelN one many as bs
  | _, _ => False
theorem RelN.len {one many : Nat} : ∀ {as bs : List Nat}, RelN one many as bs → as.length = bs.length
  | [], [], _ => rfl
  | _ :: _, _ :: _, h => by simp [RelN.len h.2]
  | [], _ :: _, h => h.elim
  | _ :: _, [], h => h.elim
theorem RelN.get {one many : Nat} : ∀ {as bs : List Nat}, RelN one many as bs → ∀ x, x < as.length → bs.getD x 0 = as.getD x 0 ∨ (as.getD x 0 = one ∧ bs.getD x 0 = many)
  | [], [], _, x, hx => by simp at hx
  | a :: as, b :: bs, h, 0, _ => by simpa using h.1
  | a :: as, b :: bs, h, x + 1, hx => by
    have := RelN.get h.2 x (by simpa using hx)
    simpa using this
  | [], _ :: _, h, _, _ => h.elim
  | _ :: _, [], h, _, _ => h.elim
theorem RelN.lt {one many : Nat} : ∀ {as bs : List Nat}, RelN one many as bs → (∀ a ∈ as, a < many) → ∀ b ∈ bs, b < many + 1
  | [], [], _, _, b, hb => by simp at hb
  | a :: as, b :: bs, h, ha, y, hy => by
    rcases List.mem_cons.mp hy with rfl | hy
    · have := ha a (by simp)
      rcases h.1 with q | ⟨_, q⟩ <;> omega
    · exact RelN.lt h.2 (fun x hx => ha x (by simp [hx])) y hy
  | [], _ :: _, h, _, _, _ => h.elim
  | _ :: _, [], h, _, _, _ => h.elim
noncomputable def dE : GE := gIfE (gAnd (gTest (gOp oEq (gVar 7) (gVar 3))) (gTest (gOp oEq (gCall m__law_draw (gACons (gVar 0) (gACons (gC (.int 2)) (gANil)))) (gC (.int 0))))) (gVar 2) (gVar 7)
theorem dbl_comp {k : Nat} {c : List Int} {one many : Nat} (x1 x4 x5 x6 : Option D) : ∀ (ns acc : List Nat) (M : List MO), WF M → Pot k c M → acc.length + ns.length ≤ 1000 →
    ∃ (bs : List Nat) (M' : List MO), lcL (fun _ => True) (gtName 7) gYes dE [some (.ref k), x1, some (.int many), some (.int one), x4, x5, x6, none] (ns.map fun (n : Nat) => D.int n) (acc.map fun (n : Nat) => D.int n) M = .ok ((acc ++ bs).map fun (n : Nat) => D.int n) M' ∧ Nx k c M M' ∧ RelN one many ns bs
  | [], acc, M, wf, w, hl => ⟨[], M, by simp [lcL], Nx.refl wf w, trivial⟩
  | n :: ns, acc, M, wf, w, hl => by
    rw [List.length_cons] at hl
    have step : ∃ (b : Nat) (M1 : List MO), dE [some (.ref k), x1, some (.int many), some (.int one), x4, x5, x6, some (.int n)] M = .ok (.int b) M1 ∧ Nx k c M M1 ∧ (b = n ∨ (n = one ∧ b = many)) := by
      by_cases e : n = one
      · obtain ⟨t, M1, e1, a1, b1, n1⟩ := draw_eq wf w (many := (2 : Int)) (by omega) (by omega)
        subst e
        by_cases z : t = 0
        · subst z
          exact ⟨many, M1, by unfold dE; simp [e1], n1, .inr ⟨rfl, rfl⟩⟩
        · exact ⟨n, M1, by unfold dE; simp [e1, z], n1, .inl rfl⟩
      · have e' : ¬ ((n : Int) = (one : Int)) := by omega
        exact ⟨n, M, by unfold dE; simp [e'], Nx.refl wf w, .inl rfl⟩
    obtain ⟨b, M1, e1, n1, hb⟩ := step
    obtain ⟨bs, M', e2, n2, hr⟩ := dbl_comp x1 x4 x5 x6 ns (acc ++ [b]) M1 n1.wf n1.w (by simp; omega)
    refine ⟨b :: bs, M', ?_, n1.trans n2, ⟨hb, hr⟩⟩
    rw [List.map_cons]
    unfold lcL
    rw [if_pos trivial]
    have bs' : bigS (acc.map fun (n : Nat) => D.int n).length := by rw [List.length_map]; unfold bigS; omega
    simp only [s_gtName, List.set_cons_succ, List.set_cons_zero, gYes, if_true, e1, if_pos bs']
    rw [List.map_append] at e2
    rw [show acc ++ b :: bs = (acc ++ [b]) ++ bs by simp]
    exact e2
def RelR (one many : Nat) : List (Nat × List Nat) → List (Nat × List Nat) → Prop
  | [], [] => True
  | a :: as, b :: bs => (b.1 = a.1 ∧ RelN one many a.2 b.2) ∧ RelR one many as bs
  | _, _ => False
theorem RelR.get {one many : Nat} : ∀ {as bs : List (Nat × List Nat)}, RelR one many as bs → as.length = bs.length ∧ ∀ s, s < as.length → (bs.getD s (0, [])).1 = (as.getD s (0, [])).1 ∧ RelN one many (as.getD s (0, [])).2 (bs.getD s (0, [])).2
  | [], [], _ => ⟨rfl, fun s h => by simp at h⟩
  | a :: as, b :: bs, h => by
    obtain ⟨i1, i2⟩ := RelR.get h.2
    refine ⟨by simp [i1], fun s hs => ?_⟩
    cases s with
    | zero => simpa using h.1
    | succ s => simpa using i2 s (by simpa using hs)
  | [], _ :: _, h => h.elim
  | _ :: _, [], h => h.elim
theorem dbl_loop {k : Nat} {c : List Int} {M0 : List MO} (hk : k < M0.length) {one many : Nat} (x1 : Option D) : ∀ (qs : List (Nat × List Nat)) (acc : List (Nat × List Nat)) (M : List MO) (u5 u6 u7 : Option D), acc.length + qs.length ≤ 1000 → (∀ r ∈ qs, r.2.length ≤ 900) → Lv k c M0 M (acc.map arD) →
    ∃ (os : List (Nat × List Nat)) (M' : List MO) (v5 v6 v7 : Option D), forL (fun _ => True) (gtTup 2 (gtCons (gtName 5) (gtCons (gtName 6) (gtNil)))) (gDrop (gBM oAppend (gVar 4) (gACons (gETup (gACons (gVar 5) (gACons (gCall oTuple (gACons (gLcG finI (giSeq (gVar 6)) (gtName 7) (gYes) dE [7]) (gANil))) (gANil)))) (gANil))))
      (qs.map arD) [some (.ref k), x1, some (.int many), some (.int one), some (.ref M0.length), u5, u6, u7] M = .nx [some (.ref k), x1, some (.int many), some (.int one), some (.ref M0.length), v5, v6, v7] M' ∧ Lv k c M0 M' ((acc ++ os).map arD) ∧ RelR one many qs os
  | [], acc, M, u5, u6, u7, hl, hq, lv => ⟨[], M, u5, u6, u7, by simp [forL], by simpa using lv, trivial⟩
  | r :: qs, acc, M, u5, u6, u7, hl, hq, lv => by
    rw [List.length_cons] at hl
    obtain ⟨bs, M2, e2, n2, hr⟩ := dbl_comp (k := k) (c := c) (one := one) (many := many) x1 (some (.ref M0.length)) (some (.int r.1)) (some (nsD r.2)) r.2 [] M lv.wf lv.w (by have := hq r (by simp); simp; omega)
    rw [List.map_nil, List.nil_append] at e2
    have lv2 := lv.nx hk n2
    have lv3 := lv2.app hk (d := arD (r.1, bs)) (fun n => arD_lo n _) (mapD_lo arD_lo acc)
    rw [← List.map_singleton, ← List.map_append] at lv3
    obtain ⟨os, M', v5, v6, v7, e, l', rr⟩ := dbl_loop hk x1 qs (acc ++ [(r.1, bs)]) _ (some (.int r.1)) (some (nsD r.2)) u7 (by simp; omega) (fun q hq' => hq q (by simp [hq'])) lv3
    refine ⟨(r.1, bs) :: os, M', v5, v6, v7, ?_, by rw [show acc ++ (r.1, bs) :: os = (acc ++ [(r.1, bs)]) ++ os by simp]; exact l', ⟨⟨rfl, hr⟩, rr⟩⟩
    have ap := oAppend_eq lv2.own (by simp; omega) (arD (r.1, bs))
    have lo0 := s_listOf_ref M lv.own
    have sq : tupOf (nsD r.2) = some (r.2.map fun (n : Nat) => D.int n) := rfl
    have er : D.tup [.int r.1, .tup (bs.map fun (n : Nat) => D.int n)] = arD (r.1, bs) := rfl
    rw [List.map_append, List.map_singleton] at e
    rw [List.map_cons]
    unfold forL
    rw [if_pos trivial]
    have eb : (gDrop (gBM oAppend (gVar 4) (gACons (gETup (gACons (gVar 5) (gACons (gCall oTuple (gACons (gLcG finI (giSeq (gVar 6)) (gtName 7) (gYes) dE [7]) (gANil))) (gANil)))) (gANil)))) [some (.ref k), x1, some (.int many), some (.int one), some (.ref M0.length), some (.int r.1), some (nsD r.2), u7] M =
        .nx [some (.ref k), x1, some (.int many), some (.int one), some (.ref M0.length), some (.int r.1), some (nsD r.2), u7] (M2.set M0.length (.lst (acc.map arD ++ [arD (r.1, bs)]))) := by
      simp [lo0, sq, wipeD, e2, finI, bigN, er, ap]
    have et : gtTup 2 (gtCons (gtName 5) (gtCons (gtName 6) (gtNil))) (arD r) [some (.ref k), x1, some (.int many), some (.int one), some (.ref M0.length), u5, u6, u7] M = .nx [some (.ref k), x1, some (.int many), some (.int one), some (.ref M0.length), some (.int r.1), some (nsD r.2), u7] M := by simp [arD]
    simp only [et, eb]
    exact e
end KG
set_option linter.all false
set_option maxRecDepth 100000
set_option maxHeartbeats 2000000
namespace KG
open PySem L2 KM LV
theorem sim_self (a : Adv) : Sim a a (fun s => s) ∨ True := .inr trivial
theorem sim_refl {a : Adv} : Sim a a (fun s => s) := ⟨rfl, fun s hs => ⟨hs, rfl, fun x _ => rfl⟩⟩
theorem getD_app_l {α : Type} {as bs : List α} {i : Nat} {d : α} (h : i < as.length) : (as ++ bs).getD i d = as.getD i d := by
  simp [List.getD_eq_getElem?_getD, List.getElem?_append_left h]
theorem getD_app_r {α : Type} {as : List α} {b d : α} : (as ++ [b]).getD as.length d = b := by
  simp [List.getD_eq_getElem?_getD]
theorem dbl_sim {a : Adv} (h : AdvOk 2 a) {one : Nat} (ho : one < a.2.length) {os : List (Nat × List Nat)} (rr : RelR one a.2.length (a.2 ++ [advAt a one]) os) (h5 : a.2.length ≤ 5) :
    AdvOk 2 (2, os) ∧ Sim a (2, os) (fun s => if s = a.2.length then one else s) := by
  obtain ⟨g1, g2⟩ := rr.get
  rw [List.length_append, List.length_singleton] at g1 g2
  have l1 := h.l1
  have at1 : ∀ s, s < a.2.length → (a.2 ++ [advAt a one]).getD s (0, []) = advAt a s := fun s hs => getD_app_l hs
  have at2 : (a.2 ++ [advAt a one]).getD a.2.length (0, []) = advAt a one := getD_app_r
  -- each rule is one of a's, its steps as in RelN
  have src : ∀ s, s < a.2.length + 1 → ∃ t, t < a.2.length ∧ (if s = a.2.length then one else s) = t ∧ (os.getD s (0, [])).1 = (advAt a t).1 ∧ RelN one a.2.length (advAt a t).2 (os.getD s (0, [])).2 := fun s hs => by
    obtain ⟨q1, q2⟩ := g2 s hs
    by_cases e : s = a.2.length
    · subst e
      rw [at2] at q1 q2
      exact ⟨one, ho, if_pos rfl, q1, q2⟩
    · rw [at1 s (by omega)] at q1 q2
      exact ⟨s, by omega, if_neg e, q1, q2⟩
  refine ⟨⟨rfl, by decide, by decide, by show 1 ≤ os.length; omega, by show os.length ≤ 6; omega, fun r hr => ?_⟩, ?_, fun s hs => ?_⟩
  · obtain ⟨s, hs⟩ := List.getElem?_of_mem hr
    have hlt : s < os.length := (List.getElem?_eq_some_iff.mp hs).1
    obtain ⟨t, ht, _, q1, q2⟩ := src s (by omega)
    have er : os.getD s (0, []) = r := by rw [List.getD_eq_getElem?_getD, hs]; rfl
    rw [er] at q1 q2
    obtain ⟨_, w2, w3, w4⟩ := advAt_get h ht
    refine ⟨by rw [q1]; exact w2, by rw [← q2.len]; exact w3, fun n hn => ?_⟩
    have := q2.lt w4 n hn
    show n < os.length
    omega
  · show (if 0 = a.2.length then one else 0) = 0
    rw [if_neg (by omega)]
  · have hs' : s < os.length := hs
    obtain ⟨t, ht, et, q1, q2⟩ := src s (by omega)
    obtain ⟨_, w2, w3, w4⟩ := advAt_get h ht
    show (if s = a.2.length then one else s) < a.2.length ∧ (os.getD s (0, [])).1 = advTold a (if s = a.2.length then one else s) ∧ ∀ x, x < 2 → (if (os.getD s (0, [])).2.getD x 0 = a.2.length then one else (os.getD s (0, [])).2.getD x 0) = advNext a (if s = a.2.length then one else s) x
    rw [et]
    refine ⟨ht, q1, fun x hx => ?_⟩
    have hn := (advNext_lt h ht hx).2
    show _ = (advAt a t).2.getD x 0
    have hn' : (advAt a t).2.getD x 0 < a.2.length := hn
    rcases q2.get x (by rw [w3]; exact hx) with z | ⟨z1, z2⟩
    · rw [z, if_neg (by omega)]
    · rw [z2, if_pos rfl, z1]
theorem doubled_eq {k : Nat} {c : List Int} {M : List MO} (wf : WF M) (w : Pot k c M) {a : Adv} (h : AdvOk 2 a) : ∃ b φ M', K43.m__law_doubled [.ref k, advD a] M = .ok (advD b) M' ∧ AdvOk 2 b ∧ Sim a b φ ∧ Nx k c M M' := by
  have l1 := h.l1
  have l6 := h.l6
  obtain ⟨t, M1, e1, a1, b1, n1⟩ := draw_eq wf w (many := (a.2.length : Int)) (by omega) (by omega)
  have et : t = ((t.toNat : Nat) : Int) := by omega
  have ho : t.toNat < a.2.length := by omega
  have hk1 : k < M1.length := n1.w.lt
  have i1 : ∀ M, oIx (advD a) (.int 1) M = .ok (.tup (a.2.map arD)) M := fun M => ix2_1 _ _ M
  by_cases h5 : 5 < a.2.length
  · refine ⟨a, fun s => s, M1, ?_, h, sim_refl, n1⟩
    have h5' : (5 : Int) < (a.2.length : Int) := by omega
    have q : fnM 8 K43.g__law_doubled [.ref k, advD a] M = .ok (advD a) M1 := by
      simp [fnM, K43.g__law_doubled, startD, i1, e1, bigN, oGt, oI2, h5']
    have e9 : K43.m__law_doubled [.ref k, advD a] M = cutR M.length (fnM 8 K43.g__law_doubled [.ref k, advD a] M) := rfl
    rw [e9, q]
    exact cut_wf n1.len n1.wf (advD_lo _ _)
  · have h5' : ¬ (5 : Int) < (a.2.length : Int) := by omega
    obtain ⟨os, M', v5, v6, v7, e, l', rr⟩ := dbl_loop hk1 (one := t.toNat) (many := a.2.length) (some (advD a)) (a.2 ++ [advAt a t.toNat]) [] (M1 ++ [.lst []]) none none none (by simp; omega) (fun r hr => by
      rcases List.mem_append.mp hr with q | q
      · have := (h.ru r q).2.1; omega
      · rw [List.mem_singleton.mp q]
        have := (advAt_get h ho).2.2.1
        omega) (Lv.new n1.wf n1.w)
    obtain ⟨ok, sm⟩ := dbl_sim h ho rr (by omega)
    refine ⟨(2, os), _, M'.take M1.length, ?_, ok, sm, n1.trans (l'.cut n1.wf hk1)⟩
    rw [List.nil_append] at l'
    have sl : oSl (.tup (a.2.map arD)) (some ((t.toNat : Nat) : Int)) (some ((t.toNat : Nat) + 1 : Int)) (M1 ++ [.lst []]) = .ok (.tup [arD (advAt a t.toNat)]) (M1 ++ [.lst []]) := by
      unfold oSl
      simp only [s_tupOf]
      unfold cutD
      rw [show ((t.toNat : Nat) : Int) + 1 = ((t.toNat + 1 : Nat) : Int) by omega, HT.sIx_nat, HT.sIx_nat, List.length_map, Nat.min_eq_left (by omega), Nat.min_eq_left (by omega), show t.toNat + 1 - t.toNat = 1 by omega, List.drop_eq_getElem_cons (by simpa using ho)]
      simp
      have := (advAt_get h ho).1
      rw [List.getElem?_eq_getElem ho] at this
      rw [Option.some.inj this]
    have ad : oAdd (.tup (a.2.map arD)) (.tup [arD (advAt a t.toNat)]) (M1 ++ [.lst []]) = .ok (.tup ((a.2 ++ [advAt a t.toNat]).map arD)) (M1 ++ [.lst []]) := by
      unfold oAdd
      simp only []
      rw [if_pos (by unfold bigN; simp; omega), List.map_append]
      rfl
    have lo1 := s_listOf_ref M' l'.own
    have tp : oTuple [.ref M1.length] M' = .ok (.tup (os.map arD)) M' := by
      unfold oTuple
      simp only [s_tupOf_ref, lo1]
    have q : fnM 8 K43.g__law_doubled [.ref k, advD a] M = .ok (advD (2, os)) M' := by
      have e' := e
      unfold dE at e'
      rw [← et] at sl e'
      have er : advD (2, os) = .tup [.int 2, .tup (os.map arD)] := rfl
      rw [er]
      simp [fnM, K43.g__law_doubled, startD, i1, e1, bigN, oGt, oI2, h5']
      rw [sl]
      rw [List.map_append, List.map_singleton] at e'
      have ad' := ad
      rw [List.map_append, List.map_singleton] at ad'
      simp [ad', e', tp, bigN]
    have e9 : K43.m__law_doubled [.ref k, advD a] M = cutR M.length (fnM 8 K43.g__law_doubled [.ref k, advD a] M) := rfl
    rw [e9, q, ← n1.len]
    exact cut_lv n1.wf l' hk1 (advD_lo _ _)
end KG
set_option linter.all false
set_option maxRecDepth 100000
set_option maxHeartbeats 2000000
namespace KG
open PySem L2 KM LV
/-! ### the law's own fractions -/
noncomputable def gcC : GB := gTest (gOp oGt (gVar 1) (gC (.int 0)))
noncomputable def gcB : GS := gPar 0 1 (gVar 1) (gOp oMod (gCall oInt (gACons (gVar 0) (gANil))) (gVar 1))
theorem gcd_done {M : List MO} (a n : Nat) : whileL gcC gcB (n + 1) [some (.int a), some (.int (0 : Nat))] M = .nx [some (.int a), some (.int (0 : Nat))] M := by
  unfold whileL gcC
  simp [oGt, oI2]
theorem gcd_step' {M : List MO} {a b : Nat} (hb : b ≠ 0) (n : Nat) : whileL gcC gcB (n + 1) [some (.int a), some (.int b)] M = whileL gcC gcB n [some (.int b), some (.int (a % b : Nat))] M := by
  have h0 : (0 : Int) < (b : Int) := by omega
  have cm : CModB (a : Int) (b : Int) := h0
  conv => lhs; unfold whileL
  have e1 : gcC [some (.int a), some (.int b)] M = .ok true M := by
    unfold gcC
    simp [oGt, oI2, h0]
    omega
  have e2 : gcB [some (.int a), some (.int b)] M = .nx [some (.int b), some (.int (a % b : Nat))] M := by
    unfold gcB
    simp [oInt, oMod, oI2c, cm]
  rw [e1]
  simp only [R.toS_ok, if_true, e2]
theorem gcd_while {M : List MO} : ∀ (k a b n : Nat), b < 2 ^ k → 2 * k + 1 ≤ n → whileL gcC gcB n [some (.int a), some (.int b)] M = .nx [some (.int (a.gcd b : Nat)), some (.int (0 : Nat))] M
  | 0, a, b, n, hb, hn => by
    have e : b = 0 := by simpa using hb
    subst e
    obtain ⟨m, rfl⟩ : ∃ m, n = m + 1 := ⟨n - 1, by omega⟩
    rw [gcd_done, Nat.gcd_zero_right]
  | k + 1, a, b, n, hb, hn => by
    by_cases e : b = 0
    · subst e
      obtain ⟨m, rfl⟩ : ∃ m, n = m + 1 := ⟨n - 1, by omega⟩
      rw [gcd_done, Nat.gcd_zero_right]
    · obtain ⟨m, rfl⟩ : ∃ m, n = m + 1 := ⟨n - 1, by omega⟩
      rw [gcd_step' e]
      have g1 : a.gcd b = b.gcd (a % b) := by rw [Nat.gcd_comm, Nat.gcd_rec, Nat.gcd_comm]
      by_cases e2 : a % b = 0
      · rw [e2]
        obtain ⟨m2, rfl⟩ : ∃ m2, m = m2 + 1 := ⟨m - 1, by omega⟩
        rw [gcd_done, g1, e2, Nat.gcd_zero_right]
      · obtain ⟨m2, rfl⟩ : ∃ m2, m = m2 + 1 := ⟨m - 1, by omega⟩
        rw [gcd_step' e2]
        have hr : a % b < b := Nat.mod_lt _ (by omega)
        have h2 : b % (a % b) < a % b := Nat.mod_lt _ (by omega)
        have h3 : b % (a % b) < 2 ^ k := by
          rw [Nat.pow_succ] at hb
          by_cases q : a % b < 2 ^ k
          · omega
          · have : b % (a % b) = b - a % b := by
              rw [Nat.mod_eq_sub_mod (by omega), Nat.mod_eq_of_lt (by omega)]
            omega
        have g2 : b.gcd (a % b) = (a % b).gcd (b % (a % b)) := by rw [Nat.gcd_comm, Nat.gcd_rec, Nat.gcd_comm]
        rw [gcd_while k _ _ _ h3 (by omega), g1, g2]
theorem law_gcd_eq {M : List MO} (wf : WF M) (t : Int) {b : Nat} (hb : b < 2 ^ 8000) : m__law_gcd [.int t, .int b] M = .ok (.int (t.natAbs.gcd b : Nat)) M := by
  have e := gcd_while (M := M) 8000 t.natAbs b fuel hb (by unfold fuel; omega)
  unfold gcC gcB at e
  have ab : oAbs [.int t] M = .ok (.int (t.natAbs : Nat)) M := by rw [s_oAbs]; congr 2; split <;> omega
  have wh : ∀ δ M, gWhile (gTest (gOp oGt (gVar 1) (gC (.int 0)))) (gPar 0 1 (gVar 1) (gOp oMod (gCall oInt (gACons (gVar 0) (gANil))) (gVar 1))) δ M = whileL (gTest (gOp oGt (gVar 1) (gC (.int 0)))) (gPar 0 1 (gVar 1) (gOp oMod (gCall oInt (gACons (gVar 0) (gANil))) (gVar 1))) fuel δ M := fun _ _ => rfl
  have st : startD 2 [.int t, .int b] = [some (.int t), some (.int b)] := rfl
  have qq : g__law_gcd (startD 2 [.int t, .int b]) M = .rt (.int (t.natAbs.gcd b : Nat)) M := by
    rw [st]
    simp only [g__law_gcd, s_gSeq, s_gSet, s_gCall, s_gACons, s_gANil, s_gVar, List.getElem?_cons_zero, List.getElem?_cons_succ, KM.R.bind_ok, ab, KM.R.toS_ok, List.set, SR.then_nx, wh, e, s_gRet]
  have e9 : m__law_gcd [.int t, .int b] M = cutR M.length (fnM 2 g__law_gcd [.int t, .int b] M) := rfl
  rw [e9]
  unfold fnM
  rw [qq]
  exact cut_same wf rfl
theorem law_f_eq {M : List MO} (wf : WF M) (t : Int) {b : Nat} (hb0 : b ≠ 0) (hb : b < 2 ^ 8000) : m__law_fraction [.int t, .int b] M = .ok (fD (Rat.divInt t b)) M := by
  have hg : 0 < t.natAbs.gcd b := Nat.gcd_pos_of_pos_right _ (Nat.pos_of_ne_zero hb0)
  have hle : t.natAbs.gcd b ≤ b := Nat.gcd_le_right _ (Nat.pos_of_ne_zero hb0)
  have hc : ∀ i : Int, CDivB i ((t.natAbs.gcd b : Nat) : Int) := fun i => cdiv_ok (by omega) (by
    rw [Int.natAbs_natCast]
    exact Nat.lt_of_le_of_lt hle (Nat.lt_of_lt_of_le hb (Nat.pow_le_pow_right (by decide) (by decide))))
  have ge := law_gcd_eq wf t hb
  have st : startD 3 [.int t, .int b] = [some (.int t), some (.int b), none] := rfl
  have b2 : ∀ x y : D, bigN [x, y].length := fun x y => by unfold bigN; simp
  have qq : g__law_fraction (startD 3 [.int t, .int b]) M = .rt (fD (Rat.divInt t b)) M := by
    rw [st, ← norm_div hb0, norm_fr]
    simp only [g__law_fraction, s_gSeq, s_gSet, s_gCall, s_gACons, s_gANil, s_gVar, List.getElem?_cons_zero, List.getElem?_cons_succ, KM.R.bind_ok, ge, KM.R.toS_ok, List.set, SR.then_nx, s_gOp, s_gRet, s_gETup, s_divI, if_pos (hc _), if_pos (b2 _ _)]
  have e9 : m__law_fraction [.int t, .int b] M = cutR M.length (fnM 3 g__law_fraction [.int t, .int b] M) := rfl
  rw [e9]
  unfold fnM
  rw [qq]
  exact cut_same wf rfl
structure Sm (q : Rat) : Prop where
  num : q.num.natAbs < 2 ^ 2000
  den : q.den < 2 ^ 2000
theorem Sm.of {L A : Nat} {q : Rat} (hL : L ≠ 0) (hL2 : L < 2 ^ 1000) (hA : A < 2 ^ 1000) (h : K11.Bnd L A q) : Sm q := by
  have hd : q.den < 2 ^ 1000 := Nat.lt_of_le_of_lt (Nat.le_of_dvd (Nat.pos_of_ne_zero hL) h.den) hL2
  refine ⟨Nat.lt_of_le_of_lt h.num (Nat.lt_of_lt_of_le (Nat.mul_lt_mul'' hA hd) (by rw [← Nat.pow_add]; exact Nat.pow_le_pow_right (by decide) (by decide))), Nat.lt_of_lt_of_le hd (Nat.pow_le_pow_right (by decide) (by decide))⟩
theorem Sm.nd {p q : Rat} (hp : Sm p) (hq : Sm q) : CMulB p.num (q.den : Int) := cmul_ok hp.num (show (q.den : Int).natAbs < 2 ^ 2000 by rw [Int.natAbs_natCast]; exact hq.den) (by decide)
theorem Sm.dd {p q : Rat} (hp : Sm p) (hq : Sm q) : CMulB (p.den : Int) (q.den : Int) := cmul_ok (show (p.den : Int).natAbs < 2 ^ 2000 by rw [Int.natAbs_natCast]; exact hp.den) (show (q.den : Int).natAbs < 2 ^ 2000 by rw [Int.natAbs_natCast]; exact hq.den) (by decide)
theorem Sm.dlt {p q : Rat} (hp : Sm p) (hq : Sm q) : p.den * q.den < 2 ^ 8000 := Nat.lt_of_lt_of_le (Nat.mul_lt_mul'' hp.den hq.den) (by rw [← Nat.pow_add]; exact Nat.pow_le_pow_right (by decide) (by decide))
theorem oIx_f0 (q : Rat) (M : List MO) : oIx (fD q) (.int 0) M = .ok (.int q.num) M := s_ixT M (n := 0) rfl
theorem oIx_f1 (q : Rat) (M : List MO) : oIx (fD q) (.int 1) M = .ok (.int q.den) M := s_ixT M (n := 1) rfl
theorem sub_eq (p q : Rat) : p - q = Rat.divInt (p.num * q.den - q.num * p.den) ((p.den * q.den : Nat) : Int) := by
  have h := K11.add_eq p (-q)
  rw [Rat.neg_num, Rat.neg_den, Int.neg_mul, ← Int.sub_eq_add_neg] at h
  rw [← h]
  grind
theorem lplus {M : List MO} {p q : Rat} (hp : Sm p) (hq : Sm q) (wf : WF M) : m__law_plus [fD p, fD q] M = .ok (fD (p + q)) M := by
  have fe := law_f_eq wf (p.num * q.den + q.num * p.den) (K11.dd_ne p q) (hp.dlt hq)
  have ek : (p.den : Int) * (q.den : Int) = ((p.den * q.den : Nat) : Int) := (Int.natCast_mul _ _).symm
  rw [← K11.add_eq] at fe
  have st : startD 2 [fD p, fD q] = [some (fD p), some (fD q)] := rfl
  have qq : g__law_plus (startD 2 [fD p, fD q]) M = .rt (fD (p + q)) M := by
    rw [st]
    simp only [g__law_plus, s_gRet, s_gCall, s_gACons, s_gANil, s_gOp, s_gVar, s_gC, List.getElem?_cons_zero, List.getElem?_cons_succ, KM.R.bind_ok, oIx_f0, oIx_f1, s_mulI, if_pos (hp.nd hq), if_pos (hq.nd hp), if_pos (hp.dd hq), s_addI, ek, fe, KM.R.toS_ok]
  have e9 : m__law_plus [fD p, fD q] M = cutR M.length (fnM 2 g__law_plus [fD p, fD q] M) := rfl
  rw [e9]
  unfold fnM
  rw [qq]
  exact cut_same wf rfl
theorem lminus {M : List MO} {p q : Rat} (hp : Sm p) (hq : Sm q) (wf : WF M) : m__law_minus [fD p, fD q] M = .ok (fD (p - q)) M := by
  have fe := law_f_eq wf (p.num * q.den - q.num * p.den) (K11.dd_ne p q) (hp.dlt hq)
  have ek : (p.den : Int) * (q.den : Int) = ((p.den * q.den : Nat) : Int) := (Int.natCast_mul _ _).symm
  rw [← sub_eq] at fe
  have st : startD 2 [fD p, fD q] = [some (fD p), some (fD q)] := rfl
  have qq : g__law_minus (startD 2 [fD p, fD q]) M = .rt (fD (p - q)) M := by
    rw [st]
    simp only [g__law_minus, s_gRet, s_gCall, s_gACons, s_gANil, s_gOp, s_gVar, s_gC, List.getElem?_cons_zero, List.getElem?_cons_succ, KM.R.bind_ok, oIx_f0, oIx_f1, s_mulI, if_pos (hp.nd hq), if_pos (hq.nd hp), if_pos (hp.dd hq), s_subI, ek, fe, KM.R.toS_ok]
  have e9 : m__law_minus [fD p, fD q] M = cutR M.length (fnM 2 g__law_minus [fD p, fD q] M) := rfl
  rw [e9]
  unfold fnM
  rw [qq]
  exact cut_same wf rfl
theorem lless {M : List MO} {p q : Rat} (hp : Sm p) (hq : Sm q) (wf : WF M) : m__law_less [fD p, fD q] M = .ok (.bl (decide (p < q))) M := by
  have el : decide (p.num * (q.den : Int) < q.num * (p.den : Int)) = decide (p < q) := by
    congr 1
    exact propext (Rat.lt_iff p q).symm
  have st : startD 2 [fD p, fD q] = [some (fD p), some (fD q)] := rfl
  have qq : g__law_less (startD 2 [fD p, fD q]) M = .rt (.bl (decide (p < q))) M := by
    rw [st]
    simp only [g__law_less, s_gRet, s_gOp, s_gVar, s_gC, List.getElem?_cons_zero, List.getElem?_cons_succ, KM.R.bind_ok, oIx_f0, oIx_f1, s_mulI, if_pos (hp.nd hq), if_pos (hq.nd hp), s_ltI, el, KM.R.toS_ok]
  have e9 : m__law_less [fD p, fD q] M = cutR M.length (fnM 2 g__law_less [fD p, fD q] M) := rfl
  rw [e9]
  unfold fnM
  rw [qq]
  exact cut_same wf rfl
end KG
set_option linter.all false
set_option maxRecDepth 100000
set_option maxHeartbeats 2000000
namespace KG
open PySem L2 KM LV
def vti : Nat → Nat → Nat → Int
  | 0, x, y => -((min x y : Nat) : Int)
  | n + 1, x, y => vti n (x + 1) y + vti n x (y + 1) + 2 ^ n
theorem vti_eq : ∀ (n x y : Nat), Vt n x y = (vti n x y : Rat) / ((2 ^ n : Nat) : Rat)
  | 0, x, y => by
    show ((-((min x y : Nat) : Int) : Int) : Rat) = _ / ((1 : Nat) : Rat)
    unfold vti
    grind
  | n + 1, x, y => by
    have h1 := vti_eq n (x + 1) y
    have h2 := vti_eq n x (y + 1)
    have hp : ((2 ^ n : Nat) : Rat) ≠ 0 := by
      have : (2 ^ n : Nat) ≠ 0 := by exact Nat.pos_iff_ne_zero.mp (Nat.pow_pos (by decide))
      exact_mod_cast this
    show (Vt n (x + 1) y + Vt n x (y + 1) + 1) / 2 = ((vti n (x + 1) y + vti n x (y + 1) + 2 ^ n : Int) : Rat) / ((2 ^ n * 2 : Nat) : Rat)
    rw [h1, h2]
    have e1 : ((vti n (x + 1) y + vti n x (y + 1) + 2 ^ n : Int) : Rat) = (vti n (x + 1) y : Rat) + (vti n x (y + 1) : Rat) + ((2 ^ n : Nat) : Rat) := by push_cast; rfl
    have e2 : ((2 ^ n * 2 : Nat) : Rat) = ((2 ^ n : Nat) : Rat) * 2 := by push_cast; rfl
    rw [e1, e2]
    generalize ((2 ^ n : Nat) : Rat) = P at hp ⊢
    grind
theorem vt_le : ∀ (n x y : Nat), Vt n x y ≤ (n : Rat) ∧ -((x + y + n : Nat) : Rat) ≤ Vt n x y
  | 0, x, y => by
    show (-((min x y : Nat) : Int) : Rat) ≤ ((0 : Nat) : Rat) ∧ -((x + y + 0 : Nat) : Rat) ≤ (-((min x y : Nat) : Int) : Rat)
    have g1 : (0 : Rat) ≤ ((min x y : Nat) : Int) := by exact_mod_cast (show (0 : Int) ≤ ((min x y : Nat) : Int) by omega)
    have g2 : (((min x y : Nat) : Int) : Rat) ≤ ((x + y + 0 : Nat) : Rat) := by exact_mod_cast (show ((min x y : Nat) : Int) ≤ ((x + y + 0 : Nat) : Int) by omega)
    constructor
    · have : ((0 : Nat) : Rat) = 0 := rfl
      grind
    · grind
  | n + 1, x, y => by
    obtain ⟨a1, a2⟩ := vt_le n (x + 1) y
    obtain ⟨b1, b2⟩ := vt_le n x (y + 1)
    show (Vt n (x + 1) y + Vt n x (y + 1) + 1) / 2 ≤ ((n + 1 : Nat) : Rat) ∧ -((x + y + (n + 1) : Nat) : Rat) ≤ (Vt n (x + 1) y + Vt n x (y + 1) + 1) / 2
    push_cast at a1 a2 b1 b2 ⊢
    constructor <;> grind
theorem vt_bnd (n x y : Nat) : K11.Bnd (2 ^ n) (x + y + n) (Vt n x y) := by
  obtain ⟨h1, h2⟩ := vt_le n x y
  have hp : (2 ^ n : Nat) ≠ 0 := Nat.pos_iff_ne_zero.mp (Nat.pow_pos (by decide))
  refine K11.Bnd.of ?_ ?_ ?_
  · have e : Vt n x y = Rat.divInt (vti n x y) ((2 ^ n : Nat) : Int) := by
      rw [vti_eq, Rat.divInt_eq_div]
      rfl
    rw [e]
    exact K11.divInt_dvd hp
  · refine Rat.le_trans h1 ?_
    exact_mod_cast (show (n : Int) ≤ ((x + y + n : Nat) : Int) by omega)
  · exact_mod_cast h2
theorem vt_sm {n x y : Nat} (hn : n ≤ 10) (hx : x + y ≤ 50) : Sm (Vt n x y) :=
  Sm.of (L := 2 ^ n) (A := x + y + n) (Nat.pos_iff_ne_zero.mp (Nat.pow_pos (by decide))) (Nat.pow_lt_pow_right (by decide) (by omega)) (Nat.lt_of_lt_of_le (show x + y + n < 2 ^ 7 by omega) (Nat.pow_le_pow_right (by decide) (by decide))) (vt_bnd n x y)
/-! ### the law's own number: rows with one letter k times -/
def nxt (xs : List Int) : List Int := [1] ++ (List.range (xs.length - 1)).map (fun k => xs.getD k 0 + xs.getD (k + 1) 0) ++ [1]
def pas : Nat → List Int
  | 0 => [1]
  | n + 1 => nxt (pas n)
theorem pas_len : ∀ n, (pas n).length = n + 1
  | 0 => rfl
  | n + 1 => by
    show (nxt (pas n)).length = _
    unfold nxt
    simp [pas_len n]
def hvT (n : Nat) : Int := ((List.range (n + 1)).map fun k => (pas n).getD k 0 * ((((n : Int) - 2 * (k : Int)).natAbs : Nat) : Int)).sum
def hvB (n : Nat) : Int := (pas n).sum
theorem hv_eq : ∀ n, n ≤ 10 → Vt n 0 0 = Rat.divInt (hvT n) (2 * hvB n) ∧ hvB n = ((2 ^ n : Nat) : Int) := by
  have key : ∀ n, n < 11 → Rat.divInt (vti n 0 0) ((2 ^ n : Nat) : Int) = Rat.divInt (hvT n) (2 * hvB n) ∧ hvB n = ((2 ^ n : Nat) : Int) := by decide +kernel
  intro n hn
  have := key n (by omega)
  refine ⟨?_, this.2⟩
  rw [vti_eq, ← this.1, Rat.divInt_eq_div]
  rfl
end KG
set_option linter.all false
set_option maxRecDepth 100000
set_option maxHeartbeats 2000000
namespace KG
open PySem L2 KM LV
theorem ixL_int {M : List MO} {xs : List Int} {i : Nat} (h : i < xs.length) : oIx (.lst (xs.map D.int)) (.int (i : Int)) M = .ok (.int (xs.getD i 0)) M := by
  refine s_ixL M rfl rfl ?_
  rw [List.getElem?_map, List.getD_eq_getElem?_getD, List.getElem?_eq_getElem h]
  rfl
theorem addL {M : List MO} {xs ys : List D} (h : xs.length + ys.length ≤ 1000) : oAdd (.lst xs) (.lst ys) M = .ok (.lst (xs ++ ys)) M := by
  unfold oAdd
  simp only [listOfT]
  rw [if_pos (by unfold bigN; omega)]
noncomputable def hvS : GS := gSet 1 (gOp oAdd (gOp oAdd (gLst (gACons (gC (.int 1)) (gANil))) (gLcG finI (giRng1 (gACons (gOp oSub (gCall oLen (gACons (gVar 1) (gANil))) (gC (.int 1))) (gANil))) (gtName 3) (gYes) (gOp oAdd (gOp oIx (gVar 1) (gVar 3)) (gOp oIx (gVar 1) (gOp oAdd (gVar 3) (gC (.int 1))))) [3])) (gLst (gACons (gC (.int 1)) (gANil))))
theorem hv_step {M : List MO} {n : Nat} {xs : List Int} (h1 : 1 ≤ xs.length) (h2 : xs.length ≤ 20) (x2 x4 x5 : Option D) :
    hvS [some (.int n), some (.lst (xs.map D.int)), x2, none, x4, x5] M = .nx [some (.int n), some (.lst ((nxt xs).map D.int)), x2, none, x4, x5] M := by
  have rb : rngB (((xs.map D.int).length : Int) - 1) := rngB_ok (by rw [List.length_map]; omega) (by rw [List.length_map]; omega)
  have tn : (((xs.map D.int).length : Int) - 1).toNat = xs.length - 1 := by rw [List.length_map]; omega
  have b1 : bigN [D.int 1].length := by unfold bigN; simp
  have hc := lcL_map (gd := fun _ => True) (gg := gtName 3) (ge := gOp oAdd (gOp oIx (gVar 1) (gVar 3)) (gOp oIx (gVar 1) (gOp oAdd (gVar 3) (gC (.int 1))))) (δ := [some (.int n), some (.lst (xs.map D.int)), x2, none, x4, x5]) (M := M) (em := fun i : Nat => D.int (0 + (i : Int))) (f := fun k : Nat => D.int (xs.getD k 0 + xs.getD (k + 1) 0)) trivial (List.range (xs.length - 1)) [] (by simp; omega) (fun k hk => by
    have hk := List.mem_range.mp hk
    refine ⟨[some (.int n), some (.lst (xs.map D.int)), x2, some (.int (k : Int)), x4, x5], by simp [gtName], ?_⟩
    have e1 := ixL_int (M := M) (xs := xs) (i := k) (by omega)
    have e2 := ixL_int (M := M) (xs := xs) (i := k + 1) (by omega)
    have e3 : ((k : Int) + 1) = ((k + 1 : Nat) : Int) := rfl
    simp only [s_gOp, s_gVar, s_gC, List.getElem?_cons_zero, List.getElem?_cons_succ, KM.R.bind_ok, s_addI, e3, e1, e2])
  rw [List.nil_append] at hc
  have en : (nxt xs).map D.int = ([D.int 1] ++ (List.range (xs.length - 1)).map (fun k : Nat => D.int (xs.getD k 0 + xs.getD (k + 1) 0))) ++ [D.int 1] := by
    unfold nxt
    simp
  have a1 := addL (M := M) (xs := [D.int 1]) (ys := (List.range (xs.length - 1)).map (fun k : Nat => D.int (xs.getD k 0 + xs.getD (k + 1) 0))) (by simp; omega)
  have a2 := addL (M := M) (xs := [D.int 1] ++ (List.range (xs.length - 1)).map (fun k : Nat => D.int (xs.getD k 0 + xs.getD (k + 1) 0))) (ys := [D.int 1]) (by simp; omega)
  unfold hvS
  simp only [s_gSet, s_gOp, s_gLst, s_gACons, s_gANil, s_gC, s_gVar, s_gCall, s_gLcG, s_giRng1, s_oLen_lst, s_subI, List.getElem?_cons_zero, List.getElem?_cons_succ, KM.R.bind_ok, if_pos b1, if_pos rb, tn, wipeD, List.set, s_itT, s_itTg, rngD, hc, finI, a1, a2, KM.R.toS_ok, en]
theorem hv_loop {M : List MO} {n : Nat} (x4 x5 : Option D) : ∀ (j t : Nat) (x2 : Option D), t + j ≤ 15 → ∃ y2, forL (fun _ => True) (gtName 2) hvS (rngD t j) [some (.int n), some (.lst ((pas t).map D.int)), x2, none, x4, x5] M = .nx [some (.int n), some (.lst ((pas (t + j)).map D.int)), y2, none, x4, x5] M
  | 0, t, x2, h => ⟨x2, by simp [rngD, forL]⟩
  | j + 1, t, x2, h => by
    obtain ⟨y2, e⟩ := hv_loop (M := M) (n := n) x4 x5 j (t + 1) (some (.int t)) (by omega)
    refine ⟨y2, ?_⟩
    have st := hv_step (M := M) (n := n) (xs := pas t) (by rw [pas_len]; omega) (by rw [pas_len]; omega) (some (.int t)) x4 x5
    have en : nxt (pas t) = pas (t + 1) := rfl
    rw [en] at st
    rw [rngD_succ]
    unfold forL
    simp only [if_true, gtName, List.set, st]
    have e1 : t + (j + 1) = t + 1 + j := by omega
    rw [e1]
    exact e
theorem intsD_map : ∀ xs : List Int, intsD (xs.map D.int) = some xs
  | [] => rfl
  | x :: xs => by
    rw [List.map_cons]
    unfold intsD
    rw [intsD_map xs]
    rfl
theorem sumL {M : List MO} (xs : List Int) : oSum [.lst (xs.map D.int)] M = .ok (.int xs.sum) M := by
  unfold oSum
  simp only [s_listOf_lst]
  rw [intsD_map]
theorem halved_eq {M : List MO} (wf : WF M) {n : Nat} (hn : n ≤ 10) : K43.m__law_halved [.int n] M = .ok (fD (Vt n 0 0)) M := by
  have st : startD 6 [D.int n] = [some (.int n), none, none, none, none, none] := rfl
  obtain ⟨y2, lp⟩ := hv_loop (M := M) (n := n) none none n 0 none (by omega)
  have p0 : (pas 0).map D.int = [D.int 1] := rfl
  rw [Nat.zero_add, p0] at lp
  unfold hvS at lp
  have b1 : bigN [D.int 1].length := by unfold bigN; simp
  have rb : rngB (n : Int) := rngB_ok (by omega) (by omega)
  have rb2 : rngB ((n : Int) + 1) := rngB_ok (by omega) (by omega)
  have tn2 : ((n : Int) + 1).toNat = n + 1 := by omega
  have hc := lcL_map (gd := fun _ => True) (gg := gtName 3) (ge := gOp oMul (gOp oIx (gVar 1) (gVar 3)) (gCall oAbs (gACons (gOp oSub (gVar 0) (gOp oMul (gC (.int 2)) (gVar 3))) (gANil)))) (δ := [some (.int n), some (.lst ((pas n).map D.int)), y2, none, none, none]) (M := M) (em := fun i : Nat => D.int (0 + (i : Int))) (f := fun k : Nat => D.int ((pas n).getD k 0 * ((((n : Int) - 2 * (k : Int)).natAbs : Nat) : Int))) trivial (List.range (n + 1)) [] (by simp; omega) (fun k hk => by
    have hk := List.mem_range.mp hk
    refine ⟨[some (.int n), some (.lst ((pas n).map D.int)), y2, some (.int (k : Int)), none, none], by simp [gtName], ?_⟩
    have e1 := ixL_int (M := M) (xs := pas n) (i := k) (by rw [pas_len]; omega)
    have ab : oAbs [.int ((n : Int) - 2 * (k : Int))] M = .ok (.int ((((n : Int) - 2 * (k : Int)).natAbs : Nat) : Int)) M := by rw [s_oAbs]; congr 2; split <;> omega
    have c1 : CMulB 2 (k : Int) := cmul_ok (a := 10) (b := 10) (by decide) (by omega) (by decide)
    have pb : ∀ n, n < 11 → ∀ k, k < n + 1 → ((pas n).getD k 0).natAbs < 2 ^ 10 := by decide +kernel
    have c2 : CMulB ((pas n).getD k 0) ((((n : Int) - 2 * (k : Int)).natAbs : Nat) : Int) := cmul_ok (a := 10) (b := 10) (pb n (by omega) k hk) (by omega) (by decide)
    simp only [s_gOp, s_gVar, s_gC, s_gCall, s_gACons, s_gANil, List.getElem?_cons_zero, List.getElem?_cons_succ, KM.R.bind_ok, s_mulI, s_subI, e1, if_pos c1, ab, if_pos c2])
  rw [List.nil_append] at hc
  have ec : ((List.range (n + 1)).map fun k : Nat => D.int ((pas n).getD k 0 * ((((n : Int) - 2 * (k : Int)).natAbs : Nat) : Int))) = ((List.range (n + 1)).map fun k => (pas n).getD k 0 * ((((n : Int) - 2 * (k : Int)).natAbs : Nat) : Int)).map D.int := by simp
  have s1 := sumL (M := M) ((List.range (n + 1)).map fun k => (pas n).getD k 0 * ((((n : Int) - 2 * (k : Int)).natAbs : Nat) : Int))
  rw [← ec] at s1
  have s2 := sumL (M := M) (pas n)
  obtain ⟨h1, h2⟩ := hv_eq n hn
  have eb : (2 : Int) * (pas n).sum = ((2 * 2 ^ n : Nat) : Int) := by
    have : (pas n).sum = ((2 ^ n : Nat) : Int) := h2
    rw [this]
    exact (Int.natCast_mul 2 _).symm
  have c3 : CMulB 2 (pas n).sum := by
    have : (pas n).sum = ((2 ^ n : Nat) : Int) := h2
    rw [this]
    refine cmul_ok (a := 10) (b := 20) (by decide) ?_ (by decide)
    rw [Int.natAbs_natCast]
    exact Nat.pow_lt_pow_right (by decide) (by omega)
  have hp : (2 * 2 ^ n : Nat) ≠ 0 := Nat.mul_ne_zero (by decide) (Nat.pos_iff_ne_zero.mp (Nat.pow_pos (by decide)))
  have fe := law_f_eq wf (hvT n) hp (by
    have : 2 * 2 ^ n ≤ 2 ^ 11 := by rw [← Nat.pow_succ']; exact Nat.pow_le_pow_right (by decide) (by omega)
    exact Nat.lt_of_le_of_lt this (Nat.pow_lt_pow_right (by decide) (by decide)))
  have ev : Rat.divInt (hvT n) ((2 * 2 ^ n : Nat) : Int) = Vt n 0 0 := by
    rw [h1, ← eb]
    rfl
  rw [ev] at fe
  have tn : (n : Int).toNat = n := by omega
  have qq : K43.g__law_halved (startD 6 [.int n]) M = .rt (fD (Vt n 0 0)) M := by
    rw [st]
    have lp' := lp
    have fe' := fe
    unfold hvT at fe'
    simp only [K43.g__law_halved, s_gSeq, s_gSet, s_gFor, s_gPar, s_gLst, s_gACons, s_gANil, s_gC, s_gVar, s_gCall, s_gLcG, s_giRng1, s_gOp, List.getElem?_cons_zero, List.getElem?_cons_succ, KM.R.bind_ok, KM.R.toS_ok, if_pos b1, if_pos rb, if_pos rb2, tn, tn2, wipeD, List.set, SR.then_nx, s_itT, s_itTg, s_addI]
    have r0 : rngD 0 n = rngD ((0 : Nat) : Int) n := rfl
    rw [r0, lp']
    simp only [SR.then_nx, s_gSeq, s_gPar, s_gCall, s_gACons, s_gANil, s_gC, s_gVar, s_gOp, s_gLcG, s_giRng1, List.getElem?_cons_zero, List.getElem?_cons_succ, KM.R.bind_ok, KM.R.toS_ok, s_addI, if_pos rb2, tn2, wipeD, List.set, s_itT, s_itTg, rngD, hc, finI, s1, s2, s_mulI, if_pos c3, eb, fe', s_gRet]
  have e9 : K43.m__law_halved [.int n] M = cutR M.length (fnM 6 K43.g__law_halved [.int n] M) := rfl
  rw [e9]
  unfold fnM
  rw [qq]
  exact cut_same wf rfl
end KG
set_option linter.all false
set_option maxRecDepth 100000
set_option maxHeartbeats 2000000
namespace KG
open PySem L2 KM LV
theorem plcs_ten (c : List Adv) {n : Nat} (hn : n ≤ 10) : ∀ j, j ≤ n → (plcs c 2 j).length ≤ 3000 := fun j hj => by
  refine Nat.le_trans (plcs_len c 2 j) ?_
  have : 2 ^ j ≤ 2 ^ 10 := Nat.pow_le_pow_right (by decide) (by omega)
  omega
theorem lag_two {M : List MO} (wf : WF M) {a b : Adv} {c : List Adv} (t : Two a b c) {n : Nat} (hn : n ≤ 10) : m_lag [cirD c, .int n] M = .ok (fD (Vt n 0 0)) M := by
  rw [lag_eq wf t.ok hn (plcs_ten c hn), la_root t.ok, t.gm n [] (by simp)]
  rfl
theorem lag_one {M : List MO} (wf : WF M) {a : Adv} {c : List Adv} (ok : CirOk 2 c) (ha : a ∈ c) (all : ∀ d ∈ c, d = a) {n : Nat} (hn : n ≤ 10) : m_lag [cirD c, .int n] M = .ok (fD 0) M := by
  rw [lag_eq wf ok hn (plcs_ten c hn), la_root ok, gm_one ok ha all n [] (by simp)]
  rfl
theorem opp_sum {a b : Adv} (ha : AdvOk 2 a) (o : Opp a b) : ∀ (row : List Nat), (∀ x ∈ row, x < 2) → (advRun a row).2 + (advRun b row).2 = row.length := by
  have key : ∀ (r row : List Nat), row = r.reverse → (∀ x ∈ row, x < 2) → (advRun a row).2 + (advRun b row).2 = row.length := by
    intro r
    induction r with
    | nil => intro row e _; subst e; rfl
    | cons x r ih =>
      intro row e hr
      rw [List.reverse_cons] at e
      subst e
      have hr' : ∀ y ∈ r.reverse, y < 2 := fun y hy => hr y (List.mem_append_left _ hy)
      have hx : x < 2 := hr x (List.mem_append_right _ (by simp))
      have i := ih _ rfl hr'
      have op := o _ hr'
      obtain ⟨_, tl⟩ := told_lt ha hr'
      rw [advRun_snoc, advRun_snoc]
      have s : ∀ (d : Adv) (x : Nat), (advStep d (advRun d r.reverse) x).2 = (advRun d r.reverse).2 + (if advTold d (advRun d r.reverse).1 = x then 0 else 1) := fun d x => rfl
      rw [s, s, op, List.length_append]
      simp only [List.length_singleton]
      generalize advTold a (advRun a r.reverse).1 = T at tl ⊢
      split <;> split <;> omega
  exact fun row hr => key row.reverse row (by simp) hr
/-- what the game is worth behind a row -/
def Wt (a b : Adv) (m : Nat) (row : List Nat) : Rat := Vt m (advRun a row).2 (advRun b row).2
theorem wt_step {a b : Adv} (ha : AdvOk 2 a) (o : Opp a b) (m : Nat) {row : List Nat} (hr : ∀ x ∈ row, x < 2) :
    Wt a b (m + 1) row = (Wt a b m (row ++ [0]) + Wt a b m (row ++ [1]) + 1) / 2 ∧ Wt a b m (row ++ [0]) - Wt a b m (row ++ [1]) ≤ 1 ∧ Wt a b m (row ++ [1]) - Wt a b m (row ++ [0]) ≤ 1 := by
  have op := o row hr
  obtain ⟨_, tl⟩ := told_lt ha hr
  obtain ⟨v1, v2⟩ := vt_close m (advRun a row).2 (advRun b row).2
  unfold Wt
  rw [advRun_snoc, advRun_snoc, advRun_snoc, advRun_snoc]
  have s : ∀ (d : Adv) (x : Nat), (advStep d (advRun d row) x).2 = (advRun d row).2 + (if advTold d (advRun d row).1 = x then 0 else 1) := fun d x => rfl
  rw [s, s, s, s, op]
  have hc : advTold a (advRun a row).1 = 0 ∨ advTold a (advRun a row).1 = 1 := by omega
  have df : Vt (m + 1) (advRun a row).2 (advRun b row).2 = (Vt m ((advRun a row).2 + 1) (advRun b row).2 + Vt m (advRun a row).2 ((advRun b row).2 + 1) + 1) / 2 := rfl
  rcases hc with q | q
  · rw [q]
    show _ = (Vt m (advRun a row).2 ((advRun b row).2 + 1) + Vt m ((advRun a row).2 + 1) (advRun b row).2 + 1) / 2 ∧ Vt m (advRun a row).2 ((advRun b row).2 + 1) - Vt m ((advRun a row).2 + 1) (advRun b row).2 ≤ 1 ∧ Vt m ((advRun a row).2 + 1) (advRun b row).2 - Vt m (advRun a row).2 ((advRun b row).2 + 1) ≤ 1
    refine ⟨?_, v2, v1⟩
    rw [df]
    grind
  · rw [q]
    show _ = (Vt m ((advRun a row).2 + 1) (advRun b row).2 + Vt m (advRun a row).2 ((advRun b row).2 + 1) + 1) / 2 ∧ Vt m ((advRun a row).2 + 1) (advRun b row).2 - Vt m (advRun a row).2 ((advRun b row).2 + 1) ≤ 1 ∧ Vt m (advRun a row).2 ((advRun b row).2 + 1) - Vt m ((advRun a row).2 + 1) (advRun b row).2 ≤ 1
    exact ⟨df, v1, v2⟩
theorem fol_two {M : List MO} (wf : WF M) {a b : Adv} {c : List Adv} (t : Two a b c) {n : Nat} (hn : n ≤ 10) {row : List Nat} (hr : ∀ x ∈ row, x < 2) {m : Nat} (hm : row.length + m + 1 = n) :
    m_followed [cirD c, .int n, nsD row] M = .ok (.tup [fD (Wt a b m (row ++ [0]) + 1 - Wt a b (m + 1) row), fD (Wt a b m (row ++ [1]) + 1 - Wt a b (m + 1) row)]) M := by
  rw [followed_eq wf t.ok hn (plcs_ten c hn) hr hm, chs_gm t.ok]
  have e : ((List.range' 0 2).map fun x => mx (Gm c 2 m (row ++ [x]) + 1 - Gm c 2 (m + 1) row)) = [mx (Gm c 2 m (row ++ [0]) + 1 - Gm c 2 (m + 1) row), mx (Gm c 2 m (row ++ [1]) + 1 - Gm c 2 (m + 1) row)] := rfl
  rw [e, t.gm m _ (mem2 hr (by decide)), t.gm m _ (mem2 hr (by decide)), t.gm (m + 1) _ hr]
  obtain ⟨w1, w2, w3⟩ := wt_step (t.ok.ad a t.ha) t.opp m hr
  unfold Wt at w1 w2 w3 ⊢
  rw [mx_ge (by grind), mx_ge (by grind)]
  rfl
theorem wt_sm {a b : Adv} (ha : AdvOk 2 a) (o : Opp a b) {m : Nat} {row : List Nat} (hr : ∀ x ∈ row, x < 2) (h : row.length + m ≤ 11) : K11.Bnd (2 ^ 11) 11 (Wt a b m row) := by
  have s := opp_sum ha o row hr
  exact K11.Bnd.up (vt_bnd _ _ _) (Nat.pow_dvd_pow 2 (by omega)) (by omega)
theorem sm_up {A : Nat} (hA : A ≤ 1000) {q : Rat} (h : K11.Bnd (2 ^ 11) A q) : Sm q := Sm.of (L := 2 ^ 11) (A := A) (by decide) (Nat.pow_lt_pow_right (by decide) (by decide)) (Nat.lt_of_lt_of_le (show A < 2 ^ 10 by omega) (Nat.pow_le_pow_right (by decide) (by decide))) h
theorem is_int_self {M : List MO} (wf : WF M) (j : Nat) (i : Int) : f__law_is (j + 1) [.int i, .int i] M = .ok (.bl true) M := by
  unfold f__law_is cutM
  have q : fnM 3 (g__law_is (f__law_is j)) [.int i, .int i] M = .ok (.bl true) M := by
    have e1 : oIsi2 "tuple" "list" (.int i) M = .ok (.bl false) M := by simp [oIsi2, tyM, tyN, isiB, tyOk_tuple, tyOk_l]
    have e3 : oEq (.bl false) (.bl false) M = .ok (.bl true) M := rfl
    simp [fnM, g__law_is, startD, e1, e3]
  rw [q]
  exact cut_same wf rfl
theorem is_fr_self {M : List MO} (wf : WF M) (r : Rat) : m__law_is [fD r, fD r] M = .ok (.bl true) M := by
  show f__law_is 4 [fD r, fD r] M = _
  unfold f__law_is cutM
  have q : fnM 3 (g__law_is (f__law_is 3)) [fD r, fD r] M = .ok (.bl true) M := by
    have e1 : ∀ xs, oIsi2 "tuple" "list" (.tup xs) M = .ok (.bl true) M := fun xs => by simp [oIsi2, tyM, tyN, isiB, tyOk_tuple, tyOk_l]
    have e2 : ∀ xs, oIsi "list" (.tup xs) M = .ok (.bl false) M := fun xs => by simp [oIsi, tyM, tyN, isiB, tyOk_l]
    have e3 : ∀ b, oNe (.bl b) (.bl b) M = .ok (.bl false) M := fun b => by cases b <;> rfl
    have hc := lcL_map (gd := fun _ => True) (gg := gtName 2) (ge := gCall (f__law_is 3) (gACons (gOp oIx (gVar 0) (gVar 2)) (gACons (gOp oIx (gVar 1) (gVar 2)) (gANil)))) (δ := [some (fD r), some (fD r), none]) (M := M) (em := fun i : Nat => D.int (0 + (i : Nat))) (f := fun _ => D.bl true) trivial (List.range 2) [] (by simp) (fun i hi => ⟨_, rfl, by
      have hi' : i < 2 := by simpa using hi
      have : i = 0 ∨ i = 1 := by omega
      rcases this with rfl | rfl
      · simp [oIx_f0, is_int_self wf 2]
      · simp [oIx_f1, is_int_self wf 2]⟩)
    have e4 : rngD 0 2 = (List.range 2).map fun i : Nat => D.int (0 + (i : Nat)) := rfl
    rw [List.nil_append] at hc
    have rb : rngB ((2 : Nat) : Int) := rngB_ok (by omega) (by omega)
    have al : oAll [.lst ((List.range 2).map fun _ => D.bl true)] M = .ok (.bl true) M := by
      rw [oAll_map (fun _ : Nat => true)]
      simp
    have tn : ((2 : Nat) : Int).toNat = 2 := rfl
    unfold fD at hc ⊢
    simp only [fnM, g__law_is, startD, List.map_cons, List.map_nil, List.replicate, Nat.reduceSub, List.cons_append, List.nil_append, s_gVar, s_gC, s_gOp, s_gUn, s_gANil, s_gACons, s_gCall, s_gTest, s_gTru, s_gAnd, s_gOr, s_gNot, s_gNext, s_gSeq, s_gSet, s_gRet, s_gRetN, s_gIf, s_gtName, s_gAsg, s_gPar, s_gFor, s_gLcG, s_giRng1, s_itT, s_itTg, s_tupOf, s_trB, s_eqI, s_isi_tup, s_oLen_tup, R.bind_ok, R.toS_ok, SR.then_nx, SR.then_rt, List.getElem?_cons_zero, List.getElem?_cons_succ, List.set_cons_zero, List.set_cons_succ, List.length_cons, List.length_nil, List.length_append, List.length_replicate, Nat.reduceAdd, Nat.reduceLeDiff, Nat.reduceLT, if_true, ite_true, reduceIte, e1, e2, e3, rb, wipeD, e4, hc, finI, al, tn, s_gAndV, beq_self_eq_true, Bool.not_false, Bool.not_true, Bool.false_eq_true, if_false]
  rw [q]
  exact cut_same wf rfl
end KG
set_option linter.all false
set_option maxRecDepth 100000
set_option maxHeartbeats 4000000
namespace K43
open PySem L2 KM KG LV
noncomputable def gRow : GS := (gSeq (gSet 11 (gCall KG.m_followed (gACons (gVar 6) (gACons (gVar 4) (gACons (gVar 8) (gANil))))))
    (gSeq (gSet 12 (gCall KG.m__law_draw (gACons (gVar 1) (gACons (gC (.int 2)) (gANil)))))
    (gPar 8 9 (gOp oAdd (gVar 8) (gETup (gACons (gVar 12) (gANil)))) (gCall KG.m__law_plus (gACons (gVar 9) (gACons (gCall KG.m__law_minus (gACons (gETup (gACons (gC (.int 1)) (gACons (gC (.int 1)) (gANil)))) (gACons (gOp oIx (gVar 11) (gVar 12)) (gANil)))) (gANil)))))))
noncomputable def gBody : GS := (gSeq (gPar 3 4 (gCall KG.m__law_adviser (gACons (gVar 1) (gACons (gC (.int 2)) (gACons (gC (.int 6)) (gANil))))) (gCall KG.m__law_draw (gACons (gVar 1) (gACons (gC (.int 11)) (gANil)))))
    (gSeq (gSet 5 (gCall m__law_doubled (gACons (gVar 1) (gACons (gCall m__law_against (gACons (gVar 3) (gANil))) (gANil)))))
    (gSeq (gSet 6 (gCall KG.m__law_any (gACons (gVar 1) (gACons (gLst (gACons (gETup (gACons (gVar 3) (gACons (gVar 5) (gANil)))) (gACons (gETup (gACons (gVar 5) (gACons (gVar 3) (gANil)))) (gACons (gETup (gACons (gVar 3) (gACons (gVar 5) (gACons (gVar 3) (gANil))))) (gACons (gETup (gACons (gVar 3) (gACons (gVar 5) (gACons (gVar 5) (gANil))))) (gANil)))))) (gANil)))))
    (gSeq (gSet 7 (gCall m__law_halved (gACons (gVar 4) (gANil))))
    (gSeq (gIf (gOr (gNot (gTru (gCall KG.m__law_is (gACons (gCall KG.m_lag (gACons (gVar 6) (gACons (gVar 4) (gANil)))) (gACons (gVar 7) (gANil)))))) (gOr (gTest (gOp oNe (gCall KG.m_lag (gACons (gETup (gACons (gVar 3) (gANil))) (gACons (gVar 4) (gANil)))) (gETup (gACons (gC (.int 0)) (gACons (gC (.int 1)) (gANil)))))) (gTest (gOp oNe (gCall KG.m_lag (gACons (gETup (gACons (gVar 5) (gACons (gVar 5) (gANil)))) (gACons (gVar 4) (gANil)))) (gETup (gACons (gC (.int 0)) (gACons (gC (.int 1)) (gANil)))))))) (gRet (gC (.bl false))) (gNext))
    (gSeq (gAsg (gETup (gACons (gETup (gANil)) (gACons (gETup (gACons (gC (.int 0)) (gACons (gC (.int 1)) (gANil)))) (gANil)))) (gtTup 2 (gtCons (gtName 8) (gtCons (gtName 9) (gtNil)))))
    (gSeq (gFor (giRng1 (gACons (gVar 4) (gANil))) (gtName 10) gRow)
    (gSeq (gSet 13 (gCall KG.m_adviser_misses (gACons (gETup (gACons (gVar 3) (gACons (gVar 5) (gANil)))) (gACons (gVar 8) (gANil)))))
    (gIf (gOr (gTest (gOp oNe (gCall oSumA (gACons (gVar 13) (gANil))) (gVar 4))) (gTru (gCall KG.m__law_less (gACons (gCall KG.m__law_plus (gACons (gETup (gACons (gCall oMinA (gACons (gVar 13) (gANil))) (gACons (gC (.int 1)) (gANil)))) (gACons (gVar 7) (gANil)))) (gACons (gVar 9) (gANil)))))) (gRet (gC (.bl false))) (gNext))))))))))
theorem cir_lo (n : Nat) (c : List Adv) : D.lo n (cirD c) = true := by
  show D.los n (c.map advD) = true
  rw [los_mapD (advD_lo n)]
theorem ne_zero (M : List MO) : oNe (fD 0) (.tup [.int 0, .int 1]) M = .ok (.bl false) M := rfl
theorem oNe_int (M : List MO) (i : Int) : oNe (.int i) (.int i) M = .ok (.bl false) M := by
  rw [s_neI]
  simp
theorem add_row {M : List MO} {row : List Nat} (h : row.length ≤ 100) (x : Nat) : oAdd (nsD row) (.tup [.int x]) M = .ok (nsD (row ++ [x])) M := by
  unfold oAdd nsD
  rw [show D.int (x : Int) = (fun n : Nat => D.int n) x from rfl]
  simp only
  rw [if_pos (by unfold bigN; rw [List.length_map]; simp; omega)]
  simp
theorem row_step {c : List Int} {M : List MO} (wf : WF M) (w : Pot 0 c M) {a b : Adv} {cc : List Adv} (t : Two a b cc) {n : Nat} (hn : n ≤ 10) {row : List Nat} (hr : ∀ x ∈ row, x < 2) {m : Nat} (hm : row.length + m + 1 = n) (x0 x2 x3 x5 x7 x10 x11 x12 x13 : Option D) :
    ∃ x M' y11 y12, gRow [x0, some (.ref 0), x2, x3, some (.int n), x5, some (cirD cc), x7, some (nsD row), some (fD (Vt n 0 0 - Wt a b (m + 1) row)), x10, x11, x12, x13] M = .nx [x0, some (.ref 0), x2, x3, some (.int n), x5, some (cirD cc), x7, some (nsD (row ++ [x])), some (fD (Vt n 0 0 - Wt a b m (row ++ [x]))), x10, y11, y12, x13] M' ∧ Nx 0 c M M' ∧ x < 2 := by
  have oka := t.ok.ad a t.ha
  have e1 := fol_two wf t hn hr hm
  obtain ⟨i, M1, e2, i0, i2, n1⟩ := draw_eq wf w (many := 2) (by decide) (by decide)
  obtain ⟨x, rfl⟩ : ∃ x : Nat, i = (x : Int) := ⟨i.toNat, by omega⟩
  have hx : x < 2 := by omega
  generalize hp : (fun y => Wt a b m (row ++ [y]) + 1 - Wt a b (m + 1) row) = p at e1
  have e1' : m_followed [cirD cc, .int n, nsD row] M = .ok (.tup [fD (p 0), fD (p 1)]) M := by rw [← hp]; rw [e1]
  have e3 : oIx (.tup [fD (p 0), fD (p 1)]) (.int x) M1 = .ok (fD (p x)) M1 := by
    refine s_ixT M1 (n := x) ?_
    have : x = 0 ∨ x = 1 := by omega
    rcases this with rfl | rfl <;> rfl
  have b1 := wt_sm oka t.opp (m := m) (row := row ++ [x]) (mem2 hr hx) (by simp; omega)
  have b2 := wt_sm oka t.opp (m := m + 1) (row := row) hr (by omega)
  have b3 : K11.Bnd (2 ^ 11) 10 (Vt n 0 0) := K11.Bnd.up (vt_bnd n 0 0) (Nat.pow_dvd_pow 2 (by omega)) (by omega)
  have b4 : K11.Bnd (2 ^ 11) 23 (p x) := by
    have h := ((b1.add (by decide) (K11.Bnd.one (Nat.le_refl 1))).add (by decide) b2.neg)
    rw [← hp]
    show K11.Bnd (2 ^ 11) 23 (Wt a b m (row ++ [x]) + 1 - Wt a b (m + 1) row)
    rw [Rat.sub_eq_add_neg]
    exact h
  have sp := sm_up (by omega) b4
  have s1 := sm_up (A := 1) (by omega) (K11.Bnd.one (L := 2 ^ 11) (Nat.le_refl 1))
  have sd : Sm (1 - p x) := sm_up (A := 24) (by omega) (by rw [Rat.sub_eq_add_neg]; exact (K11.Bnd.one (Nat.le_refl 1)).add (by decide) b4.neg)
  have sm : Sm (Vt n 0 0 - Wt a b (m + 1) row) := sm_up (A := 21) (by omega) (by rw [Rat.sub_eq_add_neg]; exact b3.add (by decide) b2.neg)
  have e4 := lminus (M := M1) s1 sp n1.wf
  have e4' : m__law_minus [.tup [.int 1, .int 1], fD (p x)] M1 = .ok (fD (1 - p x)) M1 := e4
  have e5 := lplus (M := M1) sm sd n1.wf
  have ev : Vt n 0 0 - Wt a b (m + 1) row + (1 - p x) = Vt n 0 0 - Wt a b m (row ++ [x]) := by
    rw [← hp]
    grind
  rw [ev] at e5
  have e6 := add_row (M := M1) (row := row) (by omega) x
  refine ⟨x, M1, some (.tup [fD (p 0), fD (p 1)]), some (.int x), ?_, n1, hx⟩
  unfold gRow
  simp only [s_gVar, s_gC, s_gOp, s_gUn, s_gANil, s_gACons, s_gCall, s_gETup, s_gLst, s_gTest, s_gTru, s_gAnd, s_gOr, s_gNot, s_gNext, s_gSeq, s_gSet, s_gRet, s_gIf, s_gtName, s_gtNil, s_gtCons, s_gtTup, s_gAsg, s_gPar, s_gFor, s_giRng1, s_itT, s_itTg, s_trB, R.bind_ok, R.toS_ok, SR.then_nx, List.getElem?_cons_zero, List.getElem?_cons_succ, List.set_cons_zero, List.set_cons_succ, List.length_cons, List.length_nil, Nat.reduceAdd, Nat.reduceLeDiff, Nat.reduceLT, bigN, if_true, ite_true, reduceIte, Nat.zero_le, Bool.not_true, Bool.not_false, Bool.false_eq_true, if_false, e1', e2, e3, e4', e5, e6]
theorem row_loop {c : List Int} {a b : Adv} {cc : List Adv} (t : Two a b cc) {n : Nat} (hn : n ≤ 10) (x0 x2 x3 x5 x7 x13 : Option D) : ∀ (m : Nat) (lo : Int) (row : List Nat) (M : List MO) (x10 x11 x12 : Option D), WF M → Pot 0 c M → (∀ x ∈ row, x < 2) → row.length + m = n →
    ∃ row' M' y10 y11 y12, forL (fun _ => True) (gtName 10) gRow (rngD lo m) [x0, some (.ref 0), x2, x3, some (.int n), x5, some (cirD cc), x7, some (nsD row), some (fD (Vt n 0 0 - Wt a b m row)), x10, x11, x12, x13] M = .nx [x0, some (.ref 0), x2, x3, some (.int n), x5, some (cirD cc), x7, some (nsD row'), some (fD (Vt n 0 0 - Wt a b 0 row')), y10, y11, y12, x13] M' ∧ Nx 0 c M M' ∧ (∀ x ∈ row', x < 2) ∧ row'.length = n
  | 0, lo, row, M, x10, x11, x12, wf, w, hr, hl => ⟨row, M, x10, x11, x12, by simp [rngD, forL], Nx.refl wf w, hr, by omega⟩
  | m + 1, lo, row, M, x10, x11, x12, wf, w, hr, hl => by
    obtain ⟨x, M1, y11, y12, e1, n1, hx⟩ := row_step wf w t hn hr (m := m) (by omega) x0 x2 x3 x5 x7 (some (.int lo)) x11 x12 x13
    obtain ⟨row', M2, z10, z11, z12, e2, n2, h2, l2⟩ := row_loop t hn x0 x2 x3 x5 x7 x13 m (lo + 1) (row ++ [x]) M1 (some (.int lo)) y11 y12 n1.wf n1.w (mem2 hr hx) (by simp; omega)
    refine ⟨row', M2, z10, z11, z12, ?_, n1.trans n2, h2, l2⟩
    rw [rngD_succ]
    unfold forL
    rw [if_pos trivial]
    simp only [s_gtName, List.set_cons_succ, List.set_cons_zero]
    rw [e1]
    exact e2
end K43
set_option linter.all false
set_option maxRecDepth 100000
set_option maxHeartbeats 4000000
namespace K43
open PySem L2 KM KG LV
theorem minA_two (M : List MO) (x y : Nat) : oMinA [nsD [x, y]] M = .ok (.int (min x y : Nat)) M := by
  show R.ok (D.int (minL (x : Int) [(y : Int)])) M = _
  have : minL (x : Int) [(y : Int)] = ((min x y : Nat) : Int) := by
    show (if (y : Int) < (x : Int) then (y : Int) else (x : Int)) = _
    split <;> omega
  rw [this]
theorem sumA_two (M : List MO) (x y : Nat) : oSumA [nsD [x, y]] M = .ok (.int (x + y : Nat)) M := by
  show R.ok (D.int ([(x : Int), (y : Int)].sum)) M = _
  have : [(x : Int), (y : Int)].sum = ((x + y : Nat) : Int) := by simp
  rw [this]
theorem cir_ok {c : List Adv} (l1 : 1 ≤ c.length) (l4 : c.length ≤ 4) (h : ∀ a ∈ c, AdvOk 2 a) : CirOk 2 c := ⟨l1, l4, h⟩
theorem fD_int (z : Int) : fD (z : Rat) = .tup [.int z, .int 1] := rfl
theorem turn_eq {c : List Int} {M : List MO} (wf : WF M) (w : Pot 0 c M) (x0 x2 x3 x4 x5 x6 x7 x8 x9 x10 x11 x12 x13 : Option D) :
    ∃ y3 y4 y5 y6 y7 y8 y9 y10 y11 y12 y13 M', gBody [x0, some (.ref 0), x2, x3, x4, x5, x6, x7, x8, x9, x10, x11, x12, x13] M = .nx [x0, some (.ref 0), x2, y3, y4, y5, y6, y7, y8, y9, y10, y11, y12, y13] M' ∧ Nx 0 c M M' := by
  obtain ⟨a, M1, e1, oka, n1⟩ := adviser_eq wf w (size := 2) (most := 6) (by decide) (by decide) (by decide) (by decide)
  have e1' : m__law_adviser [.ref 0, .int 2, .int 6] M = .ok (advD a) M1 := e1
  obtain ⟨i, M2, e2, i0, i11, n2⟩ := draw_eq n1.wf n1.w (many := 11) (by decide) (by decide)
  obtain ⟨n, rfl⟩ : ∃ n : Nat, i = (n : Int) := ⟨i.toNat, by omega⟩
  have hn : n ≤ 10 := by omega
  have e3 := against_eq n2.wf oka
  obtain ⟨b, φ, M3, e4, okb, sim, n3⟩ := doubled_eq n2.wf n2.w (agn_ok oka)
  have opp := agn_opp oka okb sim
  obtain ⟨d, M4, e5, m5, n4⟩ := any_eq n3.wf n3.w (x := .lst [cirD [a, b], cirD [b, a], cirD [a, b, a], cirD [a, b, b]]) (.inl rfl) (by simp) (by simp) (fun d hd => by
    have : d = cirD [a, b] ∨ d = cirD [b, a] ∨ d = cirD [a, b, a] ∨ d = cirD [a, b, b] := by simpa using hd
    rcases this with rfl | rfl | rfl | rfl <;> exact cir_lo _ _)
  have hall : ∀ cc : List Adv, (∀ d ∈ cc, d = a ∨ d = b) → ∀ d ∈ cc, AdvOk 2 d := fun cc h d hd => by
    rcases h d hd with rfl | rfl
    · exact oka
    · exact okb
  have mk : ∀ cc : List Adv, 1 ≤ cc.length → cc.length ≤ 4 → a ∈ cc → b ∈ cc → (∀ d ∈ cc, d = a ∨ d = b) → Two a b cc := fun cc l1 l4 ha hb h => ⟨cir_ok l1 l4 (hall cc h), ha, hb, h, opp⟩
  obtain ⟨cc, rfl, tw⟩ : ∃ cc, d = cirD cc ∧ Two a b cc := by
    have : d = cirD [a, b] ∨ d = cirD [b, a] ∨ d = cirD [a, b, a] ∨ d = cirD [a, b, b] := by simpa using m5
    rcases this with rfl | rfl | rfl | rfl
    · exact ⟨_, rfl, mk _ (by simp) (by simp) (by simp) (by simp) (by simp)⟩
    · exact ⟨_, rfl, mk _ (by simp) (by simp) (by simp) (by simp) (by simp)⟩
    · exact ⟨_, rfl, mk _ (by simp) (by simp) (by simp) (by simp) (by simp)⟩
    · exact ⟨_, rfl, mk _ (by simp) (by simp) (by simp) (by simp) (by simp)⟩
  have e6 := halved_eq n4.wf hn
  have e7 := lag_two n4.wf tw hn
  have e8 := is_fr_self n4.wf (Vt n 0 0)
  have e9 : m_lag [.tup [advD a], .int n] M4 = .ok (fD 0) M4 := lag_one n4.wf (c := [a]) (a := a) (cir_ok (by simp) (by simp) (by simp [oka])) (by simp) (by simp) hn
  have e10 : m_lag [.tup [advD b, advD b], .int n] M4 = .ok (fD 0) M4 := lag_one n4.wf (c := [b, b]) (a := b) (cir_ok (by simp) (by simp) (by simp [okb])) (by simp) (by simp) hn
  have z0 : (D.tup [.int 0, .int 1]) = fD (Vt n 0 0 - Wt a b n []) := by
    have : Vt n 0 0 - Wt a b n [] = 0 := by
      show Vt n 0 0 - Vt n 0 0 = 0
      grind
    rw [this]
    rfl
  have t0 : D.tup [] = nsD [] := rfl
  obtain ⟨row, M5, y10, y11, y12, e11, n5, hr, hl⟩ := row_loop (c := c) tw hn x0 x2 (some (advD a)) (some (advD b)) (some (fD (Vt n 0 0))) x13 n 0 [] M4 x10 x11 x12 n4.wf n4.w (by simp) (by simp)
  have okab : CirOk 2 [a, b] := cir_ok (by simp) (by simp) (by simp [oka, okb])
  have e12 : m_adviser_misses [.tup [advD a, advD b], nsD row] M5 = .ok (nsD [(advRun a row).2, (advRun b row).2]) M5 := adviser_misses_eq n5.wf okab (by omega) hr
  have e13 := sumA_two M5 (advRun a row).2 (advRun b row).2
  rw [opp_sum oka opp row hr, hl] at e13
  have e14 := minA_two M5 (advRun a row).2 (advRun b row).2
  have hs := opp_sum oka opp row hr
  have b3 : K11.Bnd (2 ^ 11) 10 (Vt n 0 0) := K11.Bnd.up (vt_bnd n 0 0) (Nat.pow_dvd_pow 2 (by omega)) (by omega)
  have b0 := wt_sm oka opp (m := 0) hr (by omega)
  have w0 : Wt a b 0 row = -((((min (advRun a row).2 (advRun b row).2 : Nat) : Int)) : Rat) := rfl
  have bm : K11.Bnd (2 ^ 11) 10 ((((min (advRun a row).2 (advRun b row).2 : Nat) : Int)) : Rat) := Bnd_int (by omega)
  have e15 : m__law_plus [.tup [.int ((min (advRun a row).2 (advRun b row).2 : Nat) : Int), .int 1], fD (Vt n 0 0)] M5 = .ok (fD ((((min (advRun a row).2 (advRun b row).2 : Nat) : Int) : Rat) + Vt n 0 0)) M5 := lplus (sm_up (by omega) bm) (sm_up (by omega) b3) n5.wf
  have e16 := lless (M := M5) (sm_up (A := 20) (by omega) (bm.add (by decide) b3)) (sm_up (A := 21) (by omega) (show K11.Bnd (2 ^ 11) 21 (Vt n 0 0 - Wt a b 0 row) by rw [Rat.sub_eq_add_neg]; exact b3.add (by decide) b0.neg)) n5.wf
  have hlt : ¬ ((((min (advRun a row).2 (advRun b row).2 : Nat) : Int) : Rat) + Vt n 0 0 < Vt n 0 0 - Wt a b 0 row) := by
    rw [w0]
    grind
  rw [decide_eq_false hlt] at e16
  have rb : rngB (n : Int) := rngB_ok (by omega) (by omega)
  have nn := ne_zero M4
  have ni := oNe_int M5 (n : Int)
  have cd2 : cirD [a, b] = .tup [advD a, advD b] := rfl
  have e5' : m__law_any [.ref 0, .lst [.tup [advD a, advD b], .tup [advD b, advD a], .tup [advD a, advD b, advD a], .tup [advD a, advD b, advD b]]] M3 = .ok (cirD cc) M4 := e5
  have tn : (n : Int).toNat = n := by omega
  have N := n1.trans (n2.trans (n3.trans (n4.trans n5)))
  refine ⟨some (advD a), some (.int n), some (advD b), some (cirD cc), some (fD (Vt n 0 0)), some (nsD row), some (fD (Vt n 0 0 - Wt a b 0 row)), y10, y11, y12, some (nsD [(advRun a row).2, (advRun b row).2]), M5, ?_, N⟩
  unfold gBody
  simp only [s_gVar, s_gC, s_gOp, s_gUn, s_gANil, s_gACons, s_gCall, s_gETup, s_gLst, s_gTest, s_gTru, s_gAnd, s_gOr, s_gNot, s_gNext, s_gSeq, s_gSet, s_gRet, s_gIf, s_gtName, s_gtNil, s_gtCons, s_gtTup, s_gAsg, s_gPar, s_gFor, s_giRng1, s_itT, s_itTg, s_trB, R.bind_ok, R.toS_ok, SR.then_nx, SR.then_rt, List.getElem?_cons_zero, List.getElem?_cons_succ, List.set_cons_zero, List.set_cons_succ, List.length_cons, List.length_nil, Nat.reduceAdd, Nat.reduceLeDiff, Nat.reduceLT, bigN, if_true, ite_true, reduceIte, Nat.zero_le, Bool.not_true, Bool.not_false, Bool.false_eq_true, if_false, e1', e2, e3, e4, e5', e6, e7, e8, e9, e10, nn, rb, tn]
  rw [z0, t0]
  simp only [e11, s_gVar, s_gC, s_gOp, s_gUn, s_gANil, s_gACons, s_gCall, s_gETup, s_gLst, s_gTest, s_gTru, s_gAnd, s_gOr, s_gNot, s_gNext, s_gSeq, s_gSet, s_gRet, s_gIf, s_gtName, s_gtNil, s_gtCons, s_gtTup, s_gAsg, s_gPar, s_gFor, s_giRng1, s_itT, s_itTg, s_trB, R.bind_ok, R.toS_ok, SR.then_nx, SR.then_rt, List.getElem?_cons_zero, List.getElem?_cons_succ, List.set_cons_zero, List.set_cons_succ, List.length_cons, List.length_nil, Nat.reduceAdd, Nat.reduceLeDiff, Nat.reduceLT, bigN, if_true, ite_true, reduceIte, Nat.zero_le, Bool.not_true, Bool.not_false, Bool.false_eq_true, if_false, e12, e13, e14, e15, e16, ni]
theorem law_loop {c : List Int} (x0 : Option D) : ∀ (n : Nat) (lo : Int) (M : List MO) (x2 x3 x4 x5 x6 x7 x8 x9 x10 x11 x12 x13 : Option D), WF M → Pot 0 c M →
    ∃ δ' M', forL (fun _ => True) (gtName 2) gBody (rngD lo n) [x0, some (.ref 0), x2, x3, x4, x5, x6, x7, x8, x9, x10, x11, x12, x13] M = .nx δ' M'
  | 0, lo, M, x2, x3, x4, x5, x6, x7, x8, x9, x10, x11, x12, x13, wf, w => ⟨_, M, by simp [rngD, forL]; rfl⟩
  | n + 1, lo, M, x2, x3, x4, x5, x6, x7, x8, x9, x10, x11, x12, x13, wf, w => by
    obtain ⟨y3, y4, y5, y6, y7, y8, y9, y10, y11, y12, y13, M1, e, n1⟩ := turn_eq wf w x0 (some (.int lo)) x3 x4 x5 x6 x7 x8 x9 x10 x11 x12 x13
    obtain ⟨δ', M', e2⟩ := law_loop x0 n (lo + 1) M1 (some (.int lo)) y3 y4 y5 y6 y7 y8 y9 y10 y11 y12 y13 n1.wf n1.w
    refine ⟨δ', M', ?_⟩
    rw [rngD_succ]
    unfold forL
    rw [if_pos trivial]
    simp only [s_gtName, List.set_cons_succ, List.set_cons_zero]
    rw [e]
    exact e2
theorem law_true : LawTrue m_law := by
  intro ns hl _
  obtain ⟨c, e0, hc⟩ := pot_eq hl
  obtain ⟨δ', M', e⟩ := law_loop (c := c) (some (.rol (ns.map D.int))) 3 0 [wl c 0 0 (1 + (c.length : Int)) 0] none none none none none none none none none none none none pot_wf pot_at
  refine ⟨M', ?_⟩
  have rb : rngB 3 := rngB_ok (by decide) (by decide)
  have q : g_law (startD 14 [.rol (ns.map D.int)]) [] = .rt (.bl true) M' := by
    show ((gSet 1 (gCall KG.m__law_pot (gACons (gVar 0) (gANil))) _ _).then (gSeq (gFor (giRng1 (gACons (gC (.int 3)) (gANil))) (gtName 2) gBody) (gRet (gC (.bl true))))) = _
    rw [show startD 14 [.rol (ns.map D.int)] = [some (D.rol (ns.map D.int)), none, none, none, none, none, none, none, none, none, none, none, none, none] from rfl]
    simp only [s_gVar, s_gC, s_gOp, s_gUn, s_gANil, s_gACons, s_gCall, s_gETup, s_gLst, s_gTest, s_gTru, s_gAnd, s_gOr, s_gNot, s_gNext, s_gSeq, s_gSet, s_gRet, s_gIf, s_gtName, s_gtNil, s_gtCons, s_gtTup, s_gAsg, s_gPar, s_gFor, s_giRng1, s_itT, s_itTg, s_trB, R.bind_ok, R.toS_ok, SR.then_nx, SR.then_rt, List.getElem?_cons_zero, List.getElem?_cons_succ, List.set_cons_zero, List.set_cons_succ, List.length_cons, List.length_nil, Nat.reduceAdd, Nat.reduceLeDiff, Nat.reduceLT, bigN, if_true, ite_true, reduceIte, Nat.zero_le, Bool.not_true, Bool.not_false, Bool.false_eq_true, if_false, e0, rb, show (3 : Int).toNat = 3 from rfl, e]
  unfold m_law fnM
  rw [q]
end K43
set_option Elab.async false
set_option linter.all false
set_option maxRecDepth 100000
namespace K43
open PySem PySem.Spec PyProof.Rows L2 KM
set_option maxHeartbeats 4000000 in
theorem all_ok {P : Program} {w : World} {K : PySem.W.Frag} {mg : Str → Option Value} {fa : Addr} (hfa : mg "law" = some (.ref fa)) (T : Txt K mg) (d__law_pot : DefAt K mg "_law_pot" s__law_pot) (d__law_draw : DefAt K mg "_law_draw" s__law_draw) (d__law_doubled : DefAt K mg "_law_doubled" s__law_doubled) (d__law_any : DefAt K mg "_law_any" s__law_any) (d__law_gcd : DefAt K mg "_law_gcd" s__law_gcd) (d__law_fraction : DefAt K mg "_law_fraction" s__law_fraction) (d__law_halved : DefAt K mg "_law_halved" s__law_halved) (d_nothing_heard : DefAt K mg "nothing_heard" s_nothing_heard) (d_is_whole : DefAt K mg "is_whole" s_is_whole) (d_is_size : DefAt K mg "is_size" s_is_size) (d_is_below : DefAt K mg "is_below" s_is_below) (d_are_below : DefAt K mg "are_below" s_are_below) (d_is_advice : DefAt K mg "is_advice" s_is_advice) (d_is_ruled : DefAt K mg "is_ruled" s_is_ruled) (d_is_adviser : DefAt K mg "is_adviser" s_is_adviser) (d_is_circle : DefAt K mg "is_circle" s_is_circle) (d_is_row : DefAt K mg "is_row" s_is_row) (d_heard : DefAt K mg "heard" s_heard) (d_adviser_misses : DefAt K mg "adviser_misses" s_adviser_misses) (d__law_adviser : DefAt K mg "_law_adviser" s__law_adviser) (d__law_against : DefAt K mg "_law_against" s__law_against) (d_check_circle : DefAt K mg "check_circle" s_check_circle) (d_ways : DefAt K mg "ways" s_ways) (d_places_within : DefAt K mg "places_within" s_places_within) (d_best_lot : DefAt K mg "best_lot" s_best_lot) (d_worths_in : DefAt K mg "worths_in" s_worths_in) (d_lags_from : DefAt K mg "lags_from" s_lags_from) (d_top_over : DefAt K mg "top_over" s_top_over) (d_common : DefAt K mg "common" s_common) (d_reduced : DefAt K mg "reduced" s_reduced) (d_is_fraction : DefAt K mg "is_fraction" s_is_fraction) (d_is_worths : DefAt K mg "is_worths" s_is_worths) (d_level : DefAt K mg "level" s_level) (d_total : DefAt K mg "total" s_total) (d_negated : DefAt K mg "negated" s_negated) (d_minus : DefAt K mg "minus" s_minus) (d_filled : DefAt K mg "filled" s_filled) (d_followed : DefAt K mg "followed" s_followed) (d__law_less : DefAt K mg "_law_less" s__law_less) (d__law_is : DefAt K mg "_law_is" s__law_is) (d_lag : DefAt K mg "lag" s_lag) (d__law_plus : DefAt K mg "_law_plus" s__law_plus) (d__law_minus : DefAt K mg "_law_minus" s__law_minus) (d_law : DefAt K mg "law" s_law) :
    ∃ fd : FuncData, (∀ (s : Shared) (v : Value), BindsTo s fd ⟨[v], []⟩ [("_law_script", v)]) ∧ ∀ base : Heap, FnOk P w K mg base (L2.CX P w) 10 fa fd ["_law_script"] (spLaw K) := by
  obtain ⟨a__law_pot, e__law_pot, F__law_pot, M__law_pot, K__law_pot, N__law_pot⟩ := d__law_pot
  obtain ⟨a__law_draw, e__law_draw, F__law_draw, M__law_draw, K__law_draw, N__law_draw⟩ := d__law_draw
  obtain ⟨a__law_doubled, e__law_doubled, F__law_doubled, M__law_doubled, K__law_doubled, N__law_doubled⟩ := d__law_doubled
  obtain ⟨a__law_any, e__law_any, F__law_any, M__law_any, K__law_any, N__law_any⟩ := d__law_any
  obtain ⟨a__law_gcd, e__law_gcd, F__law_gcd, M__law_gcd, K__law_gcd, N__law_gcd⟩ := d__law_gcd
  obtain ⟨a__law_fraction, e__law_fraction, F__law_fraction, M__law_fraction, K__law_fraction, N__law_fraction⟩ := d__law_fraction
  obtain ⟨a__law_halved, e__law_halved, F__law_halved, M__law_halved, K__law_halved, N__law_halved⟩ := d__law_halved
  obtain ⟨a_nothing_heard, e_nothing_heard, F_nothing_heard, M_nothing_heard, K_nothing_heard, N_nothing_heard⟩ := d_nothing_heard
  obtain ⟨a_is_whole, e_is_whole, F_is_whole, M_is_whole, K_is_whole, N_is_whole⟩ := d_is_whole
  obtain ⟨a_is_size, e_is_size, F_is_size, M_is_size, K_is_size, N_is_size⟩ := d_is_size
  obtain ⟨a_is_below, e_is_below, F_is_below, M_is_below, K_is_below, N_is_below⟩ := d_is_below
  obtain ⟨a_are_below, e_are_below, F_are_below, M_are_below, K_are_below, N_are_below⟩ := d_are_below
  obtain ⟨a_is_advice, e_is_advice, F_is_advice, M_is_advice, K_is_advice, N_is_advice⟩ := d_is_advice
  obtain ⟨a_is_ruled, e_is_ruled, F_is_ruled, M_is_ruled, K_is_ruled, N_is_ruled⟩ := d_is_ruled
  obtain ⟨a_is_adviser, e_is_adviser, F_is_adviser, M_is_adviser, K_is_adviser, N_is_adviser⟩ := d_is_adviser
  obtain ⟨a_is_circle, e_is_circle, F_is_circle, M_is_circle, K_is_circle, N_is_circle⟩ := d_is_circle
  obtain ⟨a_is_row, e_is_row, F_is_row, M_is_row, K_is_row, N_is_row⟩ := d_is_row
  obtain ⟨a_heard, e_heard, F_heard, M_heard, K_heard, N_heard⟩ := d_heard
  obtain ⟨a_adviser_misses, e_adviser_misses, F_adviser_misses, M_adviser_misses, K_adviser_misses, N_adviser_misses⟩ := d_adviser_misses
  obtain ⟨a__law_adviser, e__law_adviser, F__law_adviser, M__law_adviser, K__law_adviser, N__law_adviser⟩ := d__law_adviser
  obtain ⟨a__law_against, e__law_against, F__law_against, M__law_against, K__law_against, N__law_against⟩ := d__law_against
  obtain ⟨a_check_circle, e_check_circle, F_check_circle, M_check_circle, K_check_circle, N_check_circle⟩ := d_check_circle
  obtain ⟨a_ways, e_ways, F_ways, M_ways, K_ways, N_ways⟩ := d_ways
  obtain ⟨a_places_within, e_places_within, F_places_within, M_places_within, K_places_within, N_places_within⟩ := d_places_within
  obtain ⟨a_best_lot, e_best_lot, F_best_lot, M_best_lot, K_best_lot, N_best_lot⟩ := d_best_lot
  obtain ⟨a_worths_in, e_worths_in, F_worths_in, M_worths_in, K_worths_in, N_worths_in⟩ := d_worths_in
  obtain ⟨a_lags_from, e_lags_from, F_lags_from, M_lags_from, K_lags_from, N_lags_from⟩ := d_lags_from
  obtain ⟨a_top_over, e_top_over, F_top_over, M_top_over, K_top_over, N_top_over⟩ := d_top_over
  obtain ⟨a_common, e_common, F_common, M_common, K_common, N_common⟩ := d_common
  obtain ⟨a_reduced, e_reduced, F_reduced, M_reduced, K_reduced, N_reduced⟩ := d_reduced
  obtain ⟨a_is_fraction, e_is_fraction, F_is_fraction, M_is_fraction, K_is_fraction, N_is_fraction⟩ := d_is_fraction
  obtain ⟨a_is_worths, e_is_worths, F_is_worths, M_is_worths, K_is_worths, N_is_worths⟩ := d_is_worths
  obtain ⟨a_level, e_level, F_level, M_level, K_level, N_level⟩ := d_level
  obtain ⟨a_total, e_total, F_total, M_total, K_total, N_total⟩ := d_total
  obtain ⟨a_negated, e_negated, F_negated, M_negated, K_negated, N_negated⟩ := d_negated
  obtain ⟨a_minus, e_minus, F_minus, M_minus, K_minus, N_minus⟩ := d_minus
  obtain ⟨a_filled, e_filled, F_filled, M_filled, K_filled, N_filled⟩ := d_filled
  obtain ⟨a_followed, e_followed, F_followed, M_followed, K_followed, N_followed⟩ := d_followed
  obtain ⟨a__law_less, e__law_less, F__law_less, M__law_less, K__law_less, N__law_less⟩ := d__law_less
  obtain ⟨a__law_is, e__law_is, F__law_is, M__law_is, K__law_is, N__law_is⟩ := d__law_is
  obtain ⟨a_lag, e_lag, F_lag, M_lag, K_lag, N_lag⟩ := d_lag
  obtain ⟨a__law_plus, e__law_plus, F__law_plus, M__law_plus, K__law_plus, N__law_plus⟩ := d__law_plus
  obtain ⟨a__law_minus, e__law_minus, F__law_minus, M__law_minus, K__law_minus, N__law_minus⟩ := d__law_minus
  obtain ⟨a_law, e_law, F_law, M_law, K_law, N_law⟩ := d_law
  have e := hfa.symm.trans M_law
  cases e
  obtain ⟨oc, od, kV, doc, pm, an, cdv, ct, osl, rfl, lk, hcd⟩ := F_law.ex
  refine ⟨PySem.W.fnOf "law" "law" (defArgs s_law) (defBody s_law) (defScope s_law) .none kV doc pm an cdv ct, fun s v => .of_eq rfl, fun base => ?_⟩
  have C__law_pot : Callee P w K mg base "_law_pot" 1 1 KG.m__law_pot := FnOk.toC (ok__law_pot F__law_pot T ) M__law_pot K__law_pot (F__law_pot.binds (ps := ["_law_script"]) fun _ _ _ _ _ _ us hl => match us, hl with | [_], _ => rfl) N__law_pot
  have C__law_draw : Callee P w K mg base "_law_draw" 1 2 KG.m__law_draw := FnOk.toC (ok__law_draw F__law_draw T ) M__law_draw K__law_draw (F__law_draw.binds (ps := ["_law_pot_here", "_law_many"]) fun _ _ _ _ _ _ us hl => match us, hl with | [_, _], _ => rfl) N__law_draw
  have C__law_doubled : Callee P w K mg base "_law_doubled" 2 2 m__law_doubled := FnOk.toC (ok__law_doubled F__law_doubled T C__law_draw) M__law_doubled K__law_doubled (F__law_doubled.binds (ps := ["_law_pot_here", "_law_adviser_here"]) fun _ _ _ _ _ _ us hl => match us, hl with | [_, _], _ => rfl) N__law_doubled
  have C__law_any : Callee P w K mg base "_law_any" 2 2 KG.m__law_any := FnOk.toC (ok__law_any F__law_any T C__law_draw) M__law_any K__law_any (F__law_any.binds (ps := ["_law_pot_here", "_law_things"]) fun _ _ _ _ _ _ us hl => match us, hl with | [_, _], _ => rfl) N__law_any
  have C__law_gcd : Callee P w K mg base "_law_gcd" 1 2 KG.m__law_gcd := FnOk.toC (ok__law_gcd F__law_gcd T ) M__law_gcd K__law_gcd (F__law_gcd.binds (ps := ["_law_one", "_law_other"]) fun _ _ _ _ _ _ us hl => match us, hl with | [_, _], _ => rfl) N__law_gcd
  have C__law_fraction : Callee P w K mg base "_law_fraction" 2 2 KG.m__law_fraction := FnOk.toC (ok__law_fraction F__law_fraction T C__law_gcd) M__law_fraction K__law_fraction (F__law_fraction.binds (ps := ["_law_top", "_law_bottom"]) fun _ _ _ _ _ _ us hl => match us, hl with | [_, _], _ => rfl) N__law_fraction
  have C__law_halved : Callee P w K mg base "_law_halved" 3 1 m__law_halved := FnOk.toC (ok__law_halved F__law_halved T C__law_fraction) M__law_halved K__law_halved (F__law_halved.binds (ps := ["_law_n"]) fun _ _ _ _ _ _ us hl => match us, hl with | [_], _ => rfl) N__law_halved
  have C_nothing_heard : Callee P w K mg base "nothing_heard" 1 1 KG.m_nothing_heard := FnOk.toC (ok_nothing_heard F_nothing_heard T ) M_nothing_heard K_nothing_heard (F_nothing_heard.binds (ps := ["circle"]) fun _ _ _ _ _ _ us hl => match us, hl with | [_], _ => rfl) N_nothing_heard
  have C_is_whole : Callee P w K mg base "is_whole" 1 1 KG.m_is_whole := FnOk.toC (ok_is_whole F_is_whole T ) M_is_whole K_is_whole (F_is_whole.binds (ps := ["thing"]) fun _ _ _ _ _ _ us hl => match us, hl with | [_], _ => rfl) N_is_whole
  have C_is_size : Callee P w K mg base "is_size" 2 1 KG.m_is_size := FnOk.toC (ok_is_size F_is_size T C_is_whole) M_is_size K_is_size (F_is_size.binds (ps := ["thing"]) fun _ _ _ _ _ _ us hl => match us, hl with | [_], _ => rfl) N_is_size
  have C_is_below : Callee P w K mg base "is_below" 2 2 KG.m_is_below := FnOk.toC (ok_is_below F_is_below T C_is_whole) M_is_below K_is_below (F_is_below.binds (ps := ["thing", "end"]) fun _ _ _ _ _ _ us hl => match us, hl with | [_, _], _ => rfl) N_is_below
  have C_are_below : Callee P w K mg base "are_below" 3 3 KG.m_are_below := FnOk.toC (ok_are_below F_are_below T C_is_below) M_are_below K_are_below (F_are_below.binds (ps := ["thing", "many", "end"]) fun _ _ _ _ _ _ us hl => match us, hl with | [_, _, _], _ => rfl) N_are_below
  have C_is_advice : Callee P w K mg base "is_advice" 4 3 KG.m_is_advice := FnOk.toC (ok_is_advice F_is_advice T C_is_below C_are_below) M_is_advice K_is_advice (F_is_advice.binds (ps := ["thing", "size", "states"]) fun _ _ _ _ _ _ us hl => match us, hl with | [_, _, _], _ => rfl) N_is_advice
  have C_is_ruled : Callee P w K mg base "is_ruled" 5 3 KG.m_is_ruled := FnOk.toC (ok_is_ruled F_is_ruled T C_is_size C_is_advice) M_is_ruled K_is_ruled (F_is_ruled.binds (ps := ["thing", "most", "judge"]) fun _ _ _ _ _ _ us hl => match us, hl with | [_, _, _], _ => rfl) N_is_ruled
  have C_is_adviser : Callee P w K mg base "is_adviser" 6 1 KG.m_is_adviser := FnOk.toC (ok_is_adviser F_is_adviser T C_is_ruled C_is_advice) M_is_adviser K_is_adviser (F_is_adviser.binds (ps := ["thing"]) fun _ _ _ _ _ _ us hl => match us, hl with | [_], _ => rfl) N_is_adviser
  have C_is_circle : Callee P w K mg base "is_circle" 7 1 KG.m_is_circle := FnOk.toC (ok_is_circle F_is_circle T C_is_adviser) M_is_circle K_is_circle (F_is_circle.binds (ps := ["thing"]) fun _ _ _ _ _ _ us hl => match us, hl with | [_], _ => rfl) N_is_circle
  have C_is_row : Callee P w K mg base "is_row" 3 2 KG.m_is_row := FnOk.toC (ok_is_row F_is_row T C_is_size C_is_below) M_is_row K_is_row (F_is_row.binds (ps := ["size", "thing"]) fun _ _ _ _ _ _ us hl => match us, hl with | [_, _], _ => rfl) N_is_row
  have C_heard : Callee P w K mg base "heard" 1 4 KG.m_heard := FnOk.toC (ok_heard F_heard T ) M_heard K_heard (F_heard.binds (ps := ["circle", "states", "missed", "letter"]) fun _ _ _ _ _ _ us hl => match us, hl with | [_, _, _, _], _ => rfl) N_heard
  have C_adviser_misses : Callee P w K mg base "adviser_misses" 8 2 KG.m_adviser_misses := FnOk.toC (ok_adviser_misses F_adviser_misses T C_nothing_heard C_is_circle C_is_row C_heard) M_adviser_misses K_adviser_misses (F_adviser_misses.binds (ps := ["circle", "row"]) fun _ _ _ _ _ _ us hl => match us, hl with | [_, _], _ => rfl) N_adviser_misses
  have C__law_adviser : Callee P w K mg base "_law_adviser" 2 3 KG.m__law_adviser := FnOk.toC (ok__law_adviser F__law_adviser T C__law_draw) M__law_adviser K__law_adviser (F__law_adviser.binds (ps := ["_law_pot_here", "_law_size", "_law_most"]) fun _ _ _ _ _ _ us hl => match us, hl with | [_, _, _], _ => rfl) N__law_adviser
  have C__law_against : Callee P w K mg base "_law_against" 1 1 m__law_against := FnOk.toC (ok__law_against F__law_against T ) M__law_against K__law_against (F__law_against.binds (ps := ["_law_adviser_here"]) fun _ _ _ _ _ _ us hl => match us, hl with | [_], _ => rfl) N__law_against
  have C_check_circle : Callee P w K mg base "check_circle" 8 2 KG.m_check_circle := FnOk.toC (ok_check_circle F_check_circle T C_is_circle C_is_below) M_check_circle K_check_circle (F_check_circle.binds (ps := ["circle", "n"]) fun _ _ _ _ _ _ us hl => match us, hl with | [_, _], _ => rfl) N_check_circle
  have C_ways : Callee P w K mg base "ways" 2 2 KG.m_ways := FnOk.toC (ok_ways F_ways T C_heard) M_ways K_ways (F_ways.binds (ps := ["circle", "place"]) fun _ _ _ _ _ _ us hl => match us, hl with | [_, _], _ => rfl) N_ways
  have C_places_within : Callee P w K mg base "places_within" 3 2 KG.m_places_within := FnOk.toC (ok_places_within F_places_within T C_nothing_heard C_ways) M_places_within K_places_within (F_places_within.binds (ps := ["circle", "n"]) fun _ _ _ _ _ _ us hl => match us, hl with | [_, _], _ => rfl) N_places_within
  have C_best_lot : Callee P w K mg base "best_lot" 1 2 KG.m_best_lot := FnOk.toC (ok_best_lot F_best_lot T ) M_best_lot K_best_lot (F_best_lot.binds (ps := ["tops", "bottom"]) fun _ _ _ _ _ _ us hl => match us, hl with | [_, _], _ => rfl) N_best_lot
  have C_worths_in : Callee P w K mg base "worths_in" 1 3 KG.m_worths_in := FnOk.toC (ok_worths_in F_worths_in T ) M_worths_in K_worths_in (F_worths_in.binds (ps := ["steps", "lags", "scale"]) fun _ _ _ _ _ _ us hl => match us, hl with | [_, _, _], _ => rfl) N_worths_in
  have C_lags_from : Callee P w K mg base "lags_from" 2 2 KG.m_lags_from := FnOk.toC (ok_lags_from F_lags_from T C_best_lot C_worths_in) M_lags_from K_lags_from (F_lags_from.binds (ps := ["found", "many"]) fun _ _ _ _ _ _ us hl => match us, hl with | [_, _], _ => rfl) N_lags_from
  have C_top_over : Callee P w K mg base "top_over" 1 2 KG.m_top_over := FnOk.toC (ok_top_over F_top_over T ) M_top_over K_top_over (F_top_over.binds (ps := ["fraction", "bottom"]) fun _ _ _ _ _ _ us hl => match us, hl with | [_, _], _ => rfl) N_top_over
  have C_common : Callee P w K mg base "common" 2 1 KG.m_common := FnOk.toC (ok_common F_common T C_top_over) M_common K_common (F_common.binds (ps := ["fractions"]) fun _ _ _ _ _ _ us hl => match us, hl with | [_], _ => rfl) N_common
  have C_reduced : Callee P w K mg base "reduced" 1 2 KG.m_reduced := FnOk.toC (ok_reduced F_reduced T ) M_reduced K_reduced (F_reduced.binds (ps := ["top", "bottom"]) fun _ _ _ _ _ _ us hl => match us, hl with | [_, _], _ => rfl) N_reduced
  have C_is_fraction : Callee P w K mg base "is_fraction" 2 1 KG.m_is_fraction := FnOk.toC (ok_is_fraction F_is_fraction T C_is_whole) M_is_fraction K_is_fraction (F_is_fraction.binds (ps := ["thing"]) fun _ _ _ _ _ _ us hl => match us, hl with | [_], _ => rfl) N_is_fraction
  have C_is_worths : Callee P w K mg base "is_worths" 3 1 KG.m_is_worths := FnOk.toC (ok_is_worths F_is_worths T C_is_fraction) M_is_worths K_is_worths (F_is_worths.binds (ps := ["thing"]) fun _ _ _ _ _ _ us hl => match us, hl with | [_], _ => rfl) N_is_worths
  have C_level : Callee P w K mg base "level" 4 1 KG.m_level := FnOk.toC (ok_level F_level T C_common C_best_lot C_reduced C_is_worths) M_level K_level (F_level.binds (ps := ["worths"]) fun _ _ _ _ _ _ us hl => match us, hl with | [_], _ => rfl) N_level
  have C_total : Callee P w K mg base "total" 2 1 KG.m_total := FnOk.toC (ok_total F_total T C_reduced) M_total K_total (F_total.binds (ps := ["parts"]) fun _ _ _ _ _ _ us hl => match us, hl with | [_], _ => rfl) N_total
  have C_negated : Callee P w K mg base "negated" 1 1 KG.m_negated := FnOk.toC (ok_negated F_negated T ) M_negated K_negated (F_negated.binds (ps := ["fraction"]) fun _ _ _ _ _ _ us hl => match us, hl with | [_], _ => rfl) N_negated
  have C_minus : Callee P w K mg base "minus" 3 2 KG.m_minus := FnOk.toC (ok_minus F_minus T C_total C_negated) M_minus K_minus (F_minus.binds (ps := ["one", "other"]) fun _ _ _ _ _ _ us hl => match us, hl with | [_, _], _ => rfl) N_minus
  have C_filled : Callee P w K mg base "filled" 5 1 KG.m_filled := FnOk.toC (ok_filled F_filled T C_level C_minus C_total) M_filled K_filled (F_filled.binds (ps := ["worths"]) fun _ _ _ _ _ _ us hl => match us, hl with | [_], _ => rfl) N_filled
  have C_followed : Callee P w K mg base "followed" 9 3 KG.m_followed := FnOk.toC (ok_followed F_followed T C_check_circle C_places_within C_nothing_heard C_lags_from C_worths_in C_filled C_ways C_is_row C_reduced) M_followed K_followed (F_followed.binds (ps := ["circle", "n", "row"]) fun _ _ _ _ _ _ us hl => match us, hl with | [_, _, _], _ => rfl) N_followed
  have C__law_less : Callee P w K mg base "_law_less" 1 2 KG.m__law_less := FnOk.toC (ok__law_less F__law_less T ) M__law_less K__law_less (F__law_less.binds (ps := ["_law_one", "_law_other"]) fun _ _ _ _ _ _ us hl => match us, hl with | [_, _], _ => rfl) N__law_less
  have C__law_is : Callee P w K mg base "_law_is" 5 2 KG.m__law_is := FnOk.toC (ok__law_is F__law_is T  M__law_is K__law_is (F__law_is.binds (ps := ["_law_told", "_law_due"]) fun _ _ _ _ _ _ us hl => match us, hl with | [_, _], _ => rfl) N__law_is 4) M__law_is K__law_is (F__law_is.binds (ps := ["_law_told", "_law_due"]) fun _ _ _ _ _ _ us hl => match us, hl with | [_, _], _ => rfl) N__law_is
  have C_lag : Callee P w K mg base "lag" 9 2 KG.m_lag := FnOk.toC (ok_lag F_lag T C_check_circle C_lags_from C_reduced C_places_within C_nothing_heard) M_lag K_lag (F_lag.binds (ps := ["circle", "n"]) fun _ _ _ _ _ _ us hl => match us, hl with | [_, _], _ => rfl) N_lag
  have C__law_plus : Callee P w K mg base "_law_plus" 3 2 KG.m__law_plus := FnOk.toC (ok__law_plus F__law_plus T C__law_fraction) M__law_plus K__law_plus (F__law_plus.binds (ps := ["_law_one", "_law_other"]) fun _ _ _ _ _ _ us hl => match us, hl with | [_, _], _ => rfl) N__law_plus
  have C__law_minus : Callee P w K mg base "_law_minus" 3 2 KG.m__law_minus := FnOk.toC (ok__law_minus F__law_minus T C__law_fraction) M__law_minus K__law_minus (F__law_minus.binds (ps := ["_law_one", "_law_other"]) fun _ _ _ _ _ _ us hl => match us, hl with | [_, _], _ => rfl) N__law_minus
  exact (ok_law F_law T C__law_pot C__law_doubled C__law_any C__law_halved C_adviser_misses C__law_adviser C__law_draw C__law_against C_followed C__law_less C__law_is C_lag C__law_plus C__law_minus).imp (law_imp law_true)
end K43
open PySem PySem.W PyProof.Rows
set_option maxRecDepth 100000 in
set_option maxHeartbeats 0 in
theorem PySem.Challenge.cw_keptmisses_k43_whole_advisers_who_always_holds : PySem.Challenge.rw_keptmisses_k43_whole_advisers_who_always.Holds := by
  w_on; o_law; k_head; (case hw => w_witness2)
  k_fill
  refine KM.law_walk (l := PySem.Challenge.rw_keptmisses_k43_whole_advisers_who_always) (k := 10) (x := "_law_script") rfl rfl ⟨rfl, by decide, by decide⟩ (fun w h Y => PySem.W.kIn_of Y) ?F
  case F =>
    intro w mg fa h KX G hmg
    have z_abs : mg "abs" = none := by (refine' PySem.W.mg_none_of KX G ?z); (case z => k_is)
    have z_all : mg "all" = none := by (refine' PySem.W.mg_none_of KX G ?z); (case z => k_is)
    have z_bool : mg "bool" = none := by (refine' PySem.W.mg_none_of KX G ?z); (case z => k_is)
    have z_enumerate : mg "enumerate" = none := by (refine' PySem.W.mg_none_of KX G ?z); (case z => k_is)
    have z_int : mg "int" = none := by (refine' PySem.W.mg_none_of KX G ?z); (case z => k_is)
    have z_isinstance : mg "isinstance" = none := by (refine' PySem.W.mg_none_of KX G ?z); (case z => k_is)
    have z_len : mg "len" = none := by (refine' PySem.W.mg_none_of KX G ?z); (case z => k_is)
    have z_list : mg "list" = none := by (refine' PySem.W.mg_none_of KX G ?z); (case z => k_is)
    have z_min : mg "min" = none := by (refine' PySem.W.mg_none_of KX G ?z); (case z => k_is)
    have z_range : mg "range" = none := by (refine' PySem.W.mg_none_of KX G ?z); (case z => k_is)
    have z_reversed : mg "reversed" = none := by (refine' PySem.W.mg_none_of KX G ?z); (case z => k_is)
    have z_sorted : mg "sorted" = none := by (refine' PySem.W.mg_none_of KX G ?z); (case z => k_is)
    have z_sum : mg "sum" = none := by (refine' PySem.W.mg_none_of KX G ?z); (case z => k_is)
    have z_tuple : mg "tuple" = none := by (refine' PySem.W.mg_none_of KX G ?z); (case z => k_is)
    have z_zip : mg "zip" = none := by (refine' PySem.W.mg_none_of KX G ?z); (case z => k_is)
    have z_gcd : mg "gcd" = some (.builtin "math.gcd") := by (refine' PySem.W.mg_of KX G ?z); (case z => k_is)
    have z_lcm : mg "lcm" = some (.builtin "math.lcm") := by (refine' PySem.W.mg_of KX G ?z); (case z => k_is)
    have c_LEAST_SIZE : KM.GlobC (L2.KOf KX) mg "LEAST_SIZE" (.int 2) := by (refine' KM.globI_mk KX G ?z); (case z => k_is)
    have c_MOST_ADVISERS : KM.GlobC (L2.KOf KX) mg "MOST_ADVISERS" (.int 4) := by (refine' KM.globI_mk KX G ?z); (case z => k_is)
    have c_MOST_ADVISER_STATES : KM.GlobC (L2.KOf KX) mg "MOST_ADVISER_STATES" (.int 6) := by (refine' KM.globI_mk KX G ?z); (case z => k_is)
    have c_MOST_AHEAD : KM.GlobC (L2.KOf KX) mg "MOST_AHEAD" (.int 10) := by (refine' KM.globI_mk KX G ?z); (case z => k_is)
    have c_MOST_LETTERS : KM.GlobC (L2.KOf KX) mg "MOST_LETTERS" (.int 400) := by (refine' KM.globI_mk KX G ?z); (case z => k_is)
    have c_MOST_SIZE : KM.GlobC (L2.KOf KX) mg "MOST_SIZE" (.int 4) := by (refine' KM.globI_mk KX G ?z); (case z => k_is)
    have c_MOST_TUPLES : KM.GlobC (L2.KOf KX) mg "MOST_TUPLES" (.int 3000) := by (refine' KM.globI_mk KX G ?z); (case z => k_is)
    have c_ONE : KM.GlobC (L2.KOf KX) mg "ONE" (.tup [.int 1, .int 1]) := by (refine' KM.globT_mk KX G ?z ?y); (case z => k_is); (case y => k_is)
    have c_SIZES_MULTIPLE : KM.GlobC (L2.KOf KX) mg "SIZES_MULTIPLE" (.int 12) := by (refine' KM.globI_mk KX G ?z); (case z => k_is)
    have c_ZERO : KM.GlobC (L2.KOf KX) mg "ZERO" (.tup [.int 0, .int 1]) := by (refine' KM.globT_mk KX G ?z ?y); (case z => k_is); (case y => k_is)
    have x_NoSize : KM.ExcAt (L2.KOf KX) mg "NoSize" := by (refine' KM.excAt_mk KX G ?x0a ?x0q ?x0k ?x0b ?x0t); (case x0a => k_is); (case x0q => k_exc); (case x0k => k_is); (case x0b => k_is); (case x0t => k_is)
    have x_NoCircle : KM.ExcAt (L2.KOf KX) mg "NoCircle" := by (refine' KM.excAt_mk KX G ?x1a ?x1q ?x1k ?x1b ?x1t); (case x1a => k_is); (case x1q => k_exc); (case x1k => k_is); (case x1b => k_is); (case x1t => k_is)
    have x_NoRow : KM.ExcAt (L2.KOf KX) mg "NoRow" := by (refine' KM.excAt_mk KX G ?x2a ?x2q ?x2k ?x2b ?x2t); (case x2a => k_is); (case x2q => k_exc); (case x2k => k_is); (case x2b => k_is); (case x2t => k_is)
    have x_NoNumber : KM.ExcAt (L2.KOf KX) mg "NoNumber" := by (refine' KM.excAt_mk KX G ?x3a ?x3q ?x3k ?x3b ?x3t); (case x3a => k_is); (case x3q => k_exc); (case x3k => k_is); (case x3b => k_is); (case x3t => k_is)
    have x_NoWorths : KM.ExcAt (L2.KOf KX) mg "NoWorths" := by (refine' KM.excAt_mk KX G ?x4a ?x4q ?x4k ?x4b ?x4t); (case x4a => k_is); (case x4q => k_exc); (case x4k => k_is); (case x4b => k_is); (case x4t => k_is)
    have d__law_pot : KM.DefAt (L2.KOf KX) mg "_law_pot" K43.s__law_pot := by (refine' KM.def_mk KX G ?a ?l ?c ?k); (case a => k_is); (case l => k_is); (case c => k_is); (case k => k_is)
    have d__law_draw : KM.DefAt (L2.KOf KX) mg "_law_draw" K43.s__law_draw := by (refine' KM.def_mk KX G ?a ?l ?c ?k); (case a => k_is); (case l => k_is); (case c => k_is); (case k => k_is)
    have d__law_doubled : KM.DefAt (L2.KOf KX) mg "_law_doubled" K43.s__law_doubled := by (refine' KM.def_mk KX G ?a ?l ?c ?k); (case a => k_is); (case l => k_is); (case c => k_is); (case k => k_is)
    have d__law_any : KM.DefAt (L2.KOf KX) mg "_law_any" K43.s__law_any := by (refine' KM.def_mk KX G ?a ?l ?c ?k); (case a => k_is); (case l => k_is); (case c => k_is); (case k => k_is)
    have d__law_gcd : KM.DefAt (L2.KOf KX) mg "_law_gcd" K43.s__law_gcd := by (refine' KM.def_mk KX G ?a ?l ?c ?k); (case a => k_is); (case l => k_is); (case c => k_is); (case k => k_is)
    have d__law_fraction : KM.DefAt (L2.KOf KX) mg "_law_fraction" K43.s__law_fraction := by (refine' KM.def_mk KX G ?a ?l ?c ?k); (case a => k_is); (case l => k_is); (case c => k_is); (case k => k_is)
    have d__law_halved : KM.DefAt (L2.KOf KX) mg "_law_halved" K43.s__law_halved := by (refine' KM.def_mk KX G ?a ?l ?c ?k); (case a => k_is); (case l => k_is); (case c => k_is); (case k => k_is)
    have d_nothing_heard : KM.DefAt (L2.KOf KX) mg "nothing_heard" K43.s_nothing_heard := by (refine' KM.def_mk KX G ?a ?l ?c ?k); (case a => k_is); (case l => k_is); (case c => k_is); (case k => k_is)
    have d_is_whole : KM.DefAt (L2.KOf KX) mg "is_whole" K43.s_is_whole := by (refine' KM.def_mk KX G ?a ?l ?c ?k); (case a => k_is); (case l => k_is); (case c => k_is); (case k => k_is)
    have d_is_size : KM.DefAt (L2.KOf KX) mg "is_size" K43.s_is_size := by (refine' KM.def_mk KX G ?a ?l ?c ?k); (case a => k_is); (case l => k_is); (case c => k_is); (case k => k_is)
    have d_is_below : KM.DefAt (L2.KOf KX) mg "is_below" K43.s_is_below := by (refine' KM.def_mk KX G ?a ?l ?c ?k); (case a => k_is); (case l => k_is); (case c => k_is); (case k => k_is)
    have d_are_below : KM.DefAt (L2.KOf KX) mg "are_below" K43.s_are_below := by (refine' KM.def_mk KX G ?a ?l ?c ?k); (case a => k_is); (case l => k_is); (case c => k_is); (case k => k_is)
    have d_is_advice : KM.DefAt (L2.KOf KX) mg "is_advice" K43.s_is_advice := by (refine' KM.def_mk KX G ?a ?l ?c ?k); (case a => k_is); (case l => k_is); (case c => k_is); (case k => k_is)
    have d_is_ruled : KM.DefAt (L2.KOf KX) mg "is_ruled" K43.s_is_ruled := by (refine' KM.def_mk KX G ?a ?l ?c ?k); (case a => k_is); (case l => k_is); (case c => k_is); (case k => k_is)
    have d_is_adviser : KM.DefAt (L2.KOf KX) mg "is_adviser" K43.s_is_adviser := by (refine' KM.def_mk KX G ?a ?l ?c ?k); (case a => k_is); (case l => k_is); (case c => k_is); (case k => k_is)
    have d_is_circle : KM.DefAt (L2.KOf KX) mg "is_circle" K43.s_is_circle := by (refine' KM.def_mk KX G ?a ?l ?c ?k); (case a => k_is); (case l => k_is); (case c => k_is); (case k => k_is)
    have d_is_row : KM.DefAt (L2.KOf KX) mg "is_row" K43.s_is_row := by (refine' KM.def_mk KX G ?a ?l ?c ?k); (case a => k_is); (case l => k_is); (case c => k_is); (case k => k_is)
    have d_heard : KM.DefAt (L2.KOf KX) mg "heard" K43.s_heard := by (refine' KM.def_mk KX G ?a ?l ?c ?k); (case a => k_is); (case l => k_is); (case c => k_is); (case k => k_is)
    have d_adviser_misses : KM.DefAt (L2.KOf KX) mg "adviser_misses" K43.s_adviser_misses := by (refine' KM.def_mk KX G ?a ?l ?c ?k); (case a => k_is); (case l => k_is); (case c => k_is); (case k => k_is)
    have d__law_adviser : KM.DefAt (L2.KOf KX) mg "_law_adviser" K43.s__law_adviser := by (refine' KM.def_mk KX G ?a ?l ?c ?k); (case a => k_is); (case l => k_is); (case c => k_is); (case k => k_is)
    have d__law_against : KM.DefAt (L2.KOf KX) mg "_law_against" K43.s__law_against := by (refine' KM.def_mk KX G ?a ?l ?c ?k); (case a => k_is); (case l => k_is); (case c => k_is); (case k => k_is)
    have d_check_circle : KM.DefAt (L2.KOf KX) mg "check_circle" K43.s_check_circle := by (refine' KM.def_mk KX G ?a ?l ?c ?k); (case a => k_is); (case l => k_is); (case c => k_is); (case k => k_is)
    have d_ways : KM.DefAt (L2.KOf KX) mg "ways" K43.s_ways := by (refine' KM.def_mk KX G ?a ?l ?c ?k); (case a => k_is); (case l => k_is); (case c => k_is); (case k => k_is)
    have d_places_within : KM.DefAt (L2.KOf KX) mg "places_within" K43.s_places_within := by (refine' KM.def_mk KX G ?a ?l ?c ?k); (case a => k_is); (case l => k_is); (case c => k_is); (case k => k_is)
    have d_best_lot : KM.DefAt (L2.KOf KX) mg "best_lot" K43.s_best_lot := by (refine' KM.def_mk KX G ?a ?l ?c ?k); (case a => k_is); (case l => k_is); (case c => k_is); (case k => k_is)
    have d_worths_in : KM.DefAt (L2.KOf KX) mg "worths_in" K43.s_worths_in := by (refine' KM.def_mk KX G ?a ?l ?c ?k); (case a => k_is); (case l => k_is); (case c => k_is); (case k => k_is)
    have d_lags_from : KM.DefAt (L2.KOf KX) mg "lags_from" K43.s_lags_from := by (refine' KM.def_mk KX G ?a ?l ?c ?k); (case a => k_is); (case l => k_is); (case c => k_is); (case k => k_is)
    have d_top_over : KM.DefAt (L2.KOf KX) mg "top_over" K43.s_top_over := by (refine' KM.def_mk KX G ?a ?l ?c ?k); (case a => k_is); (case l => k_is); (case c => k_is); (case k => k_is)
    have d_common : KM.DefAt (L2.KOf KX) mg "common" K43.s_common := by (refine' KM.def_mk KX G ?a ?l ?c ?k); (case a => k_is); (case l => k_is); (case c => k_is); (case k => k_is)
    have d_reduced : KM.DefAt (L2.KOf KX) mg "reduced" K43.s_reduced := by (refine' KM.def_mk KX G ?a ?l ?c ?k); (case a => k_is); (case l => k_is); (case c => k_is); (case k => k_is)
    have d_is_fraction : KM.DefAt (L2.KOf KX) mg "is_fraction" K43.s_is_fraction := by (refine' KM.def_mk KX G ?a ?l ?c ?k); (case a => k_is); (case l => k_is); (case c => k_is); (case k => k_is)
    have d_is_worths : KM.DefAt (L2.KOf KX) mg "is_worths" K43.s_is_worths := by (refine' KM.def_mk KX G ?a ?l ?c ?k); (case a => k_is); (case l => k_is); (case c => k_is); (case k => k_is)
    have d_level : KM.DefAt (L2.KOf KX) mg "level" K43.s_level := by (refine' KM.def_mk KX G ?a ?l ?c ?k); (case a => k_is); (case l => k_is); (case c => k_is); (case k => k_is)
    have d_total : KM.DefAt (L2.KOf KX) mg "total" K43.s_total := by (refine' KM.def_mk KX G ?a ?l ?c ?k); (case a => k_is); (case l => k_is); (case c => k_is); (case k => k_is)
    have d_negated : KM.DefAt (L2.KOf KX) mg "negated" K43.s_negated := by (refine' KM.def_mk KX G ?a ?l ?c ?k); (case a => k_is); (case l => k_is); (case c => k_is); (case k => k_is)
    have d_minus : KM.DefAt (L2.KOf KX) mg "minus" K43.s_minus := by (refine' KM.def_mk KX G ?a ?l ?c ?k); (case a => k_is); (case l => k_is); (case c => k_is); (case k => k_is)
    have d_filled : KM.DefAt (L2.KOf KX) mg "filled" K43.s_filled := by (refine' KM.def_mk KX G ?a ?l ?c ?k); (case a => k_is); (case l => k_is); (case c => k_is); (case k => k_is)
    have d_followed : KM.DefAt (L2.KOf KX) mg "followed" K43.s_followed := by (refine' KM.def_mk KX G ?a ?l ?c ?k); (case a => k_is); (case l => k_is); (case c => k_is); (case k => k_is)
    have d__law_less : KM.DefAt (L2.KOf KX) mg "_law_less" K43.s__law_less := by (refine' KM.def_mk KX G ?a ?l ?c ?k); (case a => k_is); (case l => k_is); (case c => k_is); (case k => k_is)
    have d__law_is : KM.DefAt (L2.KOf KX) mg "_law_is" K43.s__law_is := by (refine' KM.def_mk KX G ?a ?l ?c ?k); (case a => k_is); (case l => k_is); (case c => k_is); (case k => k_is)
    have d_lag : KM.DefAt (L2.KOf KX) mg "lag" K43.s_lag := by (refine' KM.def_mk KX G ?a ?l ?c ?k); (case a => k_is); (case l => k_is); (case c => k_is); (case k => k_is)
    have d__law_plus : KM.DefAt (L2.KOf KX) mg "_law_plus" K43.s__law_plus := by (refine' KM.def_mk KX G ?a ?l ?c ?k); (case a => k_is); (case l => k_is); (case c => k_is); (case k => k_is)
    have d__law_minus : KM.DefAt (L2.KOf KX) mg "_law_minus" K43.s__law_minus := by (refine' KM.def_mk KX G ?a ?l ?c ?k); (case a => k_is); (case l => k_is); (case c => k_is); (case k => k_is)
    have d_law : KM.DefAt (L2.KOf KX) mg "law" K43.s_law := by (refine' KM.def_mk KX G ?a ?l ?c ?k); (case a => k_is); (case l => k_is); (case c => k_is); (case k => k_is)
    obtain ⟨fd, h1, h2⟩ := K43.all_ok (P := (PySem.Challenge.rw_keptmisses_k43_whole_advisers_who_always).prog) (w := w) hmg ⟨z_abs, z_all, z_bool, z_enumerate, z_int, z_isinstance, z_len, z_list, z_min, z_range, z_reversed, z_sorted, z_sum, z_tuple, z_zip, z_gcd, z_lcm, c_LEAST_SIZE, c_MOST_ADVISERS, c_MOST_ADVISER_STATES, c_MOST_AHEAD, c_MOST_LETTERS, c_MOST_SIZE, c_MOST_TUPLES, c_ONE, c_SIZES_MULTIPLE, c_ZERO, x_NoSize, x_NoCircle, x_NoRow, x_NoNumber, x_NoWorths⟩ d__law_pot d__law_draw d__law_doubled d__law_any d__law_gcd d__law_fraction d__law_halved d_nothing_heard d_is_whole d_is_size d_is_below d_are_below d_is_advice d_is_ruled d_is_adviser d_is_circle d_is_row d_heard d_adviser_misses d__law_adviser d__law_against d_check_circle d_ways d_places_within d_best_lot d_worths_in d_lags_from d_top_over d_common d_reduced d_is_fraction d_is_worths d_level d_total d_negated d_minus d_filled d_followed d__law_less d__law_is d_lag d__law_plus d__law_minus d_law
    exact ⟨fd, h1, fun base _ _ => h2 base⟩
