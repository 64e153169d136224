import PyProof.Rows.All
import Wide.All
import OpenK.AllK
import Wide.FinOn
import HandS.ForMost
import HandS.ForExc
import HandS.Evl
import HandS.Walk
import HandS.Zip
import HandS.Gcd
import HandS.Wide
import HandS.IsInst
import HandS.TupAny
import HandS.TupMul
import HandS.TryMany
import HandS.EndBits
import HandS.SortInts
import HandS.RaiseMore
import HandS.Small
import HandS.More
import HandS.Conv
import HandS.SortRule
import HandS.Iter
import HandS.Style
import KE.GoesNew
import PySem.Challenge.RW_keptmisses_k44_advisers_and_circles_judg
set_option Elab.async false
set_option linter.all false
set_option maxRecDepth 100000
set_option maxHeartbeats 2000000
/-! Programs over data: values are told by trees of data (D), what changes is told by a store (M). -/
namespace KM
open PySem L2 PySem.Spec PyProof.Rows

inductive D where
  | non
  | bl (b : Bool)
  | int (i : Int)
  | str (s : Str)
  | tup (xs : List D)
  | lst (xs : List D)
  | rol (xs : List D)
  | ref (k : Nat)
  | obj (a : Addr)
  | fn (x : Str)
  | dct
inductive MO where
  | lst (xs : List D)
  | dct (kvs : List (Int × D))

mutual
inductive Rep (K : PySem.W.Frag) (I : Hp) (as : List Addr) : V → D → Prop
  | non : Rep K I as .non .non
  | bl (b : Bool) : Rep K I as (.bl b) (.bl b)
  | int (i : Int) : Rep K I as (.int i) (.int i)
  | str (s : Str) : Rep K I as (.str s) (.str s)
  | tup {a : Addr} {xs : List V} {ds : List D} : SqT K I a xs → Reps K I as xs ds → Rep K I as (.ref a) (.tup ds)
  | lst {a : Addr} {xs : List V} {ds : List D} : I a = some (.lst xs) → Reps K I as xs ds → Rep K I as (.ref a) (.lst ds)
  | rol {a : Addr} {xs : List V} {ds : List D} : SqL K I a xs → Reps K I as xs ds → Rep K I as (.ref a) (.rol ds)
  | ref {k : Nat} {a : Addr} : as[k]? = some a → Rep K I as (.ref a) (.ref k)
  | obj (a : Addr) : Rep K I as (.ref a) (.obj a)
  | fn {a : Addr} {x : Str} : PySem.W.nsIn K mainGlobals x = some (some (.ref a)) → Rep K I as (.ref a) (.fn x)
  | dct {a : Addr} {kvs : List (L2.Key × V)} : I a = some (.dK kvs) → Rep K I as (.ref a) .dct
inductive Reps (K : PySem.W.Frag) (I : Hp) (as : List Addr) : List V → List D → Prop
  | nil : Reps K I as [] []
  | cons {v : V} {vs : List V} {d : D} {ds : List D} : Rep K I as v d → Reps K I as vs ds → Reps K I as (v :: vs) (d :: ds)
end
/-- the world grows -/
structure Gr (I : Hp) (as : List Addr) (I' : Hp) (as' : List Addr) : Prop where
  sub : ∀ a o, I a = some o → I' a = some o
  pre : ∃ t, as' = as ++ t
theorem Gr.refl (I : Hp) (as : List Addr) : Gr I as I as := ⟨fun _ _ h => h, [], by simp⟩
theorem Gr.trans {I I1 I2 : Hp} {as as1 as2 : List Addr} (g : Gr I as I1 as1) (h : Gr I1 as1 I2 as2) : Gr I as I2 as2 := by
  obtain ⟨s, t, rfl⟩ := g
  obtain ⟨s', t', rfl⟩ := h
  exact ⟨fun a o e => s' a o (s a o e), t ++ t', by simp⟩
theorem Gr.at {I I' : Hp} {as as' : List Addr} (g : Gr I as I' as') {k : Nat} {a : Addr} (h : as[k]? = some a) : as'[k]? = some a := by
  obtain ⟨_, t, rfl⟩ := g
  have hk : k < as.length := (List.getElem?_eq_some_iff.mp h).1
  rw [List.getElem?_append_left hk]
  exact h
mutual
theorem Rep.mono {K : PySem.W.Frag} {I I' : Hp} {as as' : List Addr} (g : Gr I as I' as') : ∀ {v : V} {d : D}, Rep K I as v d → Rep K I' as' v d
  | _, _, .non => .non
  | _, _, .bl b => .bl b
  | _, _, .int b => .int b
  | _, _, .str b => .str b
  | _, _, .tup h r => .tup (Evl.ex_t g.sub h) (Reps.mono g r)
  | _, _, .lst h r => .lst (g.sub _ _ h) (Reps.mono g r)
  | _, _, .rol h r => .rol (Evl.ex_l g.sub h) (Reps.mono g r)
  | _, _, .ref h => .ref (g.at h)
  | _, _, .obj a => .obj a
  | _, _, .fn h => .fn h
  | _, _, .dct h => .dct (g.sub _ _ h)
theorem Reps.mono {K : PySem.W.Frag} {I I' : Hp} {as as' : List Addr} (g : Gr I as I' as') : ∀ {vs : List V} {ds : List D}, Reps K I as vs ds → Reps K I' as' vs ds
  | _, _, .nil => .nil
  | _, _, .cons h r => .cons (Rep.mono g h) (Reps.mono g r)
end
section
variable {K : PySem.W.Frag} {I : Hp} {as : List Addr}
theorem Reps.len : ∀ {vs : List V} {ds : List D}, Reps K I as vs ds → vs.length = ds.length
  | _, _, .nil => rfl
  | _, _, .cons _ r => by rw [List.length_cons, List.length_cons, Reps.len r]
theorem Reps.get : ∀ {vs : List V} {ds : List D} {i : Nat} {d : D}, Reps K I as vs ds → ds[i]? = some d → ∃ v, vs[i]? = some v ∧ Rep K I as v d
  | _, _, i, d, .nil, h => by simp at h
  | _, _, 0, d, .cons a r, h => by
    have e := Option.some.inj h
    subst e
    exact ⟨_, rfl, a⟩
  | _, _, i + 1, d, .cons a r, h => Reps.get (i := i) r h
theorem Reps.get' : ∀ {vs : List V} {ds : List D} {i : Nat} {v : V}, Reps K I as vs ds → vs[i]? = some v → ∃ d, ds[i]? = some d ∧ Rep K I as v d
  | _, _, i, d, .nil, h => by simp at h
  | _, _, 0, d, .cons a r, h => by
    have e := Option.some.inj h
    subst e
    exact ⟨_, rfl, a⟩
  | _, _, i + 1, d, .cons a r, h => Reps.get' (i := i) r h
theorem Reps.append : ∀ {vs ws : List V} {ds es : List D}, Reps K I as vs ds → Reps K I as ws es → Reps K I as (vs ++ ws) (ds ++ es)
  | _, _, _, _, .nil, h => h
  | _, _, _, _, .cons a r, h => .cons a (Reps.append r h)
theorem Reps.set : ∀ {vs : List V} {ds : List D} {i : Nat} {v : V} {d : D}, Reps K I as vs ds → Rep K I as v d → Reps K I as (vs.set i v) (ds.set i d)
  | _, _, _, _, _, .nil, _ => .nil
  | _, _, 0, _, _, .cons a r, h => .cons h r
  | _, _, i + 1, _, _, .cons a r, h => .cons a (Reps.set (i := i) r h)
theorem Reps.take : ∀ {vs : List V} {ds : List D} (n : Nat), Reps K I as vs ds → Reps K I as (vs.take n) (ds.take n)
  | _, _, 0, _ => .nil
  | _, _, n + 1, .nil => .nil
  | _, _, n + 1, .cons a r => .cons a (Reps.take n r)
theorem Reps.drop : ∀ {vs : List V} {ds : List D} (n : Nat), Reps K I as vs ds → Reps K I as (vs.drop n) (ds.drop n)
  | _, _, 0, h => h
  | _, _, n + 1, .nil => .nil
  | _, _, n + 1, .cons a r => Reps.drop n r
theorem Reps.eraseIdx : ∀ {vs : List V} {ds : List D} (n : Nat), Reps K I as vs ds → Reps K I as (vs.eraseIdx n) (ds.eraseIdx n)
  | _, _, _, .nil => .nil
  | _, _, 0, .cons a r => r
  | _, _, n + 1, .cons a r => .cons a (Reps.eraseIdx n r)
theorem Reps.rep {vs : List V} {ds : List D} (h : Reps K I as vs ds) : ∀ n : Nat, Reps K I as (List.replicate n vs).flatten (List.replicate n ds).flatten
  | 0 => .nil
  | n + 1 => by
    rw [List.replicate_succ, List.replicate_succ, List.flatten_cons, List.flatten_cons]
    exact h.append (Reps.rep h n)
theorem Reps.ints : ∀ {vs : List V} (ns : List Int), vs = ns.map V.int → Reps K I as vs (ns.map D.int)
  | _, [], rfl => .nil
  | _, n :: ns, rfl => .cons (.int n) (Reps.ints ns rfl)
end

def MRep (K : PySem.W.Frag) (I : Hp) (as : List Addr) (H : Hp) (a : Addr) : MO → Prop
  | .lst ds => ∃ vs, H a = some (.lst vs) ∧ Reps K I as vs ds
  | .dct kvs => ∃ vs : List (L2.Key × V), H a = some (.dK vs) ∧ vs.map (fun p => p.1) = kvs.map (fun p => Sum.inl p.1) ∧ Reps K I as (vs.map fun p => p.2) (kvs.map fun p => p.2)
theorem MRep.some {K : PySem.W.Frag} {I : Hp} {as : List Addr} {H : Hp} {a : Addr} {o : MO} (h : MRep K I as H a o) : ∃ u, H a = some u := by
  cases o with
  | lst ds => exact ⟨_, h.choose_spec.1⟩
  | dct ds => exact ⟨_, h.choose_spec.1⟩
theorem MRep.mono {K : PySem.W.Frag} {I I' : Hp} {as as' : List Addr} {H H' : Hp} {a : Addr} {o : MO} (g : Gr I as I' as') (e : H' a = H a) (h : MRep K I as H a o) : MRep K I' as' H' a o := by
  cases o with
  | lst ds =>
    obtain ⟨vs, h1, h2⟩ := h
    exact ⟨vs, e.trans h1, h2.mono g⟩
  | dct ds =>
    obtain ⟨vs, h1, h2, h3⟩ := h
    exact ⟨vs, e.trans h1, h2, h3.mono g⟩
/-- the world: I what never changes, as and M what may, P what somebody keeps for himself -/
structure Wr (K : PySem.W.Frag) (H I : Hp) (as : List Addr) (M : List MO) (P : Hp) : Prop where
  sub : ∀ (a : Addr) (o : HO), I a = some o → H a = some o
  len : as.length = M.length
  nd : as.Nodup
  mu : ∀ (k : Nat) (a : Addr) (o : MO), as[k]? = some a → M[k]? = some o → I a = none ∧ P a = none ∧ MRep K I as H a o
  prv : ∀ (a : Addr) (o : HO), P a = some o → H a = some o ∧ I a = none
section
variable {K : PySem.W.Frag} {H I P : Hp} {as : List Addr} {M : List MO}
theorem Wr.at (w : Wr K H I as M P) {k : Nat} {a : Addr} (h : as[k]? = some a) : ∃ o, M[k]? = some o ∧ I a = none ∧ P a = none ∧ MRep K I as H a o := by
  have hk : k < M.length := by rw [← w.len]; exact (List.getElem?_eq_some_iff.mp h).1
  exact ⟨M[k], List.getElem?_eq_getElem hk, w.mu k a _ h (List.getElem?_eq_getElem hk)⟩
theorem Wr.fresh (w : Wr K H I as M P) {p : Addr} (h : H p = none) : I p = none ∧ P p = none ∧ p ∉ as := by
  refine ⟨?_, ?_, fun hm => ?_⟩
  · cases e : I p with
    | none => rfl
    | some o => rw [w.sub _ _ e] at h; cases h
  · cases e : P p with
    | none => rfl
    | some o => rw [(w.prv _ _ e).1] at h; cases h
  · obtain ⟨k, hk⟩ := List.getElem?_of_mem hm
    obtain ⟨o, _, _, _, m⟩ := w.at hk
    obtain ⟨u, hu⟩ := m.some
    rw [hu] at h; cases h
theorem Wr.newI (w : Wr K H I as M P) {p : Addr} (h : H p = none) (o : HO) : Wr K (upd H p o) (upd I p o) as M P ∧ Gr I as (upd I p o) as := by
  obtain ⟨f1, f2, f3⟩ := w.fresh h
  have g : Gr I as (upd I p o) as := ⟨fun a u e => by rw [upd_ne (ne_of_none e f1)]; exact e, [], by simp⟩
  refine ⟨⟨fun a u e => ?_, w.len, w.nd, fun k a u ha hu => ?_, fun a u e => ?_⟩, g⟩
  · by_cases q : a = p
    · subst q; rw [upd_same] at e ⊢; exact e
    · rw [upd_ne q] at e ⊢; exact w.sub _ _ e
  · have q : a ≠ p := fun z => f3 (by rw [← z]; exact List.mem_of_getElem? ha)
    obtain ⟨m1, m2, m3⟩ := w.mu k a u ha hu
    exact ⟨by rw [upd_ne q]; exact m1, m2, m3.mono g (upd_ne q)⟩
  · obtain ⟨h1, h2⟩ := w.prv _ _ e
    have q : a ≠ p := ne_of_none h1 h
    rw [upd_ne q, upd_ne q]
    exact ⟨h1, h2⟩
theorem Gr.more (I : Hp) (as t : List Addr) : Gr I as I (as ++ t) := ⟨fun _ _ e => e, t, rfl⟩
theorem Wr.newM (w : Wr K H I as M P) {p : Addr} (h : H p = none) (o : HO) (m : MO) (hm : MRep K I as (upd H p o) p m) : Wr K (upd H p o) I (as ++ [p]) (M ++ [m]) P := by
  obtain ⟨f1, f2, f3⟩ := w.fresh h
  have hl := w.len
  refine ⟨fun a u e => ?_, by simp [hl], ?_, fun k a u ha hu => ?_, fun a u e => ?_⟩
  · rw [upd_ne (ne_of_none (w.sub _ _ e) h)]; exact w.sub _ _ e
  · rw [List.nodup_append]
    exact ⟨w.nd, by simp, fun a ha b hb => by
      have e : b = p := by simpa using hb
      subst e
      exact fun z => f3 (z ▸ ha)⟩
  · by_cases hk : k < as.length
    · rw [List.getElem?_append_left hk] at ha
      rw [List.getElem?_append_left (by omega)] at hu
      have q : a ≠ p := fun z => f3 (by rw [← z]; exact List.mem_of_getElem? ha)
      obtain ⟨m1, m2, m3⟩ := w.mu k a u ha hu
      exact ⟨m1, m2, m3.mono (Gr.more I as [p]) (upd_ne q)⟩
    · have hk2 : k - as.length = 0 := by
        rw [List.getElem?_append_right (by omega)] at ha
        have := (List.getElem?_eq_some_iff.mp ha).1
        simp at this
        omega
      rw [List.getElem?_append_right (by omega), hk2] at ha
      rw [List.getElem?_append_right (by omega), show k - M.length = 0 by omega] at hu
      have e1 : p = a := by simpa using ha
      have e2 : m = u := by simpa using hu
      subst e1 e2
      exact ⟨f1, f2, hm.mono (Gr.more I as [p]) rfl⟩
  · obtain ⟨h1, h2⟩ := w.prv _ _ e
    rw [upd_ne (ne_of_none h1 h)]
    exact ⟨h1, h2⟩
theorem nodup_get {as : List Addr} (h : as.Nodup) {i j : Nat} {a : Addr} (hi : as[i]? = some a) (hj : as[j]? = some a) : i = j :=
  (List.getElem?_inj (List.getElem?_eq_some_iff.mp hi).1 h).mp (hi.trans hj.symm)
theorem Wr.put (w : Wr K H I as M P) {k : Nat} {a : Addr} (ha : as[k]? = some a) (o : HO) (m : MO) (hm : MRep K I as (upd H a o) a m) : Wr K (upd H a o) I as (M.set k m) P := by
  obtain ⟨_, _, i1, p1, _⟩ := w.at ha
  refine ⟨fun b u e => ?_, by simp [w.len], w.nd, fun j b u hb hu => ?_, fun b u e => ?_⟩
  · rw [upd_ne (ne_of_none e i1)]; exact w.sub _ _ e
  · by_cases hj : k = j
    · subst hj
      have e1 : a = b := Option.some.inj (ha.symm.trans hb)
      subst e1
      have hk : k < M.length := by rw [← w.len]; exact (List.getElem?_eq_some_iff.mp ha).1
      rw [List.getElem?_set_self hk] at hu
      have e2 : m = u := Option.some.inj hu
      subst e2
      exact ⟨i1, p1, hm⟩
    · rw [List.getElem?_set_ne hj] at hu
      obtain ⟨m1, m2, m3⟩ := w.mu j b u hb hu
      have q : b ≠ a := fun z => hj (nodup_get w.nd ha (z ▸ hb))
      exact ⟨m1, m2, m3.mono (Gr.refl I as) (upd_ne q)⟩
  · obtain ⟨h1, h2⟩ := w.prv _ _ e
    have q : b ≠ a := ne_of_none e p1
    rw [upd_ne q]
    exact ⟨h1, h2⟩
/-- a private cell is laid -/
theorem Wr.newP (w : Wr K H I as M P) {p : Addr} (h : H p = none) (o : HO) : Wr K (upd H p o) I as M (upd P p o) := by
  obtain ⟨f1, f2, f3⟩ := w.fresh h
  refine ⟨fun a u e => ?_, w.len, w.nd, fun k a u ha hu => ?_, fun a u e => ?_⟩
  · rw [upd_ne (ne_of_none e f1)]; exact w.sub _ _ e
  · have q : a ≠ p := fun z => f3 (by rw [← z]; exact List.mem_of_getElem? ha)
    obtain ⟨m1, m2, m3⟩ := w.mu k a u ha hu
    exact ⟨m1, by rw [upd_ne q]; exact m2, m3.mono (Gr.refl _ _) (upd_ne q)⟩
  · by_cases q : a = p
    · subst q
      rw [upd_same] at e ⊢
      exact ⟨e, f1⟩
    · rw [upd_ne q] at e ⊢
      exact w.prv _ _ e
/-- it changes -/
theorem Wr.putP (w : Wr K H I as M P) {p : Addr} {u : HO} (h : P p = some u) (o : HO) : Wr K (upd H p o) I as M (upd P p o) := by
  obtain ⟨h1, i1⟩ := w.prv _ _ h
  refine ⟨fun a u e => ?_, w.len, w.nd, fun k a u ha hu => ?_, fun a u e => ?_⟩
  · rw [upd_ne (ne_of_none e i1)]; exact w.sub _ _ e
  · obtain ⟨m1, m2, m3⟩ := w.mu k a u ha hu
    have q : a ≠ p := fun z => by rw [z, h] at m2; cases m2
    exact ⟨m1, by rw [upd_ne q]; exact m2, m3.mono (Gr.refl _ _) (upd_ne q)⟩
  · by_cases q : a = p
    · subst q
      rw [upd_same] at e ⊢
      exact ⟨e, i1⟩
    · rw [upd_ne q] at e ⊢
      exact w.prv _ _ e
theorem upd_take {P : Hp} {p : Addr} {o : HO} (h : P p = none) (b : Addr) (u : HO) (e : P b = some u) : upd P p o b = some u := by
  rw [upd_ne (ne_of_none e h)]; exact e
/-- a private cell is given to what never changes -/
theorem Wr.giveI {P0 : Hp} {o : HO} {p : Addr} (w : Wr K H I as M (upd P0 p o)) (h0 : P0 p = none) : Wr K H (upd I p o) as M P0 ∧ Gr I as (upd I p o) as := by
  obtain ⟨h1, i1⟩ := w.prv p o upd_same
  have g : Gr I as (upd I p o) as := ⟨fun a u e => by rw [upd_ne (ne_of_none e i1)]; exact e, [], by simp⟩
  refine ⟨⟨fun a u e => ?_, w.len, w.nd, fun k a u ha hu => ?_, fun a u e => ?_⟩, g⟩
  · by_cases q : a = p
    · subst q; rw [upd_same] at e; cases e; exact h1
    · rw [upd_ne q] at e; exact w.sub _ _ e
  · obtain ⟨m1, m2, m3⟩ := w.mu k a u ha hu
    have q : a ≠ p := fun z => by rw [z, upd_same] at m2; cases m2
    rw [upd_ne q] at m2
    exact ⟨by rw [upd_ne q]; exact m1, m2, m3.mono g rfl⟩
  · have q : a ≠ p := ne_of_none e h0
    obtain ⟨x, y⟩ := w.prv a u (by rw [upd_ne q]; exact e)
    exact ⟨x, by rw [upd_ne q]; exact y⟩
/-- .. to what may change -/
theorem Wr.giveM {P0 : Hp} {o : HO} {p : Addr} {m : MO} (w : Wr K H I as M (upd P0 p o)) (h0 : P0 p = none) (hm : MRep K I as H p m) : Wr K H I (as ++ [p]) (M ++ [m]) P0 := by
  obtain ⟨h1, i1⟩ := w.prv p o upd_same
  have hl := w.len
  have np : p ∉ as := fun hmem => by
    obtain ⟨k, hk⟩ := List.getElem?_of_mem hmem
    obtain ⟨_, _, _, m2, _⟩ := w.at hk
    rw [upd_same] at m2; cases m2
  refine ⟨w.sub, by simp [hl], ?_, fun k a u ha hu => ?_, fun a u e => ?_⟩
  · rw [List.nodup_append]
    exact ⟨w.nd, by simp, fun a ha b hb => by
      have e : b = p := by simpa using hb
      subst e
      exact fun z => np (z ▸ ha)⟩
  · by_cases hk : k < as.length
    · rw [List.getElem?_append_left hk] at ha
      rw [List.getElem?_append_left (by omega)] at hu
      obtain ⟨m1, m2, m3⟩ := w.mu k a u ha hu
      have q : a ≠ p := fun z => np (by rw [← z]; exact List.mem_of_getElem? ha)
      rw [upd_ne q] at m2
      exact ⟨m1, m2, m3.mono (Gr.more I as [p]) rfl⟩
    · have hk2 : k - as.length = 0 := by
        rw [List.getElem?_append_right (by omega)] at ha
        have := (List.getElem?_eq_some_iff.mp ha).1
        simp at this
        omega
      rw [List.getElem?_append_right (by omega), hk2] at ha
      rw [List.getElem?_append_right (by omega), show k - M.length = 0 by omega] at hu
      have e1 : p = a := by simpa using ha
      have e2 : m = u := by simpa using hu
      subst e1 e2
      exact ⟨i1, h0, hm.mono (Gr.more I as [p]) rfl⟩
  · have q : a ≠ p := ne_of_none e h0
    exact w.prv a u (by rw [upd_ne q]; exact e)
end

/-- slots -/
structure Envr (K : PySem.W.Frag) (I : Hp) (as : List Addr) (σ : L2.St) (δ : List (Option D)) : Prop where
  len : σ.length = δ.length
  at_ : ∀ (i : Nat) (d : D), δ[i]? = some (some d) → ∃ v, σ[i]? = some (some v) ∧ Rep K I as v d
theorem Envr.mono {K : PySem.W.Frag} {I I' : Hp} {as as' : List Addr} {σ : L2.St} {δ : List (Option D)} (g : Gr I as I' as') (e : Envr K I as σ δ) : Envr K I' as' σ δ :=
  ⟨e.len, fun i d h => let ⟨v, h1, h2⟩ := e.at_ i d h; ⟨v, h1, h2.mono g⟩⟩
theorem Envr.set {K : PySem.W.Frag} {I : Hp} {as : List Addr} {σ : L2.St} {δ : List (Option D)} {v : V} {d : D} (e : Envr K I as σ δ) (r : Rep K I as v d) (i : Nat) : Envr K I as (σ.set i (some v)) (δ.set i (some d)) := by
  refine ⟨by simp [e.len], fun j d' h => ?_⟩
  by_cases hj : i = j
  · subst hj
    have hi : i < δ.length := by
      have := (List.getElem?_eq_some_iff.mp h).1
      simpa using this
    rw [List.getElem?_set_self hi] at h
    have e1 : d = d' := Option.some.inj (Option.some.inj h)
    subst e1
    exact ⟨v, List.getElem?_set_self (by rw [e.len]; exact hi), r⟩
  · rw [List.getElem?_set_ne hj] at h
    obtain ⟨w, h1, h2⟩ := e.at_ j d' h
    exact ⟨w, by rw [List.getElem?_set_ne hj]; exact h1, h2⟩
theorem Envr.unset {K : PySem.W.Frag} {I : Hp} {as : List Addr} {σ : L2.St} {δ : List (Option D)} (e : Envr K I as σ δ) (i : Nat) : Envr K I as (σ.set i none) (δ.set i none) := by
  refine ⟨by simp [e.len], fun j d' h => ?_⟩
  by_cases hj : i = j
  · subst hj
    by_cases hi : i < δ.length
    · rw [List.getElem?_set_self hi] at h
      cases h
    · rw [List.getElem?_eq_none (by simpa using hi)] at h
      cases h
  · rw [List.getElem?_set_ne hj] at h
    obtain ⟨w, h1, h2⟩ := e.at_ j d' h
    exact ⟨w, by rw [List.getElem?_set_ne hj]; exact h1, h2⟩
def wipeD (δ : List (Option D)) : List Nat → List (Option D)
  | [] => δ
  | v :: vs => (wipeD δ vs).set v none
theorem Envr.wipe {K : PySem.W.Frag} {I : Hp} {as : List Addr} {σ : L2.St} {δ : List (Option D)} (e : Envr K I as σ δ) : ∀ vs, Envr K I as (L2.wipe σ vs) (wipeD δ vs)
  | [] => e
  | v :: vs => (Envr.wipe e vs).unset v

/-- what a piece comes to -/
inductive R (α : Type) where
  | bad
  | ok (a : α) (M : List MO)
  | ex (c : Str) (M : List MO)
def R.bind {α β : Type} (r : R α) (f : α → List MO → R β) : R β :=
  match r with
  | .bad => .bad
  | .ok a M => f a M
  | .ex c M => .ex c M
@[simp] theorem R.bind_bad {α β : Type} (f : α → List MO → R β) : (R.bad).bind f = .bad := rfl
@[simp] theorem R.bind_ok {α β : Type} (f : α → List MO → R β) (a : α) (M : List MO) : (R.ok a M).bind f = f a M := rfl
@[simp] theorem R.bind_ex {α β : Type} (f : α → List MO → R β) (c : Str) (M : List MO) : (R.ex c M).bind f = .ex c M := rfl
abbrev Ctx := List (Option D)
abbrev GE := Ctx → List MO → R D
abbrev GB := Ctx → List MO → R Bool
abbrev GA := Ctx → List MO → R (List D)
inductive SR where
  | bad
  | nx (δ : Ctx) (M : List MO)
  | rt (d : D) (M : List MO)
  | bk (δ : Ctx) (M : List MO)
  | ct (δ : Ctx) (M : List MO)
  | ex (c : Str) (δ : Ctx) (M : List MO)
abbrev GS := Ctx → List MO → SR

/-- what is wanted of an exception, by the class's name -/
def lowW (mg : Str → Option Value) (W : WX) : Str → L2.St → Hp → Prop := fun c σ H => ∀ cls, mg c = some cls → W cls none σ H

def Sat {α β : Type} (K : PySem.W.Frag) (rel : Hp → List Addr → β → α → Prop) (Wf : Str → Hp → Prop) (I : Hp) (as : List Addr) (P : Hp) (Q : β → Hp → Prop) : R α → Prop
  | .bad => False
  | .ok d M => ∀ v H' I' as', Gr I as I' as' → Wr K H' I' as' M P → rel I' as' v d → Q v H'
  | .ex c M => ∀ H' I' as', Gr I as I' as' → Wr K H' I' as' M P → Wf c H'
def SatS (K : PySem.W.Frag) (Wf : Str → L2.St → Hp → Prop) (I : Hp) (as : List Addr) (P : Hp) (E : Ends) : SR → Prop
  | .bad => False
  | .nx δ M => ∀ σ' H' I' as', Gr I as I' as' → Wr K H' I' as' M P → Envr K I' as' σ' δ → E.nx σ' H'
  | .rt d M => ∀ v H' I' as', Gr I as I' as' → Wr K H' I' as' M P → Rep K I' as' v d → E.rt v H'
  | .bk δ M => ∀ σ' H' I' as', Gr I as I' as' → Wr K H' I' as' M P → Envr K I' as' σ' δ → E.bk σ' H'
  | .ct δ M => ∀ σ' H' I' as', Gr I as I' as' → Wr K H' I' as' M P → Envr K I' as' σ' δ → E.ct σ' H'
  | .ex c δ M => ∀ σ' H' I' as', Gr I as I' as' → Wr K H' I' as' M P → Envr K I' as' σ' δ → Wf c σ' H'
section
variable {α β γ ε : Type} {K : PySem.W.Frag}
/-- Sat is kept when the world grows -/
theorem Sat.gr {rel : Hp → List Addr → β → α → Prop} {Wf : Str → Hp → Prop} {I I' P : Hp} {as as' : List Addr} {Q : β → Hp → Prop} {r : R α} (g : Gr I as I' as') (h : Sat K rel Wf I as P Q r) : Sat K rel Wf I' as' P Q r := by
  cases r with
  | bad => exact h
  | ok d M => exact fun v H2 I2 as2 g2 w r => h v H2 I2 as2 (g.trans g2) w r
  | ex c M => exact fun H2 I2 as2 g2 w => h H2 I2 as2 (g.trans g2) w
theorem SatS.gr {Wf : Str → L2.St → Hp → Prop} {I I' P : Hp} {as as' : List Addr} {E : Ends} {r : SR} (g : Gr I as I' as') (h : SatS K Wf I as P E r) : SatS K Wf I' as' P E r := by
  cases r with
  | bad => exact h
  | nx d M => exact fun v H2 I2 as2 g2 w r => h v H2 I2 as2 (g.trans g2) w r
  | rt d M => exact fun v H2 I2 as2 g2 w r => h v H2 I2 as2 (g.trans g2) w r
  | bk d M => exact fun v H2 I2 as2 g2 w r => h v H2 I2 as2 (g.trans g2) w r
  | ct d M => exact fun v H2 I2 as2 g2 w r => h v H2 I2 as2 (g.trans g2) w r
  | ex c d M => exact fun v H2 I2 as2 g2 w r => h v H2 I2 as2 (g.trans g2) w r
/-- one piece behind another -/
theorem Sat.bind {rel : Hp → List Addr → β → α → Prop} {rel2 : Hp → List Addr → ε → γ → Prop} {Wf : Str → Hp → Prop} {I P : Hp} {as : List Addr} {Q : ε → Hp → Prop} {r : R α} {f : α → List MO → R γ} (h : Sat K rel2 Wf I as P Q (r.bind f))
    {Q1 : β → Hp → Prop} (k : ∀ a M v H' I' as', r = .ok a M → Gr I as I' as' → Wr K H' I' as' M P → rel I' as' v a → Sat K rel2 Wf I' as' P Q (f a M) → Q1 v H') : Sat K rel Wf I as P Q1 r := by
  cases r with
  | bad => exact h
  | ok d M => exact fun v H2 I2 as2 g2 w r => k d M v H2 I2 as2 rfl g2 w r (Sat.gr g2 h)
  | ex c M => exact h
end
end KM
set_option Elab.async false
set_option linter.all false
set_option maxRecDepth 100000
set_option maxHeartbeats 2000000
namespace KM
open PySem L2 PySem.Spec PyProof.Rows

/-! ### judgements -/
def ImpE (K : PySem.W.Frag) (mg : Str → Option Value) (W : WX) (t : TE) (g : GE) : Prop := ∀ (σ : L2.St) (H : Hp) (δ : Ctx) (I : Hp) (as : List Addr) (M : List MO) (P : Hp) (Q : VK),
  Wr K H I as M P → Envr K I as σ δ → Sat K (Rep K) (fun c H' => lowW mg W c σ H') I as P Q (g δ M) → t σ H Q
def ImpT (K : PySem.W.Frag) (mg : Str → Option Value) (W : WX) (t : TT) (g : GB) : Prop := ∀ (σ : L2.St) (H : Hp) (δ : Ctx) (I : Hp) (as : List Addr) (M : List MO) (P : Hp) (Q : Bool → Hp → Prop),
  Wr K H I as M P → Envr K I as σ δ → Sat K (fun _ _ b b' => b = b') (fun c H' => lowW mg W c σ H') I as P Q (g δ M) → t σ H Q
def ImpA (K : PySem.W.Frag) (mg : Str → Option Value) (W : WX) (t : TA) (g : GA) : Prop := ∀ (σ : L2.St) (H : Hp) (δ : Ctx) (I : Hp) (as : List Addr) (M : List MO) (P : Hp) (Q : List V → Hp → Prop),
  Wr K H I as M P → Envr K I as σ δ → Sat K (Reps K) (fun c H' => lowW mg W c σ H') I as P Q (g δ M) → t σ H Q
def ImpS (K : PySem.W.Frag) (mg : Str → Option Value) (W : WX) (t : TS) (g : GS) : Prop := ∀ (σ : L2.St) (H : Hp) (δ : Ctx) (I : Hp) (as : List Addr) (M : List MO) (P : Hp) (E : Ends),
  Wr K H I as M P → Envr K I as σ δ → SatS K (lowW mg W) I as P E (g δ M) → t E σ H
structure XE (X : Cx) (W : WX) (e : Expr) (t : TE) (g : GE) : Prop where
  pe : PE X e t
  im : ImpE X.K X.mg W t g
structure XT (X : Cx) (W : WX) (e : Expr) (t : TT) (g : GB) : Prop where
  pe : PT X e t
  im : ImpT X.K X.mg W t g
structure XW (X : Cx) (W : WX) (e : Expr) (t : TT) (g : GB) : Prop where
  pe : PW X e t
  im : ImpT X.K X.mg W t g
structure XA (X : Cx) (W : WX) (es : List Expr) (t : TA) (g : GA) : Prop where
  pe : PA X es t
  im : ImpA X.K X.mg W t g
structure XS (X : Cx) (W : WX) (st : Stmt) (t : TS) (g : GS) : Prop where
  pe : PS X st t
  im : ImpS X.K X.mg W t g
structure XSs (X : Cx) (W : WX) (sts : List Stmt) (t : TS) (g : GS) : Prop where
  pe : PSs X sts t
  im : ImpS X.K X.mg W t g

/-! ### what data an address shows -/
def listOf (M : List MO) : D → Option (List D)
  | .lst xs => some xs
  | .rol xs => some xs
  | .ref k => match M[k]? with
    | some (.lst xs) => some xs
    | _ => none
  | _ => none
/-- a list that may be the operand of + and * -/
def listOfT (M : List MO) : D → Option (List D)
  | .lst xs => some xs
  | .ref k => match M[k]? with
    | some (.lst xs) => some xs
    | _ => none
  | _ => none
def tupOf : D → Option (List D)
  | .tup xs => some xs
  | _ => none
section
variable {K : PySem.W.Frag} {H I P : Hp} {as : List Addr} {M : List MO}
theorem Wr.seqT (w : Wr K H I as M P) {a : Addr} {xs : List V} (h : SqT K I a xs) : SqT K H a xs := Evl.ex_t w.sub h
theorem Wr.seqL (w : Wr K H I as M P) {a : Addr} {xs : List V} (h : SqL K I a xs) : SqL K H a xs := Evl.ex_l w.sub h
theorem Rep.listT (w : Wr K H I as M P) {v : V} {d : D} {ds : List D} (r : Rep K I as v d) (h : listOfT M d = some ds) : ∃ a vs, v = .ref a ∧ H a = some (.lst vs) ∧ Reps K I as vs ds := by
  cases r with
  | lst h1 h2 =>
    cases h
    exact ⟨_, _, rfl, w.sub _ _ h1, h2⟩
  | @ref k a h1 =>
    obtain ⟨o, ho, _, _, m⟩ := w.at h1
    unfold listOfT at h
    cases o with
    | dct kvs => simp [ho] at h
    | lst xs =>
      simp only [ho, Option.some.injEq] at h
      subst h
      obtain ⟨vs, e, r⟩ := m
      exact ⟨_, _, rfl, e, r⟩
  | _ => cases h
theorem Rep.list (w : Wr K H I as M P) {v : V} {d : D} {ds : List D} (r : Rep K I as v d) (h : listOf M d = some ds) : ∃ a vs, v = .ref a ∧ SqL K H a vs ∧ Reps K I as vs ds := by
  cases r with
  | lst h1 h2 =>
    cases h
    exact ⟨_, _, rfl, .of (w.sub _ _ h1), h2⟩
  | rol h1 h2 =>
    cases h
    exact ⟨_, _, rfl, w.seqL h1, h2⟩
  | @ref k a h1 =>
    obtain ⟨o, ho, _, _, m⟩ := w.at h1
    unfold listOf at h
    cases o with
    | dct kvs => simp [ho] at h
    | lst xs =>
      simp only [ho, Option.some.injEq] at h
      subst h
      obtain ⟨vs, e, r⟩ := m
      exact ⟨_, _, rfl, .of e, r⟩
  | _ => cases h
theorem Rep.tupl (w : Wr K H I as M P) {v : V} {d : D} {ds : List D} (r : Rep K I as v d) (h : tupOf d = some ds) : ∃ a vs, v = .ref a ∧ SqT K H a vs ∧ Reps K I as vs ds := by
  cases r with
  | tup h1 h2 =>
    cases h
    exact ⟨_, _, rfl, w.seqT h1, h2⟩
  | _ => cases h
theorem Rep.int_inv {v : V} {i : Int} (r : Rep K I as v (.int i)) : v = .int i := by cases r; rfl
theorem Rep.bl_inv {v : V} {b : Bool} (r : Rep K I as v (.bl b)) : v = .bl b := by cases r; rfl
theorem Rep.str_inv {v : V} {b : Str} (r : Rep K I as v (.str b)) : v = .str b := by cases r; rfl
theorem Rep.non_inv {v : V} (r : Rep K I as v .non) : v = .non := by cases r; rfl
end

/-! ### operations by values -/
abbrev OD := D → D → List MO → R D
def OpD (K : PySem.W.Frag) (r : R2) (o : OD) : Prop := ∀ (H I : Hp) (as : List Addr) (M : List MO) (P : Hp) (x y : V) (d e : D) (Wf : Str → Hp → Prop) (Q : VK),
  Wr K H I as M P → Rep K I as x d → Rep K I as y e → Sat K (Rep K) Wf I as P Q (o d e M) → r x y H Q
abbrev OU := D → List MO → R D
def OpU (K : PySem.W.Frag) (r : V → Hp → VK → Prop) (o : OU) : Prop := ∀ (H I : Hp) (as : List Addr) (M : List MO) (P : Hp) (x : V) (d : D) (Wf : Str → Hp → Prop) (Q : VK),
  Wr K H I as M P → Rep K I as x d → Sat K (Rep K) Wf I as P Q (o d M) → r x H Q
abbrev OC := List D → List MO → R D
def OpC (K : PySem.W.Frag) (r : List V → Hp → VK → Prop) (o : OC) : Prop := ∀ (H I : Hp) (as : List Addr) (M : List MO) (P : Hp) (xs : List V) (ds : List D) (Wf : Str → Hp → Prop) (Q : VK),
  Wr K H I as M P → Reps K I as xs ds → Sat K (Rep K) Wf I as P Q (o ds M) → r xs H Q
section
variable {K : PySem.W.Frag} {H I P : Hp} {as : List Addr} {M : List MO} {Q : VK} {Wf : Str → Hp → Prop}
/-- a value that changes nothing -/
theorem Sat.now {d : D} {v : V} (h : Sat K (Rep K) Wf I as P Q (.ok d M)) (w : Wr K H I as M P) (r : Rep K I as v d) : Q v H := h v H I as (Gr.refl I as) w r
/-- a new tuple -/
theorem Sat.newTup {ds : List D} {vs : List V} (h : Sat K (Rep K) Wf I as P Q (.ok (.tup ds) M)) (w : Wr K H I as M P) (r : Reps K I as vs ds) {p : Addr} (hp : H p = none) : Q (.ref p) (upd H p (.tup vs)) := by
  obtain ⟨w', g⟩ := w.newI hp (.tup vs)
  exact h _ _ _ _ g w' (.tup (.of upd_same) (r.mono g))
/-- a new list that never changes -/
theorem Sat.newLst {ds : List D} {vs : List V} (h : Sat K (Rep K) Wf I as P Q (.ok (.lst ds) M)) (w : Wr K H I as M P) (r : Reps K I as vs ds) {p : Addr} (hp : H p = none) : Q (.ref p) (upd H p (.lst vs)) := by
  obtain ⟨w', g⟩ := w.newI hp (.lst vs)
  exact h _ _ _ _ g w' (.lst upd_same (r.mono g))
/-- a new list that may change -/
theorem Sat.newRef {ds : List D} {vs : List V} (h : Sat K (Rep K) Wf I as P Q (.ok (.ref M.length) (M ++ [.lst ds]))) (w : Wr K H I as M P) (r : Reps K I as vs ds) {p : Addr} (hp : H p = none) : Q (.ref p) (upd H p (.lst vs)) := by
  have w' := w.newM hp (.lst vs) (.lst ds) ⟨vs, upd_same, r⟩
  refine h _ _ _ _ (Gr.more I as [p]) w' (.ref ?_)
  rw [← w.len, List.getElem?_append_right (Nat.le_refl _), Nat.sub_self]
  rfl
end

def oI2 (f : Int → Int → D) : OD := fun x y M => match x, y with
  | .int i, .int j => .ok (f i j) M
  | _, _ => .bad
open Classical in
noncomputable def oI2c (C : Int → Int → Prop) (f : Int → Int → D) : OD := fun x y M => match x, y with
  | .int i, .int j => if C i j then .ok (f i j) M else .bad
  | _, _ => .bad
def V2D : V → D
  | .int i => .int i
  | .bl b => .bl b
  | _ => .non
theorem opd_I0 {K : PySem.W.Frag} {f : Int → Int → V} {g : Int → Int → D} (h : ∀ i j (I : Hp) (as : List Addr), Rep K I as (f i j) (g i j)) : OpD K (rI0 f) (oI2 g) := by
  intro H I as M P x y d e Wf Q w rx ry s
  unfold oI2 at s
  split at s
  · cases rx; cases ry
    exact ⟨_, _, rfl, rfl, s.now w (h _ _ _ _)⟩
  · exact s.elim
theorem opd_I {K : PySem.W.Frag} {C : Int → Int → Prop} {Cb : Int → Int → Prop} {f : Int → Int → V} {g : Int → Int → D} (hc : ∀ i j, Cb i j → C i j) (h : ∀ i j (I : Hp) (as : List Addr), Rep K I as (f i j) (g i j)) : OpD K (rI C f) (oI2c Cb g) := by
  intro H I as M P x y d e Wf Q w rx ry s
  unfold oI2c at s
  split at s
  · split at s
    · rename_i c
      cases rx; cases ry
      exact ⟨_, _, rfl, rfl, hc _ _ c, s.now w (h _ _ _ _)⟩
    · exact s.elim
  · exact s.elim
def CMulB (i j : Int) : Prop := ((-(2 ^ 64) < i ∧ i < 2 ^ 64) ∨ (-(2 ^ 64) < j ∧ j < 2 ^ 64)) ∨ i.natAbs.log2 + j.natAbs.log2 < 1000000
def CDivB (_ j : Int) : Prop := 0 < j ∧ j.natAbs.log2 < 9000
def CModB (_ j : Int) : Prop := 0 < j
def CPowB (i j : Int) : Prop := (0 ≤ j ∧ j ≤ 1000000) ∧ i.natAbs < 2 ^ 64
theorem op_mulG {X : Cx} : OpR X (binaryOp .Mult) (rI CMulB fun i j => .int (i * j)) := by
  intro pins s σ H x y v u Q I rx ry h
  obtain ⟨i, j, rfl, rfl, c, q⟩ := h
  unfold CMulB at c
  rcases c with (c | c) | c
  · exact op_mul pins s σ H _ _ v u Q I rx ry ⟨i, j, rfl, rfl, .inl c, q⟩
  · exact op_mul pins s σ H _ _ v u Q I rx ry ⟨i, j, rfl, rfl, .inr c, q⟩
  · exact op_mulW pins s σ H _ _ v u Q I rx ry ⟨i, j, rfl, rfl, c, q⟩

/-- + -/
def bigN (n : Nat) : Prop := n ≤ 100000
open Classical in
noncomputable def oAdd : OD := fun x y M => match x, y with
  | .int i, .int j => .ok (.int (i + j)) M
  | .tup xs, .tup ys => if bigN (xs.length + ys.length) then .ok (.tup (xs ++ ys)) M else .bad
  | x, y => match listOfT M x, listOfT M y with
    | some xs, some ys => if bigN (xs.length + ys.length) then .ok (.lst (xs ++ ys)) M else .bad
    | _, _ => .bad
def rAddG (K : PySem.W.Frag) : R2 := fun x y H Q => rI0 (fun i j => .int (i + j)) x y H Q ∨ rCatA K x y H Q ∨ rCat x y H Q
theorem op_addG {X : Cx} : OpR X (binaryOp .Add) (rAddG X.K) := op_add.or (op_catA.or op_cat)
theorem big_le {n : Nat} (h : bigN n) : n ≤ sizeLine := Evl.sz_of h
theorem opd_add {K : PySem.W.Frag} : OpD K (rAddG K) oAdd := by
  intro H I as M P x y d e Wf Q w rx ry s
  unfold oAdd at s
  split at s
  · cases rx; cases ry
    exact .inl ⟨_, _, rfl, rfl, s.now w (.int _)⟩
  · rename_i xs ys
    split at s
    · rename_i hb
      obtain ⟨a, vs, rfl, h1, r1⟩ := rx.tupl w rfl
      obtain ⟨b, us, rfl, h2, r2⟩ := ry.tupl w rfl
      refine .inr (.inl ⟨a, b, vs, us, rfl, rfl, h1, h2, by rw [r1.len, r2.len]; exact big_le hb, fun e => ?_, fun _ e => ?_, fun _ _ p hp => ?_⟩)
      · subst e
        cases r1
        exact s.now w ry
      · subst e
        cases r2
        rw [List.append_nil] at s
        exact s.now w rx
      · exact s.newTup w (r1.append r2) hp
    · exact s.elim
  · split at s
    · rename_i xs ys e1 e2
      split at s
      · rename_i hb
        obtain ⟨a, vs, rfl, h1, r1⟩ := rx.listT w e1
        obtain ⟨b, us, rfl, h2, r2⟩ := ry.listT w e2
        exact .inr (.inr ⟨a, b, vs, us, rfl, rfl, h1, h2, by rw [r1.len, r2.len]; exact big_le hb, fun p hp => s.newLst w (r1.append r2) hp⟩)
      · exact s.elim
    · exact s.elim

/-! ### == over data -/
mutual
def D.py : D → Option PyData
  | .non => some .none
  | .bl b => some (.bool b)
  | .int i => some (.int i)
  | .str s => some (.str s)
  | .tup xs => (D.pys xs).map .tuple
  | .lst xs => (D.pys xs).map .list
  | .rol xs => (D.pys xs).map .list
  | .ref _ => none
  | .obj _ => none
  | .fn _ => none
  | .dct => none
def D.pys : List D → Option (List PyData)
  | [] => some []
  | x :: xs => match D.py x, D.pys xs with
    | some p, some ps => some (p :: ps)
    | _, _ => none
end
def pyM (M : List MO) : D → Option PyData
  | .ref k => match M[k]? with
    | some (.lst xs) => (D.pys xs).map .list
    | _ => none
  | d => d.py
mutual
theorem Rep.dp {K : PySem.W.Frag} {H I P : Hp} {as : List Addr} {M : List MO} (w : Wr K H I as M P) : ∀ {v : V} {d : D} {p : PyData}, Rep K I as v d → d.py = some p → Dp K H v p
  | _, _, _, .non, h => by cases h; exact .non
  | _, _, _, .bl b, h => by cases h; exact .bl b
  | _, _, _, .int i, h => by cases h; exact .int i
  | _, _, _, .str s, h => by cases h; exact .str s
  | _, _, p, .tup (ds := ds) hs r, h => by
    unfold D.py at h
    cases e : D.pys ds with
    | none => rw [e] at h; cases h
    | some ps =>
      rw [e] at h
      cases h
      exact .tup (w.seqT hs) (Reps.dp w r e)
  | _, _, p, .lst (ds := ds) hs r, h => by
    unfold D.py at h
    cases e : D.pys ds with
    | none => rw [e] at h; cases h
    | some ps =>
      rw [e] at h
      cases h
      exact .lst (.of (w.sub _ _ hs)) (Reps.dp w r e)
  | _, _, p, .rol (ds := ds) hs r, h => by
    unfold D.py at h
    cases e : D.pys ds with
    | none => rw [e] at h; cases h
    | some ps =>
      rw [e] at h
      cases h
      exact .lst (w.seqL hs) (Reps.dp w r e)
  | _, _, _, .ref _, h => by cases h
  | _, _, _, .obj _, h => by cases h
  | _, _, _, .fn _, h => by cases h
  | _, _, _, .dct _, h => by cases h
theorem Reps.dp {K : PySem.W.Frag} {H I P : Hp} {as : List Addr} {M : List MO} (w : Wr K H I as M P) : ∀ {vs : List V} {ds : List D} {ps : List PyData}, Reps K I as vs ds → D.pys ds = some ps → DpAll K H vs ps
  | _, _, _, .nil, h => by cases h; exact .nil
  | _, _, ps, .cons (d := d) (ds := ds) h1 h2, h => by
    unfold D.pys at h
    cases e : d.py with
    | none => rw [e] at h; cases h
    | some p =>
      cases e2 : D.pys ds with
      | none => rw [e, e2] at h; cases h
      | some qs =>
        rw [e, e2] at h
        cases h
        exact .cons (Rep.dp w h1 e) (Reps.dp w h2 e2)
end
theorem Rep.dpM {K : PySem.W.Frag} {H I P : Hp} {as : List Addr} {M : List MO} (w : Wr K H I as M P) {v : V} {d : D} {p : PyData} (r : Rep K I as v d) (h : pyM M d = some p) : Dp K H v p := by
  by_cases hd : ∃ k, d = .ref k
  · obtain ⟨k, rfl⟩ := hd
    unfold pyM at h
    cases r with
    | @ref k a h1 =>
      obtain ⟨o, ho, _, _, m⟩ := w.at h1
      cases o with
      | dct kvs => simp [ho] at h
      | lst xs =>
        simp only [ho] at h
        cases e : D.pys xs with
        | none => rw [e] at h; cases h
        | some ps =>
          rw [e] at h
          cases h
          obtain ⟨vs, e1, r⟩ := m
          exact .lst (.of e1) (Reps.dp w r e)
  · refine r.dp w ?_
    unfold pyM at h
    split at h
    · exact absurd ⟨_, rfl⟩ hd
    · exact h
def eqPy (x y : D) (M : List MO) : Option Bool := match pyM M x, pyM M y with
  | some p, some q => if (SeqAt.shaped p && SeqAt.shaped q) = true then some (PyData.eqv p q) else none
  | _, _ => none
def oEq : OD := fun x y M => match eqPy x y M with
  | some b => .ok (.bl b) M
  | none => .bad
def oNe : OD := fun x y M => match eqPy x y M with
  | some b => .ok (.bl (!b)) M
  | none => .bad
theorem opd_eq {K : PySem.W.Frag} : OpD K (rEqD K) oEq := by
  intro H I as M P x y d e Wf Q w rx ry s
  unfold oEq eqPy at s
  split at s
  · rename_i b hb
    split at hb
    · rename_i p q h1 h2
      split at hb
      · rename_i hs
        cases hb
        rw [Bool.and_eq_true] at hs
        exact ⟨p, q, rx.dpM w h1, ry.dpM w h2, hs.1, hs.2, s.now w (.bl _)⟩
      · cases hb
    · cases hb
  · exact s.elim
theorem opd_ne {K : PySem.W.Frag} : OpD K (rNeD K) oNe := by
  intro H I as M P x y d e Wf Q w rx ry s
  unfold oNe eqPy at s
  split at s
  · rename_i b hb
    split at hb
    · rename_i p q h1 h2
      split at hb
      · rename_i hs
        cases hb
        rw [Bool.and_eq_true] at hs
        exact ⟨p, q, rx.dpM w h1, ry.dpM w h2, hs.1, hs.2, s.now w (.bl _)⟩
      · cases hb
    · cases hb
  · exact s.elim
/-! ### is None -/
def oIsN : OU := fun x M => match x with
  | .non => .ok (.bl true) M
  | .obj _ => .bad
  | _ => .ok (.bl false) M
def oNotN : OU := fun x M => match x with
  | .non => .ok (.bl false) M
  | .obj _ => .bad
  | _ => .ok (.bl true) M
/-! ### items -/
def ixD (xs : List D) (i : Int) : Option D := atI xs i
def oIx : OD := fun x y M => match y with
  | .int i => match tupOf x with
    | some xs => match atI xs i with
      | some d => .ok d M
      | none => .bad
    | none => match listOf M x with
      | some xs => match atI xs i with
        | some d => .ok d M
        | none => .bad
      | none => .bad
  | _ => .bad
theorem Reps.atI {K : PySem.W.Frag} {I : Hp} {as : List Addr} {vs : List V} {ds : List D} {i : Int} {d : D} (r : Reps K I as vs ds) (h : L2.atI ds i = some d) : ∃ v, L2.atI vs i = some v ∧ Rep K I as v d := by
  unfold L2.atI at h ⊢
  rw [r.len]
  cases e : ixN ds.length i with
  | none => rw [e] at h; cases h
  | some j =>
    rw [e] at h
    obtain ⟨v, h1, h2⟩ := r.get (show ds[j]? = some d from h)
    exact ⟨v, h1, h2⟩
theorem opd_ix {K : PySem.W.Frag} : OpD K (rIx K) oIx := by
  intro H I as M P x y d e Wf Q w rx ry s
  unfold oIx at s
  split at s
  · rename_i i
    cases ry
    split at s
    · rename_i xs hx
      split at s
      · rename_i z hz
        obtain ⟨a, vs, rfl, h1, r1⟩ := rx.tupl w hx
        obtain ⟨v, hv, rv⟩ := r1.atI hz
        exact .inr (.inl ⟨a, vs, i, v, rfl, rfl, h1, hv, s.now w rv⟩)
      · exact s.elim
    · split at s
      · rename_i xs hx
        split at s
        · rename_i z hz
          obtain ⟨a, vs, rfl, h1, r1⟩ := rx.list w hx
          obtain ⟨v, hv, rv⟩ := r1.atI hz
          exact .inl ⟨a, vs, i, v, rfl, rfl, h1, hv, s.now w rv⟩
        · exact s.elim
      · exact s.elim
  · exact s.elim
/-! ### slices -/
def cutD (xs : List D) (lo hi : Option Int) : List D := (xs.drop (HT.sIx xs.length 0 lo)).take (HT.sIx xs.length xs.length hi - HT.sIx xs.length 0 lo)
theorem Reps.cut {K : PySem.W.Frag} {I : Hp} {as : List Addr} {vs : List V} {ds : List D} (r : Reps K I as vs ds) (lo hi : Option Int) : Reps K I as (cutV vs lo hi) (cutD ds lo hi) := by
  unfold cutV cutD
  rw [r.len]
  exact (r.drop _).take _
def oSl (x : D) (lo hi : Option Int) (M : List MO) : R D := match tupOf x with
  | some xs => .ok (.tup (cutD xs lo hi)) M
  | none => match listOf M x with
    | some xs => .ok (.lst (cutD xs lo hi)) M
    | none => .bad
def rSlG (K : PySem.W.Frag) : V → Option Int → Option Int → Hp → VK → Prop := fun x lo hi H Q => rSlA K x lo hi H Q ∨ rSlL K x lo hi H Q
theorem sl_G {X : Cx} : SlR X (rSlG X.K) := SlR.or sl_tupA sl_list
theorem opd_sl {K : PySem.W.Frag} {H I : Hp} {as : List Addr} {M : List MO} {P : Hp} {x : V} {d : D} {lo hi : Option Int} {Wf : Str → Hp → Prop} {Q : VK}
    (w : Wr K H I as M P) (rx : Rep K I as x d) (s : Sat K (Rep K) Wf I as P Q (oSl d lo hi M)) : rSlG K x lo hi H Q := by
  unfold oSl at s
  split at s
  · rename_i xs hx
    obtain ⟨a, vs, rfl, h1, r1⟩ := rx.tupl w hx
    refine .inl ⟨a, vs, rfl, h1, fun ⟨e1, e2⟩ => ?_, fun _ p hp => s.newTup w (r1.cut lo hi) hp⟩
    have hd : d = .tup xs := by
      cases d <;> first | (cases hx; rfl) | cases hx
    subst hd
    refine s.now w ?_
    have e : cutD xs lo hi = xs := by
      unfold cutD
      rw [r1.len] at e1 e2
      rw [e1, e2, List.drop_zero, Nat.sub_zero, List.take_length]
    rw [e]
    exact rx
  · split at s
    · rename_i xs hx
      obtain ⟨a, vs, rfl, h1, r1⟩ := rx.list w hx
      exact .inr ⟨a, vs, rfl, h1, fun p hp => s.newLst w (r1.cut lo hi) hp⟩
    · exact s.elim
end KM
set_option Elab.async false
set_option linter.all false
set_option maxRecDepth 100000
set_option maxHeartbeats 2000000
namespace KM
open PySem L2 PySem.Spec PyProof.Rows

/-! ### what the pieces come to -/
def gVar (i : Nat) : GE := fun δ M => match δ[i]? with
  | some (some d) => .ok d M
  | _ => .bad
def gC (d : D) : GE := fun _ M => .ok d M
def gOp (o : OD) (ga gb : GE) : GE := fun δ M => (ga δ M).bind fun x M1 => (gb δ M1).bind fun y M2 => o x y M2
def gUn (o : OU) (ga : GE) : GE := fun δ M => (ga δ M).bind fun x M1 => o x M1
def gANil : GA := fun _ M => .ok [] M
def gACons (ga : GE) (gr : GA) : GA := fun δ M => (ga δ M).bind fun x M1 => (gr δ M1).bind fun xs M2 => .ok (x :: xs) M2
def gCall (m : OC) (ga : GA) : GE := fun δ M => (ga δ M).bind fun ds M1 => m ds M1
open Classical in
noncomputable def gETup (ga : GA) : GE := fun δ M => (ga δ M).bind fun ds M1 => if bigN ds.length then .ok (.tup ds) M1 else .bad
open Classical in
noncomputable def gLst (ga : GA) : GE := fun δ M => (ga δ M).bind fun ds M1 => if bigN ds.length then .ok (.lst ds) M1 else .bad
open Classical in
noncomputable def gLstM (ga : GA) : GE := fun δ M => (ga δ M).bind fun ds M1 => if bigN ds.length then .ok (.ref M1.length) (M1 ++ [.lst ds]) else .bad
def gTest (ga : GE) : GB := fun δ M => (ga δ M).bind fun x M1 => match x with
  | .bl b => .ok b M1
  | _ => .bad
def trD (M : List MO) : D → Option Bool
  | .non => some false
  | .bl b => some b
  | .int i => some (i != 0)
  | .tup xs => some (!xs.isEmpty)
  | d => match listOf M d with
    | some xs => some (!xs.isEmpty)
    | none => none
def gTru (ga : GE) : GB := fun δ M => (ga δ M).bind fun x M1 => match trD M1 x with
  | some b => .ok b M1
  | none => .bad
def gAnd (ga gb : GB) : GB := fun δ M => (ga δ M).bind fun x M1 => if x = true then gb δ M1 else .ok false M1
def gOr (ga gb : GB) : GB := fun δ M => (ga δ M).bind fun x M1 => if x = true then .ok true M1 else gb δ M1
def gNot (ga : GB) : GB := fun δ M => (ga δ M).bind fun x M1 => .ok (!x) M1
def gAndV (ga gb : GE) : GE := fun δ M => (ga δ M).bind fun x M1 => match x with
  | .bl true => gb δ M1
  | .bl false => .ok (.bl false) M1
  | _ => .bad
def gOrV (ga gb : GE) : GE := fun δ M => (ga δ M).bind fun x M1 => match x with
  | .bl true => .ok (.bl true) M1
  | .bl false => gb δ M1
  | _ => .bad
def gNotV (ga : GE) : GE := fun δ M => (ga δ M).bind fun x M1 => match x with
  | .bl b => .ok (.bl (!b)) M1
  | _ => .bad
def gIfE (gc : GB) (ga gb : GE) : GE := fun δ M => (gc δ M).bind fun x M1 => if x = true then ga δ M1 else gb δ M1
def gChain (o o' : OD) (ga gb gc : GE) : GE := fun δ M => (ga δ M).bind fun x M1 => (gb δ M1).bind fun y M2 => (o x y M2).bind fun z M3 => match z with
  | .bl true => (gc δ M3).bind fun u M4 => o' y u M4
  | .bl false => .ok (.bl false) M3
  | _ => .bad
abbrev GO := Ctx → List MO → R (Option Int)
def gNoP : GO := fun _ M => .ok none M
def gP (ga : GE) : GO := fun δ M => (ga δ M).bind fun x M1 => match x with
  | .int i => .ok (some i) M1
  | _ => .bad
def gSl (ga : GE) (gl gh : GO) : GE := fun δ M => (ga δ M).bind fun x M1 => (gl δ M1).bind fun lo M2 => (gh δ M2).bind fun hi M3 => oSl x lo hi M3

def ImpO (K : PySem.W.Frag) (mg : Str → Option Value) (W : WX) (t : TO) (g : GO) : Prop := ∀ (σ : L2.St) (H : Hp) (δ : Ctx) (I : Hp) (as : List Addr) (M : List MO) (P : Hp) (Q : Option Int → Hp → Prop),
  Wr K H I as M P → Envr K I as σ δ → Sat K (fun _ _ b b' => b = b') (fun c H' => lowW mg W c σ H') I as P Q (g δ M) → t σ H Q
structure XO (X : Cx) (W : WX) (e : Option Expr) (t : TO) (g : GO) : Prop where
  pe : PO X e t
  im : ImpO X.K X.mg W t g

section
variable {X : Cx} {W : WX} {a b c e : Expr} {es : List Expr} {pos p : Pos} {ta tb tc : TE} {ga gb gc : GE} {t : TA} {g : GA}
theorem xe_v (i : Nat) {x : Str} (hN : X.N[i]? = some x := by rfl) (hv : Vis X.env.scope x := by first | exact Or.inl rfl | exact Or.inr (Or.inl rfl) | exact Or.inr (Or.inr rfl)) (hd : (x == ("__debug__" : Str)) = false := by decide)
    (hcd : (x == ("__classdict__" : Str)) = false := by decide) : XE X W (.Name x pos) (tVar i) (gVar i) := by
  refine ⟨pe_var hN hv hd hcd, fun σ H δ I as M P Q w en s => ?_⟩
  unfold gVar at s
  split at s
  · rename_i d hd
    obtain ⟨v, h1, h2⟩ := en.at_ i d hd
    exact ⟨v, h1, s.now w h2⟩
  · exact s.elim
theorem impE_C {K : PySem.W.Frag} {mg : Str → Option Value} {v : V} {d : D} (h : ∀ (I : Hp) (as : List Addr), Rep K I as v d) : ImpE K mg W (tC v) (gC d) := fun σ H δ I as M P Q w en s => s.now w (h I as)
theorem xe_int {i : Int} {j} : XE X W (.Constant (.int i) j pos) (tC (.int i)) (gC (.int i)) := ⟨pe_int, impE_C fun _ _ => .int _⟩
theorem xe_bl {i : Bool} {j} : XE X W (.Constant (.bool i) j pos) (tC (.bl i)) (gC (.bl i)) := ⟨pe_bl, impE_C fun _ _ => .bl _⟩
theorem xe_non {j} : XE X W (.Constant .none j pos) (tC .non) (gC .non) := ⟨pe_non, impE_C fun _ _ => .non⟩
theorem xe_str {i : Str} {j} : XE X W (.Constant (.str i) j pos) (tC (.str i)) (gC (.str i)) := ⟨pe_str, impE_C fun _ _ => .str _⟩
/-- a module's constant -/
structure GlobC (K : PySem.W.Frag) (mg : Str → Option Value) (x : Str) (d : D) : Prop where
  ex : ∃ (v : V) (u : Value), mg x = some u ∧ RelV v u ∧ ∀ (I : Hp) (as : List Addr), Rep K I as v d
theorem xe_glob {x : Str} {d : D} {v : V} {u : Value} (hm : X.mg x = some u) (r : RelV v u) (h : ∀ (I : Hp) (as : List Addr), Rep X.K I as v d) (hg : Gl X x := by rfl) (hd : (x == ("__debug__" : Str)) = false := by decide) : XE X W (.Name x pos) (tC v) (gC d) :=
  ⟨pe_glob hg hm r hd, impE_C h⟩
theorem xe_op {op : Operator} {r : R2} {o : OD} (ho : OpR X (binaryOp op) r) (hd : OpD X.K r o) (ha : XE X W a ta ga) (hb : XE X W b tb gb) : XE X W (.BinOp a op b pos) (tOp r ta tb) (gOp o ga gb) := by
  refine ⟨pe_op ho ha.pe hb.pe, fun σ H δ I as M P Q w en s => ?_⟩
  refine ha.im σ H δ I as M P _ w en (Sat.bind s fun x M1 v H1 I1 as1 _ g1 w1 r1 s1 => ?_)
  refine hb.im σ H1 δ I1 as1 M1 P _ w1 (en.mono g1) (Sat.bind s1 fun y M2 u H2 I2 as2 _ g2 w2 r2 s2 => ?_)
  exact hd H2 I2 as2 M2 P v u x y _ Q w2 (r1.mono g2) r2 s2
theorem xe_cmp {op : CmpOp} {r : R2} {o : OD} (ho : OpR X (compareOp op) r) (hd : OpD X.K r o) (ha : XE X W a ta ga) (hb : XE X W b tb gb) (hm : behindInMarks op b = false := by first | exact nomark _ | rfl) : XE X W (.Compare a [op] [b] pos) (tOp r ta tb) (gOp o ga gb) := by
  refine ⟨pe_cmpR ho ha.pe hb.pe hm, fun σ H δ I as M P Q w en s => ?_⟩
  refine ha.im σ H δ I as M P _ w en (Sat.bind s fun x M1 v H1 I1 as1 _ g1 w1 r1 s1 => ?_)
  refine hb.im σ H1 δ I1 as1 M1 P _ w1 (en.mono g1) (Sat.bind s1 fun y M2 u H2 I2 as2 _ g2 w2 r2 s2 => ?_)
  exact hd H2 I2 as2 M2 P v u x y _ Q w2 (r1.mono g2) r2 s2
theorem xe_ix {r : R2} {o : OD} (ho : IxR X r) (hd : OpD X.K r o) (ha : XE X W a ta ga) (hb : XE X W b tb gb) (hs : PlainIx b := by exact fun _ _ => rfl) : XE X W (.Subscript a b pos) (tOp r ta tb) (gOp o ga gb) := by
  refine ⟨pe_ix ho ha.pe hb.pe hs, fun σ H δ I as M P Q w en s => ?_⟩
  refine ha.im σ H δ I as M P _ w en (Sat.bind s fun x M1 v H1 I1 as1 _ g1 w1 r1 s1 => ?_)
  refine hb.im σ H1 δ I1 as1 M1 P _ w1 (en.mono g1) (Sat.bind s1 fun y M2 u H2 I2 as2 _ g2 w2 r2 s2 => ?_)
  exact hd H2 I2 as2 M2 P v u x y _ Q w2 (r1.mono g2) r2 s2
theorem xe_un {op : UnaryOp} {r : V → Hp → VK → Prop} {o : OU} (ho : UnR X (unaryOp op) r) (hd : OpU X.K r o) (ha : XE X W a ta ga) : XE X W (.UnaryOp op a pos) (tUn r ta) (gUn o ga) := by
  refine ⟨pe_un ho ha.pe, fun σ H δ I as M P Q w en s => ?_⟩
  refine ha.im σ H δ I as M P _ w en (Sat.bind s fun x M1 v H1 I1 as1 _ g1 w1 r1 s1 => ?_)
  exact hd H1 I1 as1 M1 P v x _ Q w1 r1 s1
def oNeg : OU := fun x M => match x with
  | .int i => .ok (.int (-i)) M
  | _ => .bad
theorem opu_neg {K : PySem.W.Frag} : OpU K (rU fun i => .int (-i)) oNeg := by
  intro H I as M P x d Wf Q w rx s
  unfold oNeg at s
  split at s
  · cases rx
    exact ⟨_, rfl, s.now w (.int _)⟩
  · exact s.elim
/-- is None -/
theorem opd_isN {K : PySem.W.Frag} {H I : Hp} {as : List Addr} {M : List MO} {P : Hp} {x : V} {d : D} {Wf : Str → Hp → Prop} {Q : VK}
    (w : Wr K H I as M P) (rx : Rep K I as x d) (s : Sat K (Rep K) Wf I as P Q (oIsN d M)) : Q (.bl (decide (x = .non))) H := by
  unfold oIsN at s
  cases rx with
  | non => exact s.now w (.bl true)
  | obj a => exact s.elim
  | _ => exact s.now w (.bl false)
theorem xe_isN (ha : XE X W a ta ga) {j pos'} : XE X W (.Compare a [.Is] [.Constant .none j pos'] pos) (tOp (fun x y H Q => y = .non ∧ Q (.bl (decide (x = .non))) H) ta (tC .non)) (gUn oIsN ga) := by
  refine ⟨pe_cmpR op_isN ha.pe pe_non (nomark _), fun σ H δ I as M P Q w en s => ?_⟩
  refine ha.im σ H δ I as M P _ w en (Sat.bind s fun x M1 v H1 I1 as1 _ g1 w1 r1 s1 => ?_)
  exact ⟨rfl, opd_isN w1 r1 s1⟩
theorem opd_notN {K : PySem.W.Frag} {H I : Hp} {as : List Addr} {M : List MO} {P : Hp} {x : V} {d : D} {Wf : Str → Hp → Prop} {Q : VK}
    (w : Wr K H I as M P) (rx : Rep K I as x d) (s : Sat K (Rep K) Wf I as P Q (oNotN d M)) : Q (.bl (!decide (x = .non))) H := by
  unfold oNotN at s
  cases rx with
  | non => exact s.now w (.bl false)
  | obj a => exact s.elim
  | _ => exact s.now w (.bl true)
theorem xe_notN (ha : XE X W a ta ga) {j pos'} : XE X W (.Compare a [.IsNot] [.Constant .none j pos'] pos) (tOp (fun x y H Q => y = .non ∧ Q (.bl (!decide (x = .non))) H) ta (tC .non)) (gUn oNotN ga) := by
  refine ⟨pe_cmpR op_notN ha.pe pe_non (nomark _), fun σ H δ I as M P Q w en s => ?_⟩
  refine ha.im σ H δ I as M P _ w en (Sat.bind s fun x M1 v H1 I1 as1 _ g1 w1 r1 s1 => ?_)
  exact ⟨rfl, opd_notN w1 r1 s1⟩
theorem impE_chain {K : PySem.W.Frag} {mg : Str → Option Value} {r r' : R2} {o o' : OD} (hd : OpD K r o) (hd' : OpD K r' o') (ha : ImpE K mg W ta ga) (hb : ImpE K mg W tb gb) (hc : ImpE K mg W tc gc) : ImpE K mg W (tChain r r' ta tb tc) (gChain o o' ga gb gc) := by
  intro σ H δ I as M P Q w en s
  refine ha σ H δ I as M P _ w en (Sat.bind s fun x M1 v H1 I1 as1 _ g1 w1 r1 s1 => ?_)
  refine hb σ H1 δ I1 as1 M1 P _ w1 (en.mono g1) (Sat.bind s1 fun y M2 u H2 I2 as2 _ g2 w2 r2 s2 => ?_)
  refine hd H2 I2 as2 M2 P v u x y _ _ w2 (r1.mono g2) r2 (Sat.bind s2 fun z M3 q H3 I3 as3 _ g3 w3 r3 s3 => ?_)
  split at s3
  · cases r3
    refine ⟨true, rfl, ?_⟩
    rw [if_pos rfl]
    refine hc σ H3 δ I3 as3 M3 P _ w3 (en.mono (g1.trans (g2.trans g3))) (Sat.bind s3 fun y' M4 u' H4 I4 as4 _ g4 w4 r4 s4 => ?_)
    exact hd' H4 I4 as4 M4 P u u' y y' _ _ w4 (r2.mono (g3.trans g4)) r4 s4
  · cases r3
    refine ⟨false, rfl, ?_⟩
    rw [if_neg Bool.false_ne_true]
    exact s3.now w3 (.bl false)
  · exact s3.elim
theorem xe_chain {op op' : CmpOp} {r r' : R2} {o o' : OD} (ho : OpR X (compareOp op) r) (ho' : OpR X (compareOp op') r') (hd : OpD X.K r o) (hd' : OpD X.K r' o') (ha : XE X W a ta ga) (hb : XE X W b tb gb) (hc : XE X W c tc gc)
    (hm : lastMarks [op, op'] [b, c] = false := by with_unfolding_all rfl) : XE X W (.Compare a [op, op'] [b, c] pos) (tChain r r' ta tb tc) (gChain o o' ga gb gc) :=
  ⟨pe_chain ho ho' ha.pe hb.pe hc.pe hm, impE_chain hd hd' ha.im hb.im hc.im⟩
theorem impT_test {K : PySem.W.Frag} {mg : Str → Option Value} (ha : ImpE K mg W ta ga) : ImpT K mg W (tTest ta) (gTest ga) := by
  intro σ H δ I as M P Q w en s
  refine ha σ H δ I as M P _ w en (Sat.bind s fun x M1 v H1 I1 as1 _ g1 w1 r1 s1 => ?_)
  split at s1
  · cases r1
    exact ⟨_, rfl, s1 _ H1 I1 as1 (Gr.refl _ _) w1 rfl⟩
  · exact s1.elim
theorem xt_cmp {op : CmpOp} {r : R2} {o : OD} (ho : OpR X (compareOp op) r) (hd : OpD X.K r o) (ha : XE X W a ta ga) (hb : XE X W b tb gb) (hm : behindInMarks op b = false := by first | exact nomark _ | rfl) : XT X W (.Compare a [op] [b] pos) (tTest (tOp r ta tb)) (gTest (gOp o ga gb)) :=
  ⟨pt_cmpR ho ha.pe hb.pe hm, impT_test (xe_cmp (pos := pos) ho hd ha hb hm).im⟩
theorem xt_isN (ha : XE X W a ta ga) {j pos'} : XT X W (.Compare a [.Is] [.Constant .none j pos'] pos) (tTest (tOp (fun x y H Q => y = .non ∧ Q (.bl (decide (x = .non))) H) ta (tC .non))) (gTest (gUn oIsN ga)) :=
  ⟨pt_cmpR op_isN ha.pe pe_non (nomark _), impT_test (xe_isN (pos := pos) (j := j) (pos' := pos') ha).im⟩
theorem xt_notN (ha : XE X W a ta ga) {j pos'} : XT X W (.Compare a [.IsNot] [.Constant .none j pos'] pos) (tTest (tOp (fun x y H Q => y = .non ∧ Q (.bl (!decide (x = .non))) H) ta (tC .non))) (gTest (gUn oNotN ga)) :=
  ⟨pt_cmpR op_notN ha.pe pe_non (nomark _), impT_test (xe_notN (pos := pos) (j := j) (pos' := pos') ha).im⟩
theorem xt_chain {op op' : CmpOp} {r r' : R2} {o o' : OD} (ho : OpR X (compareOp op) r) (ho' : OpR X (compareOp op') r') (hd : OpD X.K r o) (hd' : OpD X.K r' o') (ha : XE X W a ta ga) (hb : XE X W b tb gb) (hc : XE X W c tc gc)
    (hm : lastMarks [op, op'] [b, c] = false := by with_unfolding_all rfl) : XT X W (.Compare a [op, op'] [b, c] pos) (tTest (tChain r r' ta tb tc)) (gTest (gChain o o' ga gb gc)) :=
  ⟨pt_chain ho ho' ha.pe hb.pe hc.pe hm, impT_test (impE_chain hd hd' ha.im hb.im hc.im)⟩
/-- an expression that is True or False, as a test -/
theorem xt_val (ha : XE X W a ta ga) (he : ∀ whole, isTrue a X.env whole = (do let v ← whole; standAt a.pos; holding [v] (truthy v)) := by intro _; rfl) : XT X W a (tB ta) (gTest ga) :=
  ⟨pt_val ha.pe he, impT_test ha.im⟩
theorem xt_tru (ha : XE X W a ta ga) (he : ∀ whole, isTrue a X.env whole = (do let v ← whole; standAt a.pos; holding [v] (truthy v)) := by intro _; rfl) : XT X W a (fun σ H Q => ta σ H fun x H' => ∃ k, TruV X.K x H' k ∧ Q k H') (gTru ga) := by
  refine ⟨pt_truth ha.pe he, fun σ H δ I as M P Q w en s => ?_⟩
  refine ha.im σ H δ I as M P _ w en (Sat.bind s fun x M1 v H1 I1 as1 _ g1 w1 r1 s1 => ?_)
  split at s1
  · rename_i k hk
    refine ⟨k, ?_, s1 _ H1 I1 as1 (Gr.refl _ _) w1 rfl⟩
    unfold trD at hk
    split at hk
    · cases hk; cases r1; rfl
    · cases hk; cases r1; rfl
    · cases hk; cases r1; rfl
    · cases hk
      obtain ⟨a, vs, rfl, h1, rr⟩ := r1.tupl w1 rfl
      refine .inr (.inl ⟨vs, h1, ?_⟩)
      cases rr <;> rfl
    · split at hk
      · rename_i xs hx
        cases hk
        obtain ⟨a, vs, rfl, h1, rr⟩ := r1.list w1 hx
        refine .inl ⟨vs, h1, ?_⟩
        cases rr <;> rfl
      · cases hk
  · exact s1.elim
variable {tA tB' : TT} {gA gB : GB} {rest : List Expr}
theorem xw_pt (h : XW X W e tA gA) : XT X W e tA gA := ⟨h.pe.pt, h.im⟩
theorem xw_and1 (ha : XT X W a tA gA) : XW X W (.BoolOp .And [a] pos) tA gA := ⟨pw_and1 ha.pe, ha.im⟩
theorem xw_or1 (ha : XT X W a tA gA) : XW X W (.BoolOp .Or [a] pos) tA gA := ⟨pw_or1 ha.pe, ha.im⟩
theorem xw_and (ha : XT X W a tA gA) (hb : XW X W (.BoolOp .And (b :: rest) pos) tB' gB) : XW X W (.BoolOp .And (a :: b :: rest) pos) (tAnd tA tB') (gAnd gA gB) := by
  refine ⟨pw_and ha.pe hb.pe, fun σ H δ I as M P Q w en s => ?_⟩
  refine ha.im σ H δ I as M P _ w en (Sat.bind s fun x M1 v H1 I1 as1 _ g1 w1 r1 s1 => ?_)
  subst r1
  cases v with
  | true => exact hb.im σ H1 δ I1 as1 M1 P Q w1 (en.mono g1) s1
  | false => exact s1 _ H1 I1 as1 (Gr.refl _ _) w1 rfl
theorem xw_or (ha : XT X W a tA gA) (hb : XW X W (.BoolOp .Or (b :: rest) pos) tB' gB) : XW X W (.BoolOp .Or (a :: b :: rest) pos) (tOr tA tB') (gOr gA gB) := by
  refine ⟨pw_or ha.pe hb.pe, fun σ H δ I as M P Q w en s => ?_⟩
  refine ha.im σ H δ I as M P _ w en (Sat.bind s fun x M1 v H1 I1 as1 _ g1 w1 r1 s1 => ?_)
  subst r1
  cases v with
  | false => exact hb.im σ H1 δ I1 as1 M1 P Q w1 (en.mono g1) s1
  | true => exact s1 _ H1 I1 as1 (Gr.refl _ _) w1 rfl
theorem xt_not (ha : XT X W a tA gA) : XT X W (.UnaryOp .Not a pos) (tNot tA) (gNot gA) := by
  refine ⟨pt_not ha.pe, fun σ H δ I as M P Q w en s => ?_⟩
  refine ha.im σ H δ I as M P _ w en (Sat.bind s fun x M1 v H1 I1 as1 _ g1 w1 r1 s1 => ?_)
  subst r1
  exact s1 _ H1 I1 as1 (Gr.refl _ _) w1 rfl
theorem xe_one {op} (h : XE X W a ta ga) : XE X W (.BoolOp op [a] pos) ta ga := ⟨pe_one h.pe, h.im⟩
theorem xe_and (ha : XE X W a ta ga) (hb : XE X W (.BoolOp .And (b :: rest) pos) tb gb) : XE X W (.BoolOp .And (a :: b :: rest) pos) (tAndV ta tb) (gAndV ga gb) := by
  refine ⟨pe_and ha.pe hb.pe, fun σ H δ I as M P Q w en s => ?_⟩
  refine ha.im σ H δ I as M P _ w en (Sat.bind s fun x M1 v H1 I1 as1 _ g1 w1 r1 s1 => ?_)
  split at s1
  · cases r1
    exact ⟨true, rfl, by rw [if_pos rfl]; exact hb.im σ H1 δ I1 as1 M1 P Q w1 (en.mono g1) s1⟩
  · cases r1
    exact ⟨false, rfl, by rw [if_neg Bool.false_ne_true]; exact s1.now w1 (.bl false)⟩
  · exact s1.elim
theorem xe_or (ha : XE X W a ta ga) (hb : XE X W (.BoolOp .Or (b :: rest) pos) tb gb) : XE X W (.BoolOp .Or (a :: b :: rest) pos) (tOrV ta tb) (gOrV ga gb) := by
  refine ⟨pe_or ha.pe hb.pe, fun σ H δ I as M P Q w en s => ?_⟩
  refine ha.im σ H δ I as M P _ w en (Sat.bind s fun x M1 v H1 I1 as1 _ g1 w1 r1 s1 => ?_)
  split at s1
  · cases r1
    exact ⟨true, rfl, by rw [if_pos rfl]; exact s1.now w1 (.bl true)⟩
  · cases r1
    exact ⟨false, rfl, by rw [if_neg Bool.false_ne_true]; exact hb.im σ H1 δ I1 as1 M1 P Q w1 (en.mono g1) s1⟩
  · exact s1.elim
theorem xe_not (ha : XE X W a ta ga) : XE X W (.UnaryOp .Not a pos) (tNotV ta) (gNotV ga) := by
  refine ⟨pe_not ha.pe, fun σ H δ I as M P Q w en s => ?_⟩
  refine ha.im σ H δ I as M P _ w en (Sat.bind s fun x M1 v H1 I1 as1 _ g1 w1 r1 s1 => ?_)
  split at s1
  · cases r1
    exact ⟨_, rfl, s1.now w1 (.bl _)⟩
  · exact s1.elim
theorem xe_if (hc : XT X W c tA gA) (ha : XE X W a ta ga) (hb : XE X W b tb gb) : XE X W (.IfExp c a b pos) (tIf tA ta tb) (gIfE gA ga gb) := by
  refine ⟨pe_ifExp hc.pe ha.pe hb.pe, fun σ H δ I as M P Q w en s => ?_⟩
  refine hc.im σ H δ I as M P _ w en (Sat.bind s fun x M1 v H1 I1 as1 _ g1 w1 r1 s1 => ?_)
  subst r1
  cases v with
  | true => exact ha.im σ H1 δ I1 as1 M1 P Q w1 (en.mono g1) s1
  | false => exact hb.im σ H1 δ I1 as1 M1 P Q w1 (en.mono g1) s1
theorem xa_nil : XA X W [] tNil gANil := ⟨pa_nil, fun σ H δ I as M P Q w en s => s _ H I as (Gr.refl _ _) w .nil⟩
theorem xa_cons (ha : XE X W e ta ga) (hr : XA X W es t g) (hs : starEach (e :: es) X.env = (false, eval e X.env) :: starEach es X.env := by rfl) : XA X W (e :: es) (tCons ta t) (gACons ga g) := by
  refine ⟨pa_cons ha.pe hr.pe hs, fun σ H δ I as M P Q w en s => ?_⟩
  refine ha.im σ H δ I as M P _ w en (Sat.bind s fun x M1 v H1 I1 as1 _ g1 w1 r1 s1 => ?_)
  refine hr.im σ H1 δ I1 as1 M1 P _ w1 (en.mono g1) (Sat.bind s1 fun xs M2 vs H2 I2 as2 _ g2 w2 r2 s2 => ?_)
  exact s2 _ H2 I2 as2 (Gr.refl _ _) w2 (.cons (r1.mono g2) r2)
theorem xe_tup {x1} (h : XA X W es t g) : XE X W (.Tuple es x1 pos) (tTup t) (gETup g) := by
  refine ⟨pe_tup h.pe, fun σ H δ I as M P Q w en s => ?_⟩
  refine h.im σ H δ I as M P _ w en (Sat.bind s fun xs M1 vs H1 I1 as1 _ g1 w1 r1 s1 => ?_)
  split at s1
  · rename_i hb
    exact ⟨by rw [r1.len]; exact big_le hb, fun p hp => s1.newTup w1 r1 hp⟩
  · exact s1.elim
theorem xe_lst (h : XA X W es t g) : XE X W (.List es pos) (tLst t) (gLst g) := by
  refine ⟨pe_lst h.pe, fun σ H δ I as M P Q w en s => ?_⟩
  refine h.im σ H δ I as M P _ w en (Sat.bind s fun xs M1 vs H1 I1 as1 _ g1 w1 r1 s1 => ?_)
  split at s1
  · rename_i hb
    exact ⟨by rw [r1.len]; exact big_le hb, fun p hp => s1.newLst w1 r1 hp⟩
  · exact s1.elim
theorem xe_lstM (h : XA X W es t g) : XE X W (.List es pos) (tLst t) (gLstM g) := by
  refine ⟨pe_lst h.pe, fun σ H δ I as M P Q w en s => ?_⟩
  refine h.im σ H δ I as M P _ w en (Sat.bind s fun xs M1 vs H1 I1 as1 _ g1 w1 r1 s1 => ?_)
  split at s1
  · rename_i hb
    exact ⟨by rw [r1.len]; exact big_le hb, fun p hp => s1.newRef w1 r1 hp⟩
  · exact s1.elim
theorem impE_CB {K : PySem.W.Frag} {mg : Str → Option Value} {r : List V → Hp → VK → Prop} {o : OC} (ho : OpC K r o) (h : ImpA K mg W t g) : ImpE K mg W (tCB r t) (gCall o g) := by
  intro σ H δ I as M P Q w en s
  refine h σ H δ I as M P _ w en (Sat.bind s fun xs M1 vs H1 I1 as1 _ g1 w1 r1 s1 => ?_)
  exact ho H1 I1 as1 M1 P vs xs _ Q w1 r1 s1
theorem xe_callB {x : Str} {id : String} {r : List V → Hp → VK → Prop} {o : OC} (hc : CallR X (.builtin id) r) (ho : OpC X.K r o) (hm : X.mg x = none) (hv : bootBuiltins x = some (.builtin id)) (ha : XA X W (e :: es) t g) (hg : Gl X x := by rfl) (hn : x ≠ "__name__" := by decide) (hdb : (x == ("__debug__" : Str)) = false := by decide)
    (he : starEach (e :: es) X.env = (false, eval e X.env) :: starEach es X.env := by rfl) (hpl : (backTo pos (starEach es X.env)).any (·.1) = false := by rfl) : XE X W (.Call (.Name x p) (e :: es) [] pos) (tCB r t) (gCall o g) :=
  ⟨pe_callB hc hg hm hv ha.pe hn hdb he hpl, impE_CB ho ha.im⟩
theorem xe_callTy {x : Str} {T : String} {r : List V → Hp → VK → Prop} {o : OC} (hc : CallR X (.type T) r) (ho : OpC X.K r o) (hm : X.mg x = none) (hv : bootBuiltins x = some (.type T)) (ha : XA X W (e :: es) t g) (hg : Gl X x := by rfl) (hn : x ≠ "__name__" := by decide) (hdb : (x == ("__debug__" : Str)) = false := by decide)
    (he : starEach (e :: es) X.env = (false, eval e X.env) :: starEach es X.env := by rfl) (hpl : (backTo pos (starEach es X.env)).any (·.1) = false := by rfl) : XE X W (.Call (.Name x p) (e :: es) [] pos) (tCB r t) (gCall o g) :=
  ⟨pe_callTy hc hg hm hv ha.pe hn hdb he hpl, impE_CB ho ha.im⟩
theorem xe_callBfun {x : Str} {id : String} {r : List V → Hp → VK → Prop} {o : OC} (hc : CallR X (.builtin id) r) (ho : OpC X.K r o) (hm : X.mg x = some (.builtin id)) (ha : XA X W (e :: es) t g) (hg : Gl X x := by rfl) (hdb : (x == ("__debug__" : Str)) = false := by decide)
    (he : starEach (e :: es) X.env = (false, eval e X.env) :: starEach es X.env := by rfl) (hpl : (backTo pos (starEach es X.env)).any (·.1) = false := by rfl) : XE X W (.Call (.Name x p) (e :: es) [] pos) (tCB r t) (gCall o g) :=
  ⟨pe_callBfun hc hg hm ha.pe hdb he hpl, impE_CB ho ha.im⟩
/-! slices -/
theorem xo_none : XO X W none tNoPart gNoP := ⟨po_none, fun σ H δ I as M P Q w en s => s _ H I as (Gr.refl _ _) w rfl⟩
theorem xo_some (h : XE X W a ta ga) : XO X W (some a) (tPart ta) (gP ga) := by
  refine ⟨po_some h.pe, fun σ H δ I as M P Q w en s => ?_⟩
  refine h.im σ H δ I as M P _ w en (Sat.bind s fun x M1 v H1 I1 as1 _ g1 w1 r1 s1 => ?_)
  split at s1
  · cases r1
    exact ⟨_, rfl, s1 _ H1 I1 as1 (Gr.refl _ _) w1 rfl⟩
  · exact s1.elim
theorem xe_slice {lo hi : Option Expr} {p2 : Pos} {tl th : TO} {gl gh : GO} (he : XE X W a ta ga) (hl : XO X W lo tl gl) (hh : XO X W hi th gh) : XE X W (.Subscript a (.Slice lo hi none p2) pos) (tSl (rSlG X.K) ta tl th) (gSl ga gl gh) := by
  refine ⟨pe_slice sl_G he.pe hl.pe hh.pe, fun σ H δ I as M P Q w en s => ?_⟩
  refine he.im σ H δ I as M P _ w en (Sat.bind s fun x M1 v H1 I1 as1 _ g1 w1 r1 s1 => ?_)
  refine hl.im σ H1 δ I1 as1 M1 P _ w1 (en.mono g1) (Sat.bind s1 fun lo M2 lo' H2 I2 as2 _ g2 w2 r2 s2 => ?_)
  subst r2
  refine hh.im σ H2 δ I2 as2 M2 P _ w2 (en.mono (g1.trans g2)) (Sat.bind s2 fun hi M3 hi' H3 I3 as3 _ g3 w3 r3 s3 => ?_)
  subst r3
  exact opd_sl w3 (r1.mono (g2.trans g3)) s3
end

/-! ### calls of defs -/
def spM (K : PySem.W.Frag) (mg : Str → Option Value) (n : Nat) (m : OC) : Sp := fun vs H Q E => vs.length = n ∧ ∃ (ds : List D) (I : Hp) (as : List Addr) (M : List MO) (P : Hp),
  Wr K H I as M P ∧ Reps K I as vs ds ∧ Sat K (Rep K) (fun c H' => ∀ cls, mg c = some cls → E cls none H') I as P Q (m ds M)
structure Callee (P : Program) (w : World) (K : PySem.W.Frag) (mg : Str → Option Value) (base : Heap) (x : Str) (k n : Nat) (m : OC) : Prop where
  ex : ∃ (f : Addr) (fd : FuncData) (ps : List Str), FnOk P w K mg base (L2.CX P w) k f fd ps (spM K mg n m) ∧ mg x = some (.ref f) ∧ PySem.W.keepIn K (.ref f) = true ∧ Binds K fd ps [] ∧ PySem.W.nsIn K mainGlobals x = some (some (.ref f))
section
variable {X : Cx} {W : WX} {e : Expr} {es : List Expr} {pos p : Pos} {t : TA} {g : GA}
theorem impE_call {K : PySem.W.Frag} {mg : Str → Option Value} {n : Nat} {m : OC} (hn : n = (e :: es).length) (hl : ∀ δ M ds M', g δ M = .ok ds M' → ds.length = n) (ha : ImpA K mg W t g) : ImpE K mg W (tCallS (spM K mg n m) (WE W) t) (gCall m g) := by
  intro σ H δ I as M P Q w en s
  refine ha σ H δ I as M P _ w en (Sat.bind s fun xs M1 vs H1 I1 as1 e1 g1 w1 r1 s1 => ?_)
  exact ⟨by rw [r1.len]; exact hl _ _ _ _ e1, xs, I1, as1, M1, P, w1, r1, s1⟩
theorem gNil_len {δ : Ctx} {M : List MO} {ds : List D} {M' : List MO} (h : gANil δ M = .ok ds M') : ds.length = 0 := by
  unfold gANil at h; cases h; rfl
theorem gCons_len {ga : GE} {gr : GA} {n : Nat} (hr : ∀ δ M ds M', gr δ M = .ok ds M' → ds.length = n) {δ : Ctx} {M : List MO} {ds : List D} {M' : List MO} (h : gACons ga gr δ M = .ok ds M') : ds.length = n + 1 := by
  unfold gACons at h
  cases e1 : ga δ M with
  | bad => rw [e1] at h; cases h
  | ex c M1 => rw [e1] at h; cases h
  | ok x M1 =>
    rw [e1] at h
    simp only [R.bind_ok] at h
    cases e2 : gr δ M1 with
    | bad => rw [e2] at h; cases h
    | ex c M2 => rw [e2] at h; cases h
    | ok xs M2 =>
      rw [e2] at h
      simp only [R.bind_ok, R.ok.injEq] at h
      rw [← h.1, List.length_cons, hr _ _ _ _ e2]
theorem xe_call {x : Str} {k n : Nat} {m : OC} (C : Callee X.prog X.w X.K X.mg X.base x k n m) (hr : Room k X.A) (tk : Takes X W) (ha : XA X W (e :: es) t g) (hl : ∀ δ M ds M', g δ M = .ok ds M' → ds.length = n := by first | exact fun _ _ _ _ h => gCons_len (fun _ _ _ _ h => gNil_len h) h | exact fun _ _ _ _ h => gCons_len (fun _ _ _ _ h => gCons_len (fun _ _ _ _ h => gNil_len h) h) h | exact fun _ _ _ _ h => gCons_len (fun _ _ _ _ h => gCons_len (fun _ _ _ _ h => gCons_len (fun _ _ _ _ h => gNil_len h) h) h) h | exact fun _ _ _ _ h => gCons_len (fun _ _ _ _ h => gCons_len (fun _ _ _ _ h => gCons_len (fun _ _ _ _ h => gCons_len (fun _ _ _ _ h => gNil_len h) h) h) h) h)
    (hg : Gl X x := by rfl) (hdb : (x == ("__debug__" : Str)) = false := by decide)
    (he : starEach (e :: es) X.env = (false, eval e X.env) :: starEach es X.env := by rfl) (hpl : (backTo pos (starEach es X.env)).any (·.1) = false := by rfl) :
    XE X W (.Call (.Name x p) (e :: es) [] pos) (tCallS (spM X.K X.mg n m) (WE W) t) (gCall m g) := by
  obtain ⟨f, fd, ps, F, h1, h2, h3, _⟩ := C.ex
  refine ⟨pe_callS F hr hg h1 h2 h3 (fun σ => passAt tk σ) ha.pe hdb he hpl, ?_⟩
  intro σ H δ I as M P Q w en s
  refine ha.im σ H δ I as M P _ w en (Sat.bind s fun xs M1 vs H1 I1 as1 e1 g1 w1 r1 s1 => ?_)
  exact ⟨by rw [r1.len]; exact hl _ _ _ _ e1, xs, I1, as1, M1, P, w1, r1, s1⟩
end
end KM
set_option Elab.async false
set_option linter.all false
set_option maxRecDepth 100000
set_option maxHeartbeats 2000000
namespace KM
open PySem L2 PySem.Spec PyProof.Rows

/-! ### statements -/
def R.toS {α : Type} (r : R α) (δ : Ctx) (f : α → List MO → SR) : SR := match r with
  | .bad => .bad
  | .ok a M => f a M
  | .ex c M => .ex c δ M
@[simp] theorem R.toS_bad {α : Type} (f : α → List MO → SR) (δ : Ctx) : (R.bad).toS δ f = .bad := rfl
@[simp] theorem R.toS_ok {α : Type} (f : α → List MO → SR) (δ : Ctx) (a : α) (M : List MO) : (R.ok a M).toS δ f = f a M := rfl
@[simp] theorem R.toS_ex {α : Type} (f : α → List MO → SR) (δ : Ctx) (c : Str) (M : List MO) : (R.ex c M).toS δ f = .ex c δ M := rfl
def SR.then (r : SR) (f : Ctx → List MO → SR) : SR := match r with
  | .nx δ M => f δ M
  | r => r
@[simp] theorem SR.then_nx (f : Ctx → List MO → SR) (δ : Ctx) (M : List MO) : (SR.nx δ M).then f = f δ M := rfl
@[simp] theorem SR.then_rt (f : Ctx → List MO → SR) (d : D) (M : List MO) : (SR.rt d M).then f = .rt d M := rfl
@[simp] theorem SR.then_bk (f : Ctx → List MO → SR) (δ : Ctx) (M : List MO) : (SR.bk δ M).then f = .bk δ M := rfl
@[simp] theorem SR.then_ct (f : Ctx → List MO → SR) (δ : Ctx) (M : List MO) : (SR.ct δ M).then f = .ct δ M := rfl
@[simp] theorem SR.then_ex (f : Ctx → List MO → SR) (c : Str) (δ : Ctx) (M : List MO) : (SR.ex c δ M).then f = .ex c δ M := rfl
@[simp] theorem SR.then_bad (f : Ctx → List MO → SR) : (SR.bad).then f = .bad := rfl
def gNext : GS := fun δ M => .nx δ M
def gSeq (g h : GS) : GS := fun δ M => (g δ M).then h
def gSet (i : Nat) (ge : GE) : GS := fun δ M => (ge δ M).toS δ fun d M1 => .nx (δ.set i (some d)) M1
def gDrop (ge : GE) : GS := fun δ M => (ge δ M).toS δ fun _ M1 => .nx δ M1
def gRet (ge : GE) : GS := fun δ M => (ge δ M).toS δ fun d M1 => .rt d M1
def gRetN : GS := fun δ M => .rt .non M
def gIf (gc : GB) (g h : GS) : GS := fun δ M => (gc δ M).toS δ fun b M1 => if b = true then g δ M1 else h δ M1
def gBreak : GS := fun δ M => .bk δ M
def gCont : GS := fun δ M => .ct δ M
def gNever : GS := fun _ _ => .bad
def gRaise (c : Str) : GS := fun δ M => .ex c δ M
abbrev GG := D → GS
def gtName (i : Nat) : GG := fun d δ M => .nx (δ.set i (some d)) M
def gtNil : List D → GS := fun ds δ M => match ds with
  | [] => .nx δ M
  | _ => .bad
def gtCons (g : GG) (r : List D → GS) : List D → GS := fun ds δ M => match ds with
  | d :: ds => match g d δ M with
    | .nx δ1 M1 => match r ds δ1 M1 with
      | .nx δ2 M2 => .nx δ2 M2
      | _ => .bad
    | _ => .bad
  | [] => .bad
def gtTup (n : Nat) (g : List D → GS) : GG := fun d δ M => match tupOf d with
  | some ds => if ds.length = n then g ds δ M else .bad
  | none => .bad
abbrev OSet := D → D → D → List MO → Option (List MO)
def gtSub (go gi : GE) (o : OSet) : GG := fun d δ M => (go δ M).toS δ fun x M1 => (gi δ M1).toS δ fun i M2 => match o x i d M2 with
  | some M3 => .nx δ M3
  | none => .bad
def gAsg (ge : GE) (gg : GG) : GS := fun δ M => (ge δ M).toS δ fun d M1 => match gg d δ M1 with
  | .nx δ2 M2 => .nx δ2 M2
  | .ex c _ M2 => .ex c δ M2
  | _ => .bad
def gPar (i j : Nat) (ga gb : GE) : GS := fun δ M => (ga δ M).toS δ fun x M1 => (gb δ M1).toS δ fun y M2 => .nx ((δ.set i (some x)).set j (some y)) M2

structure Kept (is : List Nat) (σ σ' : L2.St) : Prop where
  len : σ'.length = σ.length
  at_ : ∀ j : Nat, j ∉ is → σ'[j]? = σ[j]?
theorem Kept.refl (is : List Nat) (σ : L2.St) : Kept is σ σ := ⟨rfl, fun _ _ => rfl⟩
def SatG (K : PySem.W.Frag) (is : List Nat) (Wf : Str → Hp → Prop) (I : Hp) (as : List Addr) (P : Hp) (σ : L2.St) (Q : L2.St → Hp → Prop) : SR → Prop
  | .nx δ M => ∀ σ' H' I' as', Gr I as I' as' → Wr K H' I' as' M P → Envr K I' as' σ' δ → Kept is σ σ' → Q σ' H'
  | .ex c _ M => ∀ H' I' as', Gr I as I' as' → Wr K H' I' as' M P → Wf c H'
  | _ => False
def ImpG (K : PySem.W.Frag) (mg : Str → Option Value) (W : WX) (is : List Nat) (t : TG) (g : GG) : Prop := ∀ (v : V) (d : D) (σ : L2.St) (H : Hp) (δ : Ctx) (I : Hp) (as : List Addr) (M : List MO) (P : Hp) (Q : L2.St → Hp → Prop),
  Wr K H I as M P → Envr K I as σ δ → Rep K I as v d → SatG K is (fun c H' => lowW mg W c σ H') I as P σ Q (g d δ M) → t v σ H Q
def ImpGs (K : PySem.W.Frag) (mg : Str → Option Value) (W : WX) (is : List Nat) (t : TGs) (g : List D → GS) : Prop := ∀ (v : List V) (d : List D) (σ : L2.St) (H : Hp) (δ : Ctx) (I : Hp) (as : List Addr) (M : List MO) (P : Hp) (Q : L2.St → Hp → Prop),
  Wr K H I as M P → Envr K I as σ δ → Reps K I as v d → SatG K is (fun c H' => lowW mg W c σ H') I as P σ Q (g d δ M) → t v σ H Q
structure XG (X : Cx) (W : WX) (e : Expr) (is : List Nat) (t : TG) (g : GG) : Prop where
  pe : PG X e t
  im : ImpG X.K X.mg W is t g
structure XGs (X : Cx) (W : WX) (es : List Expr) (is : List Nat) (t : TGs) (g : List D → GS) : Prop where
  pe : PGs X es t
  im : ImpGs X.K X.mg W is t g
section
variable {X : Cx} {W : WX} {a b c e : Expr} {es : List Expr} {pos p : Pos} {ta tb tc te : TE} {ga gb gc ge : GE} {t : TA} {g : GA} {K : PySem.W.Frag}
theorem SatS.bindE {α β : Type} {rel : Hp → List Addr → β → α → Prop} {Wf : Str → L2.St → Hp → Prop} {I P : Hp} {as : List Addr} {E : Ends} {δ : Ctx} {σ : L2.St} {r : R α} {f : α → List MO → SR} (s : SatS K Wf I as P E (r.toS δ f)) (en : Envr K I as σ δ)
    {Q1 : β → Hp → Prop} (k : ∀ a M v H' I' as', r = .ok a M → Gr I as I' as' → Wr K H' I' as' M P → rel I' as' v a → SatS K Wf I' as' P E (f a M) → Q1 v H') : Sat K rel (fun c H' => Wf c σ H') I as P Q1 r := by
  cases r with
  | bad => exact s
  | ok d M => exact fun v H2 I2 as2 g2 w r => k d M v H2 I2 as2 rfl g2 w r (SatS.gr g2 s)
  | ex c M => exact fun H2 I2 as2 g2 w => s σ H2 I2 as2 g2 w (en.mono g2)
theorem xss_nil : XSs X W [] tNext gNext := ⟨pss_nil, fun σ H δ I as M P E w en s => s _ H I as (Gr.refl _ _) w en⟩
theorem impS_seq {mg : Str → Option Value} {t u : TS} {g h : GS} (h1 : ImpS K mg W t g) (h2 : ImpS K mg W u h) : ImpS K mg W (tSeq t u) (gSeq g h) := by
  intro σ H δ I as M P E w en s
  refine h1 σ H δ I as M P _ w en ?_
  unfold gSeq at s
  cases e : g δ M with
  | bad => rw [e] at s; exact s
  | nx δ1 M1 =>
    rw [e] at s
    exact fun σ' H' I' as' g' w' en' => h2 σ' H' δ1 I' as' M1 P E w' en' (SatS.gr g' s)
  | rt d M1 => rw [e] at s; exact s
  | bk d M1 => rw [e] at s; exact s
  | ct d M1 => rw [e] at s; exact s
  | ex c d M1 => rw [e] at s; exact s
theorem xss_cons {st : Stmt} {rest : List Stmt} {t u : TS} {g h : GS} (h1 : XS X W st t g) (h2 : XSs X W rest u h) : XSs X W (st :: rest) (tSeq t u) (gSeq g h) := ⟨pss_cons h1.pe h2.pe, impS_seq h1.im h2.im⟩
theorem xss_one {st : Stmt} {t : TS} {g : GS} (h1 : XS X W st t g) : XSs X W [st] t g := ⟨pss_one h1.pe, h1.im⟩
theorem impS_set {mg : Str → Option Value} {i : Nat} (he : ImpE K mg W te ge) : ImpS K mg W (tAsg te (L2.gName i)) (gSet i ge) := by
  intro σ H δ I as M P E w en s
  refine he σ H δ I as M P _ w en (SatS.bindE s en fun d M1 v H1 I1 as1 _ g1 w1 r1 s1 => ?_)
  exact s1 _ H1 I1 as1 (Gr.refl _ _) w1 ((en.mono g1).set r1 i)
theorem xs_set (i : Nat) {x : Str} {pos' : Pos} (hN : X.N.Nodup) (he : XE X W e te ge) (hi : X.N[i]? = some x := by rfl) (hx : Loc X.env.scope x := by first | exact .inl rfl | exact .inr rfl) (hs : swapsWith e (some (.Name x pos')) pos.line X.env = pure false := by rfl)
    (hf : X.fn x = true ∨ X.env.scope.names.lookup x = some .local := by first | exact .inl rfl | exact .inr rfl | assumption) : XS X W (.Assign [.Name x pos'] e pos) (tAsg te (L2.gName i)) (gSet i ge) :=
  ⟨ps_set hN hi hx he.pe hs hf, impS_set he.im⟩
theorem xs_expr (he : XE X W e te ge) (hs : swapsWith e none pos.line X.env = pure false := by rfl) : XS X W (.Expr e pos) (tDrop te) (gDrop ge) := by
  refine ⟨ps_expr he.pe hs, fun σ H δ I as M P E w en s => ?_⟩
  refine he.im σ H δ I as M P _ w en (SatS.bindE s en fun d M1 v H1 I1 as1 _ g1 w1 r1 s1 => ?_)
  exact s1 _ H1 I1 as1 (Gr.refl _ _) w1 (en.mono g1)
theorem xs_ret (he : XE X W e te ge) : XS X W (.Return (some e) pos) (tRet te) (gRet ge) := by
  refine ⟨ps_ret he.pe, fun σ H δ I as M P E w en s => ?_⟩
  refine he.im σ H δ I as M P _ w en (SatS.bindE s en fun d M1 v H1 I1 as1 _ g1 w1 r1 s1 => ?_)
  exact s1 _ H1 I1 as1 (Gr.refl _ _) w1 r1
theorem xs_retN : XS X W (.Return none pos) tRetN gRetN := ⟨ps_retN, fun σ H δ I as M P E w en s => s _ H I as (Gr.refl _ _) w .non⟩
theorem xs_pass : XS X W (.Pass pos) tNext gNext := ⟨ps_pass, fun σ H δ I as M P E w en s => s _ H I as (Gr.refl _ _) w en⟩
theorem xs_break : XS X W (.Break pos) tBreak gBreak := ⟨ps_break, fun σ H δ I as M P E w en s => s _ H I as (Gr.refl _ _) w en⟩
theorem xs_cont : XS X W (.Continue pos) tCont gCont := ⟨ps_continue, fun σ H δ I as M P E w en s => s _ H I as (Gr.refl _ _) w en⟩
theorem xs_never {st : Stmt} : XS X W st tNever gNever := ⟨ps_never, fun σ H δ I as M P E w en s => s.elim⟩
theorem xs_if {a b : List Stmt} {tA : TT} {gA : GB} {t u : TS} {g h : GS} (hc : XT X W c tA gA) (ha : XSs X W a t g) (hb : XSs X W b u h) : XS X W (.If c a b pos) (tIfS tA t u) (gIf gA g h) := by
  refine ⟨ps_if hc.pe ha.pe hb.pe, fun σ H δ I as M P E w en s => ?_⟩
  refine hc.im σ H δ I as M P _ w en (SatS.bindE s en fun d M1 v H1 I1 as1 _ g1 w1 r1 s1 => ?_)
  subst r1
  cases v with
  | true => exact ha.im σ H1 δ I1 as1 M1 P E w1 (en.mono g1) s1
  | false => exact hb.im σ H1 δ I1 as1 M1 P E w1 (en.mono g1) s1
/-! targets -/
theorem xg_name (i : Nat) {x : Str} (hN : X.N.Nodup) (hi : X.N[i]? = some x := by rfl) (hx : Loc X.env.scope x := by first | exact .inl rfl | exact .inr rfl) (hf : X.fn x = true ∨ X.env.scope.names.lookup x = some .local := by first | exact .inl rfl | exact .inr rfl | assumption) :
    XG X W (.Name x pos) [i] (L2.gName i) (gtName i) := by
  refine ⟨pg_name hN hi hx hf, fun v d σ H δ I as M P Q w en r s => ?_⟩
  exact s _ H I as (Gr.refl _ _) w (en.set r i) ⟨List.length_set, fun j hj => List.getElem?_set_ne (by simpa using fun e => hj (by simp [e]))⟩
theorem xgs_nil : XGs X W [] [] L2.gNil gtNil := by
  refine ⟨pgs_nil, fun vs ds σ H δ I as M P Q w en r s => ?_⟩
  unfold gtNil at s
  cases r with
  | nil => exact ⟨rfl, s _ H I as (Gr.refl _ _) w en (Kept.refl _ _)⟩
  | cons => exact s.elim
theorem xgs_cons {is js : List Nat} {t : TG} {u : TGs} {g : GG} {r : List D → GS} (h1 : XG X W e is t g) (h2 : XGs X W es js u r)
    (hs : (assignEach (e :: es) X.env).map (·.2) = assign e X.env :: (assignEach es X.env).map (·.2) := by rfl) : XGs X W (e :: es) (is ++ js) (L2.gCons t u) (gtCons g r) := by
  refine ⟨pgs_cons h1.pe h2.pe hs, fun vs ds σ H δ I as M P Q w en rr s => ?_⟩
  unfold gtCons at s
  cases rr with
  | nil => exact s.elim
  | @cons v vs d ds rd rds =>
    refine ⟨v, vs, rfl, ?_⟩
    refine h1.im v d σ H δ I as M P _ w en rd ?_
    simp only at s
    split at s
    · rename_i δ1 M1 e1
      rw [e1]
      intro σ1 H1 I1 as1 g1 w1 en1 k1
      refine h2.im vs ds σ1 H1 δ1 I1 as1 M1 P Q w1 en1 (rds.mono g1) ?_
      split at s
      · rename_i δ2 M2 e2
        rw [e2]
        exact fun σ2 H2 I2 as2 g2 w2 en2 k2 => s σ2 H2 I2 as2 (g1.trans g2) w2 en2 ⟨k2.len.trans k1.len, fun j hj => (k2.at_ j fun z => hj (List.mem_append_right _ z)).trans (k1.at_ j fun z => hj (List.mem_append_left _ z))⟩
      · exact s.elim
    · exact s.elim
theorem xg_tup {is : List Nat} {k n : Nat} {t : TGs} {g : List D → GS} (hc : X.calm = true) (h : XGs X W es is t g)
    (hn : (assignEach es X.env).length = n := by rfl) (hst : (assignEach es X.env).findIdx? (·.1) = none := by rfl) : XG X W (.Tuple es k pos) is (L2.gTup X.K n t) (gtTup n g) := by
  refine ⟨pg_tup hc h.pe hn hst, fun v d σ H δ I as M P Q w en r s => ?_⟩
  unfold gtTup at s
  split at s
  · rename_i ds hd
    split at s
    · rename_i hl
      obtain ⟨a, vs, rfl, h1, rr⟩ := r.tupl w hd
      exact ⟨a, vs, rfl, h1, by rw [rr.len]; exact hl, h.im vs ds σ H δ I as M P Q w en rr s⟩
    · exact s.elim
  · exact s.elim
def SetD (K : PySem.W.Frag) (t : TSet) (o : OSet) : Prop := ∀ (H I : Hp) (as : List Addr) (M M' : List MO) (P : Hp) (x i v : V) (dx di dv : D) (Q : Hp → Prop),
  Wr K H I as M P → Rep K I as x dx → Rep K I as i di → Rep K I as v dv → o dx di dv M = some M' → (∀ H', Wr K H' I as M' P → Q H') → t x i v H Q
theorem xg_sub {o i : Expr} {to ti : TE} {go gi : GE} {t : TSet} {os : OSet} (hs : PSet X t) (hd : SetD X.K t os) (ho : XE X W o to go) (hi : XE X W i ti gi)
    (ha : ∀ v, assign (.Subscript o i pos) X.env v = (do
      let ov ← holding [v] (eval o X.env)
      let iv ← holding [v, ov] (eval i X.env)
      standAt pos
      holding [v, ov, iv] (setItem ov iv v)
      release [v, ov, iv] []) := by intro _; rfl) : XG X W (.Subscript o i pos) [] (gSub to ti t) (gtSub go gi os) := by
  refine ⟨pg_sub ho.pe hi.pe hs ha, fun v d σ H δ I as M P Q w en r s => ?_⟩
  unfold gtSub at s
  have lift : ∀ {α β : Type} {rel : Hp → List Addr → β → α → Prop} {I : Hp} {as : List Addr} {r : R α} {f : α → List MO → SR}, SatG X.K [] (fun c H' => lowW X.mg W c σ H') I as P σ Q (r.toS δ f) → ∀ {Q1 : β → Hp → Prop},
      (∀ a M v H' I' as', r = .ok a M → Gr I as I' as' → Wr X.K H' I' as' M P → rel I' as' v a → SatG X.K [] (fun c H' => lowW X.mg W c σ H') I' as' P σ Q (f a M) → Q1 v H') → Sat X.K rel (fun c H' => lowW X.mg W c σ H') I as P Q1 r := by
    intro α β rel I as r f s Q1 k
    cases r with
    | bad => exact s
    | ok d M =>
      refine fun v H2 I2 as2 g2 w r => k d M v H2 I2 as2 rfl g2 w r ?_
      simp only [R.toS_ok] at s
      cases e : f d M with
      | nx δ' M' => rw [e] at s; exact fun σ' H' I' as' g' => s σ' H' I' as' (g2.trans g')
      | ex c δ' M' => rw [e] at s; exact fun H' I' as' g' => s H' I' as' (g2.trans g')
      | _ => rw [e] at s; exact s.elim
    | ex c M => exact s
  refine ho.im σ H δ I as M P _ w en (lift s fun x M1 xv H1 I1 as1 _ g1 w1 r1 s1 => ?_)
  refine hi.im σ H1 δ I1 as1 M1 P _ w1 (en.mono g1) (lift s1 fun iv M2 ivv H2 I2 as2 _ g2 w2 r2 s2 => ?_)
  split at s2
  · rename_i M3 e3
    exact hd H2 I2 as2 M2 M3 P _ _ _ _ _ _ _ w2 (r1.mono g2) r2 (r.mono (g1.trans g2)) e3 fun H' w' => s2 σ H' I2 as2 (Gr.refl _ _) w' (en.mono (g1.trans g2)) (Kept.refl _ _)
  · exact s2.elim
/-- o[i] = v of a list that may change -/
def oSetL : OSet := fun x i v M => match x, i with
  | .ref k, .int j => match M[k]? with
    | some (.lst xs) => match ixN xs.length j with
      | some n => some (M.set k (.lst (xs.set n v)))
      | none => none
    | _ => none
  | _, _ => none
theorem setd_list {K : PySem.W.Frag} : SetD K rSetL oSetL := by
  intro H I as M M' P x i v dx di dv Q w rx ri rv h k
  unfold oSetL at h
  split at h
  · rename_i kk j
    cases ri
    split at h
    · rename_i xs hx
      split at h
      · rename_i n hn
        cases h
        cases rx with
        | @ref _ a h1 =>
          obtain ⟨o, ho, _, _, m⟩ := w.at h1
          rw [hx] at ho
          cases ho
          obtain ⟨vs, e1, rr⟩ := m
          refine ⟨a, vs, j, n, rfl, rfl, e1, by rw [rr.len]; exact hn, k _ (w.put h1 _ _ ⟨_, upd_same, rr.set rv⟩)⟩
      · cases h
    · cases h
  · cases h
theorem xs_asg {tg : Expr} {is : List Nat} {gt : TG} {gg : GG} (he : XE X W e te ge) (hg : XG X W tg is gt gg) (hs : swapsWithSole [tg] e pos.line X.env = pure false := by rfl) (hw : swappedStores [tg] e X.env = pure none := by rfl)
    (h1 : (assignEach [tg] X.env).map (·.2) = [assign tg X.env] := by rfl) : XS X W (.Assign [tg] e pos) (tAsg te gt) (gAsg ge gg) := by
  refine ⟨ps_asg he.pe hg.pe hs hw h1, fun σ H δ I as M P E w en s => ?_⟩
  refine he.im σ H δ I as M P _ w en (SatS.bindE s en fun d M1 v H1 I1 as1 _ g1 w1 r1 s1 => ?_)
  refine hg.im v d σ H1 δ I1 as1 M1 P _ w1 (en.mono g1) r1 ?_
  split at s1
  · rename_i e2
    rw [e2]
    exact fun σ' H' I' as' g' w' en' _ => s1 σ' H' I' as' g' w' en'
  · rename_i e2
    rw [e2]
    exact fun H' I' as' g' w' => s1 σ H' I' as' g' w' (en.mono (g1.trans g'))
  · exact s1.elim
theorem xs_par {i j : Nat} {x y : Str} {px py pt : Pos} {kt k2 pt2} (hc : X.calm = true) (hN : X.N.Nodup) (ha : XE X W a ta ga) (hb : XE X W b tb gb)
    (hi : X.N[i]? = some x := by rfl) (hj : X.N[j]? = some y := by rfl) (hij : i ≠ j := by decide) (hx : X.env.scope.names.lookup x = some .local := by rfl) (hy : X.env.scope.names.lookup y = some .local := by rfl)
    (hw : swappedStores [.Tuple [.Name x px, .Name y py] kt pt] (.Tuple [a, b] k2 pt2) X.env = pure (some [x, y]) := by rfl)
    (hs : swapsWithSole [.Tuple [.Name x px, .Name y py] kt pt] (.Tuple [a, b] k2 pt2) pos.line X.env = pure false := by rfl)
    (h1 : starEach [a, b] X.env = (false, eval a X.env) :: starEach [b] X.env := by rfl) (h2 : starEach [b] X.env = (false, eval b X.env) :: starEach [] X.env := by rfl) :
    XS X W (.Assign [.Tuple [.Name x px, .Name y py] kt pt] (.Tuple [a, b] k2 pt2) pos) (tPar i j (tCons ta (tCons tb tNil))) (gPar i j ga gb) := by
  refine ⟨ps_par hc hN hi hj hij hx hy (pa_cons ha.pe (pa_cons hb.pe pa_nil h2) h1) hw hs, fun σ H δ I as M P E w en s => ?_⟩
  refine ha.im σ H δ I as M P _ w en (SatS.bindE s en fun d M1 v H1 I1 as1 _ g1 w1 r1 s1 => ?_)
  refine hb.im σ H1 δ I1 as1 M1 P _ w1 (en.mono g1) (SatS.bindE s1 (en.mono g1) fun d2 M2 v2 H2 I2 as2 _ g2 w2 r2 s2 => ?_)
  exact ⟨v, v2, rfl, s2 _ H2 I2 as2 (Gr.refl _ _) w2 (((en.mono (g1.trans g2)).set (r1.mono g2) i).set r2 j)⟩
end

/-! ### what is walked -/
structure ITD where
  items : List D
  gd : List MO → Prop
def ItOk (K : PySem.W.Frag) (I : Hp) (as : List Addr) (J : It) (it : ITD) : Prop := ∃ (G : Hp → Prop) (Y : Nat → Hp → V → Hp → Prop), Walk J it.items.length G Y ∧
  (∀ H' I' as' M' P', Gr I as I' as' → Wr K H' I' as' M' P' → it.gd M' → G H') ∧
  (∀ i x H' H2 I' as' M' P', i < it.items.length → Gr I as I' as' → Wr K H' I' as' M' P' → it.gd M' → Y i H' x H2 → ∃ I2 d, Gr I' as' I2 as' ∧ Wr K H2 I2 as' M' P' ∧ it.items[i]? = some d ∧ Rep K I2 as' x d)
abbrev GI := Ctx → List MO → R ITD
def ImpI (K : PySem.W.Frag) (mg : Str → Option Value) (W : WX) (t : TI) (g : GI) : Prop := ∀ (σ : L2.St) (H : Hp) (δ : Ctx) (I : Hp) (as : List Addr) (M : List MO) (P : Hp) (Q : It → Hp → Prop),
  Wr K H I as M P → Envr K I as σ δ → Sat K (ItOk K) (fun c H' => lowW mg W c σ H') I as P Q (g δ M) → t σ H Q
structure XI (X : Cx) (W : WX) (tg e : Expr) (t : TI) (g : GI) : Prop where
  pe : PI X tg e t
  im : ImpI X.K X.mg W t g
open Classical in
noncomputable def forL (gd : List MO → Prop) (gg : GG) (gb : GS) : List D → GS
  | [], δ, M => if gd M then .nx δ M else .bad
  | x :: xs, δ, M => if gd M then (match gg x δ M with
      | .nx δ1 M1 => match gb δ1 M1 with
        | .nx δ2 M2 => forL gd gg gb xs δ2 M2
        | .ct δ2 M2 => forL gd gg gb xs δ2 M2
        | .bk δ2 M2 => .nx δ2 M2
        | .rt d M2 => .rt d M2
        | .ex c δ2 M2 => .ex c δ2 M2
        | .bad => .bad
      | _ => .bad) else .bad
noncomputable def gFor (gi : GI) (gg : GG) (gb : GS) : GS := fun δ M => (gi δ M).toS δ fun it M1 => forL it.gd gg gb it.items δ M1
section
variable {X : Cx} {W : WX} {tg iter e : Expr} {es : List Expr} {pos p : Pos} {te : TE} {ge : GE} {t : TA} {g : GA} {K : PySem.W.Frag} {wi : TI} {gi : GI}
theorem forL_gd {gd : List MO → Prop} {gg : GG} {gb : GS} {xs : List D} {δ : Ctx} {M : List MO} (h : forL gd gg gb xs δ M ≠ .bad) : gd M := by
  by_cases c : gd M
  · exact c
  · exfalso
    apply h
    cases xs with
    | nil => unfold forL; rw [if_neg c]
    | cons x xs => unfold forL; rw [if_neg c]
theorem SatS.ne {Wf : Str → L2.St → Hp → Prop} {I P : Hp} {as : List Addr} {E : Ends} {r : SR} (s : SatS K Wf I as P E r) : r ≠ .bad := fun e => by
  rw [e] at s
  exact s
theorem impS_for {mg : Str → Option Value} {is : List Nat} {gt : TG} {gg : GG} {tb : TS} {gb : GS} (hi : ImpI K mg W wi gi) (hg : ImpG K mg W is gt gg) (hb : ImpS K mg W tb gb) : ImpS K mg W (tFor wi gt tb) (gFor gi gg gb) := by
  intro σ H δ I as M P E w en s
  refine hi σ H δ I as M P _ w en (SatS.bindE s en fun it M1 J H1 I1 as1 _ g1 w1 ok s1 => ?_)
  obtain ⟨G, Y, wk, hG, hY⟩ := ok
  refine for_it wk (fun i σ' H' => ∃ δ' M' I' as', Gr I1 as1 I' as' ∧ Wr K H' I' as' M' P ∧ Envr K I' as' σ' δ' ∧ SatS K (lowW mg W) I' as' P E (forL it.gd gg gb (it.items.drop i) δ' M'))
    ⟨δ, M1, I1, as1, Gr.refl _ _, w1, en.mono g1, by rw [List.drop_zero]; exact s1⟩ ?_ ?_ ?_
  · rintro i σ' H' hi ⟨δ', M', I', as', g', w', en', s'⟩
    exact hG H' I' as' M' P g' w' (forL_gd s'.ne)
  · rintro i x σ' H' H2 hi ⟨δ', M', I', as', g', w', en', s'⟩ y
    obtain ⟨I2, d, g2, w2, hd, rd⟩ := hY i x H' H2 I' as' M' P hi g' w' (forL_gd s'.ne) y
    have hgd := forL_gd s'.ne
    have ed : it.items.drop i = d :: it.items.drop (i + 1) := by
      rw [List.drop_eq_getElem_cons hi]
      have := List.getElem?_eq_getElem hi
      rw [hd] at this
      rw [← Option.some.inj this]
    rw [ed] at s'
    unfold forL at s'
    rw [if_pos hgd] at s'
    refine hg x d σ' H2 δ' I2 as' M' P _ w2 (en'.mono g2) rd ?_
    have s2 := SatS.gr g2 s'
    cases e1 : gg d δ' M' with
    | nx δ1 M1 =>
      rw [e1] at s2
      intro σ3 H3 I3 as3 g3 w3 en3 _
      refine hb σ3 H3 δ1 I3 as3 M1 P _ w3 en3 ?_
      have s3 := SatS.gr g3 s2
      cases e2 : gb δ1 M1 with
      | nx δ2 M2 =>
        simp only [e2] at s3
        exact fun σ4 H4 I4 as4 g4 w4 en4 => ⟨δ2, M2, I4, as4, (g'.trans (g2.trans (g3.trans g4))), w4, en4, SatS.gr g4 s3⟩
      | ct δ2 M2 =>
        simp only [e2] at s3
        exact fun σ4 H4 I4 as4 g4 w4 en4 => ⟨δ2, M2, I4, as4, (g'.trans (g2.trans (g3.trans g4))), w4, en4, SatS.gr g4 s3⟩
      | bk δ2 M2 =>
        simp only [e2] at s3
        exact s3
      | rt d2 M2 =>
        simp only [e2] at s3
        exact s3
      | ex c δ2 M2 =>
        simp only [e2] at s3
        exact s3
      | bad =>
        simp only [e2] at s3
        exact s3
    | _ => rw [e1] at s2; exact s2.elim
  · rintro σ' H' ⟨δ', M', I', as', g', w', en', s'⟩
    have hgd := forL_gd s'.ne
    rw [List.drop_length] at s'
    unfold forL at s'
    rw [if_pos hgd] at s'
    exact s' σ' H' I' as' (Gr.refl _ _) w' en'
theorem xs_for {is : List Nat} {gt : TG} {gg : GG} {body : List Stmt} {tb : TS} {gb : GS} (hp : PassesOwn (model X.prog X.w) X.A X.env X.xe) (hc : X.calm = true) (hi : XI X W tg iter wi gi) (hg : XG X W tg is gt gg) (hb : XSs X W body tb gb)
    (hs : ∀ x, foldedSetIterable iter X.env x = pure x := by intro _; rfl) : XS X W (.For tg iter body [] pos) (tFor wi gt tb) (gFor gi gg gb) :=
  ⟨ps_for hp hc hi.pe hg.pe hb.pe hs, impS_for hi.im hg.im hb.im⟩
/-! iterables -/
def itT (xs : List D) : ITD := ⟨xs, fun _ => True⟩
def giTup (ge : GE) : GI := fun δ M => (ge δ M).bind fun x M1 => match tupOf x with
  | some xs => .ok (itT xs) M1
  | none => .bad
def gdOf (x : D) (xs : List D) : List MO → Prop := match x with
  | .ref k => fun M' => M'[k]? = some (.lst xs)
  | _ => fun _ => True
def giList (ge : GE) : GI := fun δ M => (ge δ M).bind fun x M1 => match listOf M1 x with
  | some xs => .ok ⟨xs, gdOf x xs⟩ M1
  | none => .bad
theorem itok_tup {I : Hp} {as : List Addr} {a : Addr} {vs : List V} {xs : List D} (h : SqT K I a vs) (r : Reps K I as vs xs) : ItOk K I as (Itt K a) (itT xs) := by
  refine ⟨fun H => SqT K H a vs, YAt vs, by rw [show (itT xs).items = xs from rfl, ← r.len]; exact walk_tup, fun H' I' as' M' P' g w _ => w.seqT (Evl.ex_t g.sub h), fun i x H' H2 I' as' M' P' hi g w _ y => ?_⟩
  obtain ⟨rfl, hx⟩ := y
  obtain ⟨d, h1, h2⟩ := r.get' hx
  exact ⟨I', d, Gr.refl _ _, w, h1, h2.mono g⟩
theorem itok_list {I : Hp} {as : List Addr} {a : Addr} {vs : List V} {xs : List D} (h : SqL K I a vs) (r : Reps K I as vs xs) : ItOk K I as (Itl K a) (itT xs) := by
  refine ⟨fun H => SqL K H a vs, YAt vs, by rw [show (itT xs).items = xs from rfl, ← r.len]; exact walk_list, fun H' I' as' M' P' g w _ => w.seqL (Evl.ex_l g.sub h), fun i x H' H2 I' as' M' P' hi g w _ y => ?_⟩
  obtain ⟨rfl, hx⟩ := y
  obtain ⟨d, h1, h2⟩ := r.get' hx
  exact ⟨I', d, Gr.refl _ _, w, h1, h2.mono g⟩
theorem Reps.inj {I : Hp} {as : List Addr} : True := trivial
theorem xi_tup (h : XE X W e te ge) : XI X W tg e (iTup X.K te) (giTup ge) := by
  refine ⟨pi_tup h.pe, fun σ H δ I as M P Q w en s => ?_⟩
  refine h.im σ H δ I as M P _ w en (Sat.bind s fun d M1 v H1 I1 as1 _ g1 w1 r1 s1 => ?_)
  split at s1
  · rename_i xs hx
    have e : d = .tup xs := by cases d <;> first | (cases hx; rfl) | cases hx
    subst e
    cases r1 with
    | @tup a vs _ h1 rr =>
      exact ⟨a, rfl, ⟨vs, w1.seqT h1⟩, s1 _ H1 I1 as1 (Gr.refl _ _) w1 (itok_tup h1 rr)⟩
  · exact s1.elim
theorem xi_list (h : XE X W e te ge) : XI X W tg e (iList X.K te) (giList ge) := by
  refine ⟨pi_list h.pe, fun σ H δ I as M P Q w en s => ?_⟩
  refine h.im σ H δ I as M P _ w en (Sat.bind s fun d M1 v H1 I1 as1 _ g1 w1 r1 s1 => ?_)
  cases hl : listOf M1 d with
  | none => rw [hl] at s1; exact s1.elim
  | some xs =>
    rw [hl] at s1
    cases r1 with
    | @lst a vs ds h1 rr =>
      cases hl
      exact ⟨a, rfl, ⟨vs, .of (w1.sub _ _ h1)⟩, s1 _ H1 I1 as1 (Gr.refl _ _) w1 (itok_list (.of h1) rr)⟩
    | @rol a vs ds h1 rr =>
      cases hl
      exact ⟨a, rfl, ⟨vs, w1.seqL h1⟩, s1 _ H1 I1 as1 (Gr.refl _ _) w1 (itok_list h1 rr)⟩
    | @ref k a h1 =>
        obtain ⟨o, ho, _, _, m⟩ := w1.at h1
        cases o with
        | dct kvs =>
          unfold listOf at hl
          simp [ho] at hl
        | lst ys =>
        unfold listOf at hl
        simp only [ho, Option.some.injEq] at hl
        subst hl
        obtain ⟨vs, e1, rr⟩ := m
        refine ⟨a, rfl, ⟨vs, .of e1⟩, s1 _ H1 I1 as1 (Gr.refl _ _) w1 ⟨fun H => ∃ vs', SqL X.K H a vs' ∧ vs'.length = ys.length, fun i H x H' => H' = H ∧ ∀ vs', SqL X.K H a vs' → vs'[i]? = some x, ?_, ?_, ?_⟩⟩
        · exact ⟨fun i H hi ⟨vs', h', e'⟩ => ⟨vs', vs'[i]'(by rw [e']; exact hi), h', by simp⟩, fun H ⟨vs', h', e'⟩ => ⟨vs', h', Nat.le_of_eq e'⟩, fun i H x H' _ _ y => y⟩
        · intro H' I' as' M' P' g w' hgd
          obtain ⟨o', ho', _, _, m'⟩ := w'.at (g.at h1)
          have hgd2 : M'[k]? = some (.lst ys) := hgd
          rw [hgd2] at ho'
          cases ho'
          obtain ⟨vs', e', r'⟩ := m'
          exact ⟨vs', .of e', r'.len⟩
        · intro i x H' H2 I' as' M' P' hi g w' hgd y
          obtain ⟨rfl, hy⟩ := y
          obtain ⟨o', ho', _, _, m'⟩ := w'.at (g.at h1)
          have hgd2 : M'[k]? = some (.lst ys) := hgd
          rw [hgd2] at ho'
          cases ho'
          obtain ⟨vs', e', r'⟩ := m'
          obtain ⟨d, hd, rd⟩ := r'.get' (hy vs' (.of e'))
          exact ⟨I', d, Gr.refl _ _, w', hd, rd⟩
    | _ => cases hl
def rngD (lo : Int) (n : Nat) : List D := (List.range n).map fun i => .int (lo + (i : Nat))
theorem itok_rng {I : Hp} {as : List Addr} {lo : Int} {n : Nat} : ItOk K I as (Itr lo n) (itT (rngD lo n)) := by
  refine ⟨fun _ => True, YFn fun i => .int (lo + i), by rw [show (itT (rngD lo n)).items.length = n by simp [itT, rngD]]; exact walk_range, fun _ _ _ _ _ _ _ _ => trivial, fun i x H' H2 I' as' M' P' hi g w _ y => ?_⟩
  obtain ⟨rfl, rfl⟩ := y
  have hn : i < n := by simpa [itT, rngD] using hi
  exact ⟨I', .int (lo + i), Gr.refl _ _, w, by simp [itT, rngD, hn], .int _⟩
def rngB (i : Int) : Prop := -(2 ^ 62) ≤ i ∧ i < 2 ^ 62
open Classical in
noncomputable def giRng1 (ga : GA) : GI := fun δ M => (ga δ M).bind fun xs M1 => match xs with
  | [.int j] => if rngB j then .ok (itT (rngD 0 j.toNat)) M1 else .bad
  | _ => .bad
open Classical in
noncomputable def giRng2 (ga : GA) : GI := fun δ M => (ga δ M).bind fun xs M1 => match xs with
  | [.int i, .int j] => if rngB i ∧ rngB j then .ok (itT (rngD i (j - i).toNat)) M1 else .bad
  | _ => .bad
theorem Reps.one_inv {I : Hp} {as : List Addr} {vs : List V} {d : D} (r : Reps K I as vs [d]) : ∃ v, vs = [v] ∧ Rep K I as v d := by
  cases r with
  | cons h r => cases r; exact ⟨_, rfl, h⟩
theorem Reps.two_inv {I : Hp} {as : List Addr} {vs : List V} {d d2 : D} (r : Reps K I as vs [d, d2]) : ∃ v v2, vs = [v, v2] ∧ Rep K I as v d ∧ Rep K I as v2 d2 := by
  cases r with
  | cons h r =>
    cases r with
    | cons h2 r => cases r; exact ⟨_, _, rfl, h, h2⟩
theorem xi_rng1 (hm : X.mg "range" = none) (ha : XA X W [e] t g) (hg : Gl X "range" := by rfl) (hs : starEach [e] X.env = [(false, eval e X.env)] := by rfl) : XI X W tg (.Call (.Name "range" p) [e] [] pos) (iRng1 t) (giRng1 g) := by
  refine ⟨pi_range1 hg hm ha.pe hs, fun σ H δ I as M P Q w en s => ?_⟩
  refine ha.im σ H δ I as M P _ w en (Sat.bind s fun d M1 v H1 I1 as1 _ g1 w1 r1 s1 => ?_)
  split at s1
  · split at s1
    · rename_i j _ hb
      obtain ⟨v, rfl, r⟩ := r1.one_inv
      cases r
      exact ⟨j, rfl, hb.1, hb.2, s1 _ H1 I1 as1 (Gr.refl _ _) w1 itok_rng⟩
    · exact s1.elim
  · exact s1.elim
theorem xi_rng2 {e2 : Expr} (hm : X.mg "range" = none) (ha : XA X W [e, e2] t g) (hg : Gl X "range" := by rfl) (hs : starEach [e, e2] X.env = [(false, eval e X.env), (false, eval e2 X.env)] := by rfl) (hs2 : starEach [e2] X.env = [(false, eval e2 X.env)] := by rfl) : XI X W tg (.Call (.Name "range" p) [e, e2] [] pos) (iRng2 t) (giRng2 g) := by
  refine ⟨pi_range2 hg hm ha.pe hs hs2, fun σ H δ I as M P Q w en s => ?_⟩
  refine ha.im σ H δ I as M P _ w en (Sat.bind s fun d M1 v H1 I1 as1 _ g1 w1 r1 s1 => ?_)
  split at s1
  · split at s1
    · rename_i i j _ hb
      obtain ⟨v, v2, rfl, r, r2⟩ := r1.two_inv
      cases r
      cases r2
      exact ⟨i, j, rfl, ⟨hb.1.1, hb.1.2, hb.2.1, hb.2.2⟩, s1 _ H1 I1 as1 (Gr.refl _ _) w1 itok_rng⟩
    · exact s1.elim
  · exact s1.elim
end
end KM
set_option Elab.async false
set_option linter.all false
set_option maxRecDepth 100000
set_option maxHeartbeats 2000000
namespace KM
open PySem L2 PySem.Spec PyProof.Rows

/-! ### comprehensions -/
theorem wipe_in {σ : L2.St} {j : Nat} : ∀ {vs : List Nat}, j ∈ vs → (wipe σ vs)[j]? = if j < σ.length then some none else none
  | [], h => by simp at h
  | v :: vs, h => by
    unfold wipe
    by_cases hv : v = j
    · subst hv
      by_cases hl : v < σ.length
      · rw [List.getElem?_set_self (by rw [wipe_length]; exact hl), if_pos hl]
      · rw [if_neg hl, List.getElem?_eq_none (by simpa [wipe_length] using hl)]
    · rw [List.getElem?_set_ne hv]
      exact wipe_in (by simpa [Ne.symm hv] using h)
theorem wipe_kept {is vs : List Nat} {σ σ2 : L2.St} (hs : ∀ j ∈ is, j ∈ vs) (k : Kept is (wipe σ vs) σ2) : wipe σ2 vs = wipe σ vs := by
  have hl : σ2.length = σ.length := by rw [k.len, wipe_length]
  apply List.ext_getElem?
  intro j
  by_cases hj : j ∈ vs
  · rw [wipe_in hj, wipe_in hj, hl]
  · rw [wipe_out hj, k.at_ j (fun z => hj (hs j z))]
def bigS (n : Nat) : Prop := n < 100000
structure XTs (X : Cx) (W : WX) (es : List Expr) (t : TT) (g : GB) : Prop where
  pe : PTs X es t
  im : ImpT X.K X.mg W t g
def gYes : GB := fun _ M => .ok true M
theorem xts_nil {X : Cx} {W : WX} : XTs X W [] tYes gYes := ⟨pts_nil, fun σ H δ I as M P Q w en s => s _ H I as (Gr.refl _ _) w rfl⟩
theorem xts_one {X : Cx} {W : WX} {c : Expr} {t : TT} {g : GB} (h : XT X W c t g) : XTs X W [c] t g := ⟨pts_one h.pe, h.im⟩
open Classical in
noncomputable def lcL (gd : List MO → Prop) (gg : GG) (gt : GB) (ge : GE) (δ : Ctx) : List D → List D → List MO → R (List D)
  | [], acc, M => if gd M then .ok acc M else .bad
  | x :: xs, acc, M => if gd M then (match gg x δ M with
      | .nx δ1 M1 => match gt δ1 M1 with
        | .ok b M2 => if b = true then (match ge δ1 M2 with
            | .ok d M3 => if bigS acc.length then lcL gd gg gt ge δ xs (acc ++ [d]) M3 else .bad
            | _ => .bad) else lcL gd gg gt ge δ xs acc M2
        | _ => .bad
      | _ => .bad) else .bad
theorem lcL_gd {gd : List MO → Prop} {gg : GG} {gt : GB} {ge : GE} {δ : Ctx} {xs acc : List D} {M : List MO} (h : lcL gd gg gt ge δ xs acc M ≠ .bad) : gd M := by
  by_cases c : gd M
  · exact c
  · exfalso
    apply h
    cases xs with
    | nil => unfold lcL; rw [if_neg c]
    | cons x xs => unfold lcL; rw [if_neg c]
noncomputable def gLcG (fin : List D → List MO → R D) (gi : GI) (gg : GG) (gt : GB) (ge : GE) (vs : List Nat) : GE := fun δ M => (gi δ M).bind fun it M1 => (lcL it.gd gg gt ge (wipeD δ vs) it.items [] M1).bind fin
/-- how the new list is told: as one that never changes, or as one that may -/
def finI : List D → List MO → R D := fun ds M => .ok (.lst ds) M
def finM : List D → List MO → R D := fun ds M => .ok (.ref M.length) (M ++ [.lst ds])
def FinOk (K : PySem.W.Frag) (fin : List D → List MO → R D) : Prop := ∀ (H I : Hp) (as : List Addr) (M : List MO) (P : Hp) (Dl : Addr) (vs : List V) (ds : List D) (Wf : Str → Hp → Prop) (Q : VK),
  P Dl = none → Wr K H I as M (upd P Dl (.lst vs)) → Reps K I as vs ds → Sat K (Rep K) Wf I as P Q (fin ds M) → Q (.ref Dl) H
theorem fin_I {K : PySem.W.Frag} : FinOk K finI := by
  intro H I as M P Dl vs ds Wf Q h0 w r s
  obtain ⟨w', g⟩ := w.giveI h0
  exact s _ _ _ _ g w' (.lst upd_same (r.mono g))
theorem fin_M {K : PySem.W.Frag} : FinOk K finM := by
  intro H I as M P Dl vs ds Wf Q h0 w r s
  have h1 := (w.prv Dl _ upd_same).1
  have w' := w.giveM (m := .lst ds) h0 ⟨vs, h1, r⟩
  refine s _ _ _ _ (Gr.more I as [Dl]) w' (.ref ?_)
  rw [← w.len, List.getElem?_append_right (Nat.le_refl _), Nat.sub_self]
  rfl
abbrev W0 : WX := fun _ _ _ _ => False
theorem SatT.ne {α β : Type} {K : PySem.W.Frag} {rel : Hp → List Addr → β → α → Prop} {Wf : Str → Hp → Prop} {I P : Hp} {as : List Addr} {Q : β → Hp → Prop} {r : R α} (s : Sat K rel Wf I as P Q r) : r ≠ .bad := fun e => by
  rw [e] at s
  exact s
theorem impE_lc {K : PySem.W.Frag} {mg : Str → Option Value} {W : WX} {wi : TI} {gi : GI} {is vs : List Nat} {gt : TG} {gg : GG} {tt : TT} {gb : GB} {te : TE} {ge : GE} {fin : List D → List MO → R D} (hf : FinOk K fin) (hs : ∀ j ∈ is, j ∈ vs)
    (hi : ImpI K mg W wi gi) (hg : ImpG K mg W0 is gt gg) (ht : ImpT K mg W0 tt gb) (he : ImpE K mg W0 te ge) : ImpE K mg W (tLc wi gt tt te vs) (gLcG fin gi gg gb ge vs) := by
  intro σ H δ I as M P Q w en s
  refine hi σ H δ I as M P _ w en (Sat.bind s fun it M1 J H1 I1 as1 _ g1 w1 ok s1 => ?_)
  intro Dl hD
  obtain ⟨G, Y, wk, hG, hY⟩ := ok
  obtain ⟨f1, f2, f3⟩ := w1.fresh hD
  have enw := (en.mono g1).wipe vs
  have nb : ∀ {i : Nat} {acc : List D} {M' : List MO} {I' : Hp} {as' : List Addr}, Sat K (Rep K) (fun c H' => lowW mg W c σ H') I' as' P Q ((lcL it.gd gg gb ge (wipeD δ vs) (it.items.drop i) acc M').bind fin) → it.gd M' := fun h => lcL_gd fun e => by
    rw [e] at h
    exact h
  refine lc_it wk (fun i H' => ∃ acc us M' I' as', Gr I1 as1 I' as' ∧ Wr K H' I' as' M' (upd P Dl (.lst us)) ∧ Reps K I' as' us acc ∧ Sat K (Rep K) (fun c H' => lowW mg W c σ H') I' as' P Q ((lcL it.gd gg gb ge (wipeD δ vs) (it.items.drop i) acc M').bind fin))
    ⟨[], [], M1, I1, as1, Gr.refl _ _, w1.newP hD _, .nil, by rw [List.drop_zero]; exact s1⟩ ?_ ?_ ?_
  · rintro i H' hi ⟨acc, us, M', I', as', g', w', r', s'⟩
    exact hG H' I' as' M' _ g' w' (nb s')
  · rintro i x H' H2 hi ⟨acc, us, M', I', as', g', w', r', s'⟩ y
    have hgd := nb s'
    obtain ⟨I2, d, g2, w2, hd, rd⟩ := hY i x H' H2 I' as' M' _ hi g' w' hgd y
    have ed : it.items.drop i = d :: it.items.drop (i + 1) := by
      rw [List.drop_eq_getElem_cons hi]
      have := List.getElem?_eq_getElem hi
      rw [hd] at this
      rw [← Option.some.inj this]
    rw [ed] at s'
    unfold lcL at s'
    rw [if_pos hgd] at s'
    refine hg x d (wipe σ vs) H2 (wipeD δ vs) I2 as' M' _ _ w2 (enw.mono (g'.trans g2)) rd ?_
    have s2 := Sat.gr g2 s'
    cases e1 : gg d (wipeD δ vs) M' with
    | nx δ1 M1 =>
      simp only [e1] at s2
      intro σ3 H3 I3 as3 g3 w3 en3 k3
      refine ⟨wipe_kept hs k3, ?_⟩
      refine ht σ3 H3 δ1 I3 as3 M1 _ _ w3 en3 ?_
      have s3 := Sat.gr g3 s2
      cases e2 : gb δ1 M1 with
      | ok b M2 =>
        simp only [e2] at s3
        intro b' H4 I4 as4 g4 w4 eb
        subst eb
        have s4 := Sat.gr g4 s3
        cases b' with
        | true =>
          simp only [if_true] at s4 ⊢
          refine he σ3 H4 δ1 I4 as4 M2 _ _ w4 (en3.mono g4) ?_
          cases e3 : ge δ1 M2 with
          | ok d5 M5 =>
            simp only [e3] at s4
            intro v5 H5 I5 as5 g5 w5 r5
            have s5 := Sat.gr g5 s4
            split at s5
            · rename_i hb
              have ga := (g2.trans (g3.trans (g4.trans g5)))
              have hP := (w5.prv Dl _ upd_same).1
              refine ⟨us, hP, ?_, acc ++ [d5], us ++ [v5], M5, I5, as5, g'.trans ga, ?_, (r'.mono ga).append (.cons r5 .nil), s5⟩
              · rw [r'.len]
                exact Evl.sz_lt hb
              · have z := w5.putP (p := Dl) upd_same (.lst (us ++ [v5]))
                rw [upd_upd] at z
                exact z
            · exact s5.elim
          | bad => simp only [e3] at s4; exact s4.elim
          | ex c M5 => simp only [e3] at s4; exact s4.elim
        | false =>
          simp only [if_neg Bool.false_ne_true] at s4 ⊢
          have ga := (g2.trans (g3.trans g4))
          exact ⟨acc, us, M2, I4, as4, g'.trans ga, w4, r'.mono ga, s4⟩
      | bad => simp only [e2] at s3; exact s3.elim
      | ex c M5 => simp only [e2] at s3; exact s3.elim
    | bad => simp only [e1] at s2; exact s2.elim
    | rt _ _ => simp only [e1] at s2; exact s2.elim
    | bk _ _ => simp only [e1] at s2; exact s2.elim
    | ct _ _ => simp only [e1] at s2; exact s2.elim
    | ex _ _ _ => simp only [e1] at s2; exact s2.elim
  · rintro H' ⟨acc, us, M', I', as', g', w', r', s'⟩
    have hgd := nb s'
    rw [List.drop_length] at s'
    unfold lcL at s'
    rw [if_pos hgd] at s'
    exact hf H' I' as' M' P Dl us acc _ Q f2 w' r' s'
section
variable {X : Cx} {W : WX} {tg iter elt : Expr} {ifs : List Expr} {scope : Scope} {own : List (Str × Nat)} {pos : Pos} {wi : TI} {gi : GI} {is : List Nat} {gt : TG} {gg : GG} {tt : TT} {gb : GB} {te : TE} {ge : GE}
theorem xe_lc (own : List (Str × Nat)) {fin : List D → List MO → R D} (hf : FinOk X.K fin) (hc : X.calm = true) (hN : X.N.Nodup) (hi : XI X W tg iter wi gi) (ok : BlkOk X.N X.env.scope scope own)
    (hg : ∀ (s : Shared) (H : Hp) (C : Addr) (cl : List (Str × Addr)) (fp : List Addr), XG (X.blk s H scope (compEnvC scope cl C X.env) fp) W0 tg is gt gg) (ht : ∀ (s : Shared) (H : Hp) (C : Addr) (cl : List (Str × Addr)) (fp : List Addr), XTs (X.blk s H scope (compEnvC scope cl C X.env) fp) W0 ifs tt gb)
    (he : ∀ (s : Shared) (H : Hp) (C : Addr) (cl : List (Str × Addr)) (fp : List Addr), XE (X.blk s H scope (compEnvC scope cl C X.env) fp) W0 elt te ge) (hsub : ∀ j ∈ is, j ∈ own.map (·.2) := by decide) (hs : ∀ x, foldedSetIterable iter X.env x = pure x := by intro _; rfl) :
    XE X W (.ListComp elt [⟨tg, iter, ifs, 0⟩] scope pos) (tLc wi gt tt te (own.map (·.2))) (gLcG fin gi gg gb ge (own.map (·.2))) :=
  ⟨pe_lc hc hN hi.pe ok (fun s H C cl fp => (hg s H C cl fp).pe) (fun s H C cl fp => (ht s H C cl fp).pe) (fun s H C cl fp => (he s H C cl fp).pe) hs,
    impE_lc hf hsub hi.im (hg X.s_0 X.H_0 0 [] []).im (ht X.s_0 X.H_0 0 [] []).im (he X.s_0 X.H_0 0 [] []).im⟩
/-- name = [..] on one line -/
theorem xs_setLc (i : Nat) {y : Str} {py spos : Pos} (own : List (Str × Nat)) {fin : List D → List MO → R D} (hf : FinOk X.K fin) (hc : X.calm = true) (hN : X.N.Nodup) (hi : XI X W tg iter wi gi) (ok : BlkOk X.N X.env.scope scope own)
    (hg : ∀ (s : Shared) (H : Hp) (C : Addr) (cl : List (Str × Addr)) (fp : List Addr), XG (X.blk s H scope (compEnvC scope cl C X.env) fp) W0 tg is gt gg) (ht : ∀ (s : Shared) (H : Hp) (C : Addr) (cl : List (Str × Addr)) (fp : List Addr), XTs (X.blk s H scope (compEnvC scope cl C X.env) fp) W0 ifs tt gb)
    (he : ∀ (s : Shared) (H : Hp) (C : Addr) (cl : List (Str × Addr)) (fp : List Addr), XE (X.blk s H scope (compEnvC scope cl C X.env) fp) W0 elt te ge)
    (hsw : swapsWith (.ListComp elt [⟨tg, iter, ifs, 0⟩] scope pos) (some (.Name y py)) spos.line X.env = pure true := by exact sw_true rfl rfl rfl (by decide +kernel)) (hy : X.N[i]? = some y := by rfl) (hyl : X.env.scope.names.lookup y = some .local := by rfl)
    (hsub : ∀ j ∈ is, j ∈ own.map (·.2) := by decide) (hs : ∀ x, foldedSetIterable iter X.env x = pure x := by intro _; rfl) :
    XS X W (.Assign [.Name y py] (.ListComp elt [⟨tg, iter, ifs, 0⟩] scope pos) spos) (tAsg (tLc wi gt tt te (own.map (·.2))) (L2.gName i)) (gSet i (gLcG fin gi gg gb ge (own.map (·.2)))) :=
  ⟨ps_setLc hc hN hy hyl hsw hi.pe ok (fun s H C cl fp => (hg s H C cl fp).pe) (fun s H C cl fp => (ht s H C cl fp).pe) (fun s H C cl fp => (he s H C cl fp).pe) hs,
    impS_set (impE_lc hf hsub hi.im (hg X.s_0 X.H_0 0 [] []).im (ht X.s_0 X.H_0 0 [] []).im (he X.s_0 X.H_0 0 [] []).im)⟩
end

/-! ### defs -/
def startD (N : Nat) (ds : List D) : Ctx := ds.map some ++ List.replicate (N - ds.length) none
def fnM (N : Nat) (g : GS) : OC := fun ds M => match g (startD N ds) M with
  | .nx _ M' => .ok .non M'
  | .rt d M' => .ok d M'
  | .ex c _ M' => .ex c M'
  | _ => .bad
theorem envr_start {K : PySem.W.Frag} {I : Hp} {as : List Addr} {N : List Str} {vs : List V} {ds : List D} (r : Reps K I as vs ds) : Envr K I as (L2.start N vs) (startD N.length ds) := by
  have hl := r.len
  refine ⟨by simp [L2.start, startD, hl], fun i d h => ?_⟩
  unfold startD at h
  by_cases hi : i < ds.length
  · rw [List.getElem?_append_left (by simpa using hi), List.getElem?_map] at h
    cases e : ds[i]? with
    | none => rw [e] at h; cases h
    | some d' =>
      rw [e] at h
      have e1 : d' = d := Option.some.inj (Option.some.inj h)
      subst e1
      obtain ⟨v, h1, h2⟩ := r.get e
      refine ⟨v, ?_, h2⟩
      unfold L2.start
      rw [List.getElem?_append_left (by simpa [hl] using hi), List.getElem?_map, h1]
      rfl
  · rw [List.getElem?_append_right (by simpa using hi)] at h
    rw [List.getElem?_replicate] at h
    split at h <;> cases h
section
variable {P : Program} {w : World} {K : PySem.W.Frag} {mg : Str → Option Value} {base : Heap}
theorem fn_okM {x qual : Str} {st : Stmt} {f : Addr} {fd : FuncData} {N ps : List Str} {k : Nat} {g : GS} (F : Fun K x qual st f fd) (S : FnScope N ps (defScope st))
    (hbody : ∀ (cdv : Value) (A : Around) (outer : List Env) (s : Shared) (H : Hp) (E : XK), Room k (A.deeper (envOfC qual (defScope st) s.heap.objs.size f cdv)) →
      Takes (cxOf (L2.CX P w) P w K mg base N qual (defScope st) f cdv A outer s H E) (fun cls d _ H => E cls d H) →
      PassesOwn (model P w) (cxOf (L2.CX P w) P w K mg base N qual (defScope st) f cdv A outer s H E).A (cxOf (L2.CX P w) P w K mg base N qual (defScope st) f cdv A outer s H E).env (cxOf (L2.CX P w) P w K mg base N qual (defScope st) f cdv A outer s H E).xe →
      ∃ t, XSs (cxOf (L2.CX P w) P w K mg base N qual (defScope st) f cdv A outer s H E) (fun cls d _ H => E cls d H) (defBody st) t g) :
    FnOk P w K mg base (L2.CX P w) (k + 1) f fd ps (spM K mg ps.length (fnM N.length g)) := by
  refine F.okX S (fun vs H Q E h => h.1) fun cdv A outer s H vs Q E hr h => ?_
  obtain ⟨hl, ds, I, as, M, P', wr, r, sat⟩ := h
  obtain ⟨t, ht⟩ := hbody cdv A outer s H E hr (takes_of rfl rfl rfl rfl) (passes_of rfl)
  refine ⟨t, ht.pe, ?_⟩
  refine ht.im (L2.start N vs) H (startD N.length ds) I as M P' _ wr (envr_start r) ?_
  unfold fnM at sat
  show SatS K (lowW mg _) I as P' _ _
  cases e : g (startD N.length ds) M with
  | bad => rw [e] at sat; exact sat.elim
  | nx δ1 M1 => rw [e] at sat; exact fun σ' H' I' as' g' w' en' => sat _ H' I' as' g' w' .non
  | rt d M1 => rw [e] at sat; exact fun v H' I' as' g' w' r' => sat _ H' I' as' g' w' r'
  | bk d M1 => rw [e] at sat; exact sat.elim
  | ct d M1 => rw [e] at sat; exact sat.elim
  | ex c d M1 => rw [e] at sat; exact fun σ' H' I' as' g' w' en' => sat H' I' as' g' w'
/-- a promise told otherwise -/
theorem FnOk.m {f : Addr} {fd : FuncData} {ps : List Str} {k n : Nat} {m m' : OC} (F : FnOk P w K mg base (L2.CX P w) k f fd ps (spM K mg n m))
    (h : ∀ (ds : List D) (M : List MO) (H I : Hp) (as : List Addr) (P' : Hp) (Q : VK) (Wf : Str → Hp → Prop), ds.length = n → as.length = M.length → Sat K (Rep K) Wf I as P' Q (m' ds M) → Sat K (Rep K) Wf I as P' Q (m ds M)) : FnOk P w K mg base (L2.CX P w) k f fd ps (spM K mg n m') :=
  F.imp fun vs H Q E ⟨hl, ds, I, as, M, P', wr, r, sat⟩ => ⟨hl, ds, I, as, M, P', wr, r, h ds M H I as P' Q _ (by rw [← r.len]; exact hl) wr.len sat⟩
/-- refined: where m' says something, m says the same -/
theorem Sat.of_eq {α β : Type} {rel : Hp → List Addr → β → α → Prop} {Wf : Str → Hp → Prop} {I P' : Hp} {as : List Addr} {Q : β → Hp → Prop} {r r' : R α} (h : r' ≠ .bad → r = r') (s : Sat K rel Wf I as P' Q r') : Sat K rel Wf I as P' Q r := by
  rw [h (SatT.ne s)]
  exact s
theorem FnOk.toC {x : Str} {f : Addr} {fd : FuncData} {ps : List Str} {k n : Nat} {m : OC} (F : FnOk P w K mg base (L2.CX P w) k f fd ps (spM K mg n m)) (h1 : mg x = some (.ref f)) (h2 : PySem.W.keepIn K (.ref f) = true) (h3 : Binds K fd ps []) (h4 : PySem.W.nsIn K mainGlobals x = some (some (.ref f))) : Callee P w K mg base x k n m :=
  ⟨⟨f, fd, ps, F, h1, h2, h3, h4⟩⟩
end
/-! what nobody can reach any more is dropped -/
mutual
def D.lo (n : Nat) : D → Bool
  | .tup xs => D.los n xs
  | .lst xs => D.los n xs
  | .rol xs => D.los n xs
  | .ref k => decide (k < n)
  | _ => true
def D.los (n : Nat) : List D → Bool
  | [] => true
  | x :: xs => D.lo n x && D.los n xs
end
def MO.lo (n : Nat) : MO → Bool
  | .lst xs => D.los n xs
  | .dct kvs => D.los n (kvs.map fun p => p.2)
mutual
theorem Rep.cut {K : PySem.W.Frag} {I : Hp} {as t : List Addr} : ∀ {v : V} {d : D}, Rep K I (as ++ t) v d → D.lo as.length d = true → Rep K I as v d
  | _, _, .non, _ => .non
  | _, _, .bl b, _ => .bl b
  | _, _, .int b, _ => .int b
  | _, _, .str b, _ => .str b
  | _, _, .tup h r, e => .tup h (Reps.cut' r e)
  | _, _, .lst h r, e => .lst h (Reps.cut' r e)
  | _, _, .rol h r, e => .rol h (Reps.cut' r e)
  | _, _, .ref h, e => .ref (by rw [List.getElem?_append_left (of_decide_eq_true e)] at h; exact h)
  | _, _, .obj a, _ => .obj a
  | _, _, .fn h, _ => .fn h
  | _, _, .dct h, _ => .dct h
theorem Reps.cut' {K : PySem.W.Frag} {I : Hp} {as t : List Addr} : ∀ {vs : List V} {ds : List D}, Reps K I (as ++ t) vs ds → D.los as.length ds = true → Reps K I as vs ds
  | _, _, .nil, _ => .nil
  | _, _, .cons h r, e => by
    unfold D.los at e
    rw [Bool.and_eq_true] at e
    exact .cons (Rep.cut h e.1) (Reps.cut' r e.2)
end
theorem Wr.cut {K : PySem.W.Frag} {H I P : Hp} {as t : List Addr} {M : List MO} (w : Wr K H I (as ++ t) M P) (h : (M.take as.length).all (MO.lo as.length) = true) : Wr K H I as (M.take as.length) P := by
  have hl := w.len
  rw [List.length_append] at hl
  refine ⟨w.sub, by rw [List.length_take]; omega, (List.nodup_append.mp w.nd).1, fun k a o ha ho => ?_, w.prv⟩
  have hk : k < as.length := (List.getElem?_eq_some_iff.mp ha).1
  have ho2 : M[k]? = some o := by
    rw [List.getElem?_take] at ho
    rw [if_pos hk] at ho
    exact ho
  obtain ⟨m1, m2, m3⟩ := w.mu k a o (by rw [List.getElem?_append_left hk]; exact ha) ho2
  refine ⟨m1, m2, ?_⟩
  have hb := List.all_eq_true.mp h o (List.mem_of_getElem? ho)
  cases o with
  | lst xs =>
    obtain ⟨vs, e, r⟩ := m3
    exact ⟨vs, e, r.cut' hb⟩
  | dct xs =>
    obtain ⟨vs, e, e2, r⟩ := m3
    exact ⟨vs, e, e2, r.cut' hb⟩
def cutR (n : Nat) : R D → R D
  | .ok d M => if (D.lo n d && (M.take n).all (MO.lo n)) = true then .ok d (M.take n) else .bad
  | .ex c M => if (M.take n).all (MO.lo n) = true then .ex c (M.take n) else .bad
  | .bad => .bad
def cutM (m : OC) : OC := fun ds M => cutR M.length (m ds M)
theorem Sat.cut {K : PySem.W.Frag} {Wf : Str → Hp → Prop} {I P : Hp} {as : List Addr} {Q : VK} {r : R D} {n : Nat} (hn : as.length = n) (s : Sat K (Rep K) Wf I as P Q (cutR n r)) : Sat K (Rep K) Wf I as P Q r := by
  subst hn
  cases r with
  | bad => exact s.elim
  | ok d M =>
    have s2 : Sat K (Rep K) Wf I as P Q (if (D.lo as.length d && (M.take as.length).all (MO.lo as.length)) = true then .ok d (M.take as.length) else .bad) := s
    by_cases hb : (D.lo as.length d && (M.take as.length).all (MO.lo as.length)) = true
    · rw [if_pos hb] at s2
      rw [Bool.and_eq_true] at hb
      rintro v H' I' as' ⟨g1, t, rfl⟩ w' r'
      exact s2 v H' I' as ⟨g1, [], by simp⟩ (w'.cut hb.2) (r'.cut hb.1)
    · rw [if_neg hb] at s2
      exact s2.elim
  | ex c M =>
    have s2 : Sat K (Rep K) Wf I as P Q (if (M.take as.length).all (MO.lo as.length) = true then .ex c (M.take as.length) else .bad) := s
    by_cases hb : (M.take as.length).all (MO.lo as.length) = true
    · rw [if_pos hb] at s2
      rintro H' I' as' ⟨g1, t, rfl⟩ w'
      exact s2 H' I' as ⟨g1, [], by simp⟩ (w'.cut hb)
    · rw [if_neg hb] at s2
      exact s2.elim
section
variable {P : Program} {w : World} {K : PySem.W.Frag} {mg : Str → Option Value} {base : Heap}
theorem FnOk.cut {f : Addr} {fd : FuncData} {ps : List Str} {k n : Nat} {m : OC} (F : FnOk P w K mg base (L2.CX P w) k f fd ps (spM K mg n m)) : FnOk P w K mg base (L2.CX P w) k f fd ps (spM K mg n (cutM m)) :=
  FnOk.m F fun ds M H I as P' Q Wf _ hl s => Sat.cut hl s
/-- .. and told by what it comes to -/
theorem FnOk.re {f : Addr} {fd : FuncData} {ps : List Str} {k n : Nat} {m m' : OC} (F : FnOk P w K mg base (L2.CX P w) k f fd ps (spM K mg n m)) (h : ∀ ds M, ds.length = n → m' ds M ≠ .bad → m ds M = m' ds M) : FnOk P w K mg base (L2.CX P w) k f fd ps (spM K mg n m') :=
  FnOk.m F fun ds M H I as P' Q Wf hd hl s => Sat.of_eq (h ds M hd) s
end
/-! the law's own end -/
theorem law_end {K : PySem.W.Frag} {mg : Str → Option Value} {m : OC} {H : Hp} {a : Addr} {ns : List Int} (hS : SqL K H a (ns.map V.int)) (h : ∃ M, m [.rol (ns.map D.int)] [] = .ok (.bl true) M) :
    spM K mg 1 m [.ref a] H (fun v _ => v = .bl true) fun _ _ _ => False := by
  obtain ⟨M, h⟩ := h
  refine ⟨rfl, [.rol (ns.map D.int)], H, [], [], fun _ => none, ⟨fun _ _ e => e, rfl, List.nodup_nil, fun k a o e => by simp at e, fun a o e => by cases e⟩, .cons (.rol hS (Reps.ints ns rfl)) .nil, ?_⟩
  rw [h]
  intro v H' I' as' g w r
  cases r
  rfl

/-! ### built-ins -/
section
variable {K : PySem.W.Frag} {X : Cx}
def oLen : OC := fun ds M => match ds with
  | [x] => match tupOf x with
    | some xs => .ok (.int (xs.length : Int)) M
    | none => match listOf M x with
      | some xs => .ok (.int (xs.length : Int)) M
      | none => .bad
  | _ => .bad
theorem opc_len : OpC K (fun xs H Q => ∃ p ys, xs = [.ref p] ∧ (SqL K H p ys ∨ SqT K H p ys) ∧ Q (.int ys.length) H) oLen := by
  intro H I as M P xs ds Wf Q w r s
  unfold oLen at s
  split at s
  · obtain ⟨v, rfl, rv⟩ := r.one_inv
    split at s
    · rename_i ys hy
      obtain ⟨a, vs, rfl, h1, r1⟩ := rv.tupl w hy
      exact ⟨a, vs, rfl, .inr h1, by rw [r1.len]; exact s.now w (.int _)⟩
    · split at s
      · rename_i ys hy
        obtain ⟨a, vs, rfl, h1, r1⟩ := rv.list w hy
        exact ⟨a, vs, rfl, .inl h1, by rw [r1.len]; exact s.now w (.int _)⟩
      · exact s.elim
  · exact s.elim
def oInt : OC := fun ds M => match ds with
  | [.int i] => .ok (.int i) M
  | [.bl b] => .ok (.int (if b then 1 else 0)) M
  | _ => .bad
theorem opc_int : OpC K (fun xs H Q => (∃ i, xs = [.int i] ∧ Q (.int i) H) ∨ ∃ k, xs = [.bl k] ∧ Q (.int (if k then 1 else 0)) H) oInt := by
  intro H I as M P xs ds Wf Q w r s
  unfold oInt at s
  split at s
  · obtain ⟨v, rfl, rv⟩ := r.one_inv
    cases rv
    exact .inl ⟨_, rfl, s.now w (.int _)⟩
  · obtain ⟨v, rfl, rv⟩ := r.one_inv
    cases rv
    exact .inr ⟨_, rfl, s.now w (.int _)⟩
  · exact s.elim
def oAbs : OC := fun ds M => match ds with
  | [.int i] => .ok (.int (if i < 0 then -i else i)) M
  | _ => .bad
theorem opc_abs : OpC K (fun xs H Q => ∃ i, xs = [.int i] ∧ Q (.int (if i < 0 then -i else i)) H) oAbs := by
  intro H I as M P xs ds Wf Q w r s
  unfold oAbs at s
  split at s
  · obtain ⟨v, rfl, rv⟩ := r.one_inv
    cases rv
    exact ⟨_, rfl, s.now w (.int _)⟩
  · exact s.elim
def oMin2 : OC := fun ds M => match ds with
  | [.int i, .int j] => .ok (.int (if j < i then j else i)) M
  | _ => .bad
theorem opc_min2 : OpC K (fun xs H Q => ∃ i j, xs = [.int i, .int j] ∧ Q (.int (if j < i then j else i)) H) oMin2 := by
  intro H I as M P xs ds Wf Q w r s
  unfold oMin2 at s
  split at s
  · obtain ⟨v, v2, rfl, rv, rv2⟩ := r.two_inv
    cases rv; cases rv2
    exact ⟨_, _, rfl, s.now w (.int _)⟩
  · exact s.elim
def oGcd : OC := fun ds M => match ds with
  | [.int i, .int j] => .ok (.int ((Nat.gcd i.natAbs j.natAbs : Nat) : Int)) M
  | _ => .bad
theorem opc_gcd : OpC K rGcd oGcd := by
  intro H I as M P xs ds Wf Q w r s
  unfold oGcd at s
  split at s
  · obtain ⟨v, v2, rfl, rv, rv2⟩ := r.two_inv
    cases rv; cases rv2
    exact ⟨_, _, rfl, s.now w (.int _)⟩
  · exact s.elim
/-- lcm of great numbers -/
def CLcm (i j : Int) : Prop := i.natAbs.log2 < 6000 ∧ j.natAbs.log2 < 6000
open Classical in
noncomputable def oLcm : OC := fun ds M => match ds with
  | [.int i, .int j] => if CLcm i j then .ok (.int ((Nat.lcm i.natAbs j.natAbs : Nat) : Int)) M else .bad
  | _ => .bad
def rLcm : List V → Hp → VK → Prop := fun vs H Q => ∃ a b : Int, vs = [.int a, .int b] ∧ CLcm a b ∧ Q (.int ((Nat.lcm a.natAbs b.natAbs : Nat) : Int)) H
theorem log2_lt {n k : Nat} (h : n.log2 < k) : n < 2 ^ k := by
  by_cases h0 : n = 0
  · subst h0; exact Nat.two_pow_pos k
  · exact (Nat.log2_lt h0).mp h
theorem cr_lcm : CallR X (.builtin "math.lcm") rLcm := by
  intro pins s σ H vs us Q I r h
  obtain ⟨a, b, rfl, c, q⟩ := h
  obtain ⟨t, u, rfl⟩ := Vals.int2 r
  unfold CLcm at c
  have ha := log2_lt c.1
  have hb := log2_lt c.2
  have e1 : Nat.lcm 1 a.natAbs = a.natAbs := Nat.lcm_one_left _
  have hz : (Nat.lcm a.natAbs b.natAbs) < 2 ^ 12000 := by
    have h1 : Nat.lcm a.natAbs b.natAbs ≤ a.natAbs * b.natAbs := by
      unfold Nat.lcm
      exact Nat.div_le_self _ _
    exact Nat.lt_of_le_of_lt h1 (Nat.lt_of_lt_of_le (Nat.mul_lt_mul'' ha hb) (by rw [← Nat.pow_add]; exact Nat.le_refl _))
  have hsz : ((((Nat.lcm 1 a.natAbs).lcm b.natAbs : Nat) : Int)).natAbs.log2 < PySem.bitsLine := by
    rw [e1, Int.natAbs_natCast]
    have : (Nat.lcm a.natAbs b.natAbs).log2 < 12000 := PySem.Flt.log2_lt_of (by decide) hz
    have e : PySem.bitsLine = 134217728 := by decide
    omega
  have m1 : (max 1 a.natAbs).log2 ≤ 6000 := by
    rcases Nat.le_total 1 a.natAbs with q | q
    · rw [Nat.max_eq_right q]; omega
    · rw [Nat.max_eq_left q]; decide
  have m2 : (max a.natAbs b.natAbs).log2 ≤ 6000 := by
    rcases Nat.le_total a.natAbs b.natAbs with q | q
    · rw [Nat.max_eq_right q]; omega
    · rw [Nat.max_eq_left q]; omega
  refine PySem.call_function_meets PySem.W.MGF.kind_lcm PySem.W.MGF.plain_lcm PySem.W.MGF.entry_lcm (PySem.W.MGF.args_lcm _ _) (PySem.W.mg_run_lcm a t b u (by omega) (by omega) hsz).meets ?_
  rw [e1]
  exact ⟨.int _, H, I.tok _, ⟨_, rfl⟩, q⟩
theorem opc_lcm : OpC K rLcm oLcm := by
  intro H I as M P xs ds Wf Q w r s
  unfold oLcm at s
  split at s
  · split at s
    · rename_i hc
      obtain ⟨v, v2, rfl, rv, rv2⟩ := r.two_inv
      cases rv; cases rv2
      exact ⟨_, _, rfl, hc, s.now w (.int _)⟩
    · exact s.elim
  · exact s.elim
/-- list(x), tuple(x) -/
def oList : OC := fun ds M => match ds with
  | [x] => match tupOf x with
    | some xs => .ok (.lst xs) M
    | none => match listOf M x with
      | some xs => .ok (.lst xs) M
      | none => .bad
  | _ => .bad
def oListM : OC := fun ds M => match ds with
  | [x] => match tupOf x with
    | some xs => .ok (.ref M.length) (M ++ [.lst xs])
    | none => match listOf M x with
      | some xs => .ok (.ref M.length) (M ++ [.lst xs])
      | none => .bad
  | _ => .bad
abbrev rListC (K : PySem.W.Frag) : List V → Hp → VK → Prop := fun xs H Q => ∃ p ys, xs = [.ref p] ∧ (SqL K H p ys ∨ SqT K H p ys) ∧ ∀ l, H l = none → Q (.ref l) (upd H l (.lst ys))
theorem opc_list : OpC K (rListC K) oList := by
  intro H I as M P xs ds Wf Q w r s
  unfold oList at s
  split at s
  · obtain ⟨v, rfl, rv⟩ := r.one_inv
    split at s
    · rename_i ys hy
      obtain ⟨a, vs, rfl, h1, r1⟩ := rv.tupl w hy
      exact ⟨a, vs, rfl, .inr h1, fun l hl => s.newLst w r1 hl⟩
    · split at s
      · rename_i ys hy
        obtain ⟨a, vs, rfl, h1, r1⟩ := rv.list w hy
        exact ⟨a, vs, rfl, .inl h1, fun l hl => s.newLst w r1 hl⟩
      · exact s.elim
  · exact s.elim
theorem opc_listM : OpC K (rListC K) oListM := by
  intro H I as M P xs ds Wf Q w r s
  unfold oListM at s
  split at s
  · obtain ⟨v, rfl, rv⟩ := r.one_inv
    split at s
    · rename_i ys hy
      obtain ⟨a, vs, rfl, h1, r1⟩ := rv.tupl w hy
      exact ⟨a, vs, rfl, .inr h1, fun l hl => s.newRef w r1 hl⟩
    · split at s
      · rename_i ys hy
        obtain ⟨a, vs, rfl, h1, r1⟩ := rv.list w hy
        exact ⟨a, vs, rfl, .inl h1, fun l hl => s.newRef w r1 hl⟩
      · exact s.elim
  · exact s.elim
def oTuple : OC := fun ds M => match ds with
  | [x] => match tupOf x with
    | some xs => .ok (.tup xs) M
    | none => match listOf M x with
      | some xs => .ok (.tup xs) M
      | none => .bad
  | _ => .bad
abbrev rTupleC (K : PySem.W.Frag) : List V → Hp → VK → Prop := fun xs H Q => ∃ p ys, xs = [.ref p] ∧ ((SqL K H p ys ∧ ∀ l, H l = none → Q (.ref l) (upd H l (.tup ys))) ∨ (SqT K H p ys ∧ Q (.ref p) H))
theorem tupOf_eq {x : D} {xs : List D} (h : tupOf x = some xs) : x = .tup xs := by
  cases x <;> first | (cases h; rfl) | cases h
theorem opc_tuple : OpC K (rTupleC K) oTuple := by
  intro H I as M P xs ds Wf Q w r s
  unfold oTuple at s
  split at s
  · obtain ⟨v, rfl, rv⟩ := r.one_inv
    split at s
    · rename_i ys hy
      have e := tupOf_eq hy
      subst e
      have rv' := rv
      obtain ⟨a, vs, rfl, h1, r1⟩ := rv.tupl w hy
      exact ⟨a, vs, rfl, .inr ⟨h1, s.now w rv'⟩⟩
    · split at s
      · rename_i ys hy
        obtain ⟨a, vs, rfl, h1, r1⟩ := rv.list w hy
        exact ⟨a, vs, rfl, .inl ⟨h1, fun l hl => s.newTup w r1 hl⟩⟩
      · exact s.elim
  · exact s.elim
/-- all, any of a list of flags -/
def bls : List D → Option (List Bool)
  | [] => some []
  | .bl b :: xs => (bls xs).map (b :: ·)
  | _ :: _ => none
theorem Reps.bls {I : Hp} {as : List Addr} : ∀ {vs : List V} {ds : List D} {bs : List Bool}, Reps K I as vs ds → KM.bls ds = some bs → vs = bs.map V.bl
  | _, _, bs, .nil, h => by cases h; rfl
  | _, _, bs, .cons (d := d) (ds := ds) r rr, h => by
    cases d with
    | bl b =>
      unfold KM.bls at h
      cases e : KM.bls ds with
      | none => rw [e] at h; cases h
      | some cs =>
        rw [e] at h
        cases h
        cases r
        rw [Reps.bls rr e]
        rfl
    | _ => cases h
def oAll : OC := fun ds M => match ds with
  | [x] => match listOf M x with
    | some xs => match bls xs with
      | some bs => .ok (.bl (bs.all id)) M
      | none => .bad
    | none => .bad
  | _ => .bad
def oAny : OC := fun ds M => match ds with
  | [x] => match listOf M x with
    | some xs => match bls xs with
      | some bs => .ok (.bl (bs.any id)) M
      | none => .bad
    | none => .bad
  | _ => .bad
theorem opc_all : OpC K (rAll K) oAll := by
  intro H I as M P xs ds Wf Q w r s
  unfold oAll at s
  split at s
  · obtain ⟨v, rfl, rv⟩ := r.one_inv
    split at s
    · rename_i ys hy
      split at s
      · rename_i bs hb
        obtain ⟨a, vs, rfl, h1, r1⟩ := rv.list w hy
        exact ⟨a, bs, rfl, by rw [← r1.bls hb]; exact h1, s.now w (.bl _)⟩
      · exact s.elim
    · exact s.elim
  · exact s.elim
theorem opc_any : OpC K (rAny K) oAny := by
  intro H I as M P xs ds Wf Q w r s
  unfold oAny at s
  split at s
  · obtain ⟨v, rfl, rv⟩ := r.one_inv
    split at s
    · rename_i ys hy
      split at s
      · rename_i bs hb
        obtain ⟨a, vs, rfl, h1, r1⟩ := rv.list w hy
        exact ⟨a, bs, rfl, by rw [← r1.bls hb]; exact h1, s.now w (.bl _)⟩
      · exact s.elim
    · exact s.elim
  · exact s.elim
end

end KM
set_option Elab.async false
set_option linter.all false
set_option maxRecDepth 100000
set_option maxHeartbeats 2000000
namespace KM
open PySem L2 PySem.Spec PyProof.Rows
theorem tuple_mul0 (l : Addr) (items : Array Value) (n : Nat) (dd : Option Addr) (sl : Array (Option Value)) (u : Tok) (hne : items.isEmpty = false) :
    Meets (Builtin.«tuple.__mul__» ⟨[.ref l, .int 0 u], []⟩) (fun _ R s => s.heap.get? l = some { cls := .type "tuple", dict := dd, data := .seq items n, slots := sl } ∧
      R (.ok (.ret (Value.ref s.heap.objs.size))) { s with heap := s.heap.push { cls := Value.type "tuple", data := Data.seq #[] }, toks := s.toks }) :=
  .of_wp fun prog w A R s h => by
    obtain ⟨hp, g, d, tk, os⟩ := s
    obtain ⟨hl, h⟩ := h
    have f1 := AutoSeq1.idx_int
    wp_walk using wpAny_loadPart' hl
    exact ⟨_, rfl, h⟩
theorem tuple_mul1 (l : Addr) (items : Array Value) (n : Nat) (dd : Option Addr) (sl : Array (Option Value)) (u : Tok) :
    Meets (Builtin.«tuple.__mul__» ⟨[.ref l, .int 1 u], []⟩) (fun _ R s => s.heap.get? l = some { cls := .type "tuple", dict := dd, data := .seq items n, slots := sl } ∧
      R (.ok (.ret (Value.ref l))) { s with heap := s.heap, toks := s.toks }) :=
  .of_wp fun prog w A R s h => by
    obtain ⟨hp, g, d, tk, os⟩ := s
    obtain ⟨hl, h⟩ := h
    have f1 := AutoSeq1.idx_int
    wp_walk using wpAny_loadPart' hl
    exact ⟨_, rfl, h⟩
section
variable {X : Cx}
def rRep0 (K : PySem.W.Frag) : R2 := fun x y H Q => ∃ l xs, x = .ref l ∧ y = .int 0 ∧ SqT K H l xs ∧ xs ≠ [] ∧ ∀ p, H p = none → Q (.ref p) (upd H p (.tup []))
def rRep1 (K : PySem.W.Frag) : R2 := fun x y H Q => ∃ l xs, x = .ref l ∧ y = .int 1 ∧ SqT K H l xs ∧ Q (.ref l) H
theorem op_rep0 : OpR X (binaryOp .Mult) (rRep0 X.K) := by
  intro pins s σ H x y v u Q I rx ry h
  obtain ⟨l, xs, rfl, rfl, hT, hne, q⟩ := h
  cases rx
  obtain ⟨t, rfl⟩ := ry
  obtain ⟨its, r, ⟨⟨cls, dd, data, sl⟩, ho, hc, n, hd⟩, hs⟩ := I.tuple hT
  simp only at hc hd
  subst hc hd
  have hle : its.length = xs.length := r.length.symm
  have hn : its ≠ [] := fun e => hne (by
    rw [e] at hle
    exact List.eq_nil_of_length_eq_zero hle.symm)
  have hi : its.toArray.isEmpty = false := by
    cases its with
    | nil => exact absurd rfl hn
    | cons a b => rfl
  refine wpAny_binaryOp_repeat_ref (T := "tuple") (U := "int") (by decide) ⟨_, ho, rfl⟩ (fun s' => typeIs_int s' 0 t) noFill_tuple_mul F.fills_int_mul F.slot_int_rmul repeat_tuple F.slot_int_index.lookup
    (call_meets F.slot_int_rmul (typeIs_int s 0 t) F.entry_int_rmul (F.args_int_rmul_2 _ _) (int_rmul_tuple 0 t l its.toArray n dd sl)
      ⟨ho, rfl, ⟨_, ho, rfl⟩, call_meets F.slot_tuple_mul ⟨_, ho, rfl⟩ F.entry_tuple_mul (F.args_tuple_mul_2 _ _) (tuple_mul0 l its.toArray n dd sl t hi) ⟨ho, ?_⟩⟩)
  refine ⟨.ref s.heap.objs.size, _, I.laid (t' := s.toks) (o := .tup []) (fun b ob q => Heap.get?_push_of_some _ q) (Nat.le_refl _) ?_, rfl, q _ (I.hok.fresh (Nat.le_refl _))⟩
  exact ⟨Nat.zero_le _, [], .nil, IsTup.new _ _⟩
theorem op_rep1 : OpR X (binaryOp .Mult) (rRep1 X.K) := by
  intro pins s σ H x y v u Q I rx ry h
  obtain ⟨l, xs, rfl, rfl, hT, q⟩ := h
  cases rx
  obtain ⟨t, rfl⟩ := ry
  obtain ⟨its, r, ⟨⟨cls, dd, data, sl⟩, ho, hc, n, hd⟩, hs⟩ := I.tuple hT
  simp only at hc hd
  subst hc hd
  refine wpAny_binaryOp_repeat_ref (T := "tuple") (U := "int") (by decide) ⟨_, ho, rfl⟩ (fun s' => typeIs_int s' 1 t) noFill_tuple_mul F.fills_int_mul F.slot_int_rmul repeat_tuple F.slot_int_index.lookup
    (call_meets F.slot_int_rmul (typeIs_int s 1 t) F.entry_int_rmul (F.args_int_rmul_2 _ _) (int_rmul_tuple 1 t l its.toArray n dd sl)
      ⟨ho, rfl, ⟨_, ho, rfl⟩, call_meets F.slot_tuple_mul ⟨_, ho, rfl⟩ F.entry_tuple_mul (F.args_tuple_mul_2 _ _) (tuple_mul1 l its.toArray n dd sl t) ⟨ho, ?_⟩⟩)
  exact ⟨.ref l, H, I, rfl, q⟩
def rMulA (K : PySem.W.Frag) : R2 := fun x y H Q => rI CMulB (fun i j => .int (i * j)) x y H Q ∨ rRepT K x y H Q ∨ rRep0 K x y H Q ∨ rRep1 K x y H Q ∨ rRep x y H Q
theorem op_mulA : OpR X (binaryOp .Mult) (rMulA X.K) := op_mulG.or (op_repT.or (op_rep0.or (op_rep1.or op_rep)))
end
open Classical in
noncomputable def oMul : OD := fun x y M => match x, y with
  | .int i, .int j => if CMulB i j then .ok (.int (i * j)) M else .bad
  | .tup xs, .int k => if xs ≠ [] ∧ 0 ≤ k ∧ k ≤ 1000 ∧ xs.length ≤ 1000 then .ok (.tup (List.replicate k.toNat xs).flatten) M else .bad
  | x, .int k => match listOfT M x with
    | some xs => if 0 ≤ k ∧ k ≤ 1000 ∧ xs.length ≤ 100 then .ok (.lst (List.replicate k.toNat xs).flatten) M else .bad
    | none => .bad
  | _, _ => .bad
/- the same, the new list one that may change -/
open Classical in
noncomputable def oMulM : OD := fun x y M => match y with
  | .int k => match listOfT M x with
    | some xs => if 0 ≤ k ∧ k ≤ 1000 ∧ xs.length ≤ 100 then .ok (.ref M.length) (M ++ [.lst (List.replicate k.toNat xs).flatten]) else .bad
    | none => .bad
  | _ => .bad
theorem opd_mul {K : PySem.W.Frag} : OpD K (rMulA K) oMul := by
  intro H I as M P x y d e Wf Q w rx ry s
  unfold oMul at s
  split at s
  · split at s
    · rename_i c
      cases rx; cases ry
      exact .inl ⟨_, _, rfl, rfl, c, s.now w (.int _)⟩
    · exact s.elim
  · rename_i xs k
    split at s
    · rename_i c
      obtain ⟨c1, c2, c3, c4⟩ := c
      cases ry
      have rx' := rx
      obtain ⟨a, vs, rfl, h1, r1⟩ := rx.tupl w rfl
      have hne : vs ≠ [] := fun e => by
        subst e
        cases r1
        exact c1 rfl
      by_cases h0 : k = 0
      · subst h0
        exact .inr (.inr (.inl ⟨a, vs, rfl, rfl, h1, hne, fun p hp => s.newTup w .nil hp⟩))
      · by_cases h2 : k = 1
        · subst h2
          refine .inr (.inr (.inr (.inl ⟨a, vs, rfl, rfl, h1, ?_⟩)))
          refine s.now w ?_
          rw [show ((1 : Int).toNat) = 1 from rfl, List.replicate_one, List.flatten_cons, List.flatten_nil, List.append_nil]
          exact rx'
        · refine .inr (.inl ⟨a, k, vs, rfl, rfl, h1, hne, by omega, c3, by rw [r1.len]; exact c4, fun p hp => s.newTup w (r1.rep _) hp⟩)
    · exact s.elim
  · split at s
    · rename_i xs hx
      split at s
      · rename_i c
        obtain ⟨c2, c3, c4⟩ := c
        cases ry
        obtain ⟨a, vs, rfl, h1, r1⟩ := rx.listT w hx
        refine .inr (.inr (.inr (.inr ⟨a, _, vs, rfl, rfl, h1, by omega, by omega, ?_, fun p hp => s.newLst w (r1.rep _) hp⟩)))
        rw [r1.len]
        exact Evl.sz_of (Nat.le_trans (Nat.mul_le_mul c4 (by omega : _ ≤ 1000)) (by decide))
      · exact s.elim
    · exact s.elim
  · exact s.elim
theorem opd_mulM {K : PySem.W.Frag} : OpD K (rMulA K) oMulM := by
  intro H I as M P x y d e Wf Q w rx ry s
  unfold oMulM at s
  split at s
  · split at s
    · rename_i xs hx
      split at s
      · rename_i c
        obtain ⟨c2, c3, c4⟩ := c
        cases ry
        obtain ⟨a, vs, rfl, h1, r1⟩ := rx.listT w hx
        refine .inr (.inr (.inr (.inr ⟨a, _, vs, rfl, rfl, h1, by omega, by omega, ?_, fun p hp => s.newRef w (r1.rep _) hp⟩)))
        rw [r1.len]
        exact Evl.sz_of (Nat.le_trans (Nat.mul_le_mul c4 (by omega : _ ≤ 1000)) (by decide))
      · exact s.elim
    · exact s.elim
  · exact s.elim
/-! the other operators -/
def oSub : OD := oI2 fun i j => .int (i - j)
noncomputable def oDiv : OD := oI2c CDivB fun i j => .int (i / j)
noncomputable def oMod : OD := oI2c CModB fun i j => .int (i % j)
noncomputable def oPow : OD := oI2c CPowB fun i j => .int (i ^ j.toNat)
def oLt : OD := oI2 fun i j => .bl (decide (i < j))
def oLe : OD := oI2 fun i j => .bl (decide (i ≤ j))
def oGt : OD := oI2 fun i j => .bl (decide (j < i))
def oGe : OD := oI2 fun i j => .bl (decide (j ≤ i))
section
variable {K : PySem.W.Frag}
theorem opd_sub : OpD K (rI0 fun i j => .int (i - j)) oSub := opd_I0 fun _ _ _ _ => .int _
theorem opd_lt : OpD K (rI0 fun i j => .bl (decide (i < j))) oLt := opd_I0 fun _ _ _ _ => .bl _
theorem opd_le : OpD K (rI0 fun i j => .bl (decide (i ≤ j))) oLe := opd_I0 fun _ _ _ _ => .bl _
theorem opd_gt : OpD K (rI0 fun i j => .bl (decide (j < i))) oGt := opd_I0 fun _ _ _ _ => .bl _
theorem opd_ge : OpD K (rI0 fun i j => .bl (decide (j ≤ i))) oGe := opd_I0 fun _ _ _ _ => .bl _
theorem opd_div : OpD K (rI CDivW fun i j => .int (i / j)) oDiv := opd_I (fun i j h => h) fun _ _ _ _ => .int _
theorem opd_mod : OpD K (rI (fun _ j => 0 < j) fun i j => .int (i % j)) oMod := opd_I (fun i j h => h) fun _ _ _ _ => .int _
theorem opd_pow : OpD K (rI CPow fun i j => .int (i ^ j.toNat)) oPow := opd_I (fun i j h => ⟨h.1.1, h.1.2, h.2⟩) fun _ _ _ _ => .int _
end
/-! in, over flat things -/
def flD : D → Option V
  | .non => some .non
  | .bl b => some (.bl b)
  | .int i => some (.int i)
  | .str s => some (.str s)
  | _ => none
def flDs : List D → Option (List V)
  | [] => some []
  | x :: xs => match flD x, flDs xs with
    | some v, some vs => some (v :: vs)
    | _, _ => none
def inD (x : D) (y : D) (M : List MO) : Option Bool := match flD x with
  | some v => match (match tupOf y with
      | some xs => flDs xs
      | none => match listOf M y with
        | some xs => flDs xs
        | none => none) with
    | some vs => if (flatV v && vs.all flatV) = true then some (inV v vs) else none
    | none => none
  | none => none
def oIn : OD := fun x y M => match inD x y M with
  | some b => .ok (.bl b) M
  | none => .bad
def oNotIn : OD := fun x y M => match inD x y M with
  | some b => .ok (.bl (!b)) M
  | none => .bad
section
variable {K : PySem.W.Frag} {H I P : Hp} {as : List Addr} {M : List MO}
theorem Rep.fl {v u : V} {d : D} (r : Rep K I as v d) (h : flD d = some u) : v = u := by
  cases r <;> first | (cases h; rfl) | cases h
theorem Reps.fl : ∀ {vs us : List V} {ds : List D}, Reps K I as vs ds → flDs ds = some us → vs = us
  | _, _, _, .nil, h => by cases h; rfl
  | _, us, _, .cons (d := d) (ds := ds) r rr, h => by
    unfold flDs at h
    cases e : flD d with
    | none => rw [e] at h; cases h
    | some v =>
      cases e2 : flDs ds with
      | none => rw [e, e2] at h; cases h
      | some ws =>
        rw [e, e2] at h
        cases h
        rw [r.fl e, Reps.fl rr e2]
theorem inD_ok (w : Wr K H I as M P) {x y : V} {d e : D} {b : Bool} (rx : Rep K I as x d) (ry : Rep K I as y e) (h : inD d e M = some b) : ∃ p xs, y = .ref p ∧ (SqL K H p xs ∨ SqT K H p xs) ∧ flatV x = true ∧ xs.all flatV = true ∧ inV x xs = b := by
  unfold inD at h
  split at h
  · rename_i v hv
    have e1 := rx.fl hv
    subst e1
    split at h
    · rename_i vs hvs
      split at h
      · rename_i c
        rw [Bool.and_eq_true] at c
        cases h
        split at hvs
        · rename_i xs hx
          obtain ⟨a, us, rfl, h1, r1⟩ := ry.tupl w hx
          rw [r1.fl hvs] at h1
          exact ⟨a, vs, rfl, .inr h1, c.1, c.2, rfl⟩
        · split at hvs
          · rename_i xs hx
            obtain ⟨a, us, rfl, h1, r1⟩ := ry.list w hx
            rw [r1.fl hvs] at h1
            exact ⟨a, vs, rfl, .inl h1, c.1, c.2, rfl⟩
          · cases hvs
      · cases h
    · cases h
  · cases h
theorem opd_in : OpD K (rIn K false) oIn := by
  intro H I as M P x y d e Wf Q w rx ry s
  unfold oIn at s
  split at s
  · rename_i b hb
    obtain ⟨p, xs, rfl, h1, h2, h3, rfl⟩ := inD_ok w rx ry hb
    exact ⟨p, xs, rfl, h1, h2, h3, by rw [if_neg Bool.false_ne_true]; exact s.now w (.bl _)⟩
  · exact s.elim
theorem opd_notIn : OpD K (rIn K true) oNotIn := by
  intro H I as M P x y d e Wf Q w rx ry s
  unfold oNotIn at s
  split at s
  · rename_i b hb
    obtain ⟨p, xs, rfl, h1, h2, h3, rfl⟩ := inD_ok w rx ry hb
    exact ⟨p, xs, rfl, h1, h2, h3, by rw [if_pos rfl]; exact s.now w (.bl _)⟩
  · exact s.elim
end
/-! isinstance(x, T) -/
def tyN : D → Option String
  | .non => some "NoneType"
  | .bl _ => some "bool"
  | .int _ => some "int"
  | .str _ => some "str"
  | .tup _ => some "tuple"
  | .lst _ => some "list"
  | .rol _ => some "list"
  | .ref _ => some "list"
  | .obj _ => none
  | .fn _ => none
  | .dct => some "dict"
def isiB (a T : String) : Bool := a == T || (a == "bool" && T == "int")
def tyOk (T : String) : Bool := ["NoneType", "bool", "int", "str", "tuple", "list", "dict"].all fun a => kitB a T == some (isiB a T)
def tyM (M : List MO) (d : D) : Option String := match d with
  | .ref k => match M[k]? with
    | some (.lst _) => some "list"
    | _ => none
  | d => tyN d
def oIsi (T : String) : OU := fun x M => match tyM M x with
  | some a => if tyOk T = true then .ok (.bl (isiB a T)) M else .bad
  | none => .bad
theorem Rep.ty {K : PySem.W.Frag} {H I P : Hp} {as : List Addr} {M : List MO} (w : Wr K H I as M P) {v : V} {d : D} {a : String} (r : Rep K I as v d) (h : tyM M d = some a) : TyX K H v (.type a) ∧ a ∈ ["NoneType", "bool", "int", "str", "tuple", "list", "dict"] := by
  have lst : ∀ {p : Addr} {xs : List V}, SqL K H p xs → TyX K H (.ref p) (.type "list") := fun {p xs} hl => by
    rcases hl with (h | ⟨o, h⟩) | ⟨o, its, n, h, c, _⟩
    · exact .base (.lst h)
    · exact .base (.frz h)
    · exact .kList h c
  cases r with
  | non => cases h; exact ⟨.base .non, by decide⟩
  | bl b => cases h; exact ⟨.base (.bl b), by decide⟩
  | int b => cases h; exact ⟨.base (.int b), by decide⟩
  | str b => cases h; exact ⟨.base (.str b), by decide⟩
  | tup h1 h2 =>
    cases h
    refine ⟨?_, by decide⟩
    rcases w.seqT h1 with (h | ⟨o, h⟩) | ⟨o, its, n, h, c, _⟩
    · exact .base (.tup h)
    · exact .fTuple h
    · exact .kTuple h c
  | lst h1 h2 => cases h; exact ⟨lst (.of (w.sub _ _ h1)), by decide⟩
  | rol h1 h2 => cases h; exact ⟨lst (w.seqL h1), by decide⟩
  | @ref k p h1 =>
    obtain ⟨o, ho, _, _, m⟩ := w.at h1
    unfold tyM at h
    cases o with
    | dct kvs => simp [ho] at h
    | lst xs =>
      simp only [ho] at h
      cases h
      exact ⟨lst (.of m.choose_spec.1), by decide⟩
  | obj a => cases h
  | fn _ => cases h
  | dct h1 => cases h; exact ⟨.base (.dK (w.sub _ _ h1)), by decide⟩
section
variable {X : Cx} {W : WX} {e : Expr} {pos p p2 : Pos} {te : TE} {ge : GE}
theorem xe_isi {T : String} {y : Str} (hm : X.mg "isinstance" = none) (hm2 : X.mg y = none) (hv2 : bootBuiltins y = some (.type T)) (he : XE X W e te ge) (hg : Gl X "isinstance" := by rfl) (hg2 : Gl X y := by rfl) (hn2 : y ≠ "__name__" := by decide) (hd2 : (y == ("__debug__" : Str)) = false := by decide)
    (h1 : starEach [e, .Name y p2] X.env = (false, eval e X.env) :: starEach [.Name y p2] X.env := by rfl) (h2 : starEach [.Name y p2] X.env = (false, eval (.Name y p2) X.env) :: starEach [] X.env := by rfl) (hpl : (backTo pos (starEach [.Name y p2] X.env)).any (·.1) = false := by rfl) :
    XE X W (.Call (.Name "isinstance" p) [e, .Name y p2] [] pos) (tCB (rIsi X.K) (tCons te (tCons (tC (.ty T)) tNil))) (gUn (oIsi T) ge) := by
  refine ⟨pe_callB call_isi hg hm PyProof.Rows.boot_isinstance (pa_cons he.pe (pa_cons (pe_bltn hg2 hm2 hv2 rfl hn2 hd2) pa_nil h2) h1) (by decide) (by decide) h1 hpl, fun σ H δ I as M P Q w en s => ?_⟩
  refine he.im σ H δ I as M P _ w en (Sat.bind s fun d M1 v H1 I1 as1 _ g1 w1 r1 s1 => ?_)
  unfold oIsi at s1
  split at s1
  · rename_i a ha
    split at s1
    · rename_i hT
      obtain ⟨t1, t2⟩ := r1.ty w1 ha
      have hk := List.all_eq_true.mp hT a t2
      exact ⟨v, .ty T, .type a, .type T, isiB a T, rfl, .ty T, t1, kit_ty (by simpa using hk), s1.now w1 (.bl _)⟩
    · exact s1.elim
  · exact s1.elim
end
/-! methods of lists -/
abbrev OM := D → List D → List MO → R D
def OpM (K : PySem.W.Frag) (r : V → List V → Hp → VK → Prop) (o : OM) : Prop := ∀ (H I : Hp) (as : List Addr) (M : List MO) (P : Hp) (x : V) (xs : List V) (d : D) (ds : List D) (Wf : Str → Hp → Prop) (Q : VK),
  Wr K H I as M P → Rep K I as x d → Reps K I as xs ds → Sat K (Rep K) Wf I as P Q (o d ds M) → r x xs H Q
def gBM (o : OM) (ga : GE) (g : GA) : GE := fun δ M => (ga δ M).bind fun x M1 => match listOf M1 x with
  | some _ => (g δ M1).bind fun ds M2 => o x ds M2
  | none => .bad
section
variable {K : PySem.W.Frag} {mg : Str → Option Value} {W : WX} {to : TE} {go : GE} {t : TA} {g : GA}
theorem impE_BM {r : V → List V → Hp → VK → Prop} {o : OM} (ho : OpM K r o) (h1 : ImpE K mg W to go) (h2 : ImpA K mg W t g) : ImpE K mg W (tBM K "list" r to t) (gBM o go g) := by
  intro σ H δ I as M P Q w en s
  refine h1 σ H δ I as M P _ w en (Sat.bind s fun d M1 v H1 I1 as1 _ g1 w1 r1 s1 => ?_)
  split at s1
  · rename_i xs hx
    have r1' := r1
    obtain ⟨a, vs, rfl, hl, rr⟩ := r1.list w1 hx
    refine ⟨.inl ⟨rfl, vs, hl⟩, ?_⟩
    refine h2 σ H1 δ I1 as1 M1 P _ w1 (en.mono g1) (Sat.bind s1 fun ds M2 us H2 I2 as2 _ g2 w2 r2 s2 => ?_)
    exact ho H2 I2 as2 M2 P _ us d ds _ Q w2 (r1'.mono g2) r2 s2
  · exact s1.elim
open Classical in
noncomputable def oAppend : OM := fun x ds M => match x, ds with
  | .ref k, [d] => match M[k]? with
    | some (.lst xs) => if bigS xs.length then .ok .non (M.set k (.lst (xs ++ [d]))) else .bad
    | _ => .bad
  | _, _ => .bad
theorem opm_append : OpM K rAppend oAppend := by
  intro H I as M P x xs d ds Wf Q w rx rs s
  unfold oAppend at s
  split at s
  · rename_i k d1
    cases rx with
    | @ref _ a h1 =>
      obtain ⟨o, ho, _, _, m⟩ := w.at h1
      cases o with
      | dct kvs => simp only [ho] at s; exact s.elim
      | lst ys =>
        simp only [ho] at s
        split at s
        · rename_i hb
          obtain ⟨v, rfl, rv⟩ := rs.one_inv
          obtain ⟨vs, e1, rr⟩ := m
          refine ⟨a, vs, v, rfl, rfl, e1, by rw [rr.len]; exact Evl.sz_lt hb, ?_⟩
          exact s _ _ I as (Gr.refl _ _) (w.put h1 _ _ ⟨_, upd_same, rr.append (.cons rv .nil)⟩) .non
        · exact s.elim
  · exact s.elim
/- xs.pop(i), 0 ≤ i -/
open Classical in
noncomputable def oPopAt : OM := fun x ds M => match x, ds with
  | .ref k, [.int i] => match M[k]? with
    | some (.lst xs) => if 0 ≤ i ∧ i < 1000 then (match xs[i.toNat]? with
      | some d => .ok d (M.set k (.lst (xs.eraseIdx i.toNat)))
      | none => .bad) else .bad
    | _ => .bad
  | _, _ => .bad
theorem opm_popAt : OpM K rPopAt oPopAt := by
  intro H I as M P x xs d ds Wf Q w rx rs s
  unfold oPopAt at s
  split at s
  · rename_i k i
    cases rx with
    | @ref _ a h1 =>
      obtain ⟨o, ho, _, _, m⟩ := w.at h1
      cases o with
      | dct kvs => simp only [ho] at s; exact s.elim
      | lst ys =>
        simp only [ho] at s
        split at s
        · rename_i hb
          split at s
          · rename_i d2 hd
            obtain ⟨v, rfl, rv⟩ := rs.one_inv
            cases rv
            obtain ⟨vs, e1, rr⟩ := m
            obtain ⟨y, hy, ry⟩ := rr.get hd
            have hlt : i.toNat < vs.length := (List.getElem?_eq_some_iff.mp hy).1
            refine ⟨a, vs, i, i.toNat, y, rfl, rfl, e1, by omega, by omega, ?_, hy, ?_⟩
            · unfold seqIndex?
              simp only [show ¬ i < 0 by omega, if_false]
              first
                | (rw [if_pos (by omega)])
                | (simp; omega)
            · exact s _ _ I as (Gr.refl _ _) (w.put h1 _ _ ⟨_, upd_same, rr.eraseIdx _⟩) (ry.mono (Gr.refl _ _))
          · exact s.elim
        · exact s.elim
  · exact s.elim
/-- xs.index(x), x one of the ints xs -/
def intsD : List D → Option (List Int)
  | [] => some []
  | .int i :: xs => (intsD xs).map (i :: ·)
  | _ :: _ => none
def oIndex : OM := fun x ds M => match ds with
  | [.int i] => match listOf M x with
    | some xs => match intsD xs with
      | some ns => match ns.findIdx? (· == i) with
        | some j => .ok (.int (j : Int)) M
        | none => .bad
      | none => .bad
    | none => .bad
  | _ => .bad
theorem Reps.intsD {I : Hp} {as : List Addr} : ∀ {vs : List V} {ds : List D} {ns : List Int}, Reps K I as vs ds → KM.intsD ds = some ns → vs = ns.map V.int
  | _, _, ns, .nil, h => by cases h; rfl
  | _, _, ns, .cons (d := d) (ds := ds) r rr, h => by
    cases d with
    | int b =>
      unfold KM.intsD at h
      cases e : KM.intsD ds with
      | none => rw [e] at h; cases h
      | some cs =>
        rw [e] at h
        cases h
        cases r
        rw [Reps.intsD rr e]
        rfl
    | _ => cases h
end
end KM
set_option Elab.async false
set_option linter.all false
set_option maxRecDepth 100000
set_option maxHeartbeats 2000000
namespace KM
open PySem L2 PySem.Spec PyProof.Rows
section
variable {X : Cx} {W : WX} {tg e : Expr} {te : TE} {ge : GE}
theorem pi_or {wi wj : TI} (h : PI X tg e wi) (k : PI X tg e wj) : PI X tg e (fun σ H R => wi σ H R ∨ wj σ H R) := ⟨fun pins s σ H R I x => x.elim (h.run pins s σ H R I) (k.run pins s σ H R I)⟩
/-- a list or a tuple -/
def giSeq (ge : GE) : GI := fun δ M => (ge δ M).bind fun x M1 => match tupOf x with
  | some xs => .ok (itT xs) M1
  | none => match listOf M1 x with
    | some xs => .ok ⟨xs, gdOf x xs⟩ M1
    | none => .bad
theorem xi_seq (h : XE X W e te ge) : XI X W tg e (fun σ H R => iTup X.K te σ H R ∨ iList X.K te σ H R) (giSeq ge) := by
  refine ⟨pi_or (pi_tup h.pe) (pi_list h.pe), fun σ H δ I as M P Q w en s => ?_⟩
  unfold giSeq at s
  cases e1 : ge δ M with
  | bad => rw [e1] at s; exact s.elim
  | ex c M1 =>
    refine .inl ((xi_tup (tg := tg) h).im σ H δ I as M P Q w en ?_)
    unfold giTup
    rw [e1] at s ⊢
    exact s
  | ok x M1 =>
    rw [e1] at s
    simp only [R.bind_ok] at s
    cases e2 : tupOf x with
    | some xs =>
      refine .inl ((xi_tup (tg := tg) h).im σ H δ I as M P Q w en ?_)
      unfold giTup
      rw [e1]
      simp only [R.bind_ok, e2] at s ⊢
      exact s
    | none =>
      refine .inr ((xi_list (tg := tg) h).im σ H δ I as M P Q w en ?_)
      unfold giList
      rw [e1]
      simp only [R.bind_ok, e2] at s ⊢
      exact s
variable {o : Expr} {es : List Expr} {to : TE} {t : TA} {go : GE} {g : GA} {cpos apos : Pos} {name : Str} {id : String} {r : V → List V → Hp → VK → Prop} {om : OM}
theorem xe_bm (slot : Slot "list" name id) (hty : typeOf (.builtin id) = pure (.type "method_descriptor")) (hm : MtR X id r) (hd : OpM X.K r om) (ho : XE X W o to go) (ha : XA X W (e :: es) t g)
    (hbase : attributeBase o name X.env (eval o X.env) = eval o X.env := by rfl)
    (hfew : ((backTo cpos (starEach (e :: es) X.env)).all (fun x => !x.1) && (backToKw cpos (keywordEach [] X.env)).all (fun x => x.1.isSome)
      && decide ((e :: es).length + ([] : List Keyword).length + (if ([] : List Keyword).isEmpty then 0 else 1) < 30)) = true := by rfl)
    (hline : (apos.endLine == cpos.line) = true := by rfl) (hs : starEach (e :: es) X.env = (false, eval e X.env) :: starEach es X.env := by rfl) (hplain : (backTo cpos (starEach es X.env)).any (·.1) = false := by rfl) :
    XE X W (.Call (.Attribute o name apos) (e :: es) [] cpos) (tBM X.K "list" r to t) (gBM om go g) :=
  ⟨pe_bm PySem.F.plainAttrs_list slot hty hm ho.pe ha.pe hbase hfew hline hs hplain, impE_BM hd ho.im ha.im⟩
theorem eqV_int (i j : Int) : eqV (.int i) (.int j) = (i == j) := by
  first
    | rfl
    | simp [eqV]
theorem opm_index {K : PySem.W.Frag} : OpM K (rIndex K) oIndex := by
  intro H I as M P x xs d ds Wf Q w rx rs s
  unfold oIndex at s
  split at s
  · rename_i i
    split at s
    · rename_i ys hy
      split at s
      · rename_i ns hn
        split at s
        · rename_i j hj
          obtain ⟨v, rfl, rv⟩ := rs.one_inv
          cases rv
          obtain ⟨a, vs, rfl, h1, r1⟩ := rx.list w hy
          have e := r1.intsD hn
          subst e
          obtain ⟨hlt, hp, hq⟩ := List.findIdx?_eq_some_iff_getElem.mp hj
          refine ⟨a, ns.map V.int, .int i, j, .int ns[j], rfl, rfl, h1, rfl, ?_, ?_, ?_, ?_, s.now w (.int _)⟩
          · rw [List.all_map]
            exact List.all_eq_true.mpr fun _ _ => rfl
          · rw [List.getElem?_map, List.getElem?_eq_getElem hlt]
            rfl
          · rw [eqV_int]
            exact hp
          · intro m z hm hz
            rw [List.getElem?_map, List.getElem?_eq_getElem (Nat.lt_trans hm hlt)] at hz
            have e := Option.some.inj hz
            rw [← e, eqV_int]
            simpa using hq m hm
        · exact s.elim
      · exact s.elim
    · exact s.elim
  · exact s.elim
/-- sum of ints -/
def oSum : OC := fun ds M => match ds with
  | [x] => match listOf M x with
    | some xs => match intsD xs with
      | some ns => .ok (.int ns.sum) M
      | none => .bad
    | none => .bad
  | _ => .bad
theorem opc_sum {K : PySem.W.Frag} : OpC K (rSum K) oSum := by
  intro H I as M P xs ds Wf Q w r s
  unfold oSum at s
  split at s
  · obtain ⟨v, rfl, rv⟩ := r.one_inv
    split at s
    · rename_i ys hy
      split at s
      · rename_i ns hn
        obtain ⟨a, vs, rfl, h1, r1⟩ := rv.list w hy
        have e := r1.intsD hn
        subst e
        exact ⟨a, ns, rfl, h1, s.now w (.int _)⟩
      · exact s.elim
    · exact s.elim
  · exact s.elim
end
end KM
set_option Elab.async false
set_option linter.all false
set_option maxRecDepth 100000
set_option maxHeartbeats 2000000
namespace KM
open PySem L2 PySem.Spec PyProof.Rows
section
variable {X : Cx} {W : WX} {a e : Expr} {es : List Expr} {pos p p2 : Pos} {ta te : TE} {ga ge : GE} {t : TA} {g : GA}
theorem ke_slice (K : PySem.W.Frag) {lo hi : Option Expr} {tl th : TO} {gl gh : GO} (he : XE X W a ta ga) (hl : XO X W lo tl gl) (hh : XO X W hi th gh) (hK : X.K = K := by rfl) : XE X W (.Subscript a (.Slice lo hi none p2) pos) (tSl (rSlG K) ta tl th) (gSl ga gl gh) := by
  subst hK; exact xe_slice he hl hh
theorem ki_seq (K : PySem.W.Frag) {tg : Expr} (h : XE X W e te ge) (hK : X.K = K := by rfl) : XI X W tg e (fun σ H R => iTup K te σ H R ∨ iList K te σ H R) (giSeq ge) := by
  subst hK; exact xi_seq h
theorem ke_isi (K : PySem.W.Frag) {T : String} {y : Str} (hm : X.mg "isinstance" = none) (hm2 : X.mg y = none) (hv2 : bootBuiltins y = some (.type T)) (he : XE X W e te ge) (hK : X.K = K := by rfl) (hg : Gl X "isinstance" := by rfl) (hg2 : Gl X y := by rfl) (hn2 : y ≠ "__name__" := by decide) (hd2 : (y == ("__debug__" : Str)) = false := by decide)
    (h1 : starEach [e, .Name y p2] X.env = (false, eval e X.env) :: starEach [.Name y p2] X.env := by rfl) (h2 : starEach [.Name y p2] X.env = (false, eval (.Name y p2) X.env) :: starEach [] X.env := by rfl) (hpl : (backTo pos (starEach [.Name y p2] X.env)).any (·.1) = false := by rfl) :
    XE X W (.Call (.Name "isinstance" p) [e, .Name y p2] [] pos) (tCB (rIsi K) (tCons te (tCons (tC (.ty T)) tNil))) (gUn (oIsi T) ge) := by
  subst hK; exact xe_isi hm hm2 hv2 he hg hg2 hn2 hd2 h1 h2 hpl
theorem kg_tup (K : PySem.W.Frag) {is : List Nat} {k n : Nat} {t : TGs} {g : List D → GS} (hc : X.calm = true) (h : XGs X W es is t g) (hK : X.K = K := by rfl)
    (hn : (assignEach es X.env).length = n := by rfl) (hst : (assignEach es X.env).findIdx? (·.1) = none := by rfl) : XG X W (.Tuple es k pos) is (L2.gTup K n t) (gtTup n g) := by
  subst hK; exact xg_tup hc h hn hst
theorem kt_tru (K : PySem.W.Frag) (ha : XE X W a ta ga) (hK : X.K = K := by rfl) (he : ∀ whole, isTrue a X.env whole = (do let v ← whole; standAt a.pos; holding [v] (truthy v)) := by intro _; rfl) : XT X W a (fun σ H Q => ta σ H fun x H' => ∃ k, TruV K x H' k ∧ Q k H') (gTru ga) := by
  subst hK; exact xt_tru ha he
theorem ke_call (K : PySem.W.Frag) (mg : Str → Option Value) {x : Str} {k n : Nat} {m : OC} (C : Callee X.prog X.w X.K X.mg X.base x k n m) (hr : Room k X.A) (tk : Takes X W) (ha : XA X W (e :: es) t g) (hK : X.K = K := by rfl) (hmg : X.mg = mg := by rfl) (hl : ∀ δ M ds M', g δ M = .ok ds M' → ds.length = n := by first | exact fun _ _ _ _ h => gCons_len (fun _ _ _ _ h => gNil_len h) h | exact fun _ _ _ _ h => gCons_len (fun _ _ _ _ h => gCons_len (fun _ _ _ _ h => gNil_len h) h) h | exact fun _ _ _ _ h => gCons_len (fun _ _ _ _ h => gCons_len (fun _ _ _ _ h => gCons_len (fun _ _ _ _ h => gNil_len h) h) h) h | exact fun _ _ _ _ h => gCons_len (fun _ _ _ _ h => gCons_len (fun _ _ _ _ h => gCons_len (fun _ _ _ _ h => gCons_len (fun _ _ _ _ h => gNil_len h) h) h) h) h)
    (hg : Gl X x := by rfl) (hdb : (x == ("__debug__" : Str)) = false := by decide)
    (he : starEach (e :: es) X.env = (false, eval e X.env) :: starEach es X.env := by rfl) (hpl : (backTo pos (starEach es X.env)).any (·.1) = false := by rfl) :
    XE X W (.Call (.Name x p) (e :: es) [] pos) (tCallS (spM K mg n m) (WE W) t) (gCall m g) := by
  subst hK hmg; exact xe_call C hr tk ha hl hg hdb he hpl
variable {o : Expr} {to : TE} {go : GE} {cpos apos : Pos} {name : Str} {id : String} {r : V → List V → Hp → VK → Prop} {om : OM}
theorem ke_bm (K : PySem.W.Frag) (slot : Slot "list" name id) (hty : typeOf (.builtin id) = pure (.type "method_descriptor")) (hm : MtR X id r) (hd : OpM X.K r om) (ho : XE X W o to go) (ha : XA X W (e :: es) t g) (hK : X.K = K := by rfl)
    (hbase : attributeBase o name X.env (eval o X.env) = eval o X.env := by rfl)
    (hfew : ((backTo cpos (starEach (e :: es) X.env)).all (fun x => !x.1) && (backToKw cpos (keywordEach [] X.env)).all (fun x => x.1.isSome)
      && decide ((e :: es).length + ([] : List Keyword).length + (if ([] : List Keyword).isEmpty then 0 else 1) < 30)) = true := by rfl)
    (hline : (apos.endLine == cpos.line) = true := by rfl) (hs : starEach (e :: es) X.env = (false, eval e X.env) :: starEach es X.env := by rfl) (hplain : (backTo cpos (starEach es X.env)).any (·.1) = false := by rfl) :
    XE X W (.Call (.Attribute o name apos) (e :: es) [] cpos) (tBM K "list" r to t) (gBM om go g) := by
  subst hK; exact xe_bm slot hty hm hd ho ha hbase hfew hline hs hplain
end
abbrev rLenC (K : PySem.W.Frag) : List V → Hp → VK → Prop := fun xs H Q => ∃ p ys, xs = [.ref p] ∧ (SqL K H p ys ∨ SqT K H p ys) ∧ Q (.int ys.length) H
end KM
set_option Elab.async false
set_option linter.all false
set_option maxRecDepth 100000
set_option maxHeartbeats 2000000
namespace KM
open PySem L2 PySem.Spec PyProof.Rows
/-! ### the end -/
def DefAt (K : PySem.W.Frag) (mg : Str → Option Value) (x : Str) (st : Stmt) : Prop := ∃ (f : Addr) (fd : FuncData), Fun K x x st f fd ∧ mg x = some (.ref f) ∧ PySem.W.keepIn K (.ref f) = true ∧ PySem.W.nsIn K mainGlobals x = some (some (.ref f))
theorem def_mk {K : PySem.W.Frag} {mg : Str → Option Value} {h : Heap} (X : K.In h) (G : h.Ns mainGlobals mg) {x : Str} {st : Stmt} {f : Addr} {oc : Value} {od an : Option Addr} {osl : Array (Option Value)} {kV doc pm cdv ct : Value}
    (a : PySem.W.nsIn K mainGlobals x = some (some (.ref f))) (l : K.lookup f = some ⟨oc, od, .func (PySem.W.fnOf x x (defArgs st) (defBody st) (defScope st) .none kV doc pm an cdv ct), osl⟩)
    (c : PySem.W.codeIn K cdv x = true) (k : PySem.W.keepIn K (.ref f) = true) : DefAt K mg x st := ⟨f, _, fun_mk (st := st) l c k, PySem.W.mg_of X G a, k, a⟩
theorem globI_mk {K : PySem.W.Frag} {mg : Str → Option Value} {h : Heap} (X : K.In h) (G : h.Ns mainGlobals mg) {x : Str} {i : Int} {t : Tok} (a : PySem.W.nsIn K mainGlobals x = some (some (.int i t))) : GlobC K mg x (.int i) :=
  ⟨⟨.int i, _, PySem.W.mg_of X G a, ⟨t, rfl⟩, fun _ _ => .int i⟩⟩
theorem globT_mk {K : PySem.W.Frag} {mg : Str → Option Value} {h : Heap} (X : K.In h) (G : h.Ns mainGlobals mg) {x : Str} {p : Addr} {i j : Int} {t u : Tok} {dd : Option Addr} {n : Nat} {sl : Array (Option Value)} (a : PySem.W.nsIn K mainGlobals x = some (some (.ref p)))
    (l : K.lookup p = some ⟨.type "tuple", dd, .seq #[.int i t, .int j u] n, sl⟩) : GlobC K mg x (.tup [.int i, .int j]) :=
  ⟨⟨.ref p, _, PySem.W.mg_of X G a, rfl, fun I as => .tup (xs := [.int i, .int j]) (.inr ⟨_, _, _, l, rfl, rfl, by show 2 ≤ sizeLine; decide, .cons ⟨t, rfl⟩ (.cons ⟨u, rfl⟩ .nil)⟩) (.cons (.int i) (.cons (.int j) .nil))⟩⟩
def spLaw (K : PySem.W.Frag) : Sp := fun vs H Q _ => ∃ (a : Addr) (ns : List Int), vs = [.ref a] ∧ SqL K H a (ns.map V.int) ∧ ns.length ≤ 63 ∧ (∀ z ∈ ns, Builtin.Int.intBits z ≤ 1048576) ∧ ∀ H', Q (.bl true) H'
def LawTrue (m : OC) : Prop := ∀ ns : List Int, ns.length ≤ 63 → (∀ z ∈ ns, Builtin.Int.intBits z ≤ 1048576) → ∃ M, m [.rol (ns.map D.int)] [] = .ok (.bl true) M
theorem law_imp {K : PySem.W.Frag} {mg : Str → Option Value} {m : OC} (hm : LawTrue m) : ∀ vs H Q E, spLaw K vs H Q E → spM K mg 1 m vs H Q E := by
  rintro vs H Q E ⟨a, ns, rfl, hS, hl, hb, q⟩
  obtain ⟨rfl', ds, I, as, M, P, w, r, s⟩ := law_end (mg := mg) hS (hm ns hl hb)
  refine ⟨rfl, [.rol (ns.map D.int)], H, [], [], fun _ => none, ⟨fun _ _ e => e, rfl, List.nodup_nil, fun k a o e => by simp at e, fun a o e => by cases e⟩, .cons (.rol hS (Reps.ints ns rfl)) .nil, ?_⟩
  obtain ⟨M, h⟩ := hm ns hl hb
  rw [h]
  intro v H' I' as' g w r
  cases r
  exact q H'
theorem law_walk {l : PySem.W.OpenLaw} {k : Nat} {q : Program} {loose : List Str} {XP : (Str → Option Value) → Heap → Prop} {YP : World → Heap → Prop} {d : DefRec} {K : Params → PySem.W.Frag} {x : Str}
    (hn : l.most = some 63) (hdf : d.params.defaults = []) (hr : Room k callerA)
    (hY : ∀ (w : World) (h : Heap), YP w h → (K w.params).In h)
    (F : ∀ (w : World) (mg : Str → Option Value) (fa : Addr) (h : Heap), (K w.params).In h → h.Ns mainGlobals mg → mg d.name = some (.ref fa) →
      ∃ fd : FuncData, (∀ (s : Shared) (u : Value), BindsTo s fd ⟨[u], []⟩ [(x, u)]) ∧
        ∀ base : Heap, (K w.params).In base → base.Ns mainGlobals mg → FnOk l.prog w (K w.params) mg base (L2.CX l.prog w) k fa fd [x] (spLaw (K w.params))) :
    PySem.W.WalkO q loose XP YP l.row.toRowW d [] (fun f vs => PySem.call f vs) :=
  walk_ofB (K := K) (CX := fun w => L2.CX l.prog w) (sp := fun w => spLaw (K w.params)) hn (by decide) hdf hr hY F (fun w H a ns hl hb _ hS => ⟨a, ns, rfl, hS, hl, hb, fun _ => rfl⟩) fun w H s e s' h => by
    obtain ⟨_, _, _, _, _, _, _, _, _, _, _, _, z⟩ := h
    exact z
theorem bind1 {K : PySem.W.Frag} : True := trivial
end KM
set_option Elab.async false
set_option linter.all false
set_option maxRecDepth 100000
set_option maxHeartbeats 2000000
namespace KM
open PySem L2 PySem.Spec PyProof.Rows
/-! ### while, x += e, sorted -/
noncomputable def whileL (gc : GB) (gb : GS) : Nat → GS
  | 0, _, _ => .bad
  | n + 1, δ, M => (gc δ M).toS δ fun b M1 => if b = true then (match gb δ M1 with
      | .nx δ2 M2 => whileL gc gb n δ2 M2
      | .ct δ2 M2 => whileL gc gb n δ2 M2
      | .bk δ2 M2 => .nx δ2 M2
      | .rt d M2 => .rt d M2
      | .ex c δ2 M2 => .ex c δ2 M2
      | .bad => .bad) else .nx δ M1
def fuel : Nat := 1000000
noncomputable def gWhile (gc : GB) (gb : GS) : GS := fun δ M => whileL gc gb fuel δ M
section
variable {X : Cx} {W : WX} {e : Expr} {pos : Pos} {te : TE} {ge : GE} {K : PySem.W.Frag}
theorem impS_while {mg : Str → Option Value} {tc : TT} {gc : GB} {tb : TS} {gb : GS} (hc : ImpT K mg W tc gc) (hb : ImpS K mg W tb gb) : ImpS K mg W (tWhile tc tb) (gWhile gc gb) := by
  intro σ H δ I as M P E w en s
  refine ⟨fun m σ' H' => ∃ δ' M' I' as', Gr I as I' as' ∧ Wr K H' I' as' M' P ∧ Envr K I' as' σ' δ' ∧ SatS K (lowW mg W) I' as' P E (whileL gc gb m δ' M'), ⟨fuel, δ, M, I, as, Gr.refl _ _, w, en, s⟩, ?_⟩
  rintro m σ1 H1 ⟨δ', M', I', as', g', w', en', s'⟩
  cases m with
  | zero => exact s'.elim
  | succ m =>
    unfold whileL at s'
    refine hc σ1 H1 δ' I' as' M' P _ w' en' (SatS.bindE s' en' fun b M1 v H2 I2 as2 _ g2 w2 r2 s2 => ?_)
    subst r2
    cases v with
    | false =>
      rw [if_neg Bool.false_ne_true]
      exact s2 _ H2 I2 as2 (Gr.refl _ _) w2 (en'.mono g2)
    | true =>
      rw [if_pos rfl]
      rw [if_pos rfl] at s2
      refine ⟨_, fun σ3 H3 n3 => ⟨m, Nat.lt_succ_self m, n3⟩, hb σ1 H2 δ' I2 as2 M1 P _ w2 (en'.mono g2) ?_⟩
      cases e2 : gb δ' M1 with
      | nx δ2 M2 =>
        simp only [e2] at s2
        exact fun σ4 H4 I4 as4 g4 w4 en4 => ⟨δ2, M2, I4, as4, g'.trans (g2.trans g4), w4, en4, SatS.gr g4 s2⟩
      | ct δ2 M2 =>
        simp only [e2] at s2
        exact fun σ4 H4 I4 as4 g4 w4 en4 => ⟨δ2, M2, I4, as4, g'.trans (g2.trans g4), w4, en4, SatS.gr g4 s2⟩
      | bk δ2 M2 =>
        simp only [e2] at s2
        exact s2
      | rt d2 M2 =>
        simp only [e2] at s2
        exact s2
      | ex c δ2 M2 =>
        simp only [e2] at s2
        exact s2
      | bad =>
        simp only [e2] at s2
        exact s2
theorem xs_while {c : Expr} {body : List Stmt} {tc : TT} {gc : GB} {tb : TS} {gb : GS} (hp : PassesOwn (model X.prog X.w) X.A X.env X.xe) (hc : XT X W c tc gc) (hb : XSs X W body tb gb) : XS X W (.While c body [] pos) (tWhile tc tb) (gWhile gc gb) :=
  ⟨ps_while hp hc.pe hb.pe, impS_while hc.im hb.im⟩
def oAddI : OD := fun x y M => match x, y with
  | .int i, .int j => .ok (.int (i + j)) M
  | _, _ => .bad
theorem opd_addI {K : PySem.W.Frag} : OpD K (ipI fun i j => i + j) oAddI := by
  intro H I as M P x y d e Wf Q w rx ry s
  unfold oAddI at s
  split at s
  · cases rx
    cases ry
    exact ⟨_, _, rfl, rfl, s.now w (.int _)⟩
  · exact s.elim
/-- name op= e -/
def gAug (i : Nat) (o : OD) (ge : GE) : GS := fun δ M => match δ[i]? with
  | some (some x) => (ge δ M).toS δ fun y M1 => (o x y M1).toS δ fun z M2 => .nx (δ.set i (some z)) M2
  | _ => .bad
theorem xs_aug (i : Nat) {x : Str} {op : Operator} {pos' : Pos} {ti : TIp} {o : OD} (hN : X.N.Nodup) (ho : PIp X op ti) (hd : OpD X.K ti o) (he : XE X W e te ge) (hi : X.N[i]? = some x := by rfl) (hx : Loc X.env.scope x := by first | exact .inl rfl | exact .inr rfl)
    (hf : X.fn x = true ∨ X.env.scope.names.lookup x = some .local := by first | exact .inl rfl | exact .inr rfl | assumption) : XS X W (.AugAssign (.Name x pos') op e pos) (tAug i te ti) (gAug i o ge) := by
  refine ⟨ps_aug hN hi hx he.pe ho hf, fun σ H δ I as M P E w en s => ?_⟩
  unfold gAug at s
  split at s
  · rename_i d hd1
    obtain ⟨v, h1, h2⟩ := en.at_ i d hd1
    refine ⟨v, h1, he.im σ H δ I as M P _ w en (SatS.bindE s en fun y M1 u H1 I1 as1 _ g1 w1 r1 s1 => ?_)⟩
    refine hd H1 I1 as1 M1 P v u d y _ _ w1 (h2.mono g1) r1 (SatS.bindE s1 (en.mono g1) fun z M2 u2 H2 I2 as2 _ g2 w2 r2 s2 => ?_)
    exact s2 _ H2 I2 as2 (Gr.refl _ _) w2 ((en.mono (g1.trans g2)).set r2 i)
  · exact s.elim
end
def srtI (ns : List Int) : List Int := ns.mergeSort (fun a b => decide (a ≤ b))
theorem srtI_perm (ns : List Int) : (srtI ns).Perm ns := List.mergeSort_perm ..
theorem srtI_sorted (ns : List Int) : (srtI ns).Pairwise (· ≤ ·) := by
  have h := List.pairwise_mergeSort (le := fun (a b : Int) => decide (a ≤ b)) (fun a b c h1 h2 => by simp at *; omega) (fun a b => by simp; omega) ns
  exact h.imp fun h => by simpa using h
def oSorted : OC := fun ds M => match ds with
  | [x] => match listOf M x with
    | some xs => match intsD xs with
      | some ns => .ok (.lst ((srtI ns).map D.int)) M
      | none => .bad
    | none => .bad
  | _ => .bad
theorem opc_sorted {K : PySem.W.Frag} : OpC K (rSortedI K) oSorted := by
  intro H I as M P xs ds Wf Q w r s
  unfold oSorted at s
  split at s
  · obtain ⟨v, rfl, rv⟩ := r.one_inv
    split at s
    · rename_i ys hy
      split at s
      · rename_i ns hn
        obtain ⟨a, vs, rfl, h1, r1⟩ := rv.list w hy
        have e := r1.intsD hn
        subst e
        refine ⟨a, ns, rfl, h1, fun ns' p hp hs hf => ?_⟩
        have e : ns' = srtI ns := List.Perm.eq_of_pairwise (le := (· ≤ ·)) (fun a b _ _ h1 h2 => Int.le_antisymm h1 h2) hs (srtI_sorted ns) (hp.trans (srtI_perm ns).symm)
        subst e
        exact s.newLst w (Reps.ints _ rfl) hf
      · exact s.elim
    · exact s.elim
  · exact s.elim
end KM
set_option Elab.async false
set_option linter.all false
set_option maxRecDepth 100000
set_option maxHeartbeats 2000000
namespace KM
open PySem L2 PySem.Spec PyProof.Rows
/-! ### raise -/
theorem pmk_own0 {X : Cx} {C : Addr} {bmB : List Value} {B newId initId : String} {x : Str} {p pos : Pos} (F : ExcBaseFacts B newId initId bmB) (q : PySem.W.excIn X.K C bmB newId = true) (gC : X.mg x = some (.ref C)) (kC : PySem.W.keepIn X.K (.ref C) = true) (r : Raises X (.ref C)) (hg : Gl X x)
    (hdb : (x == ("__debug__" : Str)) = false := by decide) : PMk X (.Call (.Name x p) [] [] pos) (fun _ H Q => Q (.ref C) none H) := by
  intro pins s σ H Q I h
  refine wpAny_Call_Name_kw (ld_glob I hg gC ?_ hdb)
  refine PySem.W.callWith_K0 I.kIn kC ?_
  show wpAny _ _ (call (.ref C) []) _ _ _
  obtain ⟨bm, N, nm, qn, bs, hdct, sn, sub, ab, col, dd, k0, k1, k2, k3, k5, mN, hC, hN, hni, T⟩ := exc_obj I.kIn q
  refine wpAny_call_exc_subT F T hC hN hni (fun h' e hm => ?_) (Nat.zero_le _)
  exact mk_of I hm r h (I.hok.gone hm.new)
abbrev VB : List Value := [.type "ValueError", .type "Exception", .type "BaseException", .type "object"]
/-- a class of errors of the program's own -/
structure ExcAt (K : PySem.W.Frag) (mg : Str → Option Value) (x : Str) : Prop where
  ex : ∃ C : Addr, mg x = some (.ref C) ∧ PySem.W.excIn K C VB "ValueError.__new__" = true ∧ PySem.W.keepIn K (.ref C) = true ∧ PySem.W.subIn K (.ref C) (.type "BaseException") = some true ∧ PySem.W.typeIn K (.ref C) = some (.type "type")
section
variable {X : Cx} {W : WX}
theorem xs_raise {x : Str} {C : Addr} {p pos pos' : Pos} (hc : X.calm = true) (tk : Takes X W) (gC : X.mg x = some (.ref C)) (q : PySem.W.excIn X.K C VB "ValueError.__new__" = true) (kC : PySem.W.keepIn X.K (.ref C) = true)
    (b : PySem.W.subIn X.K (.ref C) (.type "BaseException") = some true) (t : PySem.W.typeIn X.K (.ref C) = some (.type "type")) (hg : Gl X x := by rfl) (hdb : (x == ("__debug__" : Str)) = false := by decide) :
    XS X W (.Raise (some (.Call (.Name x p) [] [] pos)) none pos') (fun _ σ H => W (.ref C) none σ H) (gRaise x) := by
  refine ⟨ps_raise hc tk (pmk_own0 PySem.F.excBase_ValueError q gC kC (raises_own b t) hg hdb), fun σ H δ I as M P E w en s => ?_⟩
  exact s σ H I as (Gr.refl _ _) w en _ gC
end
/-! ### try -/
def exSub (c n : Str) : Bool := c == n || n == ("MissError" : Str)
def noEx : SR → SR
  | .ex _ _ _ => .bad
  | r => r
def handL : List (Str × GS) → Str → GS
  | [], c => fun δ M => .ex c δ M
  | (n, g) :: r, c => fun δ M => if exSub c n = true then noEx (g δ M) else handL r c δ M
def gTry (cs : List Str) (hs : List (Str × GS)) (gb : GS) : GS := fun δ M => match gb δ M with
  | .ex c δ1 M1 => if cs.contains c = true then handL hs c δ1 M1 else .bad
  | r => r
inductive XHs (X : Cx) (cs : List Str) : List ExceptHandler → List (Value × (Addr → Value → Option Addr → TS)) → List (Str × GS) → Prop
  | nil : XHs X cs [] [] []
  | cons {x : Str} {c : Value} {ts : TS} {g : GS} {b₀ : Stmt} {suite : List Stmt} {np pos' : Pos} {hds : List ExceptHandler} {l : List (Value × (Addr → Value → Option Addr → TS))} {hs : List (Str × GS)} (hc : Names X x c)
      (hsub : ∀ d ∈ cs, ∀ cls, X.mg d = some cls → PySem.W.exmOne X.K cls c = some (exSub d x))
      (hsu : ∀ (a : Addr) (oe : Obj) (pn : List (Addr × Obj)), XSs (X.suite a ((a, oe) :: pn)) W0 (b₀ :: suite) ts g) (r : XHs X cs hds l hs) :
      XHs X cs (.ExceptHandler (some (.Name x np)) none (b₀ :: suite) pos' :: hds) ((c, fun _ _ _ => ts) :: l) ((x, g) :: hs)
theorem XHs.ok {X : Cx} {cs : List Str} {hds : List ExceptHandler} {l : List (Value × (Addr → Value → Option Addr → TS))} {hs : List (Str × GS)} (h : XHs X cs hds l hs) : HdsOk X hds l := by
  induction h with
  | nil => exact .nil
  | cons hc hsub hsu r ih => exact .cons hc (fun a oe cls d pn _ _ => (hsu a oe pn).pe) ih
theorem XHs.im {X : Cx} {W : WX} {cs : List Str} {hds : List ExceptHandler} {l : List (Value × (Addr → Value → Option Addr → TS))} {hs : List (Str × GS)} (h : XHs X cs hds l hs) {c : Str} (hcs : c ∈ cs) {σ : L2.St} {H I P : Hp} {δ : Ctx} {as : List Addr} {M : List MO} {E : Ends}
    (w : Wr X.K H I as M P) (en : Envr X.K I as σ δ) (s : SatS X.K (lowW X.mg W) I as P E (handL hs c δ M)) (cls : Value) (hm : X.mg c = some cls) : wMany X.K W E l cls none σ H := by
  induction h with
  | nil => exact s σ H I as (Gr.refl _ _) w en cls hm
  | @cons x cv ts g b₀ suite np pos' hds l hs hc hsub hsu r ih =>
    refine ⟨exSub c x, hsub c hcs cls hm, fun hb a hn => ?_, fun hb => ?_⟩
    · unfold handL at s
      simp only [hb, if_true] at s
      refine (hsu 0 { cls := .none, data := .fields #[] } []).im σ H δ I as M P E w en ?_
      cases e : g δ M with
      | ex c2 d2 M2 => rw [e] at s; exact s.elim
      | _ => rw [e] at s; exact s
    · unfold handL at s
      rw [hb, if_neg Bool.false_ne_true] at s
      exact ih s
section
variable {X : Cx} {W : WX}
theorem takes_dummy (hs : X.stack = X.env :: X.outer) (hf : X.env.frame = some X.env.locals) (W' : WX) : ∃ (pn : List (Addr × Obj)) (xe : Value → Shared → Prop), Takes (X.tr pn xe) W' ∧ PassesOwn (model X.prog X.w) X.A X.env xe := by
  refine ⟨[], fun e s₁ => wpAny (model X.prog X.w) X.A (noteFrame e X.env) (fun _ s₂ => wpAny (model X.prog X.w) X.A (setFlight e none) (fun _ _ => True) (fun _ _ => True) s₂) (fun _ _ => True) s₁, fun u s' xx => ?_, PassesOwn.looking⟩
  obtain ⟨a, B, sI, pins', σ', H', cls, d, rfl, J', nb, up, sky, na, os, ag, w⟩ := xx
  have ok := J'.ok
  have hfr : X.A.frames = some (X.env :: X.outer) := by
    have := ok.frames
    rw [← hs]
    exact this
  have sky' : Sky B (X.env :: X.outer) a (Zc cls d) X.env.locals s'.heap := by rw [← hs]; exact sky
  show wpAny (model X.prog X.w) X.A (noteFrame (.ref a) X.env) _ _ _
  exact Sky.land Zc.steady hfr hf sky' fun h3 fl3 up3 => True.intro
theorem xs_try {cs : List Str} {hs : List (Str × GS)} {body : List Stmt} {h₀ : ExceptHandler} {hds : List ExceptHandler} {l : List (Value × (Addr → Value → Option Addr → TS))} {pos : Pos} {tb : WX → TS} {gb : GS}
    (hs1 : X.stack = X.env :: X.outer) (hf : X.env.frame = some X.env.locals) (tk : Takes X W)
    (hb : ∀ (W' : WX) (pn : List (Addr × Obj)) (xe : Value → Shared → Prop), Takes (X.tr pn xe) W' → PassesOwn (model X.prog X.w) X.A X.env xe → XSs (X.tr pn xe) W' body (tb W') gb)
    (hh : XHs X cs (h₀ :: hds) l hs) : XS X W (.Try body (h₀ :: hds) [] [] pos) (fun D σ H => tb (wMany X.K W D l) D σ H) (gTry cs hs gb) := by
  refine ⟨ps_try_many hs1 hf tk (fun W' pn xe tk' po => (hb W' pn xe tk' po).pe) hh.ok, fun σ H δ I as M P E w en s => ?_⟩
  obtain ⟨pn, xe, tk', po'⟩ := takes_dummy hs1 hf (wMany X.K W E l)
  refine (hb (wMany X.K W E l) pn xe tk' po').im σ H δ I as M P E w en ?_
  unfold gTry at s
  cases e : gb δ M with
  | bad => rw [e] at s; exact s
  | nx δ1 M1 => rw [e] at s; exact s
  | rt d M1 => rw [e] at s; exact s
  | bk δ1 M1 => rw [e] at s; exact s
  | ct δ1 M1 => rw [e] at s; exact s
  | ex c δ1 M1 =>
    rw [e] at s
    simp only at s
    split at s
    · rename_i hc
      have hc' : c ∈ cs := by simpa using hc
      exact fun σ' H' I' as' g' w' en' cls hm => hh.im hc' w' en' (SatS.gr g' s) cls hm
    · exact s.elim
end
/-- what an except clause may be asked -/
structure ExcH (K : PySem.W.Frag) (mg : Str → Option Value) (cs : List Str) (n : Str) : Prop where
  ex : ∃ v : Value, mg n = some v ∧ ∀ d ∈ cs, ∀ cls, mg d = some cls → PySem.W.exmOne K cls v = some (exSub d n)
/-! ### a def that a local name holds -/
def gCallL (i : Nat) (tb : List (Str × OC)) (ga : GA) : GE := fun δ M => match δ[i]? with
  | some (some (.fn x)) => match tb.lookup x with
    | some m => (ga δ M).bind fun ds M1 => m ds M1
    | none => .bad
  | _ => .bad
def tCallF (P : Program) (w : World) (K : PySem.W.Frag) (mg : Str → Option Value) (base : Heap) (W : WX) (k i : Nat) (t : TA) : TE := fun σ H Q => ∃ (f : Addr) (fd : FuncData) (ps : List Str) (sp : Sp), σ[i]? = some (some (.ref f)) ∧ FnOk P w K mg base (L2.CX P w) k f fd ps sp ∧ PySem.W.keepIn K (.ref f) = true ∧ Binds K fd ps [] ∧
  t σ H fun vs H1 => sp vs H1 Q (WE W σ)
section
variable {X : Cx} {W : WX} {e : Expr} {es : List Expr} {pos p : Pos} {t : TA} {g : GA}
theorem Callee.mono {P : Program} {w : World} {K : PySem.W.Frag} {mg : Str → Option Value} {base : Heap} {x : Str} {j k n : Nat} {m : OC} (C : Callee P w K mg base x j n m) (h : j ≤ k) : Callee P w K mg base x k n m := by
  obtain ⟨f, fd, ps, F, r⟩ := C.ex
  exact ⟨f, fd, ps, F.mono h, r⟩
theorem lookup_mem {x : Str} {m : OC} : ∀ {tb : List (Str × OC)}, tb.lookup x = some m → (x, m) ∈ tb
  | [], h => by simp at h
  | (y, n) :: tb, h => by
    rw [List.lookup_cons] at h
    split at h
    · rename_i e
      have e1 := eq_of_beq e
      subst e1
      cases h
      exact List.mem_cons_self ..
    · exact List.mem_cons_of_mem _ (lookup_mem h)
theorem xe_callF (i : Nat) {y : Str} {k n : Nat} {tb : List (Str × OC)} (hC : ∀ p ∈ tb, Callee X.prog X.w X.K X.mg X.base p.1 k n p.2) (hr : Room k X.A) (tk : Takes X W) (ha : XA X W (e :: es) t g)
    (hl : ∀ δ M ds M', g δ M = .ok ds M' → ds.length = n := by first | exact fun _ _ _ _ h => gCons_len (fun _ _ _ _ h => gNil_len h) h | exact fun _ _ _ _ h => gCons_len (fun _ _ _ _ h => gCons_len (fun _ _ _ _ h => gNil_len h) h) h | exact fun _ _ _ _ h => gCons_len (fun _ _ _ _ h => gCons_len (fun _ _ _ _ h => gCons_len (fun _ _ _ _ h => gNil_len h) h) h) h)
    (hN : X.N[i]? = some y := by rfl) (hv : Vis X.env.scope y := by first | exact Or.inl rfl | exact Or.inr (Or.inl rfl) | exact Or.inr (Or.inr rfl)) (hdb : (y == ("__debug__" : Str)) = false := by decide) (hcd : (y == ("__classdict__" : Str)) = false := by decide)
    (he : starEach (e :: es) X.env = (false, eval e X.env) :: starEach es X.env := by rfl) (hpl : (backTo pos (starEach es X.env)).any (·.1) = false := by rfl) :
    XE X W (.Call (.Name y p) (e :: es) [] pos) (tCallF X.prog X.w X.K X.mg X.base W k i t) (gCallL i tb g) := by
  refine ⟨⟨fun pins s σ H Q I h => ?_⟩, fun σ H δ I as M P Q w en s => ?_⟩
  · obtain ⟨f, fd, ps, sp, hs, F, hk, hb, ht⟩ := h
    refine wpAny_Call_Name_kw (thn ((pe_var (pos := p) hN hv hdb hcd).run pins s σ H (fun v H1 => v = .ref f ∧ H1 = H) I ⟨.ref f, hs, rfl, rfl⟩) fun u s1 ⟨v, H1, I1, r1, q1⟩ => ?_)
    obtain ⟨rfl, rfl⟩ := q1
    cases r1
    refine PySem.W.callWith_K (h₀ := X.base) I.ok.mod.kin hk (thn (ha.pe.run pos pins s1 σ _ _ I1 ht) fun us s2 ⟨vs, H2, I2, r, q⟩ => ⟨I2.kIn, ?_⟩) he hpl
    exact run_fnS F hr hb (passAt tk σ) I2 r q
  · unfold gCallL at s
    split at s
    · rename_i x hx
      split at s
      · rename_i m hm
        obtain ⟨v, hv1, rv⟩ := en.at_ i _ hx
        cases rv with
        | @fn a _ hn =>
          obtain ⟨f, fd, ps, F, h1, h2, h3, h4⟩ := (hC (x, m) (lookup_mem hm)).ex
          have ef : f = a := by
            rw [h4] at hn
            cases hn
            rfl
          subst ef
          refine ⟨f, fd, ps, _, hv1, F, h2, h3, ?_⟩
          refine ha.im σ H δ I as M P _ w en (Sat.bind s fun xs M1 vs H1 I1 as1 e1 g1 w1 r1 s1 => ?_)
          exact ⟨by rw [r1.len]; exact hl _ _ _ _ e1, xs, I1, as1, M1, P, w1, r1, s1⟩
      · exact s.elim
    · exact s.elim
/-- a def's name, as a value -/
theorem xe_fn {x : Str} {f : Addr} (h1 : X.mg x = some (.ref f)) (h4 : PySem.W.nsIn X.K mainGlobals x = some (some (.ref f))) (hg : Gl X x := by rfl) (hd : (x == ("__debug__" : Str)) = false := by decide) : XE X W (.Name x pos) (tC (.ref f)) (gC (.fn x)) :=
  xe_glob (v := .ref f) h1 rfl (fun _ _ => .fn h4) hg hd
end
/-! ### isinstance(x, (T, U)) -/
def oIsi2 (T U : String) : OU := fun x M => match tyM M x with
  | some a => if tyOk T = true ∧ tyOk U = true then .ok (.bl (isiB a T || isiB a U)) M else .bad
  | none => .bad
section
variable {X : Cx} {W : WX} {e : Expr} {pos p p2 p3 p4 : Pos} {te : TE} {ge : GE} {kk : Nat}
theorem xe_isi2 {T U : String} {y z : Str} (hm : X.mg "isinstance" = none) (hm2 : X.mg y = none) (hv2 : bootBuiltins y = some (.type T)) (hm3 : X.mg z = none) (hv3 : bootBuiltins z = some (.type U)) (he : XE X W e te ge) (hg : Gl X "isinstance" := by rfl)
    (hg2 : Gl X y := by rfl) (hn2 : y ≠ "__name__" := by decide) (hd2 : (y == ("__debug__" : Str)) = false := by decide) (hg3 : Gl X z := by rfl) (hn3 : z ≠ "__name__" := by decide) (hd3 : (z == ("__debug__" : Str)) = false := by decide)
    (h1 : starEach [e, .Tuple [.Name y p2, .Name z p3] kk p4] X.env = (false, eval e X.env) :: starEach [.Tuple [.Name y p2, .Name z p3] kk p4] X.env := by rfl)
    (h2 : starEach [.Tuple [.Name y p2, .Name z p3] kk p4] X.env = (false, eval (.Tuple [.Name y p2, .Name z p3] kk p4) X.env) :: starEach [] X.env := by rfl)
    (h3 : starEach [.Name y p2, .Name z p3] X.env = (false, eval (.Name y p2) X.env) :: starEach [.Name z p3] X.env := by rfl) (h4 : starEach [.Name z p3] X.env = (false, eval (.Name z p3) X.env) :: starEach [] X.env := by rfl)
    (hpl : (backTo pos (starEach [.Tuple [.Name y p2, .Name z p3] kk p4] X.env)).any (·.1) = false := by rfl) :
    XE X W (.Call (.Name "isinstance" p) [e, .Tuple [.Name y p2, .Name z p3] kk p4] [] pos) (tCB (rIsiT X.K) (tCons te (tCons (tTup (tCons (tC (.ty T)) (tCons (tC (.ty U)) tNil))) tNil))) (gUn (oIsi2 T U) ge) := by
  refine ⟨pe_callB call_isiT hg hm PyProof.Rows.boot_isinstance (pa_cons he.pe (pa_cons (pe_tup (pa_cons (pe_bltn hg2 hm2 hv2 rfl hn2 hd2) (pa_cons (pe_bltn hg3 hm3 hv3 rfl hn3 hd3) pa_nil h4) h3)) pa_nil h2) h1) (by decide) (by decide) h1 hpl, fun σ H δ I as M P Q w en s => ?_⟩
  refine he.im σ H δ I as M P _ w en (Sat.bind s fun d M1 v H1 I1 as1 _ g1 w1 r1 s1 => ?_)
  unfold oIsi2 at s1
  split at s1
  · rename_i a ha
    split at s1
    · rename_i hT
      refine ⟨by show 2 ≤ sizeLine; decide, fun tp htp => ?_⟩
      obtain ⟨w2, g2⟩ := w1.newI htp (.tup [.ty T, .ty U])
      obtain ⟨t1, t2⟩ := (r1.mono g2).ty w2 ha
      have hk1 := List.all_eq_true.mp hT.1 a t2
      have hk2 := List.all_eq_true.mp hT.2 a t2
      refine ⟨v, tp, [.ty T, .ty U], .type a, [.type T, .type U], isiB a T || isiB a U, rfl, upd_same, .cons (.ty T) (.cons (.ty U) .nil), t1, ?_, s1 _ _ _ _ g2 w2 (.bl _)⟩
      refine kitAny_cons (kit_ty (by simpa using hk1)) (fun e1 => ?_) (fun e1 => by rw [e1]; rfl)
      refine kitAny_cons (kit_ty (by simpa using hk2)) (fun e2 => ?_) (fun e2 => by rw [e1, e2]; rfl)
      rw [e1, e2]
      exact kitAny_nil
    · exact s1.elim
  · exact s1.elim
/-! ### a dict that is only carried about -/
def gDct2 (ga gb : GE) : GE := fun δ M => match ga δ M with
  | .ok _ M1 => match gb δ M1 with
    | .ok _ M2 => .ok .dct M2
    | _ => .bad
  | _ => .bad
theorem xe_dct2 {a b : Expr} {ta tb : TE} {ga gb : GE} {s1 : Str} {i2 : Int} {j1 j2} (ha : XE X W a ta ga) (hb : XE X W b tb gb) : XE X W (.Dict [some (.Constant (.str s1) j1 p), some (.Constant (.int i2) j2 p2)] [a, b] pos) (tDisp [(tC (.str s1), ta), (tC (.int i2), tb)]) (gDct2 ga gb) := by
  refine ⟨pe_disp (pps_cons pe_str ha.pe (pps_cons pe_int hb.pe pps_nil)) rfl rfl (by simp) (by show 2 ≤ 15; omega), fun σ H δ I as M P Q w en s => ?_⟩
  intro q hq
  obtain ⟨f1, f2, f3⟩ := w.fresh hq
  have w0 := w.newP hq (.dK [])
  unfold gDct2 at s
  cases e1 : ga δ M with
  | bad => rw [e1] at s; exact s.elim
  | ex c M1 => rw [e1] at s; exact s.elim
  | ok x1 M1 =>
    simp only [e1] at s
    cases e2 : gb δ M1 with
    | bad => rw [e2] at s; exact s.elim
    | ex c M2 => rw [e2] at s; exact s.elim
    | ok x2 M2 =>
      simp only [e2] at s
      refine ha.im σ _ δ I as M _ _ w0 en ?_
      rw [e1]
      intro y H1 I1 as1 g1 w1 r1
      refine hb.im σ H1 δ I1 as1 M1 _ _ w1 (en.mono g1) ?_
      rw [e2]
      intro y2 H2 I2 as2 g2 w2 r2
      refine ⟨(w2.prv q _ upd_same).1, [(.inr s1, y), (.inl i2, y2)], rfl, by show 2 ≤ 15; omega, ?_⟩
      have w3 := w2.putP upd_same (.dK (mergeK [] [(.inr s1, y), (.inl i2, y2)]))
      rw [upd_upd] at w3
      obtain ⟨w4, g4⟩ := w3.giveI f2
      exact s _ _ _ _ (g1.trans (g2.trans g4)) w4 (.dct upd_same)
end
/-! ### () * k -/
theorem tuple_mulE (l : Addr) (n : Nat) (dd : Option Addr) (sl : Array (Option Value)) (x : Int) (u : Tok) (c0 : (decide (x < -(2 ^ 63)) || decide (x ≥ 2 ^ 63)) = false) :
    Meets (Builtin.«tuple.__mul__» ⟨[.ref l, .int x u], []⟩) (fun _ R s => s.heap.get? l = some { cls := .type "tuple", dict := dd, data := .seq #[] n, slots := sl } ∧
      R (.ok (.ret (Value.ref l))) { s with heap := s.heap, toks := s.toks }) :=
  .of_wp fun prog w A R s h => by
    obtain ⟨hp, g, d, tk, os⟩ := s
    obtain ⟨hl, h⟩ := h
    have f1 := AutoSeq1.idx_int
    wp_walk using wpAny_loadPart' hl
    repeat (first
      | (refine wpAny_ite_false (decide_eq_false (by rw [c0]; exact Bool.false_ne_true)) ?_; wp_walk using wpAny_loadPart' hl))
    exact ⟨_, rfl, h⟩
def rRepE (K : PySem.W.Frag) : R2 := fun x y H Q => ∃ l k, x = .ref l ∧ y = .int k ∧ SqT K H l [] ∧ 0 ≤ k ∧ k ≤ 1000 ∧ Q (.ref l) H
theorem op_repE {X : Cx} : OpR X (binaryOp .Mult) (rRepE X.K) := by
  intro pins s σ H x y v u Q I rx ry h
  obtain ⟨l, k, rfl, rfl, hT, k0, k1, q⟩ := h
  cases rx
  obtain ⟨t, rfl⟩ := ry
  obtain ⟨its, r, ⟨⟨cls, dd, data, sl⟩, ho, hc, n, hd⟩, hs⟩ := I.tuple hT
  simp only at hc hd
  subst hc hd
  cases r
  have c0 : (decide (k < -(2 ^ 63)) || decide (k ≥ 2 ^ 63)) = false := by
    rw [decide_eq_false (by omega), decide_eq_false (by omega)] <;> rfl
  refine wpAny_binaryOp_repeat_ref (T := "tuple") (U := "int") (by decide) ⟨_, ho, rfl⟩ (fun s' => typeIs_int s' k t) noFill_tuple_mul F.fills_int_mul F.slot_int_rmul repeat_tuple F.slot_int_index.lookup
    (call_meets F.slot_int_rmul (typeIs_int s k t) F.entry_int_rmul (F.args_int_rmul_2 _ _) (int_rmul_tuple k t l [].toArray n dd sl)
      ⟨ho, rfl, ⟨_, ho, rfl⟩, call_meets F.slot_tuple_mul ⟨_, ho, rfl⟩ F.entry_tuple_mul (F.args_tuple_mul_2 _ _) (tuple_mulE l n dd sl k t c0) ⟨ho, ?_⟩⟩)
  exact ⟨.ref l, H, I, rfl, q⟩
def rMulE (K : PySem.W.Frag) : R2 := fun x y H Q => rMulA K x y H Q ∨ rRepE K x y H Q
theorem op_mulE {X : Cx} : OpR X (binaryOp .Mult) (rMulE X.K) := op_mulA.or op_repE
noncomputable def oMulE : OD := fun x y M => match x, y with
  | .tup [], .int k => if 0 ≤ k ∧ k ≤ 1000 then .ok (.tup []) M else .bad
  | x, y => oMul x y M
theorem opd_mulE {K : PySem.W.Frag} : OpD K (rMulE K) oMulE := by
  intro H I as M P x y d e Wf Q w rx ry s
  unfold oMulE at s
  split at s
  · split at s
    · rename_i hc
      cases ry
      have rx' := rx
      obtain ⟨a, vs, rfl, h1, r1⟩ := rx.tupl w rfl
      cases r1
      exact .inr ⟨a, _, rfl, rfl, h1, hc.1, hc.2, s.now w rx'⟩
    · exact s.elim
  · exact .inl (opd_mul H I as M P x y d e Wf Q w rx ry s)
/-! ### defs that call themselves -/
section
variable {P : Program} {w : World} {K : PySem.W.Frag} {mg : Str → Option Value} {base : Heap}
theorem fn_bad {f : Addr} {fd : FuncData} {ps : List Str} {k n : Nat} (hn : n = ps.length) : FnOk P w K mg base (L2.CX P w) k f fd ps (spM K mg n fun _ _ => .bad) :=
  ⟨fun vs H Q E h => h.1.trans hn, fun A outer s H args us vs Q E _ _ _ _ h => by
    obtain ⟨_, ds, I, as, M, P', wr, r, sat⟩ := h
    exact sat.elim⟩
end
/-! ### the facts of the classes -/
theorem excAt_mk {K : PySem.W.Frag} {mg : Str → Option Value} {h : Heap} (X : K.In h) (G : h.Ns mainGlobals mg) {x : Str} {C : Addr} (a : PySem.W.nsIn K mainGlobals x = some (some (.ref C))) (q : PySem.W.excIn K C VB "ValueError.__new__" = true)
    (k : PySem.W.keepIn K (.ref C) = true) (b : PySem.W.subIn K (.ref C) (.type "BaseException") = some true) (t : PySem.W.typeIn K (.ref C) = some (.type "type")) : ExcAt K mg x := ⟨C, PySem.W.mg_of X G a, q, k, b, t⟩
inductive ExcL (K : PySem.W.Frag) (mg : Str → Option Value) (D : Addr) (n : Str) : List Str → Prop
  | nil : ExcL K mg D n []
  | cons {d : Str} {C : Addr} {cs : List Str} (a : mg d = some (.ref C)) (b : PySem.W.exmOne K (.ref C) (.ref D) = some (exSub d n)) (r : ExcL K mg D n cs) : ExcL K mg D n (d :: cs)
theorem ExcL.at {K : PySem.W.Frag} {mg : Str → Option Value} {D : Addr} {n : Str} {cs : List Str} (h : ExcL K mg D n cs) : ∀ d ∈ cs, ∀ cls, mg d = some cls → PySem.W.exmOne K cls (.ref D) = some (exSub d n) := by
  induction h with
  | nil => intro d hd; cases hd
  | cons a b r ih =>
    intro d hd cls hm
    rcases List.mem_cons.mp hd with e | e
    · subst e
      rw [a] at hm
      cases hm
      exact b
    · exact ih d e cls hm
theorem excH_mk {K : PySem.W.Frag} {mg : Str → Option Value} {n : Str} {D : Addr} {cs : List Str} (a : mg n = some (.ref D)) (r : ExcL K mg D n cs) : ExcH K mg cs n := ⟨.ref D, a, r.at⟩
end KM
set_option Elab.async false
set_option linter.all false
set_option maxRecDepth 100000
set_option maxHeartbeats 2000000
namespace KM
open PySem L2 PySem.Spec PyProof.Rows
section
variable {X : Cx} {W : WX} {e : Expr} {pos p p2 p3 p4 : Pos} {te : TE} {ge : GE} {kk : Nat}
theorem ke_isi2 (K : PySem.W.Frag) {T U : String} {y z : Str} (hm : X.mg "isinstance" = none) (hm2 : X.mg y = none) (hv2 : bootBuiltins y = some (.type T)) (hm3 : X.mg z = none) (hv3 : bootBuiltins z = some (.type U)) (he : XE X W e te ge) (hK : X.K = K := by rfl) (hg : Gl X "isinstance" := by rfl)
    (hg2 : Gl X y := by rfl) (hn2 : y ≠ "__name__" := by decide) (hd2 : (y == ("__debug__" : Str)) = false := by decide) (hg3 : Gl X z := by rfl) (hn3 : z ≠ "__name__" := by decide) (hd3 : (z == ("__debug__" : Str)) = false := by decide)
    (h1 : starEach [e, .Tuple [.Name y p2, .Name z p3] kk p4] X.env = (false, eval e X.env) :: starEach [.Tuple [.Name y p2, .Name z p3] kk p4] X.env := by rfl)
    (h2 : starEach [.Tuple [.Name y p2, .Name z p3] kk p4] X.env = (false, eval (.Tuple [.Name y p2, .Name z p3] kk p4) X.env) :: starEach [] X.env := by rfl)
    (h3 : starEach [.Name y p2, .Name z p3] X.env = (false, eval (.Name y p2) X.env) :: starEach [.Name z p3] X.env := by rfl) (h4 : starEach [.Name z p3] X.env = (false, eval (.Name z p3) X.env) :: starEach [] X.env := by rfl)
    (hpl : (backTo pos (starEach [.Tuple [.Name y p2, .Name z p3] kk p4] X.env)).any (·.1) = false := by rfl) :
    XE X W (.Call (.Name "isinstance" p) [e, .Tuple [.Name y p2, .Name z p3] kk p4] [] pos) (tCB (rIsiT K) (tCons te (tCons (tTup (tCons (tC (.ty T)) (tCons (tC (.ty U)) tNil))) tNil))) (gUn (oIsi2 T U) ge) := by
  subst hK; exact xe_isi2 hm hm2 hv2 hm3 hv3 he hg hg2 hn2 hd2 hg3 hn3 hd3 h1 h2 h3 h4 hpl
end
section
variable {X : Cx} {W : WX} {e : Expr} {es : List Expr} {pos p : Pos} {t : TA} {g : GA}
theorem ke_callF (P : Program) (w : World) (K : PySem.W.Frag) (mg : Str → Option Value) (base : Heap) (i : Nat) {y : Str} {k n : Nat} {tb : List (Str × OC)} (hC : ∀ p ∈ tb, Callee P w K mg base p.1 k n p.2) (hr : Room k X.A) (tk : Takes X W) (ha : XA X W (e :: es) t g)
    (hP : X.prog = P := by rfl) (hw : X.w = w := by rfl) (hK : X.K = K := by rfl) (hmg : X.mg = mg := by rfl) (hba : X.base = base := by rfl)
    (hl : ∀ δ M ds M', g δ M = .ok ds M' → ds.length = n := by first | exact fun _ _ _ _ h => gCons_len (fun _ _ _ _ h => gNil_len h) h | exact fun _ _ _ _ h => gCons_len (fun _ _ _ _ h => gCons_len (fun _ _ _ _ h => gNil_len h) h) h | exact fun _ _ _ _ h => gCons_len (fun _ _ _ _ h => gCons_len (fun _ _ _ _ h => gCons_len (fun _ _ _ _ h => gNil_len h) h) h) h)
    (hN : X.N[i]? = some y := by rfl) (hv : Vis X.env.scope y := by first | exact Or.inl rfl | exact Or.inr (Or.inl rfl) | exact Or.inr (Or.inr rfl)) (hdb : (y == ("__debug__" : Str)) = false := by decide) (hcd : (y == ("__classdict__" : Str)) = false := by decide)
    (he : starEach (e :: es) X.env = (false, eval e X.env) :: starEach es X.env := by rfl) (hpl : (backTo pos (starEach es X.env)).any (·.1) = false := by rfl) :
    XE X W (.Call (.Name y p) (e :: es) [] pos) (tCallF P w K mg base W k i t) (gCallL i tb g) := by
  subst hP hw hK hmg hba; exact xe_callF i hC hr tk ha hl hN hv hdb hcd he hpl
end
end KM
namespace KM
open PySem L2 PySem.Spec PyProof.Rows
/-- what an except clause makes of a class, by the facts of both -/
theorem exm_two {K : PySem.W.Frag} {h : Heap} (X : K.In h) {C D : Addr} {b : Bool} (h1 : PySem.W.subIn K (.ref D) (.type "BaseException") = some true) (h2 : PySem.W.isClsIn K D = true) (h3 : PySem.W.typeIn K (.ref D) = some (.type "type")) (h4 : PySem.W.subIn K (.ref C) (.ref D) = some b) : PySem.W.exmOne K (.ref C) (.ref D) = some b := by
  unfold PySem.W.exmOne PySem.W.kitCls
  unfold PySem.W.isClsIn at h2
  simp [h1, h2, h3, h4]
end KM
set_option Elab.async false
set_option linter.all false
set_option maxRecDepth 100000
set_option maxHeartbeats 2000000
/-! max of a tuple of ints; zip -/
namespace SkE
open PySem PySem.Spec PyProof.Rows L2
section
variable {prog : Program} {w : World} {A : Around} {E : Value → Shared → Prop} {s : Shared} {l : Addr} {its : List Value} {ns : List Int}
theorem max_intTuple {xs : Array (Int × Tok)} {Q : Value → Shared → Prop} (hh : A.handled = none) (hl : s.heap.IsTuple l (intItems xs)) (hne : 0 < xs.size)
    (h : ∀ v h' tk, (intItems xs)[argBest (fun i j => decide (numAt xs i > numAt xs j)) (xs.size - 1)]? = some v → (∀ b o, s.heap.get? b = some o → h'.get? b = some o) → Q v { s with heap := h', toks := tk }) :
    wpAny (model prog w) A (call (.builtin "max") [.ref l]) Q E s := by
  have hlt : l < s.heap.objs.size := by obtain ⟨_, e, _⟩ := hl; exact Heap.lt_size e
  refine call_max_walk (wpAny_pyIter_tuple hl ?_)
  refine ⟨_, _, _, _, _, _, _, rfl, Walks.tuple (A := A.in1) hh _ l (Nat.ne_of_lt hlt) (intItems xs), ⟨⟨_, Heap.get?_push_size _ rfl, rfl, rfl⟩, hl.push _⟩, fun b hb => ?_, by simpa [intItems] using hne, CmpOf.ints_gt (numAt xs) (fun _ _ => intItems_at), fun v h' tk hP hk => ?_⟩
  · show b < (s.heap.push _).objs.size
    rw [Heap.size_push]
    rcases List.mem_cons.mp hb with rfl | hb
    · exact Nat.lt_succ_self _
    · rcases List.mem_cons.mp hb with rfl | hb
      · exact Nat.lt_succ_of_lt hlt
      · cases hb
  · exact h v h' tk (by simpa [intItems] using hP) (fun b o e => hk b o (fun hb => absurd (Heap.lt_size e) ((List.mem_singleton.mp hb) ▸ Nat.lt_irrefl _)) (Heap.get?_push_of_some _ e))
theorem max_rawT {Q : Value → Shared → Prop} (hh : A.handled = none) (hl : s.heap.IsTuple l its.toArray) (hi : IntsAre its ns) (hne : 0 < ns.length)
    (h : ∀ h' tk M t', (∀ b o, s.heap.get? b = some o → h'.get? b = some o) → M ∈ ns → (∀ a, a ∈ ns → a ≤ M) → Q (.int M t') { s with heap := h', toks := tk }) : wpAny (model prog w) A (call (.builtin "max") [.ref l]) Q E s := by
  obtain ⟨xs, e⟩ := hi.allInts.items
  have hn : numsOf (intItems xs).toList = ns := by rw [← e]; exact hi.numsOf
  rw [nums_intItems] at hn
  subst hn
  rw [e] at hl
  have hsz : 0 < xs.size := by simpa using hne
  refine max_intTuple hh hl hsz fun v h' tk hv hk => ?_
  obtain ⟨t, rfl⟩ := intItems_at hv
  obtain ⟨h1, h2⟩ := argBest_gt (numAt xs) (xs.size - 1)
  refine h h' tk _ t hk ?_ fun a ha => ?_
  · rw [numAt_eq]; exact PySem.getD_mem (by rw [List.length_map, Array.length_toList]; omega)
  · obtain ⟨j, hj, rfl⟩ := mem_getD ha
    rw [List.length_map, Array.length_toList] at hj
    rw [← numAt_eq]; exact h2 j (by omega)
end
end SkE
namespace KM
open PySem L2 PySem.Spec PyProof.Rows
def rMaxT (K : PySem.W.Frag) : List V → Hp → VK → Prop := fun vs H Q => ∃ (a : Addr) (ns : List Int), vs = [V.ref a] ∧ SqT K H a (ns.map V.int) ∧ 0 < ns.length ∧ ∀ m, m ∈ ns → (∀ y, y ∈ ns → y ≤ m) → Q (.int m) H
theorem cr_maxT {X : Cx} (hc : X.calm = true) : CallR X (.builtin "max") (rMaxT X.K) := by
  intro pins s σ H vs us Q I r h
  obtain ⟨a, ns, rfl, hs, hne, q⟩ := h
  obtain ⟨its, rv, pl, hz⟩ := I.tuple hs
  rw [Vals.ref1 r]
  exact SkE.max_rawT (I.ok.hd hc) pl rv.ints hne fun h' tk m t' hk h1 h2 => ⟨.int _, H, I.kept hk, ⟨_, rfl⟩, q m h1 h2⟩
def maxL (n : Int) (ns : List Int) : Int := ns.foldl (fun a b => if a < b then b else a) n
theorem maxL_spec : ∀ (ns : List Int) (n : Int), maxL n ns ∈ n :: ns ∧ ∀ y ∈ n :: ns, y ≤ maxL n ns
  | [], n => ⟨by simp [maxL], by simp [maxL]⟩
  | m :: ns, n => by
    have e : maxL n (m :: ns) = maxL (if n < m then m else n) ns := rfl
    obtain ⟨h1, h2⟩ := maxL_spec ns (if n < m then m else n)
    rw [e]
    constructor
    · rcases List.mem_cons.mp h1 with q | q
      · rw [q]
        split <;> simp
      · exact List.mem_cons_of_mem _ (List.mem_cons_of_mem _ q)
    · intro y hy
      have h0 := h2 _ (List.mem_cons_self ..)
      have h0' : n ≤ maxL (if n < m then m else n) ns ∧ m ≤ maxL (if n < m then m else n) ns := by
        by_cases c : n < m
        · rw [if_pos c] at h0 ⊢
          omega
        · rw [if_neg c] at h0 ⊢
          omega
      rcases List.mem_cons.mp hy with q | q
      · subst q
        exact h0'.1
      · rcases List.mem_cons.mp q with q | q
        · subst q
          exact h0'.2
        · exact h2 y (List.mem_cons_of_mem _ q)
def oMax : OC := fun ds M => match ds with
  | [x] => match tupOf x with
    | some xs => match intsD xs with
      | some (n :: ns) => .ok (.int (maxL n ns)) M
      | _ => .bad
    | none => .bad
  | _ => .bad
theorem opc_max {K : PySem.W.Frag} : OpC K (rMaxT K) oMax := by
  intro H I as M P xs ds Wf Q w r s
  unfold oMax at s
  split at s
  · obtain ⟨v, rfl, rv⟩ := r.one_inv
    split at s
    · rename_i ys hy
      split at s
      · rename_i n ns hn
        obtain ⟨a, vs, rfl, h1, r1⟩ := rv.tupl w hy
        have e := r1.intsD hn
        subst e
        refine ⟨a, n :: ns, rfl, h1, by simp, fun m hm hb => ?_⟩
        obtain ⟨q1, q2⟩ := maxL_spec ns n
        have em : m = maxL n ns := Int.le_antisymm (q2 m hm) (hb _ q1)
        subst em
        exact s.now w (.int _)
      · exact s.elim
    · exact s.elim
  · exact s.elim
/-! ### zip of two tuples -/
def zipD : List D → List D → List D
  | x :: xs, y :: ys => .tup [x, y] :: zipD xs ys
  | _, _ => []
theorem zipD_len : ∀ xs ys : List D, (zipD xs ys).length = min xs.length ys.length
  | [], _ => by simp [zipD]
  | _ :: _, [] => by simp [zipD]
  | x :: xs, y :: ys => by
    show (zipD xs ys).length + 1 = min (xs.length + 1) (ys.length + 1)
    rw [zipD_len xs ys]
    omega
theorem zipD_at : ∀ (xs ys : List D) (i : Nat) (x y : D), xs[i]? = some x → ys[i]? = some y → (zipD xs ys)[i]? = some (.tup [x, y])
  | [], _, i, x, y, h, _ => by simp at h
  | _ :: _, [], i, x, y, _, h => by simp at h
  | a :: xs, b :: ys, 0, x, y, h1, h2 => by
    cases h1
    cases h2
    rfl
  | a :: xs, b :: ys, i + 1, x, y, h1, h2 => zipD_at xs ys i x y h1 h2
def giZip (ga : GA) : GI := fun δ M => (ga δ M).bind fun ds M1 => match ds with
  | [x, y] => match tupOf x, tupOf y with
    | some xs, some ys => .ok (itT (zipD xs ys)) M1
    | _, _ => .bad
  | _ => .bad
theorem walk_zipT {K : PySem.W.Frag} {a b : Addr} {xs ys : List V} {n : Nat} (hn : n = min xs.length ys.length) : Walk (RZ.ItzT K a b) n (fun H => SqT K H a xs ∧ SqT K H b ys) (YPair (fun i => xs[i]?) (fun i => ys[i]?)) := by
  subst hn
  refine ⟨fun i _ hi q => ?_, fun _ q => ⟨xs, ys, q.1, q.2, by omega⟩, fun i H v H' _ q y => ?_⟩
  · have h1 : i < xs.length := by omega
    have h2 : i < ys.length := by omega
    exact ⟨xs, ys, xs[i], ys[i], q.1, q.2, by simp [h1], by simp [h2]⟩
  · obtain ⟨T, x, z, h1, h2, h3, h4, h5⟩ := y
    exact ⟨T, x, z, h1, h2, h3, h4 xs q.1, h5 ys q.2⟩
theorem itok_zip {K : PySem.W.Frag} {I : Hp} {as : List Addr} {a b : Addr} {us vs : List V} {xs ys : List D} (h : SqT K I a us) (h' : SqT K I b vs) (r : Reps K I as us xs) (r' : Reps K I as vs ys) : ItOk K I as (RZ.ItzT K a b) (itT (zipD xs ys)) := by
  have hl : (itT (zipD xs ys)).items.length = min us.length vs.length := by
    show (zipD xs ys).length = _
    rw [zipD_len, r.len, r'.len]
  refine ⟨fun H => SqT K H a us ∧ SqT K H b vs, YPair (fun i => us[i]?) (fun i => vs[i]?), by rw [hl]; exact walk_zipT (xs := us) (ys := vs) rfl, fun H' I' as' M' P' g w _ => ⟨w.seqT (Evl.ex_t g.sub h), w.seqT (Evl.ex_t g.sub h')⟩, fun i x H' H2 I' as' M' P' hi g w _ y => ?_⟩
  obtain ⟨T, x1, y1, rfl, hT, rfl, hx, hy⟩ := y
  obtain ⟨w2, g2⟩ := w.newI hT (.tup [x1, y1])
  obtain ⟨d, hd, rd⟩ := r.get' hx
  obtain ⟨e, he, re⟩ := r'.get' hy
  exact ⟨_, .tup [d, e], g2, w2, zipD_at _ _ _ _ _ hd he, .tup (.of upd_same) (.cons (rd.mono (g.trans g2)) (.cons (re.mono (g.trans g2)) .nil))⟩
section
variable {X : Cx} {W : WX} {e e2 : Expr} {p pos tpos : Pos} {elts : List Expr} {kk : Nat} {t : TA} {g : GA}
theorem xi_zip (hm : X.mg "zip" = none) (ha : XA X W [e, e2] t g) (hg : Gl X "zip" := by rfl)
    (hs : starEach [e, e2] X.env = (false, eval e X.env) :: starEach [e2] X.env := by rfl) (hpl : (backTo pos (starEach [e2] X.env)).any (·.1) = false := by rfl) : XI X W (.Tuple elts kk tpos) (.Call (.Name "zip" p) [e, e2] [] pos) (RZ.iZipA X.K t) (giZip g) := by
  refine ⟨RZ.pi_zipA hg hm ha.pe hs hpl, fun σ H δ I as M P Q w en s => ?_⟩
  refine ha.im σ H δ I as M P _ w en (Sat.bind s fun d M1 v H1 I1 as1 _ g1 w1 r1 s1 => ?_)
  split at s1
  · obtain ⟨v1, v2, rfl, q1, q2⟩ := r1.two_inv
    split at s1
    · rename_i xs ys h1 h2
      have e1 := tupOf_eq h1
      have e2 := tupOf_eq h2
      subst e1 e2
      cases q1 with
      | @tup a us _ k1 rr1 =>
        cases q2 with
        | @tup b vs _ k2 rr2 =>
          exact ⟨a, b, us, vs, rfl, .inr ⟨w1.seqT k1, w1.seqT k2, s1 _ H1 I1 as1 (Gr.refl _ _) w1 (itok_zip k1 k2 rr1 rr2)⟩⟩
    · exact s1.elim
  · exact s1.elim
theorem ki_zip (K : PySem.W.Frag) (hm : X.mg "zip" = none) (ha : XA X W [e, e2] t g) (hK : X.K = K := by rfl) (hg : Gl X "zip" := by rfl)
    (hs : starEach [e, e2] X.env = (false, eval e X.env) :: starEach [e2] X.env := by rfl) (hpl : (backTo pos (starEach [e2] X.env)).any (·.1) = false := by rfl) : XI X W (.Tuple elts kk tpos) (.Call (.Name "zip" p) [e, e2] [] pos) (RZ.iZipA K t) (giZip g) := by
  subst hK; exact xi_zip hm ha hg hs hpl
end
end KM
set_option Elab.async false
set_option linter.all false
set_option maxRecDepth 100000
set_option maxHeartbeats 2000000
/-! dicts with ints as keys -/
namespace KM
open PySem L2 PySem.Spec PyProof.Rows
theorem u1 {n c : Nat} (h : n + 64 < c) : n + 1 < c := by omega
def dget : List (Int × D) → Int → Option D
  | [], _ => none
  | p :: r, i => if p.1 = i then some p.2 else dget r i
section
variable {K : PySem.W.Frag} {H I P : Hp} {as : List Addr} {M : List MO}
theorem dval : ∀ {vs : List (L2.Key × V)} {kvs : List (Int × D)}, vs.map (fun p => p.1) = kvs.map (fun p => Sum.inl p.1) → Reps K I as (vs.map fun p => p.2) (kvs.map fun p => p.2) → ∀ i : Int,
    (dget kvs i = none → valV vs (Sum.inl i) = none) ∧ ∀ d, dget kvs i = some d → ∃ v, valV vs (Sum.inl i) = some v ∧ Rep K I as v d
  | [], [], _, _, i => ⟨fun _ => valV_nil, fun d h => by cases h⟩
  | [], _ :: _, h, _, _ => by cases h
  | _ :: _, [], h, _, _ => by cases h
  | q :: vs, p :: kvs, h, r, i => by
    rw [List.map_cons, List.map_cons] at h r
    injection h with h1 h2
    cases r with
    | cons r1 r2 =>
      obtain ⟨a1, a2⟩ := dval h2 r2 i
      unfold dget
      by_cases c : p.1 = i
      · rw [if_pos c]
        refine ⟨fun e => by (cases e), fun d e => ?_⟩
        cases e
        exact ⟨q.2, valV_pos (by rw [h1, c]), r1⟩
      · rw [if_neg c]
        have n : ¬ q.1 = Sum.inl i := by
          rw [h1]
          exact fun z => c (Sum.inl.inj z)
        rw [valV_neg n]
        exact ⟨a1, a2⟩
theorem Rep.dict (w : Wr K H I as M P) {v : V} {k : Nat} {kvs : List (Int × D)} (r : Rep K I as v (.ref k)) (h : M[k]? = some (.dct kvs)) : ∃ a, ∃ vs : List (L2.Key × V), v = .ref a ∧ as[k]? = some a ∧ H a = some (.dK vs) ∧ vs.map (fun p => p.1) = kvs.map (fun p => Sum.inl p.1) ∧ Reps K I as (vs.map fun p => p.2) (kvs.map fun p => p.2) := by
  cases r with
  | @ref _ a h1 =>
    obtain ⟨o, ho, _, _, m⟩ := w.at h1
    rw [h] at ho
    cases ho
    obtain ⟨vs, e1, e2, rr⟩ := m
    exact ⟨a, vs, rfl, h1, e1, e2, rr⟩
end
/-! x not in d -/
def oDNotIn : OD := fun x y M => match x, y with
  | .int i, .ref k => match M[k]? with
    | some (.dct kvs) => .ok (.bl (!(dget kvs i).isSome)) M
    | _ => .bad
  | _, _ => .bad
def rDNotIn : R2 := fun x y H Q => ∃ a o, y = .ref a ∧ DGet H a x o ∧ Q (.bl (!o.isSome)) H
theorem op_dnotin {X : Cx} (hu : X.A.units + 1 < cLine) : OpR X (compareOp .NotIn) rDNotIn := by
  intro pins s σ H x y v u Q I rx ry h
  obtain ⟨a, o, rfl, g, q⟩ := h
  cases (show u = Value.ref a from ry)
  exact d_notIn hu I g rx fun s' I' => ⟨.bl (!o.isSome), H, I', rfl, q⟩
theorem opd_dnotin {K : PySem.W.Frag} : OpD K rDNotIn oDNotIn := by
  intro H I as M P x y d e Wf Q w rx ry s
  unfold oDNotIn at s
  split at s
  · rename_i i k
    split at s
    · rename_i kvs hk
      cases rx
      obtain ⟨a, vs, rfl, _, h1, h2, h3⟩ := ry.dict w hk
      obtain ⟨a1, a2⟩ := dval h2 h3 i
      cases hg : dget kvs i with
      | none =>
        rw [hg] at s
        exact ⟨a, none, rfl, by rw [← a1 hg]; exact DGet.k (k := Sum.inl i) h1, s.now w (.bl _)⟩
      | some d =>
        rw [hg] at s
        obtain ⟨v, e1, e2⟩ := a2 d hg
        exact ⟨a, some v, rfl, by rw [← e1]; exact DGet.k (k := Sum.inl i) h1, s.now w (.bl _)⟩
    · exact s.elim
  · exact s.elim
/-! d[i] -/
def oDGet : OD := fun x y M => match x, y with
  | .ref k, .int i => match M[k]? with
    | some (.dct kvs) => match dget kvs i with
      | some d => .ok d M
      | none => .bad
    | _ => .bad
  | _, _ => .bad
def rDGet : R2 := fun x y H Q => ∃ a v, x = .ref a ∧ DGet H a y (some v) ∧ Q v H
theorem opd_dget {K : PySem.W.Frag} : OpD K rDGet oDGet := by
  intro H I as M P x y d e Wf Q w rx ry s
  unfold oDGet at s
  split at s
  · rename_i k i
    split at s
    · rename_i kvs hk
      split at s
      · rename_i dd hg
        cases ry
        obtain ⟨a, vs, rfl, _, h1, h2, h3⟩ := rx.dict w hk
        obtain ⟨v, e1, e2⟩ := (dval h2 h3 i).2 dd hg
        exact ⟨a, v, rfl, by rw [← e1]; exact DGet.k (k := Sum.inl i) h1, s.now w e2⟩
      · exact s.elim
    · exact s.elim
  · exact s.elim
section
variable {X : Cx} {W : WX} {a b e : Expr} {pos p p2 : Pos} {ta tb te : TE} {ga gb ge : GE}
theorem xe_dget (hu : X.A.units + 1 < cLine) (ha : XE X W a ta ga) (hb : XE X W b tb gb) (hs : NoSl b := by exact fun _ _ => rfl) : XE X W (.Subscript a b pos) (tDGet ta tb) (gOp oDGet ga gb) := by
  refine ⟨pe_dget hu ha.pe hb.pe hs, fun σ H δ I as M P Q w en s => ?_⟩
  refine ha.im σ H δ I as M P _ w en (Sat.bind s fun x M1 v H1 I1 as1 _ g1 w1 r1 s1 => ?_)
  refine hb.im σ H1 δ I1 as1 M1 P _ w1 (en.mono g1) (Sat.bind s1 fun y M2 u H2 I2 as2 _ g2 w2 r2 s2 => ?_)
  exact opd_dget (K := X.K) H2 I2 as2 M2 P v u x y _ Q w2 (r1.mono g2) r2 s2
/-! {i: x} -/
def gDct1 (i : Int) (gb : GE) : GE := fun δ M => match gb δ M with
  | .ok x M1 => .ok (.ref M1.length) (M1 ++ [.dct [(i, x)]])
  | _ => .bad
theorem xe_dct1 {i2 : Int} {j2} (hb : XE X W b tb gb) : XE X W (.Dict [some (.Constant (.int i2) j2 p2)] [b] pos) (tDisp [(tC (.int i2), tb)]) (gDct1 i2 gb) := by
  refine ⟨pe_disp (pps_cons pe_int hb.pe pps_nil) rfl rfl (by simp) (by show 1 ≤ 15; omega), fun σ H δ I as M P Q w en s => ?_⟩
  intro q hq
  obtain ⟨f1, f2, f3⟩ := w.fresh hq
  have w0 := w.newP hq (.dK [])
  unfold gDct1 at s
  cases e2 : gb δ M with
  | bad => rw [e2] at s; exact s.elim
  | ex c M2 => rw [e2] at s; exact s.elim
  | ok x2 M2 =>
    rw [e2] at s
    refine hb.im σ _ δ I as M _ _ w0 en ?_
    rw [e2]
    intro y2 H2 I2 as2 g2 w2 r2
    refine ⟨(w2.prv q _ upd_same).1, [(.inl i2, y2)], rfl, by show 1 ≤ 15; omega, ?_⟩
    have w3 := w2.putP upd_same (.dK (mergeK [] [(.inl i2, y2)]))
    rw [upd_upd] at w3
    have w4 := w3.giveM (m := .dct [(i2, x2)]) f2 ⟨[(.inl i2, y2)], upd_same, rfl, .cons r2 .nil⟩
    refine s _ _ _ _ (g2.trans (Gr.more I2 as2 [q])) w4 (.ref ?_)
    rw [← w2.len, List.getElem?_append_right (Nat.le_refl _), Nat.sub_self]
    rfl
end
/-! d[i] = x, i a new key -/
def oSetD : OSet := fun x i v M => match x, i with
  | .ref k, .int j => match M[k]? with
    | some (.dct kvs) => match dget kvs j with
      | none => if kvs.length < 1000 then some (M.set k (.dct (kvs ++ [(j, v)]))) else none
      | some _ => none
    | _ => none
  | _, _ => none
theorem setd_dict {K : PySem.W.Frag} : SetD K rSetD oSetD := by
  intro H I as M M' P x i v dx di dv Q w rx ri rv h k
  unfold oSetD at h
  split at h
  · rename_i kk j
    split at h
    · rename_i kvs hk
      split at h
      · rename_i hg
        split at h
        · rename_i hl
          cases h
          cases ri
          obtain ⟨a, vs, rfl, ha, h1, h2, h3⟩ := rx.dict w hk
          have hv := (dval h2 h3 j).1 hg
          have hlen : vs.length = kvs.length := by
            have := congrArg List.length h2
            simpa using this
          refine ⟨a, _, rfl, DPut.k (k := Sum.inl j) h1 (by rw [hlen, sizeLine_eq]; omega), k _ ?_⟩
          rw [putK_new _ hv]
          refine w.put ha _ _ ⟨_, upd_same, ?_, ?_⟩
          · simp [h2]
          · rw [List.map_append, List.map_append]
            exact h3.append (.cons rv .nil)
        · cases h
      · cases h
    · cases h
  · cases h
/-! sorted(d) -/
def oSortedD : OC := fun ds M => match ds with
  | [.ref k] => match M[k]? with
    | some (.dct kvs) => if kvs.length < 64 then .ok (.lst ((srtI (kvs.map fun p => p.1)).map D.int)) M else .bad
    | _ => .bad
  | _ => .bad
def rSortedD : List V → Hp → VK → Prop := fun xs H Q => ∃ (a : Addr) (kvs : List (L2.Key × V)) (ks : List Int), xs = [.ref a] ∧ Rd H a (.dK kvs) ∧ kvs.map (·.1) = ks.map Sum.inl ∧ ks.length < 64 ∧
    ∀ (ys : List Int) (p : Addr), ys.Perm ks → ys.Pairwise (· ≤ ·) → H p = none → Q (.ref p) (upd H p (.lst (ys.map V.int)))
theorem opc_sortedD {K : PySem.W.Frag} : OpC K rSortedD oSortedD := by
  intro H I as M P xs ds Wf Q w r s
  unfold oSortedD at s
  split at s
  · rename_i k
    obtain ⟨v, rfl, rv⟩ := r.one_inv
    split at s
    · rename_i kvs hk
      split at s
      · rename_i hl
        obtain ⟨a, vs, rfl, ha, h1, h2, h3⟩ := rv.dict w hk
        refine ⟨a, vs, kvs.map fun p => p.1, rfl, .inl h1, by rw [List.map_map]; exact h2, by rw [List.length_map]; exact hl, fun ns' p hp hs hf => ?_⟩
        have e : ns' = srtI (kvs.map fun p => p.1) := List.Perm.eq_of_pairwise (le := (· ≤ ·)) (fun a b _ _ h1 h2 => Int.le_antisymm h1 h2) hs (srtI_sorted _) (hp.trans (srtI_perm _).symm)
        subst e
        exact s.newLst w (Reps.ints _ rfl) hf
      · exact s.elim
    · exact s.elim
  · exact s.elim
/-! list(range(a, b)) -/
def gListRgM (ga gb : GE) : GE := fun δ M => (ga δ M).bind fun x M1 => (gb δ M1).bind fun y M2 => match x, y with
  | .int i, .int j => if -1000 ≤ i ∧ i ≤ 1000 ∧ -1000 ≤ j ∧ j ≤ 1000 then .ok (.ref M2.length) (M2 ++ [.lst (rngD i (j - i).toNat)]) else .bad
  | _, _ => .bad
theorem rg_ints (i : Int) (n : Nat) : rngD i n = ((List.range n).map fun (k : Nat) => i + (k : Int)).map D.int := by
  unfold rngD
  rw [List.map_map]
  rfl
section
variable {X : Cx} {W : WX} {a b : Expr} {pos p p2 pos2 : Pos} {ta tb : TE} {ga gb : GE}
theorem xe_listRgM (hc : X.calm = true) (hm : X.mg "list" = none) (hm2 : X.mg "range" = none) (ha : XE X W a ta ga) (hb : XE X W b tb gb) (hg : Gl X "list" := by rfl) (hg2 : Gl X "range" := by rfl)
    (na : starEach [a, b] X.env = (false, eval a X.env) :: starEach [b] X.env := by rfl) (nb : starEach [b] X.env = (false, eval b X.env) :: starEach [] X.env := by rfl) (hp : (backTo pos2 (starEach [b] X.env)).any (·.1) = false := by rfl)
    (nc : starEach [.Call (.Name "range" p2) [a, b] [] pos2] X.env = (false, eval (.Call (.Name "range" p2) [a, b] [] pos2) X.env) :: starEach [] X.env := by rfl) :
    XE X W (.Call (.Name "list" p) [.Call (.Name "range" p2) [a, b] [] pos2] [] pos) (tLstRg (tRg2 ta tb)) (gListRgM ga gb) := by
  refine ⟨pe_listRg hc hg hm (prg_2 hg2 hm2 ha.pe hb.pe na nb hp) nc, fun σ H δ I as M P Q w en s => ?_⟩
  refine ha.im σ H δ I as M P _ w en (Sat.bind s fun x M1 v H1 I1 as1 _ g1 w1 r1 s1 => ?_)
  refine hb.im σ H1 δ I1 as1 M1 P _ w1 (en.mono g1) (Sat.bind s1 fun y M2 u H2 I2 as2 _ g2 w2 r2 s2 => ?_)
  split at s2
  · rename_i i j
    split at s2
    · rename_i hc
      cases r1
      cases r2
      refine ⟨_, _, rfl, rfl, ⟨by omega, by omega, by omega, by omega, by omega⟩, fun q hq => ?_⟩
      refine s2.newRef w2 ?_ hq
      rw [rg_ints]
      refine Reps.ints _ ?_
      unfold rgV
      rw [List.map_map]
      rfl
    · exact s2.elim
  · exact s2.elim
end
end KM
set_option Elab.async false
set_option linter.all false
set_option maxRecDepth 100000
set_option maxHeartbeats 2000000
/-! sorted of pairs of ints; enumerate -/
namespace KM
open PySem L2 PySem.Spec PyProof.Rows
inductive PrA (K : PySem.W.Frag) (H : Hp) : List V → List (Int × Int) → Prop
  | nil : PrA K H [] []
  | cons {t : Addr} {p : Int × Int} {xs : List V} {ps : List (Int × Int)} : SqT K H t [.int p.1, .int p.2] → PrA K H xs ps → PrA K H (.ref t :: xs) (p :: ps)
def rSortedPT (K : PySem.W.Frag) : List V → Hp → VK → Prop := fun vs H Q => ∃ (a : Addr) (xs : List V) (ps : List (Int × Int)), vs = [V.ref a] ∧ SqL K H a xs ∧ PrA K H xs ps ∧
  ∀ (ys : List V) (qs : List (Int × Int)) (p : Addr), (ys.zip qs).Perm (xs.zip ps) → ys.length = qs.length → qs.Pairwise (fun x y => SrtO.lexB y x = false) → H p = none → Q (.ref p) (upd H p (.lst ys))
section
variable {X : Cx}
open Classical in
noncomputable def prK (K : PySem.W.Frag) (H : Hp) (x : V) : Int × Int := if h : ∃ (p : Int × Int) (t : Addr), x = .ref t ∧ SqT K H t [.int p.1, .int p.2] then h.choose else (0, 0)
theorem prK_at {pins : List (Addr × Obj)} {σ : L2.St} {H : Hp} {s : Shared} (I : Inv X pins σ H s) {t : Addr} {p : Int × Int} (h : SqT X.K H t [.int p.1, .int p.2]) : prK X.K H (.ref t) = p := by
  have ex : ∃ (p : Int × Int) (t' : Addr), V.ref t = .ref t' ∧ SqT X.K H t' [.int p.1, .int p.2] := ⟨p, t, rfl, h⟩
  unfold prK
  rw [dif_pos ex]
  obtain ⟨t', e, h2⟩ := ex.choose_spec
  cases e
  have q := I.tuple_inj h2 h
  simp only [List.cons.injEq, V.int.injEq, and_true] at q
  exact Prod.ext q.1 q.2
theorem PrA.keys {pins : List (Addr × Obj)} {σ : L2.St} {H : Hp} {s : Shared} (I : Inv X pins σ H s) : ∀ {xs : List V} {ps : List (Int × Int)}, PrA X.K H xs ps → xs.map (prK X.K H) = ps
  | _, _, .nil => rfl
  | _, _, .cons h r => by rw [List.map_cons, prK_at I h, PrA.keys I r]
theorem PrA.mem {K : PySem.W.Frag} {H : Hp} : ∀ {xs : List V} {ps : List (Int × Int)}, PrA K H xs ps → ∀ x ∈ xs, ∃ (t : Addr) (p : Int × Int), x = .ref t ∧ SqT K H t [.int p.1, .int p.2]
  | _, _, .nil, x, hx => by cases hx
  | _, _, .cons h r, x, hx => by
    rcases List.mem_cons.mp hx with e | e
    · exact ⟨_, _, e, h⟩
    · exact PrA.mem r x e
theorem zip_map_self (f : V → Int × Int) : ∀ xs : List V, xs.zip (xs.map f) = xs.map fun x => (x, f x)
  | [] => rfl
  | x :: xs => by rw [List.map_cons, List.map_cons, List.zip_cons_cons, zip_map_self f xs]
theorem cr_sortedPT : CallR X (.builtin "sorted") (rSortedPT X.K) := by
  intro pins s σ H vs us Q I r h
  obtain ⟨a, xs, ps, rfl, hs, hx, q⟩ := h
  obtain ⟨its, rv, hl, hz⟩ := I.list hs
  obtain ⟨u, rfl, ru⟩ := vals1 r
  obtain rfl : u = Value.ref a := ru
  obtain ⟨e1, e2⟩ := refs_back rv fun x m => by
    obtain ⟨t, _, e, _⟩ := hx.mem x m
    exact ⟨t, e⟩
  refine SrtO.sorted_pairsO (k := fun u => prK X.K H (backV u)) hl.isList (by rw [← rv.length]; exact hz) (fun v hv => ?_) fun h' d out h1 h2 kp hd hn => ?_
  · obtain ⟨t, rfl⟩ := e2 v hv
    have hm : V.ref t ∈ xs := by rw [e1]; exact List.mem_map.mpr ⟨_, hv, rfl⟩
    obtain ⟨t', p, e, ht⟩ := hx.mem _ hm
    cases e
    have ep : prK X.K H (backV (Value.ref t)) = p := prK_at I ht
    obtain ⟨its2, r2, ⟨o, ho, hc, n, hd⟩, _⟩ := I.tuple ht
    obtain ⟨u1, u2, rfl, ri, rj⟩ := vals2 r2
    obtain ⟨t1, rfl⟩ := ri
    obtain ⟨t2, rfl⟩ := rj
    refine ⟨t, o, t1, t2, n, rfl, ho, hc, ?_⟩
    show o.data = .seq #[.int (prK X.K H (backV (Value.ref t))).1 t1, .int (prK X.K H (backV (Value.ref t))).2 t2] n
    rw [ep]
    exact hd
  · have h3 : ∀ u ∈ out, ∃ a, u = Value.ref a := fun u hu => e2 u (h2.perm.mem_iff.mp hu)
    obtain ⟨n, hn⟩ := hn
    have hp : (out.map backV).Perm xs := by rw [e1]; exact h2.perm.map _
    refine ⟨.ref d, upd H d (.lst (out.map backV)), I.laid (t' := s.toks) kp hd ⟨?_, out, n, vals_back h3, hn⟩, rfl, q _ ((out.map backV).map (prK X.K H)) d ?_ (by simp) ?_ (I.hok.fresh hd)⟩
    · rw [hp.length_eq]
      exact hz
    · rw [← hx.keys I, zip_map_self, zip_map_self]
      exact hp.map _
    · rw [List.map_map]
      exact List.pairwise_map.mpr h1
end
def pD (p : Int × Int) : D := .tup [.int p.1, .int p.2]
def prsD : List D → Option (List (Int × Int))
  | [] => some []
  | .tup [.int i, .int j] :: xs => (prsD xs).map ((i, j) :: ·)
  | _ :: _ => none
def srtP (ps : List (Int × Int)) : List (Int × Int) := ps.mergeSort (fun x y => !SrtO.lexB y x)
theorem srtP_perm (ps : List (Int × Int)) : (srtP ps).Perm ps := List.mergeSort_perm ..
theorem lex_tot (x y : Int × Int) : SrtO.lexB y x = false ∨ SrtO.lexB x y = false := by
  rw [SrtO.lexB_no, SrtO.lexB_no]
  omega
theorem srtP_sorted (ps : List (Int × Int)) : (srtP ps).Pairwise (fun x y => SrtO.lexB y x = false) := by
  have h := List.pairwise_mergeSort (le := fun (x y : Int × Int) => !SrtO.lexB y x) (fun a b c h1 h2 => by
    simp only [Bool.not_eq_true'] at *
    rw [SrtO.lexB_no] at *
    omega) (fun a b => by
    simp only [Bool.or_eq_true, Bool.not_eq_true']
    exact lex_tot a b) ps
  exact h.imp fun h => by simpa using h
theorem lex_anti {x y : Int × Int} (h1 : SrtO.lexB y x = false) (h2 : SrtO.lexB x y = false) : x = y := by
  rw [SrtO.lexB_no] at h1 h2
  exact Prod.ext (by omega) (by omega)
theorem srtP_uniq {qs ps : List (Int × Int)} (h : qs.Perm ps) (hs : qs.Pairwise (fun x y => SrtO.lexB y x = false)) : qs = srtP ps :=
  List.Perm.eq_of_pairwise (le := fun x y => SrtO.lexB y x = false) (fun a b _ _ h1 h2 => lex_anti h1 h2) hs (srtP_sorted ps) (h.trans (srtP_perm ps).symm)
def oSortedP : OC := fun ds M => match ds with
  | [x] => match listOf M x with
    | some xs => match prsD xs with
      | some ps => .ok (.lst ((srtP ps).map pD)) M
      | none => .bad
    | none => .bad
  | _ => .bad
section
variable {K : PySem.W.Frag} {H I P : Hp} {as : List Addr} {M : List MO}
theorem Reps.prs (w : Wr K H I as M P) : ∀ {vs : List V} {ds : List D} {ps : List (Int × Int)}, Reps K I as vs ds → prsD ds = some ps → PrA K H vs ps ∧ ds = ps.map pD ∧ ∀ z ∈ vs.zip ps, Rep K I as z.1 (pD z.2)
  | _, _, ps, .nil, h => by
    cases h
    exact ⟨.nil, rfl, fun z hz => by cases hz⟩
  | _, _, ps, .cons (d := d) (ds := ds) r rr, h => by
    unfold prsD at h
    split at h
    · rename_i e
      cases e
    · rename_i i j xs e
      cases e
      cases e2 : prsD ds with
      | none => rw [e2] at h; cases h
      | some qs =>
        rw [e2] at h
        cases h
        obtain ⟨q1, q2, q3⟩ := Reps.prs w rr e2
        have r0 := r
        cases r with
        | @tup a vs _ h1 h2 =>
          obtain ⟨v1, v2, rfl, z1, z2⟩ := h2.two_inv
          cases z1
          cases z2
          refine ⟨.cons (p := (i, j)) (w.seqT h1) q1, by rw [q2]; rfl, fun z hz => ?_⟩
          rcases List.mem_cons.mp hz with e | e
          · subst e
            exact r0
          · exact q3 z e
    · cases h
theorem Reps.of_zip : ∀ {ys : List V} {qs : List (Int × Int)}, ys.length = qs.length → (∀ z ∈ ys.zip qs, Rep K I as z.1 (pD z.2)) → Reps K I as ys (qs.map pD)
  | [], [], _, _ => .nil
  | [], _ :: _, h, _ => by cases h
  | _ :: _, [], h, _ => by cases h
  | y :: ys, q :: qs, h, f => by
    rw [List.zip_cons_cons] at f
    exact .cons (f (y, q) (List.mem_cons_self ..)) (Reps.of_zip (by simpa using h) fun z hz => f z (List.mem_cons_of_mem _ hz))
end
theorem zip_snd : ∀ {ys : List V} {qs : List (Int × Int)}, ys.length = qs.length → (ys.zip qs).map (fun z => z.2) = qs
  | [], [], _ => rfl
  | [], _ :: _, h => by cases h
  | _ :: _, [], h => by cases h
  | y :: ys, q :: qs, h => by
    rw [List.zip_cons_cons, List.map_cons, zip_snd (by simpa using h)]
theorem PrA.len {K : PySem.W.Frag} {H : Hp} : ∀ {xs : List V} {ps : List (Int × Int)}, PrA K H xs ps → xs.length = ps.length
  | _, _, .nil => rfl
  | _, _, .cons h r => by rw [List.length_cons, List.length_cons, PrA.len r]
theorem opc_sortedP {K : PySem.W.Frag} : OpC K (rSortedPT K) oSortedP := by
  intro H I as M P xs ds Wf Q w r s
  unfold oSortedP at s
  split at s
  · obtain ⟨v, rfl, rv⟩ := r.one_inv
    split at s
    · rename_i zs hz
      split at s
      · rename_i ps hp
        obtain ⟨a, vs, rfl, h1, r1⟩ := rv.list w hz
        obtain ⟨q1, q2, q3⟩ := r1.prs w hp
        refine ⟨a, vs, ps, rfl, h1, q1, fun ys qs p hpm hl hs hf => ?_⟩
        have e : qs = srtP ps := srtP_uniq (by
          have := hpm.map fun z => z.2
          rwa [zip_snd hl, zip_snd q1.len] at this) hs
        subst e
        exact s.newLst w (Reps.of_zip hl fun z hz => q3 z (hpm.mem_iff.mp hz)) hf
      · exact s.elim
    · exact s.elim
  · exact s.elim
/-! ### enumerate -/
def enumD : Nat → List D → List D
  | _, [] => []
  | i, x :: xs => .tup [.int (i : Int), x] :: enumD (i + 1) xs
theorem enumD_len : ∀ (xs : List D) (i : Nat), (enumD i xs).length = xs.length
  | [], _ => rfl
  | x :: xs, i => by
    unfold enumD
    rw [List.length_cons, List.length_cons, enumD_len xs]
theorem enumD_at : ∀ (xs : List D) (i j : Nat) (x : D), xs[j]? = some x → (enumD i xs)[j]? = some (.tup [.int ((i + j : Nat) : Int), x])
  | [], _, _, _, h => by simp at h
  | y :: xs, i, 0, x, h => by
    cases h
    rfl
  | y :: xs, i, j + 1, x, h => by
    have := enumD_at xs (i + 1) j x h
    rw [show i + 1 + j = i + (j + 1) by omega] at this
    exact this
def giEnum (ga : GA) : GI := fun δ M => (ga δ M).bind fun ds M1 => match ds with
  | [.lst xs] => .ok (itT (enumD 0 xs)) M1
  | [.rol xs] => .ok (itT (enumD 0 xs)) M1
  | _ => .bad
theorem itok_enum {K : PySem.W.Frag} {I : Hp} {as : List Addr} {a : Addr} {us : List V} {xs : List D} (h : SqL K I a us) (r : Reps K I as us xs) : ItOk K I as (Ite K a) (itT (enumD 0 xs)) := by
  have hl : (itT (enumD 0 xs)).items.length = us.length := by
    show (enumD 0 xs).length = _
    rw [enumD_len, r.len]
  refine ⟨fun H => SqL K H a us, YPair (fun i => some (.int (i : Nat))) (fun i => us[i]?), by rw [hl]; exact walk_enum, fun H' I' as' M' P' g w _ => w.seqL (Evl.ex_l g.sub h), fun i x H' H2 I' as' M' P' hi g w _ y => ?_⟩
  obtain ⟨T, x1, y1, rfl, hT, rfl, hx, hy⟩ := y
  obtain ⟨w2, g2⟩ := w.newI hT (.tup [x1, y1])
  cases hx
  obtain ⟨d, hd, rd⟩ := r.get' hy
  refine ⟨_, .tup [.int (i : Int), d], g2, w2, ?_, .tup (.of upd_same) (.cons (.int _) (.cons (rd.mono (g.trans g2)) .nil))⟩
  have := enumD_at xs 0 i d hd
  rw [Nat.zero_add] at this
  exact this
section
variable {X : Cx} {W : WX} {e : Expr} {p pos tpos : Pos} {elts : List Expr} {kk : Nat} {t : TA} {g : GA}
theorem xi_enum (hm : X.mg "enumerate" = none) (ha : XA X W [e] t g) (hg : Gl X "enumerate" := by rfl) (hs : starEach [e] X.env = [(false, eval e X.env)] := by rfl) : XI X W (.Tuple elts kk tpos) (.Call (.Name "enumerate" p) [e] [] pos) (iEnum X.K t) (giEnum g) := by
  refine ⟨pi_enum hg hm ha.pe hs, fun σ H δ I as M P Q w en s => ?_⟩
  refine ha.im σ H δ I as M P _ w en (Sat.bind s fun d M1 v H1 I1 as1 _ g1 w1 r1 s1 => ?_)
  split at s1
  · obtain ⟨v, rfl, rv⟩ := r1.one_inv
    cases rv with
    | @lst a us _ h1 rr => exact ⟨a, us, rfl, .of (w1.sub _ _ h1), s1 _ H1 I1 as1 (Gr.refl _ _) w1 (itok_enum (.of h1) rr)⟩
  · obtain ⟨v, rfl, rv⟩ := r1.one_inv
    cases rv with
    | @rol a us _ h1 rr => exact ⟨a, us, rfl, w1.seqL h1, s1 _ H1 I1 as1 (Gr.refl _ _) w1 (itok_enum h1 rr)⟩
  · exact s1.elim
theorem ki_enum (K : PySem.W.Frag) (hm : X.mg "enumerate" = none) (ha : XA X W [e] t g) (hK : X.K = K := by rfl) (hg : Gl X "enumerate" := by rfl) (hs : starEach [e] X.env = [(false, eval e X.env)] := by rfl) : XI X W (.Tuple elts kk tpos) (.Call (.Name "enumerate" p) [e] [] pos) (iEnum K t) (giEnum g) := by
  subst hK; exact xi_enum hm ha hg hs
end
/-! a, b, c = x, y, z -/
def gPar3 (i j l : Nat) (ga gb gc : GE) : GS := fun δ M => (ga δ M).toS δ fun x M1 => (gb δ M1).toS δ fun y M2 => (gc δ M2).toS δ fun z M3 => .nx (((δ.set i (some x)).set j (some y)).set l (some z)) M3
section
variable {X : Cx} {W : WX} {a b c : Expr} {pos p p2 pos2 : Pos} {ta tb tc : TE} {ga gb gc : GE}
theorem xs_par3 {i j l : Nat} {x y z : Str} {px py pz pt : Pos} {kt k2 pt2} (hc : X.calm = true) (hN : X.N.Nodup) (ha : XE X W a ta ga) (hb : XE X W b tb gb) (hcc : XE X W c tc gc)
    (hi : X.N[i]? = some x := by rfl) (hj : X.N[j]? = some y := by rfl) (hl : X.N[l]? = some z := by rfl) (hij : i ≠ j := by decide) (hil : i ≠ l := by decide) (hjl : j ≠ l := by decide)
    (hx : X.env.scope.names.lookup x = some .local := by rfl) (hy : X.env.scope.names.lookup y = some .local := by rfl) (hz : X.env.scope.names.lookup z = some .local := by rfl)
    (hw : swappedStores [.Tuple [.Name x px, .Name y py, .Name z pz] kt pt] (.Tuple [a, b, c] k2 pt2) X.env = pure (some [x, y, z]) := by rfl)
    (hs : swapsWithSole [.Tuple [.Name x px, .Name y py, .Name z pz] kt pt] (.Tuple [a, b, c] k2 pt2) pos.line X.env = pure false := by rfl)
    (h1 : starEach [a, b, c] X.env = (false, eval a X.env) :: starEach [b, c] X.env := by rfl) (h2 : starEach [b, c] X.env = (false, eval b X.env) :: starEach [c] X.env := by rfl) (h3 : starEach [c] X.env = (false, eval c X.env) :: starEach [] X.env := by rfl) :
    XS X W (.Assign [.Tuple [.Name x px, .Name y py, .Name z pz] kt pt] (.Tuple [a, b, c] k2 pt2) pos) (tPar3 i j l (tCons ta (tCons tb (tCons tc tNil)))) (gPar3 i j l ga gb gc) := by
  refine ⟨ps_par3 hc hN hi hj hl hij hil hjl hx hy hz (pa_cons ha.pe (pa_cons hb.pe (pa_cons hcc.pe pa_nil h3) h2) h1) hw hs, fun σ H δ I as M P E w en s => ?_⟩
  refine ha.im σ H δ I as M P _ w en (SatS.bindE s en fun d M1 v H1 I1 as1 _ g1 w1 r1 s1 => ?_)
  refine hb.im σ H1 δ I1 as1 M1 P _ w1 (en.mono g1) (SatS.bindE s1 (en.mono g1) fun d2 M2 v2 H2 I2 as2 _ g2 w2 r2 s2 => ?_)
  refine hcc.im σ H2 δ I2 as2 M2 P _ w2 (en.mono (g1.trans g2)) (SatS.bindE s2 (en.mono (g1.trans g2)) fun d3 M3 v3 H3 I3 as3 _ g3 w3 r3 s3 => ?_)
  exact ⟨v, v2, v3, rfl, s3 _ H3 I3 as3 (Gr.refl _ _) w3 ((((en.mono (g1.trans (g2.trans g3))).set (r1.mono (g2.trans g3)) i).set (r2.mono g3) j).set r3 l)⟩
/-! list(range(b)) -/
def gListRg1M (gb : GE) : GE := fun δ M => (gb δ M).bind fun y M2 => match y with
  | .int j => if -1000 ≤ j ∧ j ≤ 1000 then .ok (.ref M2.length) (M2 ++ [.lst (rngD 0 j.toNat)]) else .bad
  | _ => .bad
theorem xe_listRg1M (hc : X.calm = true) (hm : X.mg "list" = none) (hm2 : X.mg "range" = none) (hb : XE X W b tb gb) (hg : Gl X "list" := by rfl) (hg2 : Gl X "range" := by rfl)
    (nb : starEach [b] X.env = (false, eval b X.env) :: starEach [] X.env := by rfl)
    (nc : starEach [.Call (.Name "range" p2) [b] [] pos2] X.env = (false, eval (.Call (.Name "range" p2) [b] [] pos2) X.env) :: starEach [] X.env := by rfl) :
    XE X W (.Call (.Name "list" p) [.Call (.Name "range" p2) [b] [] pos2] [] pos) (tLstRg (tRg1 tb)) (gListRg1M gb) := by
  refine ⟨pe_listRg hc hg hm (prg_1 hg2 hm2 hb.pe nb) nc, fun σ H δ I as M P Q w en s => ?_⟩
  refine hb.im σ H δ I as M P _ w en (Sat.bind s fun y M2 u H2 I2 as2 _ g2 w2 r2 s2 => ?_)
  split at s2
  · split at s2
    · rename_i hc
      cases r2
      refine ⟨_, rfl, ⟨by omega, by omega, by omega, by omega, by omega⟩, fun q hq => ?_⟩
      refine s2.newRef w2 ?_ hq
      rw [rg_ints]
      refine Reps.ints _ ?_
      unfold rgV
      rw [List.map_map, Int.sub_zero]
      rfl
    · exact s2.elim
  · exact s2.elim
end
end KM
set_option Elab.async false
set_option linter.all false
set_option maxRecDepth 100000
set_option maxHeartbeats 2000000
/-! zip of three, lists or tuples; len(set(..)); {} and {0: x} that are only carried -/
namespace KM
open PySem L2 PySem.Spec PyProof.Rows
def sqK (k : Bool) (K : PySem.W.Frag) (H : Hp) (a : Addr) (xs : List V) : Prop := match k with | true => SqL K H a xs | false => SqT K H a xs
def itK (k : Bool) (h : Heap) (it a : Addr) (i : Nat) : Prop := match k with | true => h.IsListIter it a i | false => h.IsTupleIter it a i
def lsK (k : Bool) (h : Heap) (a : Addr) (items : Array Value) : Prop := match k with | true => h.IsList a items | false => h.IsTuple a items
def obK (k : Bool) (a : Addr) : Obj := match k with | true => { cls := .type "list_iterator", data := .fields #[.ref a, .int 0 0] } | false => { cls := .type "tuple_iterator", data := .fields #[.ref a, .int 0 0] }
theorem itK.lt {k : Bool} {h : Heap} {it a : Addr} {i : Nat} (x : itK k h it a i) : it < h.objs.size := by
  cases k with
  | true => obtain ⟨o, e, _⟩ := x; exact Heap.lt_size e
  | false => obtain ⟨o, e, _⟩ := x; exact Heap.lt_size e
theorem itK.obj {k : Bool} {h : Heap} {it a : Addr} {i : Nat} (x : itK k h it a i) : ∃ o, h.get? it = some o ∧ ∀ v, o.data ≠ .cell v := by
  cases k with
  | true => obtain ⟨o, e, _, d⟩ := x; exact ⟨o, e, fun v q => by rw [d] at q; cases q⟩
  | false => obtain ⟨o, e, _, d⟩ := x; exact ⟨o, e, fun v q => by rw [d] at q; cases q⟩
theorem itK.at {k : Bool} {h h' : Heap} {it a : Addr} {i : Nat} (x : itK k h it a i) (e : ∀ o, h.get? it = some o → h'.get? it = some o) : itK k h' it a i := by
  cases k with
  | true => exact Heap.IsListIter.at x e
  | false => exact Heap.IsTupleIter.at x e
theorem lsK.at {k : Bool} {h h' : Heap} {a : Addr} {items : Array Value} (x : lsK k h a items) (e : ∀ o, h.get? a = some o → h'.get? a = some o) : lsK k h' a items := by
  cases k with
  | true => exact Heap.IsList.at x e
  | false => exact Heap.IsTuple.at x e
theorem lsK.lt {k : Bool} {h : Heap} {a : Addr} {items : Array Value} (x : lsK k h a items) : a < h.objs.size := by
  cases k with
  | true => obtain ⟨o, e, _⟩ := x; exact Heap.lt_size e
  | false => obtain ⟨o, e, _⟩ := x; exact Heap.lt_size e
theorem drawsK {P : Program} {w : World} {A : Around} (hh : A.handled = none) (k : Bool) (it a : Addr) (hne : a ≠ it) (items : Array Value) :
    Draws P w A it [it, a] items.size (fun i v => items[i]? = some v) (fun i h => itK k h it a i ∧ lsK k h a items) := by
  cases k with
  | true => exact Draws.list hh it a hne items
  | false => exact Draws.tuple hh it a hne items
theorem beginsK (k : Bool) (a : Addr) (items : Array Value) : Begins (.ref a) (obK k a) fun h => lsK k h a items := by
  cases k with
  | true => exact begins_list a items
  | false => exact begins_tuple a items
theorem obK_it {k : Bool} {h : Heap} {it a : Addr} (e : h.get? it = some (obK k a)) : itK k h it a 0 := by
  cases k with
  | true => exact ⟨_, e, rfl, rfl⟩
  | false => exact ⟨_, e, rfl, rfl⟩
section
variable {X : Cx} {pins : List (Addr × Obj)} {σ : L2.St} {H : Hp} {s : Shared} {a : Addr} {xs : List V}
theorem inv_sqK {k : Bool} (I : Inv X pins σ H s) (h : sqK k X.K H a xs) : ∃ its : List Value, Vals xs its ∧ lsK k s.heap a its.toArray ∧ xs.length ≤ sizeLine := by
  cases k with
  | true => obtain ⟨its, r, p, z⟩ := I.list h; exact ⟨its, r, p.isList, z⟩
  | false => obtain ⟨its, r, p, z⟩ := I.tuple h; exact ⟨its, r, p, z⟩
theorem inv_sqK_inj {k : Bool} {ys : List V} (I : Inv X pins σ H s) (h : sqK k X.K H a xs) (h' : sqK k X.K H a ys) : xs = ys := by
  cases k with
  | true => exact I.list_inj h h'
  | false => exact I.tuple_inj h h'
end
/-- three sequences as they stand at each turn, the items in new triples -/
def ItzN (K : PySem.W.Frag) (k1 k2 k3 : Bool) (a b c : Addr) : It :=
  ⟨fun i H => ∃ (xs ys zs : List V), sqK k1 K H a xs ∧ sqK k2 K H b ys ∧ sqK k3 K H c zs ∧ i < xs.length ∧ i < ys.length ∧ i < zs.length,
    fun i H v H' => ∃ T x y z, v = .ref T ∧ H T = none ∧ H' = upd H T (.tup [x, y, z]) ∧ (∀ xs, sqK k1 K H a xs → xs[i]? = some x) ∧ (∀ ys, sqK k2 K H b ys → ys[i]? = some y) ∧ ∀ zs, sqK k3 K H c zs → zs[i]? = some z,
    fun i H => ∃ xs ys zs : List V, sqK k1 K H a xs ∧ sqK k2 K H b ys ∧ sqK k3 K H c zs ∧ i = min (min xs.length ys.length) zs.length⟩
def tnz (k1 k2 k3 : Bool) (a b c z TI TO i1 i2 i3 : Addr) (i : Nat) (h : Heap) : Prop := IsZip h z TI TO .none ∧ IsTupOf3 h TI (.ref i1) (.ref i2) (.ref i3) ∧ (∃ a1 a2 a3, IsTupOf3 h TO a1 a2 a3) ∧ itK k1 h i1 a i ∧ itK k2 h i2 b i ∧ itK k3 h i3 c i
theorem turn_zip3 {P : Program} {w : World} {K : PySem.W.Frag} {elts : List Expr} {kk : Nat} {tpos : Pos} {k1 k2 k3 : Bool} {a b c z TI TO i1 i2 i3 : Addr} (D : ZipSep3 z TI TO i1 i2 i3 [i1, a] [i2, b] [i3, c]) (n1 : a ≠ i1) (n2 : b ≠ i2) (n3 : c ≠ i3) :
    Turn P w K (.Tuple elts kk tpos) (ItzN K k1 k2 k3 a b c) [z, TI, TO, i1, i2, i3] z (tnz k1 k2 k3 a b c z TI TO i1 i2 i3) where
  mem := by simp
  obj := fun i h st q hq => by
    obtain ⟨hz, hTI, ⟨x, y, u, hTO⟩, h1, h2, h3⟩ := st
    have e' : q = z ∨ q = TI ∨ q = TO ∨ q = i1 ∨ q = i2 ∨ q = i3 := by simpa using hq
    rcases e' with q | q | q | q | q | q
    · rw [q]; exact ⟨_, hz, fun v q => nomatch q⟩
    · rw [q]; exact ⟨_, hTI, fun v q => nomatch q⟩
    · rw [q]; exact ⟨_, hTO, fun v q => nomatch q⟩
    · rw [q]; exact h1.obj
    · rw [q]; exact h2.obj
    · rw [q]; exact h3.obj
  keep := fun i h h' st k => by
    obtain ⟨hz, hTI, ⟨x, y, u, hTO⟩, h1, h2, h3⟩ := st
    exact ⟨k z (by simp) _ hz, k TI (by simp) _ hTI, ⟨x, y, u, k TO (by simp) _ hTO⟩, h1.at fun o q => k i1 (by simp) o q, h2.at fun o q => k i2 (by simp) o q, h3.at fun o q => k i3 (by simp) o q⟩
  item := by
    intro X hP hw hK hc i pins s σ H E I hf st hg
    subst hP hw hK
    obtain ⟨hz, hTI, hTO, h1, h2, h3⟩ := st
    obtain ⟨xs, ys, zs, q1, q2, q3, l1, l2, l3⟩ := hg
    obtain ⟨its1, r1, p1, _⟩ := inv_sqK I q1
    obtain ⟨its2, r2, p2, _⟩ := inv_sqK I q2
    obtain ⟨its3, r3, p3, _⟩ := inv_sqK I q3
    have g1 := r1.length
    have g2 := r2.length
    have g3 := r3.length
    have hd : X.A.in1.handled = none := I.ok.hd hc
    have G := GoesN.zip3 (elts := elts) (x1 := kk) (pos := tpos) D (drawsK (P := X.prog) (w := X.w) hd k1 i1 a n1 its1.toArray) (drawsK (P := X.prog) (w := X.w) hd k2 i2 b n2 its2.toArray) (drawsK (P := X.prog) (w := X.w) hd k3 i3 c n3 its3.toArray)
    refine wpAny_mono (G.goes i s (fun v s2 => ∃ x H', Inv X pins σ H' s2 ∧ RelV x v ∧ (ItzN X.K k1 k2 k3 a b c).yld i H x H' ∧ tnz k1 k2 k3 a b c z TI TO i1 i2 i3 (i + 1) s2.heap ∧ ∀ b ∈ [z, TI, TO, i1, i2, i3], H' b = none) E (by simp; omega) ⟨hz, hTI, hTO, ⟨h1, p1⟩, ⟨h2, p2⟩, ⟨h3, p3⟩⟩ ?_) (fun r s1 h => h) fun _ _ e => e
    intro v h' tk hY st' hk htk
    obtain ⟨T, x, y, u, rfl, hT, hx, hy, hu, hit⟩ := hY
    obtain ⟨hz', hTI', hTO', ⟨h1', _⟩, ⟨h2', _⟩, ⟨h3', _⟩⟩ := st'
    have hx' : its1[i]? = some x := by simpa using hx
    have hy' : its2[i]? = some y := by simpa using hy
    have hu' : its3[i]? = some u := by simpa using hu
    have m1 : xs[i]? = some xs[i] := by simp [l1]
    have m2 : ys[i]? = some ys[i] := by simp [l2]
    have m3 : zs[i]? = some zs[i] := by simp [l3]
    obtain ⟨x', e1, rx⟩ := r1.get m1
    obtain ⟨y', e2, ry⟩ := r2.get m2
    obtain ⟨u', e3, ru⟩ := r3.get m3
    rw [hx'] at e1; cases e1
    rw [hy'] at e2; cases e2
    rw [hu'] at e3; cases e3
    have hwr : ∀ b : Addr, b ∉ [z, TI, TO, i1, i2, i3] → b ∉ [z, TO, i1, i2, i3] := fun b hb hm => hb (by
      have e' : b = z ∨ b = TO ∨ b = i1 ∨ b = i2 ∨ b = i3 := by simpa using hm
      rcases e' with e | e | e | e | e <;> simp [e])
    have new : ObjOk X.prog X.w (upd H T (.tup [xs[i], ys[i], zs[i]])) h' T (.tup [xs[i], ys[i], zs[i]]) :=
      ⟨by show 3 ≤ sizeLine; decide, [x, y, u], .cons rx (.cons ry (.cons ru .nil)), hit⟩
    have I1 : Inv X pins σ (upd H T (.tup [xs[i], ys[i], zs[i]])) { s with heap := h', toks := tk } :=
      I.turnedNew (t' := tk) (ch := [z, TI, TO, i1, i2, i3]) (fun c o hb q => hk c o (hwr c hb) q) hf hT new
    have fr : H T = none := I.hok.fresh hT
    refine ⟨.ref T, _, I1, rfl, ⟨T, xs[i], ys[i], zs[i], rfl, fr, rfl, fun l hl => by rw [inv_sqK_inj I hl q1]; exact m1, fun l hl => by rw [inv_sqK_inj I hl q2]; exact m2, fun l hl => by rw [inv_sqK_inj I hl q3]; exact m3⟩, ⟨hz', hTI', hTO', h1', h2', h3'⟩, fun c hcm => ?_⟩
    have hlt : c < s.heap.objs.size := by
      have e' : c = z ∨ c = TI ∨ c = TO ∨ c = i1 ∨ c = i2 ∨ c = i3 := by simpa using hcm
      obtain ⟨_, _, _, hTO⟩ := hTO
      rcases e' with q | q | q | q | q | q
      · rw [q]; exact Heap.lt_size hz
      · rw [q]; exact Heap.lt_size hTI
      · rw [q]; exact Heap.lt_size hTO
      · rw [q]; exact h1.lt
      · rw [q]; exact h2.lt
      · rw [q]; exact h3.lt
    rw [upd_ne (Nat.ne_of_lt (Nat.lt_of_lt_of_le hlt hT))]
    exact (hf c hcm).1
  done := by
    intro X hP hw hK hc i pins s σ H E I hf st hg
    subst hP hw hK
    obtain ⟨hz, hTI, hTO, h1, h2, h3⟩ := st
    obtain ⟨xs, ys, zs, q1, q2, q3, hi⟩ := hg
    obtain ⟨its1, r1, p1, _⟩ := inv_sqK I q1
    obtain ⟨its2, r2, p2, _⟩ := inv_sqK I q2
    obtain ⟨its3, r3, p3, _⟩ := inv_sqK I q3
    have g1 := r1.length
    have g2 := r2.length
    have g3 := r3.length
    have hd : X.A.in1.handled = none := I.ok.hd hc
    have G := GoesN.zip3 (elts := elts) (x1 := kk) (pos := tpos) D (drawsK (P := X.prog) (w := X.w) hd k1 i1 a n1 its1.toArray) (drawsK (P := X.prog) (w := X.w) hd k2 i2 b n2 its2.toArray) (drawsK (P := X.prog) (w := X.w) hd k3 i3 c n3 its3.toArray)
    have hn : i = min (min its1.toArray.size its2.toArray.size) its3.toArray.size := by
      rw [hi, g1, g2, g3]; simp
    subst hn
    refine G.stops s _ E ⟨hz, hTI, hTO, ⟨h1, p1⟩, ⟨h2, p2⟩, ⟨h3, p3⟩⟩ fun h' tk hk htk => ?_
    exact I.turnedL (t' := tk) (ch := [z, TI, TO, i1, i2, i3]) (fun c o hb q => hk c o (fun hm => hb (by
      have e' : c = z ∨ c = TO ∨ c = i1 ∨ c = i2 ∨ c = i3 := by simpa using hm
      rcases e' with e | e | e | e | e <;> simp [e])) q) hf
  self := fun A i s Q E st h => wpAny_pyIter_zip st.1 h
def iZip3 (K : PySem.W.Frag) (ta : TA) : TI := fun σ H R => ta σ H fun vs H1 => ∃ a b c xs ys zs k1 k2 k3, vs = [.ref a, .ref b, .ref c] ∧ sqK k1 K H1 a xs ∧ sqK k2 K H1 b ys ∧ sqK k3 K H1 c zs ∧ R (ItzN K k1 k2 k3 a b c) H1
theorem pi_zip3 {X : Cx} {e e2 e3 : Expr} {ta : TA} {p pos tpos : Pos} {elts : List Expr} {kk : Nat} (hg : Gl X "zip") (hm : X.mg "zip" = none) (ha : PA X [e, e2, e3] ta)
    (hs : starEach [e, e2, e3] X.env = (false, eval e X.env) :: starEach [e2, e3] X.env := by rfl) (hpl : (backTo pos (starEach [e2, e3] X.env)).any (·.1) = false := by rfl) :
    PI X (.Tuple elts kk tpos) (.Call (.Name "zip" p) [e, e2, e3] [] pos) (iZip3 X.K ta) := by
  refine ⟨fun pins s σ H R I h => ?_⟩
  refine Call_ (ld_blt I hg hm PyProof.Rows.boot_zip (PyProof.Rows.callWith_type1 (thn (ha.run pos pins s σ H _ I h) fun us s1 ⟨vs, H1, I1, r1, q1⟩ => ?_) hs hpl))
  obtain ⟨a, b, c, xs, ys, zs, k1, k2, k3, ex, hx, hy, hz, q⟩ := q1
  subst ex
  cases r1 with
  | cons r rr =>
    cases rr with
    | cons r' rr =>
      cases rr with
      | cons r'' rr =>
        cases rr
        cases r
        cases r'
        cases r''
        obtain ⟨its1, v1, p1, _⟩ := inv_sqK I1 hx
        obtain ⟨its2, v2, p2, _⟩ := inv_sqK I1 hy
        obtain ⟨its3, v3, p3, _⟩ := inv_sqK I1 hz
        have la := p1.lt
        have lb := p2.lt
        have lc := p3.lt
        refine zip_begins3 (beginsK k1 a its1.toArray) (beginsK k2 b its2.toArray) (beginsK k3 c its3.toArray) p1 p2 p3 fun h' hz hTI hTO h1 h2 h3 hsz hk => wpAny_pyIter_zip hz ?_
        have I2 : Inv X pins σ H1 { s1 with heap := h' } := I1.kept (t' := s1.toks) hk
        refine ⟨s1.heap.objs.size + 5, [s1.heap.objs.size + 5, s1.heap.objs.size + 3, s1.heap.objs.size + 4, s1.heap.objs.size, s1.heap.objs.size + 1, s1.heap.objs.size + 2], _, _, H1, rfl, I2,
          turn_zip3 (zip_sep3 (fp1 := [a]) (fp2 := [b]) (fp3 := [c]) (by simpa using la) (by simpa using lb) (by simpa using lc)) (Nat.ne_of_lt la) (Nat.ne_of_lt (Nat.lt_succ_of_lt lb)) (Nat.ne_of_lt (Nat.lt_succ_of_lt (Nat.lt_succ_of_lt lc))), ⟨hz, hTI, ⟨_, _, _, hTO⟩, obK_it h1, obK_it h2, obK_it h3⟩, fun c hcm => ?_, q⟩
        have hle : s1.heap.objs.size ≤ c := by
          have e' : c = s1.heap.objs.size + 5 ∨ c = s1.heap.objs.size + 3 ∨ c = s1.heap.objs.size + 4 ∨ c = s1.heap.objs.size ∨ c = s1.heap.objs.size + 1 ∨ c = s1.heap.objs.size + 2 := by simpa using hcm
          rcases e' with z | z | z | z | z | z
          · rw [z]; exact Nat.le_add_right _ _
          · rw [z]; exact Nat.le_add_right _ _
          · rw [z]; exact Nat.le_add_right _ _
          · rw [z]; exact Nat.le_refl _
          · rw [z]; exact Nat.le_add_right _ _
          · rw [z]; exact Nat.le_add_right _ _
        exact I1.fpOk hle (I1.hok.fresh hle)
/-! by data -/
def zipD3 : List D → List D → List D → List D
  | x :: xs, y :: ys, z :: zs => .tup [x, y, z] :: zipD3 xs ys zs
  | _, _, _ => []
theorem zipD3_len : ∀ xs ys zs : List D, (zipD3 xs ys zs).length = min (min xs.length ys.length) zs.length
  | [], _, _ => by simp [zipD3]
  | _ :: _, [], _ => by simp [zipD3]
  | _ :: _, _ :: _, [] => by simp [zipD3]
  | x :: xs, y :: ys, z :: zs => by
    show (zipD3 xs ys zs).length + 1 = min (min (xs.length + 1) (ys.length + 1)) (zs.length + 1)
    rw [zipD3_len xs ys zs]
    omega
theorem zipD3_at : ∀ (xs ys zs : List D) (i : Nat) (x y z : D), xs[i]? = some x → ys[i]? = some y → zs[i]? = some z → (zipD3 xs ys zs)[i]? = some (.tup [x, y, z])
  | [], _, _, i, x, y, z, h, _, _ => by simp at h
  | _ :: _, [], _, i, x, y, z, _, h, _ => by simp at h
  | _ :: _, _ :: _, [], i, x, y, z, _, _, h => by simp at h
  | a :: xs, b :: ys, c :: zs, 0, x, y, z, h1, h2, h3 => by
    cases h1; cases h2; cases h3; rfl
  | a :: xs, b :: ys, c :: zs, i + 1, x, y, z, h1, h2, h3 => zipD3_at xs ys zs i x y z h1 h2 h3
/-- what is never changed, as a list or a tuple -/
def sqOf : D → Option (Bool × List D)
  | .tup xs => some (false, xs)
  | .lst xs => some (true, xs)
  | .rol xs => some (true, xs)
  | _ => none
theorem Rep.sq {K : PySem.W.Frag} {I : Hp} {as : List Addr} {v : V} {d : D} {k : Bool} {xs : List D} (r : Rep K I as v d) (h : sqOf d = some (k, xs)) : ∃ a us, v = .ref a ∧ sqK k K I a us ∧ Reps K I as us xs := by
  cases r with
  | tup h1 h2 => cases h; exact ⟨_, _, rfl, h1, h2⟩
  | lst h1 h2 => cases h; exact ⟨_, _, rfl, SqL.of h1, h2⟩
  | rol h1 h2 => cases h; exact ⟨_, _, rfl, h1, h2⟩
  | _ => cases h
theorem sqK.mono {K : PySem.W.Frag} {I I' : Hp} {k : Bool} {a : Addr} {xs : List V} (g : ∀ a o, I a = some o → I' a = some o) (h : sqK k K I a xs) : sqK k K I' a xs := by
  cases k with
  | true => exact Evl.ex_l g h
  | false => exact Evl.ex_t g h
def giZip3 (ga : GA) : GI := fun δ M => (ga δ M).bind fun ds M1 => match ds with
  | [x, y, z] => match sqOf x, sqOf y, sqOf z with
    | some p, some q, some r => .ok (itT (zipD3 p.2 q.2 r.2)) M1
    | _, _, _ => .bad
  | _ => .bad
theorem itok_zip3 {K : PySem.W.Frag} {I : Hp} {as : List Addr} {a b c : Addr} {k1 k2 k3 : Bool} {us vs ws : List V} {xs ys zs : List D} (h1 : sqK k1 K I a us) (h2 : sqK k2 K I b vs) (h3 : sqK k3 K I c ws) (r1 : Reps K I as us xs) (r2 : Reps K I as vs ys) (r3 : Reps K I as ws zs) : ItOk K I as (ItzN K k1 k2 k3 a b c) (itT (zipD3 xs ys zs)) := by
  have hl : (itT (zipD3 xs ys zs)).items.length = min (min us.length vs.length) ws.length := by
    show (zipD3 xs ys zs).length = _
    rw [zipD3_len, r1.len, r2.len, r3.len]
  refine ⟨fun H => sqK k1 K H a us ∧ sqK k2 K H b vs ∧ sqK k3 K H c ws, fun i H v H' => ∃ T x y z, v = .ref T ∧ H T = none ∧ H' = upd H T (.tup [x, y, z]) ∧ us[i]? = some x ∧ vs[i]? = some y ∧ ws[i]? = some z, ?_, ?_, ?_⟩
  · rw [hl]
    refine ⟨fun i H hi q => ⟨us, vs, ws, q.1, q.2.1, q.2.2, by omega, by omega, by omega⟩, fun H q => ⟨us, vs, ws, q.1, q.2.1, q.2.2, rfl⟩, fun i H v H' _ q y => ?_⟩
    obtain ⟨T, x, y, z, e1, e2, e3, e4, e5, e6⟩ := y
    exact ⟨T, x, y, z, e1, e2, e3, e4 us q.1, e5 vs q.2.1, e6 ws q.2.2⟩
  · exact fun H' I' as' M' P' g w _ => ⟨(h1.mono g.sub).mono w.sub, (h2.mono g.sub).mono w.sub, (h3.mono g.sub).mono w.sub⟩
  · intro i v H' H2 I' as' M' P' hi g w _ y
    obtain ⟨T, x1, y1, z1, rfl, hT, rfl, hx, hy, hz⟩ := y
    obtain ⟨w2, g2⟩ := w.newI hT (.tup [x1, y1, z1])
    obtain ⟨d, hd, rd⟩ := r1.get' hx
    obtain ⟨e, he, re⟩ := r2.get' hy
    obtain ⟨f, hf, rf⟩ := r3.get' hz
    exact ⟨_, .tup [d, e, f], g2, w2, zipD3_at _ _ _ _ _ _ _ hd he hf, .tup (.of upd_same) (.cons (rd.mono (g.trans g2)) (.cons (re.mono (g.trans g2)) (.cons (rf.mono (g.trans g2)) .nil)))⟩
theorem Reps.three_inv {K : PySem.W.Frag} {I : Hp} {as : List Addr} {vs : List V} {d d2 d3 : D} (r : Reps K I as vs [d, d2, d3]) : ∃ v v2 v3, vs = [v, v2, v3] ∧ Rep K I as v d ∧ Rep K I as v2 d2 ∧ Rep K I as v3 d3 := by
  cases r with
  | cons h1 r =>
    obtain ⟨v2, v3, rfl, h2, h3⟩ := r.two_inv
    exact ⟨_, _, _, rfl, h1, h2, h3⟩
section
variable {X : Cx} {W : WX} {a b e e2 e3 : Expr} {p p2 q pos tpos : Pos} {elts : List Expr} {kk : Nat} {t : TA} {g : GA} {ta tb : TE} {ga gb : GE}
theorem ki_zip3 (K : PySem.W.Frag) (hm : X.mg "zip" = none) (ha : XA X W [e, e2, e3] t g) (hK : X.K = K := by rfl) (hg : Gl X "zip" := by rfl)
    (hs : starEach [e, e2, e3] X.env = (false, eval e X.env) :: starEach [e2, e3] X.env := by rfl) (hpl : (backTo pos (starEach [e2, e3] X.env)).any (·.1) = false := by rfl) : XI X W (.Tuple elts kk tpos) (.Call (.Name "zip" p) [e, e2, e3] [] pos) (iZip3 K t) (giZip3 g) := by
  subst hK
  refine ⟨pi_zip3 hg hm ha.pe hs hpl, fun σ H δ I as M P Q w en s => ?_⟩
  refine ha.im σ H δ I as M P _ w en (Sat.bind s fun d M1 v H1 I1 as1 _ g1 w1 r1 s1 => ?_)
  split at s1
  · obtain ⟨v1, v2, v3, rfl, q1, q2, q3⟩ := r1.three_inv
    split at s1
    · rename_i o1 o2 o3 h1 h2 h3
      obtain ⟨k1, xs⟩ := o1
      obtain ⟨k2, ys⟩ := o2
      obtain ⟨k3, zs⟩ := o3
      obtain ⟨a1, us, rfl, z1, m1⟩ := q1.sq h1
      obtain ⟨a2, vs, rfl, z2, m2⟩ := q2.sq h2
      obtain ⟨a3, ws, rfl, z3, m3⟩ := q3.sq h3
      exact ⟨a1, a2, a3, us, vs, ws, k1, k2, k3, rfl, z1.mono w1.sub, z2.mono w1.sub, z3.mono w1.sub, s1 _ H1 I1 as1 (Gr.refl _ _) w1 (itok_zip3 z1 z2 z3 m1 m2 m3)⟩
    · exact s1.elim
  · exact s1.elim
/-! ### len(set(ints)) -/
def setL (ns : List Int) : List Int := firstMet (fun i => ns.getD i 0) ns.length
theorem pe_lenSetG (hg : Gl X "len") (hm : X.mg "len" = none) (hg2 : Gl X "set") (hm2 : X.mg "set" = none) (ha : PE X a ta) (hc : X.calm = true := by rfl)
    (na : starEach [a] X.env = (false, eval a X.env) :: starEach [] X.env := by rfl) : PE X (.Call (.Name "len" p) [.Call (.Name "set" p2) [a] [] q] [] pos)
      (fun σ H Q => ta σ H fun x H1 => ∃ (l : Addr) (ns : List Int), x = .ref l ∧ SqL X.K H1 l (ns.map V.int) ∧ ns.length ≤ 4000 ∧ Q (.int ((setL ns).length : Nat)) H1) := by
  refine ⟨fun pins s σ H Q I h => ?_⟩
  refine Call_ (ld_blt I hg hm boot_len ?_)
  refine PyProof.Rows.callWith_builtin1 (PyProof.Rows.args_cons ?_ rfl) rfl rfl
  refine Call_ (ld_blt I hg2 hm2 boot_set ?_)
  refine PyProof.Rows.callWith_type1 (PyProof.Rows.args_cons (thn (ha.run pins s σ H _ I h) fun v s1 ⟨x, H1, I1, r1, q1⟩ => PyProof.Rows.args_nil ?_) na) na rfl
  obtain ⟨l, ns, rfl, hq, hl, q1⟩ := q1
  cases r1
  obtain ⟨its, r, pl, hz⟩ := I1.list hq
  have hlen : its.toArray.size = ns.length := by rw [List.size_toArray, ← r.length, List.length_map]
  refine call_set_list (I1.ok.hd hc) pl.isList (by simpa using RZ.intsAre_vals r) (by rw [hlen]; unfold scanBound; omega) fun h' tk hS hk => ?_
  refine PyProof.Rows.args_nil ?_
  rw [hlen, show firstMet (fun i => ns.getD i 0) ns.length = setL ns from rfl] at hS
  have hle : (setL ns).length ≤ ns.length := by
    exact firstMet_length_le (fun i => ns.getD i 0) ns.length
  obtain ⟨o, es, ep, t, ho, hex, hd, _, _, _, hf, hn⟩ := hS
  have I2 : Inv X pins σ H1 { s1 with heap := h', toks := tk } := I1.kept fun b o e => hk b o (Heap.lt_size e) e
  exact call_len_set ho hex hd hf (by rw [hn] <;> omega) ⟨.int (setL ns).length, H1, I2.tok _, ⟨_, by rw [hn]⟩, q1⟩
open Classical in
noncomputable def gLenSet (ga : GE) : GE := fun δ M => (ga δ M).bind fun x M1 => match listOf M1 x with
  | some xs => match intsD xs with
    | some ns => if ns.length ≤ 4000 then .ok (.int ((setL ns).length : Nat)) M1 else .bad
    | none => .bad
  | none => .bad
theorem xe_lenSet (hm : X.mg "len" = none) (hm2 : X.mg "set" = none) (ha : XE X W a ta ga) (hc : X.calm = true) (hg : Gl X "len" := by rfl) (hg2 : Gl X "set" := by rfl)
    (na : starEach [a] X.env = (false, eval a X.env) :: starEach [] X.env := by rfl) : XE X W (.Call (.Name "len" p) [.Call (.Name "set" p2) [a] [] q] [] pos)
      (fun σ H Q => ta σ H fun x H1 => ∃ (l : Addr) (ns : List Int), x = .ref l ∧ SqL X.K H1 l (ns.map V.int) ∧ ns.length ≤ 4000 ∧ Q (.int ((setL ns).length : Nat)) H1) (gLenSet ga) := by
  refine ⟨pe_lenSetG hg hm hg2 hm2 ha.pe hc na, fun σ H δ I as M P Q w en s => ?_⟩
  refine ha.im σ H δ I as M P _ w en (Sat.bind s fun x M1 v H1 I1 as1 _ g1 w1 r1 s1 => ?_)
  split at s1
  · rename_i xs hx
    split at s1
    · rename_i ns hns
      split at s1
      · rename_i hl
        obtain ⟨l, vs, rfl, h1, rr⟩ := r1.list w1 hx
        have e := rr.intsD hns
        subst e
        exact ⟨l, ns, rfl, h1, hl, s1.now w1 (.int _)⟩
      · exact s1.elim
    · exact s1.elim
  · exact s1.elim
/-! ### {} and {0: x}, carried -/
def gDctO (gb : GE) : GE := fun δ M => match gb δ M with
  | .ok _ M1 => .ok .dct M1
  | _ => .bad
theorem xe_dct1O {i2 : Int} {j2} (hb : XE X W b tb gb) : XE X W (.Dict [some (.Constant (.int i2) j2 p2)] [b] pos) (tDisp [(tC (.int i2), tb)]) (gDctO gb) := by
  refine ⟨pe_disp (pps_cons pe_int hb.pe pps_nil) rfl rfl (by simp) (by show 1 ≤ 15; omega), fun σ H δ I as M P Q w en s => ?_⟩
  intro q hq
  obtain ⟨f1, f2, f3⟩ := w.fresh hq
  have w0 := w.newP hq (.dK [])
  unfold gDctO at s
  cases e2 : gb δ M with
  | bad => rw [e2] at s; exact s.elim
  | ex c M2 => rw [e2] at s; exact s.elim
  | ok x2 M2 =>
    rw [e2] at s
    refine hb.im σ _ δ I as M _ _ w0 en ?_
    rw [e2]
    intro y2 H2 I2 as2 g2 w2 r2
    refine ⟨(w2.prv q _ upd_same).1, [(.inl i2, y2)], rfl, by show 1 ≤ 15; omega, ?_⟩
    have w3 := w2.putP upd_same (.dK (mergeK [] [(.inl i2, y2)]))
    rw [upd_upd] at w3
    obtain ⟨w4, g4⟩ := w3.giveI f2
    exact s _ _ _ _ (g2.trans g4) w4 (.dct upd_same)
theorem xe_dct0O : XE X W (.Dict [] [] pos) (fun σ H Q => ∀ d, H d = none → Q (.ref d) (upd H d (.dK []))) (gC .dct) := by
  refine ⟨pe_dnewK, fun σ H δ I as M P Q w en s => ?_⟩
  intro d hd
  obtain ⟨w', g⟩ := w.newI hd (.dK [])
  exact s _ _ _ _ g w' (.dct upd_same)
end
end KM
set_option linter.all false
set_option maxRecDepth 100000
namespace KG
open PySem L2 KM
noncomputable def g__law_pot : GS := gSeq (gSet 1 (gLcG finI (giSeq (gSl (gVar 0) (gNoP) (gP (gC (.int 63))))) (gtName 2) (gYes) (gCall oAbs (gACons (gCall oInt (gACons (gVar 2) (gANil))) (gANil))) [2]))
    (gRet (gLstM (gACons (gVar 1) (gACons (gC (.int 0)) (gACons (gC (.int 0)) (gACons (gOp oAdd (gC (.int 1)) (gCall oLen (gACons (gVar 1) (gANil)))) (gACons (gC (.int 0)) (gANil))))))))
noncomputable def m__law_pot : OC := fnM 3 g__law_pot
noncomputable def g__law_draw : GS := gSeq (gIf (gAnd (gTest (gOp oEq (gOp oIx (gVar 0) (gC (.int 2))) (gC (.int 0)))) (gTest (gOp oLt (gOp oIx (gVar 0) (gC (.int 1))) (gCall oLen (gACons (gOp oIx (gVar 0) (gC (.int 0))) (gANil)))))) (gSeq (gSet 2 (gOp oIx (gOp oIx (gVar 0) (gC (.int 0))) (gOp oIx (gVar 0) (gC (.int 1)))))
    (gSeq (gAsg (gOp oAdd (gOp oIx (gVar 0) (gC (.int 1))) (gC (.int 1))) (gtSub (gVar 0) (gC (.int 1)) oSetL))
    (gSeq (gAsg (gOp oMod (gCall oInt (gACons (gOp oAdd (gOp oAdd (gOp oMul (gOp oIx (gVar 0) (gC (.int 3))) (gC (.int 69621))) (gVar 2)) (gC (.int 11))) (gANil))) (gC (.int 2147483629))) (gtSub (gVar 0) (gC (.int 3)) oSetL))
    (gIf (gTest (gOp oGe (gVar 2) (gOp oPow (gC (.int 10)) (gC (.int 18))))) (gAsg (gVar 2) (gtSub (gVar 0) (gC (.int 2)) oSetL)) (gNext))))) (gNext))
    (gSeq (gIf (gTest (gOp oGt (gOp oIx (gVar 0) (gC (.int 2))) (gC (.int 0)))) (gSeq (gSet 3 (gOp oMod (gCall oInt (gACons (gOp oIx (gVar 0) (gC (.int 2))) (gANil))) (gVar 1)))
    (gSeq (gAsg (gOp oDiv (gOp oIx (gVar 0) (gC (.int 2))) (gVar 1)) (gtSub (gVar 0) (gC (.int 2)) oSetL))
    (gRet (gVar 3)))) (gNext))
    (gSeq (gAsg (gOp oAdd (gOp oIx (gVar 0) (gC (.int 4))) (gC (.int 1))) (gtSub (gVar 0) (gC (.int 4)) oSetL))
    (gSeq (gSet 4 (gOp oMod (gCall oInt (gACons (gOp oMul (gCall oInt (gACons (gOp oAdd (gOp oIx (gVar 0) (gC (.int 3))) (gOp oMul (gC (.int 7919)) (gOp oIx (gVar 0) (gC (.int 4))))) (gANil))) (gC (.int 48271))) (gANil))) (gC (.int 2147483647))))
    (gSeq (gSet 4 (gOp oMod (gCall oInt (gACons (gOp oMul (gVar 4) (gOp oAdd (gOp oDiv (gVar 4) (gC (.int 1009))) (gC (.int 69621)))) (gANil))) (gC (.int 2147483647))))
    (gSeq (gSet 4 (gOp oMod (gCall oInt (gACons (gOp oMul (gVar 4) (gOp oAdd (gOp oDiv (gVar 4) (gC (.int 2003))) (gC (.int 40692)))) (gANil))) (gC (.int 2147483399))))
    (gRet (gOp oMod (gCall oInt (gACons (gOp oDiv (gVar 4) (gC (.int 16))) (gANil))) (gVar 1))))))))
noncomputable def m__law_draw : OC := cutM (fnM 5 g__law_draw)
noncomputable def g__law_any : GS := gRet (gOp oIx (gVar 1) (gCall m__law_draw (gACons (gVar 0) (gACons (gCall oLen (gACons (gVar 1) (gANil))) (gANil)))))
noncomputable def m__law_any : OC := cutM (fnM 2 g__law_any)
noncomputable def g__law_adviser : GS := gSeq (gSet 3 (gOp oAdd (gC (.int 1)) (gCall m__law_draw (gACons (gVar 0) (gACons (gVar 2) (gANil))))))
    (gSeq (gSet 4 (gLstM (gANil)))
    (gSeq (gFor (giRng1 (gACons (gVar 3) (gANil))) (gtName 5) (gDrop (gBM oAppend (gVar 4) (gACons (gETup (gACons (gCall m__law_draw (gACons (gVar 0) (gACons (gVar 1) (gANil)))) (gACons (gCall oTuple (gACons (gLcG finI (giRng1 (gACons (gVar 1) (gANil))) (gtName 6) (gYes) (gCall m__law_draw (gACons (gVar 0) (gACons (gVar 3) (gANil)))) [6]) (gANil))) (gANil)))) (gANil)))))
    (gRet (gETup (gACons (gVar 1) (gACons (gCall oTuple (gACons (gVar 4) (gANil))) (gANil)))))))
noncomputable def m__law_adviser : OC := cutM (fnM 7 g__law_adviser)
noncomputable def g__law_circle : GS := gSeq (gSet 4 (gCall m__law_any (gACons (gVar 0) (gACons (gVar 1) (gANil)))))
    (gSeq (gSet 5 (gLcG finM (giRng1 (gACons (gCall m__law_any (gACons (gVar 0) (gACons (gVar 2) (gANil)))) (gANil))) (gtName 6) (gYes) (gCall m__law_adviser (gACons (gVar 0) (gACons (gVar 4) (gACons (gVar 3) (gANil))))) [6]))
    (gSeq (gIf (gAnd (gTest (gOp oGt (gCall oLen (gACons (gVar 5) (gANil))) (gC (.int 1)))) (gTest (gOp oEq (gCall m__law_draw (gACons (gVar 0) (gACons (gC (.int 6)) (gANil)))) (gC (.int 0))))) (gAsg (gOp oIx (gVar 5) (gC (.int 0))) (gtSub (gVar 5) (gUn oNeg (gC (.int 1))) oSetL)) (gNext))
    (gRet (gCall oTuple (gACons (gVar 5) (gANil))))))
noncomputable def m__law_circle : OC := cutM (fnM 7 g__law_circle)
noncomputable def g__law_deep : GS := gSeq (gSet 1 (gCall m__law_any (gACons (gVar 0) (gACons (gLst (gACons (gC .non) (gACons (gETup (gANil)) (gACons (gC (.int 0)) (gACons (gC (.bl true)) (gANil)))))) (gANil)))))
    (gSeq (gFor (giRng1 (gACons (gOp oAdd (gC (.int 8)) (gCall m__law_draw (gACons (gVar 0) (gACons (gC (.int 12)) (gANil))))) (gANil))) (gtName 2) (gSet 1 (gCall m__law_any (gACons (gVar 0) (gACons (gLst (gACons (gLst (gACons (gVar 1) (gANil))) (gACons (gETup (gACons (gVar 1) (gANil))) (gACons (gDctO (gVar 1)) (gANil))))) (gANil))))))
    (gRet (gVar 1)))
noncomputable def m__law_deep : OC := cutM (fnM 3 g__law_deep)
noncomputable def g__law_is (r : OC) : GS := gSeq (gIf (gTru (gUn (oIsi2 "tuple" "list") (gVar 1))) (gSeq (gIf (gOr (gTest (gOp oNe (gUn (oIsi "tuple") (gVar 0)) (gUn (oIsi "tuple") (gVar 1)))) (gTest (gOp oNe (gUn (oIsi "list") (gVar 0)) (gUn (oIsi "list") (gVar 1))))) (gRet (gC (.bl false))) (gNext))
    (gRet (gAndV (gOp oEq (gCall oLen (gACons (gVar 0) (gANil))) (gCall oLen (gACons (gVar 1) (gANil)))) (gCall oAll (gACons (gLcG finI (giRng1 (gACons (gCall oLen (gACons (gVar 1) (gANil))) (gANil))) (gtName 2) (gYes) (gCall r (gACons (gOp oIx (gVar 0) (gVar 2)) (gACons (gOp oIx (gVar 1) (gVar 2)) (gANil)))) [2]) (gANil)))))) (gNext))
    (gRet (gAndV (gOp oEq (gUn (oIsi "bool") (gVar 0)) (gUn (oIsi "bool") (gVar 1))) (gOp oEq (gVar 0) (gVar 1))))
noncomputable def f__law_is : Nat → OC
  | 0 => fun _ _ => .bad
  | j + 1 => cutM (fnM 3 (g__law_is (f__law_is j)))
noncomputable def m__law_is : OC := f__law_is 4
noncomputable def g_nothing_heard : GS := gRet (gETup (gACons (gOp oMul (gETup (gACons (gC (.int 0)) (gANil))) (gCall oLen (gACons (gVar 0) (gANil)))) (gACons (gOp oMul (gETup (gACons (gC (.int 0)) (gANil))) (gCall oLen (gACons (gVar 0) (gANil)))) (gANil))))
noncomputable def m_nothing_heard : OC := cutM (fnM 1 g_nothing_heard)
noncomputable def g_is_whole : GS := gRet (gAndV (gUn (oIsi "int") (gVar 0)) (gNotV (gUn (oIsi "bool") (gVar 0))))
noncomputable def m_is_whole : OC := cutM (fnM 1 g_is_whole)
noncomputable def g_is_size : GS := gRet (gAndV (gCall m_is_whole (gACons (gVar 0) (gANil))) (gChain oLe oLe (gC (.int 2)) (gVar 0) (gC (.int 4))))
noncomputable def m_is_size : OC := cutM (fnM 1 g_is_size)
noncomputable def g_is_below : GS := gRet (gAndV (gCall m_is_whole (gACons (gVar 0) (gANil))) (gChain oLe oLt (gC (.int 0)) (gVar 0) (gVar 1)))
noncomputable def m_is_below : OC := cutM (fnM 2 g_is_below)
noncomputable def g_are_below : GS := gSeq (gIf (gOr (gNot (gTru (gUn (oIsi "tuple") (gVar 0)))) (gTest (gOp oNe (gCall oLen (gACons (gVar 0) (gANil))) (gVar 1)))) (gRet (gC (.bl false))) (gNext))
    (gRet (gCall oAll (gACons (gLcG finI (giSeq (gVar 0)) (gtName 3) (gYes) (gCall m_is_below (gACons (gVar 3) (gACons (gVar 2) (gANil)))) [3]) (gANil))))
noncomputable def m_are_below : OC := cutM (fnM 4 g_are_below)
noncomputable def g_is_advice : GS := gSeq (gIf (gOr (gNot (gTru (gUn (oIsi "tuple") (gVar 0)))) (gTest (gOp oNe (gCall oLen (gACons (gVar 0) (gANil))) (gC (.int 2))))) (gRet (gC (.bl false))) (gNext))
    (gRet (gAndV (gCall m_is_below (gACons (gOp oIx (gVar 0) (gC (.int 0))) (gACons (gVar 1) (gANil)))) (gCall m_are_below (gACons (gOp oIx (gVar 0) (gC (.int 1))) (gACons (gVar 1) (gACons (gVar 2) (gANil)))))))
noncomputable def m_is_advice : OC := cutM (fnM 3 g_is_advice)
noncomputable def g_is_ruled : GS := gSeq (gIf (gOr (gNot (gTru (gUn (oIsi "tuple") (gVar 0)))) (gTest (gOp oNe (gCall oLen (gACons (gVar 0) (gANil))) (gC (.int 2))))) (gRet (gC (.bl false))) (gNext))
    (gSeq (gAsg (gVar 0) (gtTup 2 (gtCons (gtName 3) (gtCons (gtName 4) (gtNil)))))
    (gSeq (gIf (gOr (gNot (gTru (gCall m_is_size (gACons (gVar 3) (gANil))))) (gNot (gTru (gUn (oIsi "tuple") (gVar 4))))) (gRet (gC (.bl false))) (gNext))
    (gSeq (gSet 5 (gCall oLen (gACons (gVar 4) (gANil))))
    (gRet (gAndV (gChain oLe oLe (gC (.int 1)) (gVar 5) (gVar 1)) (gCall oAll (gACons (gLcG finI (giSeq (gVar 4)) (gtName 6) (gYes) (gCallL 2 [("is_advice", m_is_advice)] (gACons (gVar 6) (gACons (gVar 3) (gACons (gVar 5) (gANil))))) [6]) (gANil))))))))
noncomputable def m_is_ruled : OC := cutM (fnM 7 g_is_ruled)
noncomputable def g_is_adviser : GS := gRet (gCall m_is_ruled (gACons (gVar 0) (gACons (gC (.int 6)) (gACons (gC (.fn "is_advice")) (gANil)))))
noncomputable def m_is_adviser : OC := cutM (fnM 1 g_is_adviser)
noncomputable def g_is_circle : GS := gSeq (gIf (gOr (gNot (gTru (gUn (oIsi "tuple") (gVar 0)))) (gNot (gTest (gChain oLe oLe (gC (.int 1)) (gCall oLen (gACons (gVar 0) (gANil))) (gC (.int 4)))))) (gRet (gC (.bl false))) (gNext))
    (gRet (gAndV (gCall oAll (gACons (gLcG finI (giSeq (gVar 0)) (gtName 1) (gYes) (gCall m_is_adviser (gACons (gVar 1) (gANil))) [1]) (gANil))) (gCall oAll (gACons (gLcG finI (giSeq (gVar 0)) (gtName 1) (gYes) (gOp oEq (gOp oIx (gVar 1) (gC (.int 0))) (gOp oIx (gOp oIx (gVar 0) (gC (.int 0))) (gC (.int 0)))) [1]) (gANil)))))
noncomputable def m_is_circle : OC := cutM (fnM 2 g_is_circle)
noncomputable def g_is_row : GS := gSeq (gIf (gNot (gTru (gCall m_is_size (gACons (gVar 0) (gANil))))) (gRaise "NoSize") (gNext))
    (gSeq (gIf (gOr (gNot (gTru (gUn (oIsi "tuple") (gVar 1)))) (gTest (gOp oGt (gCall oLen (gACons (gVar 1) (gANil))) (gC (.int 400))))) (gRet (gC (.bl false))) (gNext))
    (gRet (gCall oAll (gACons (gLcG finI (giSeq (gVar 1)) (gtName 2) (gYes) (gCall m_is_below (gACons (gVar 2) (gACons (gVar 0) (gANil)))) [2]) (gANil)))))
noncomputable def m_is_row : OC := cutM (fnM 3 g_is_row)
noncomputable def g_heard : GS := gSeq (gSet 4 (gLstM (gANil)))
    (gSeq (gSet 5 (gLstM (gANil)))
    (gSeq (gFor (giZip3 (gACons (gVar 0) (gACons (gVar 1) (gACons (gVar 2) (gANil))))) (gtTup 3 (gtCons (gtTup 2 (gtCons (gtName 6) (gtCons (gtName 7) (gtNil)))) (gtCons (gtName 8) (gtCons (gtName 9) (gtNil))))) (gSeq (gAsg (gOp oIx (gVar 7) (gVar 8)) (gtTup 2 (gtCons (gtName 10) (gtCons (gtName 11) (gtNil)))))
    (gSeq (gDrop (gBM oAppend (gVar 4) (gACons (gOp oIx (gVar 11) (gVar 3)) (gANil))))
    (gDrop (gBM oAppend (gVar 5) (gACons (gIfE (gTest (gOp oEq (gVar 10) (gVar 3))) (gVar 9) (gOp oAdd (gVar 9) (gC (.int 1)))) (gANil)))))))
    (gRet (gETup (gACons (gCall oTuple (gACons (gVar 4) (gANil))) (gACons (gCall oTuple (gACons (gVar 5) (gANil))) (gANil)))))))
noncomputable def m_heard : OC := cutM (fnM 12 g_heard)
noncomputable def g_adviser_misses : GS := gSeq (gIf (gNot (gTru (gCall m_is_circle (gACons (gVar 0) (gANil))))) (gRaise "NoCircle") (gNext))
    (gSeq (gIf (gNot (gTru (gCall m_is_row (gACons (gOp oIx (gOp oIx (gVar 0) (gC (.int 0))) (gC (.int 0))) (gACons (gVar 1) (gANil)))))) (gRaise "NoRow") (gNext))
    (gSeq (gAsg (gCall m_nothing_heard (gACons (gVar 0) (gANil))) (gtTup 2 (gtCons (gtName 2) (gtCons (gtName 3) (gtNil)))))
    (gSeq (gFor (giSeq (gVar 1)) (gtName 4) (gAsg (gCall m_heard (gACons (gVar 0) (gACons (gVar 2) (gACons (gVar 3) (gACons (gVar 4) (gANil)))))) (gtTup 2 (gtCons (gtName 2) (gtCons (gtName 3) (gtNil))))))
    (gRet (gVar 3)))))
noncomputable def m_adviser_misses : OC := cutM (fnM 5 g_adviser_misses)
noncomputable def g__law_is_int : GS := gRet (gAndV (gUn (oIsi "int") (gVar 0)) (gAndV (gNotV (gUn (oIsi "bool") (gVar 0))) (gChain oLe oLe (gVar 1) (gVar 0) (gVar 2))))
noncomputable def m__law_is_int : OC := cutM (fnM 3 g__law_is_int)
noncomputable def g__law_missed : GS := gSeq (gAsg (gETup (gACons (gC (.int 0)) (gACons (gC (.int 0)) (gANil)))) (gtTup 2 (gtCons (gtName 2) (gtCons (gtName 3) (gtNil)))))
    (gSeq (gFor (giSeq (gVar 1)) (gtName 4) (gSeq (gAsg (gOp oIx (gOp oIx (gVar 0) (gC (.int 1))) (gVar 2)) (gtTup 2 (gtCons (gtName 5) (gtCons (gtName 6) (gtNil)))))
    (gPar 3 2 (gOp oAdd (gVar 3) (gCall oInt (gACons (gOp oNe (gVar 5) (gVar 4)) (gANil)))) (gOp oIx (gVar 6) (gVar 4)))))
    (gRet (gVar 3)))
noncomputable def m__law_missed : OC := cutM (fnM 7 g__law_missed)
end KG
set_option linter.all false
set_option maxRecDepth 100000
namespace K44
open PySem L2 KM
abbrev csR : List Str := ["NoSize", "NoCircle", "NoRow"]
noncomputable def g__law_bent : GS := gSeq (gAsg (gVar 1) (gtTup 2 (gtCons (gtName 2) (gtCons (gtName 3) (gtNil)))))
    (gSeq (gSet 4 (gCall KG.m__law_draw (gACons (gVar 0) (gACons (gCall oLen (gACons (gVar 3) (gANil))) (gANil)))))
    (gSeq (gAsg (gOp oIx (gVar 3) (gVar 4)) (gtTup 2 (gtCons (gtName 5) (gtCons (gtName 6) (gtNil)))))
    (gSeq (gPar 7 8 (gCall KG.m__law_draw (gACons (gVar 0) (gACons (gVar 2) (gANil)))) (gCall KG.m__law_any (gACons (gVar 0) (gACons (gLst (gACons (gCall oLen (gACons (gVar 3) (gANil))) (gACons (gVar 2) (gACons (gUn oNeg (gC (.int 1))) (gACons (gC (.bl true)) (gACons (gC (.bl false)) (gACons (gC .non) (gACons (gC (.str (PySem.Str.ofString "0"))) (gACons (gETup (gACons (gC (.int 0)) (gANil))) (gACons (gC (.int 0)) (gACons (gCall KG.m__law_deep (gACons (gVar 0) (gANil))) (gANil)))))))))))) (gANil)))))
    (gSeq (gSet 9 (gCall KG.m__law_any (gACons (gVar 0) (gACons (gOp oAdd (gOp oAdd (gOp oMul (gLst (gACons (gETup (gACons (gVar 5) (gACons (gOp oAdd (gOp oAdd (gSl (gVar 6) (gNoP) (gP (gVar 7))) (gETup (gACons (gVar 8) (gANil)))) (gSl (gVar 6) (gP (gOp oAdd (gVar 7) (gC (.int 1)))) (gNoP))) (gANil)))) (gANil))) (gC (.int 3))) (gOp oMul (gLst (gACons (gETup (gACons (gVar 8) (gACons (gVar 6) (gANil)))) (gANil))) (gC (.int 3)))) (gLst (gACons (gETup (gACons (gVar 5) (gACons (gCall oList (gACons (gVar 6) (gANil))) (gANil)))) (gACons (gETup (gACons (gVar 5) (gACons (gSl (gVar 6) (gP (gC (.int 1))) (gNoP)) (gANil)))) (gANil))))) (gANil)))))
    (gSeq (gSet 9 (gCall KG.m__law_any (gACons (gVar 0) (gACons (gLst (gACons (gVar 9) (gACons (gVar 9) (gACons (gVar 9) (gACons (gETup (gACons (gVar 5) (gACons (gOp oAdd (gVar 6) (gETup (gACons (gC (.int 0)) (gANil)))) (gANil)))) (gACons (gETup (gACons (gVar 5) (gANil))) (gACons (gLst (gACons (gVar 5) (gACons (gVar 6) (gANil)))) (gACons (gETup (gACons (gVar 6) (gACons (gVar 5) (gANil)))) (gACons (gETup (gACons (gVar 5) (gACons (gVar 6) (gACons (gC (.int 0)) (gANil))))) (gACons (gCall KG.m__law_deep (gACons (gVar 0) (gANil))) (gANil))))))))))) (gANil)))))
    (gSeq (gSet 10 (gOp oAdd (gOp oMul (gLst (gACons (gETup (gACons (gVar 2) (gACons (gOp oAdd (gOp oAdd (gSl (gVar 3) (gNoP) (gP (gVar 4))) (gETup (gACons (gVar 9) (gANil)))) (gSl (gVar 3) (gP (gOp oAdd (gVar 4) (gC (.int 1)))) (gNoP))) (gANil)))) (gANil))) (gC (.int 9))) (gLst (gACons (gETup (gACons (gOp oAdd (gVar 2) (gC (.int 1))) (gACons (gVar 3) (gANil)))) (gACons (gETup (gACons (gC (.bl true)) (gACons (gVar 3) (gANil)))) (gACons (gETup (gACons (gVar 2) (gACons (gETup (gANil)) (gANil)))) (gACons (gETup (gACons (gVar 2) (gACons (gCall oList (gACons (gVar 3) (gANil))) (gANil)))) (gACons (gETup (gACons (gC (.int 5)) (gACons (gVar 3) (gANil)))) (gANil)))))))))
    (gRet (gCall KG.m__law_any (gACons (gVar 0) (gACons (gOp oAdd (gVar 10) (gLst (gACons (gCall oList (gACons (gVar 1) (gANil))) (gACons (gETup (gACons (gVar 2) (gANil))) (gACons (gETup (gACons (gVar 3) (gACons (gVar 2) (gANil)))) (gACons (gC .non) (gACons (gETup (gACons (gVar 2) (gACons (gOp oMul (gVar 3) (gC (.int 7))) (gANil)))) (gACons (gOp oAdd (gVar 1) (gVar 1)) (gACons (gCall KG.m__law_deep (gACons (gVar 0) (gANil))) (gANil)))))))))) (gANil)))))))))))
noncomputable def m__law_bent : OC := cutM (fnM 11 g__law_bent)
noncomputable def g__law_bent_circle : GS := gSeq (gSet 2 (gCall KG.m__law_draw (gACons (gVar 0) (gACons (gCall oLen (gACons (gVar 1) (gANil))) (gANil)))))
    (gSeq (gSet 3 (gCall KG.m__law_any (gACons (gVar 0) (gACons (gLst (gACons (gCall m__law_bent (gACons (gVar 0) (gACons (gOp oIx (gVar 1) (gVar 2)) (gANil)))) (gACons (gCall m__law_bent (gACons (gVar 0) (gACons (gOp oIx (gVar 1) (gVar 2)) (gANil)))) (gACons (gCall KG.m__law_adviser (gACons (gVar 0) (gACons (gOp oAdd (gC (.int 2)) (gCall KG.m__law_draw (gACons (gVar 0) (gACons (gC (.int 3)) (gANil))))) (gACons (gC (.int 6)) (gANil))))) (gACons (gC .non) (gANil)))))) (gANil)))))
    (gSeq (gSet 4 (gOp oAdd (gOp oAdd (gSl (gVar 1) (gNoP) (gP (gVar 2))) (gETup (gACons (gVar 3) (gANil)))) (gSl (gVar 1) (gP (gOp oAdd (gVar 2) (gC (.int 1)))) (gNoP))))
    (gRet (gCall KG.m__law_any (gACons (gVar 0) (gACons (gOp oAdd (gOp oMul (gLst (gACons (gVar 4) (gANil))) (gC (.int 6))) (gLst (gACons (gCall oList (gACons (gVar 1) (gANil))) (gACons (gETup (gANil)) (gACons (gOp oAdd (gVar 1) (gVar 1)) (gACons (gOp oMul (gVar 1) (gC (.int 5))) (gACons (gC .non) (gACons (gC .dct) (gACons (gOp oIx (gVar 1) (gC (.int 0))) (gACons (gCall KG.m__law_deep (gACons (gVar 0) (gANil))) (gANil))))))))))) (gANil)))))))
noncomputable def m__law_bent_circle : OC := cutM (fnM 5 g__law_bent_circle)
noncomputable def g__law_judged : GS := gSeq (gIf (gOr (gNot (gTru (gUn (oIsi "tuple") (gVar 0)))) (gOr (gTest (gOp oNe (gCall oLen (gACons (gVar 0) (gANil))) (gC (.int 2)))) (gNot (gTru (gCall KG.m__law_is_int (gACons (gOp oIx (gVar 0) (gC (.int 0))) (gACons (gC (.int 2)) (gACons (gC (.int 4)) (gANil))))))))) (gRet (gC (.bl false))) (gNext))
    (gSeq (gIf (gOr (gNot (gTru (gUn (oIsi "tuple") (gOp oIx (gVar 0) (gC (.int 1)))))) (gNot (gTest (gChain oLe oLe (gC (.int 1)) (gCall oLen (gACons (gOp oIx (gVar 0) (gC (.int 1))) (gANil))) (gC (.int 6)))))) (gRet (gC (.bl false))) (gNext))
    (gSeq (gFor (giSeq (gOp oIx (gVar 0) (gC (.int 1)))) (gtName 1) (gSeq (gIf (gOr (gNot (gTru (gUn (oIsi "tuple") (gVar 1)))) (gOr (gTest (gOp oNe (gCall oLen (gACons (gVar 1) (gANil))) (gC (.int 2)))) (gNot (gTru (gCall KG.m__law_is_int (gACons (gOp oIx (gVar 1) (gC (.int 0))) (gACons (gC (.int 0)) (gACons (gOp oSub (gOp oIx (gVar 0) (gC (.int 0))) (gC (.int 1))) (gANil))))))))) (gRet (gC (.bl false))) (gNext))
    (gSeq (gIf (gOr (gNot (gTru (gUn (oIsi "tuple") (gOp oIx (gVar 1) (gC (.int 1)))))) (gTest (gOp oNe (gCall oLen (gACons (gOp oIx (gVar 1) (gC (.int 1))) (gANil))) (gOp oIx (gVar 0) (gC (.int 0)))))) (gRet (gC (.bl false))) (gNext))
    (gIf (gNot (gTru (gCall oAll (gACons (gLcG finI (giSeq (gOp oIx (gVar 1) (gC (.int 1)))) (gtName 2) (gYes) (gCall KG.m__law_is_int (gACons (gVar 2) (gACons (gC (.int 0)) (gACons (gOp oSub (gCall oLen (gACons (gOp oIx (gVar 0) (gC (.int 1))) (gANil))) (gC (.int 1))) (gANil))))) [2]) (gANil))))) (gRet (gC (.bl false))) (gNext)))))
    (gRet (gC (.bl true)))))
noncomputable def m__law_judged : OC := cutM (fnM 3 g__law_judged)
noncomputable def g__law_circle_judged : GS := gSeq (gIf (gOr (gNot (gTru (gUn (oIsi "tuple") (gVar 0)))) (gOr (gNot (gTest (gChain oLe oLe (gC (.int 1)) (gCall oLen (gACons (gVar 0) (gANil))) (gC (.int 4))))) (gNot (gTru (gCall oAll (gACons (gLcG finI (giSeq (gVar 0)) (gtName 1) (gYes) (gCall m__law_judged (gACons (gVar 1) (gANil))) [1]) (gANil))))))) (gRet (gC (.bl false))) (gNext))
    (gRet (gOp oEq (gLenSet (gLcG finI (giSeq (gVar 0)) (gtName 1) (gYes) (gOp oIx (gVar 1) (gC (.int 0))) [1])) (gC (.int 1))))
noncomputable def m__law_circle_judged : OC := cutM (fnM 2 g__law_circle_judged)
noncomputable def g_law : GS := gSeq (gSet 1 (gCall KG.m__law_pot (gACons (gVar 0) (gANil))))
    (gSeq (gFor (giRng1 (gACons (gC (.int 6)) (gANil))) (gtName 2) (gSeq (gSet 3 (gCall KG.m__law_circle (gACons (gVar 1) (gACons (gLst (gACons (gC (.int 2)) (gACons (gC (.int 3)) (gACons (gC (.int 4)) (gANil))))) (gACons (gLst (gACons (gC (.int 1)) (gACons (gC (.int 2)) (gACons (gC (.int 3)) (gACons (gC (.int 4)) (gANil)))))) (gACons (gC (.int 6)) (gANil)))))))
    (gSeq (gSet 4 (gCall m__law_bent (gACons (gVar 1) (gACons (gCall KG.m__law_any (gACons (gVar 1) (gACons (gVar 3) (gANil)))) (gANil)))))
    (gSeq (gFor (giSeq (gOp oAdd (gVar 3) (gETup (gACons (gVar 4) (gANil))))) (gtName 5) (gIf (gNot (gTru (gCall KG.m__law_is (gACons (gCall KG.m_is_adviser (gACons (gVar 5) (gANil))) (gACons (gCall m__law_judged (gACons (gVar 5) (gANil))) (gANil)))))) (gRet (gC (.bl false))) (gNext)))
    (gSeq (gFor (giSeq (gETup (gACons (gVar 3) (gACons (gCall m__law_bent_circle (gACons (gVar 1) (gACons (gVar 3) (gANil)))) (gACons (gCall m__law_bent_circle (gACons (gVar 1) (gACons (gVar 3) (gANil)))) (gANil)))))) (gtName 5) (gIf (gNot (gTru (gCall KG.m__law_is (gACons (gCall KG.m_is_circle (gACons (gVar 5) (gANil))) (gACons (gCall m__law_circle_judged (gACons (gVar 5) (gANil))) (gANil)))))) (gRet (gC (.bl false))) (gNext)))
    (gSeq (gSet 6 (gCall KG.m__law_any (gACons (gVar 1) (gACons (gLst (gACons (gC (.int 0)) (gACons (gC (.int 1)) (gACons (gC (.int 5)) (gACons (gC (.int 30)) (gACons (gIfE (gTest (gOp oEq (gCall KG.m__law_draw (gACons (gVar 1) (gACons (gC (.int 4)) (gANil)))) (gC (.int 0)))) (gC (.int 400)) (gC (.int 9))) (gANil))))))) (gANil)))))
    (gSeq (gSet 7 (gCall oTuple (gACons (gLcG finI (giRng1 (gACons (gVar 6) (gANil))) (gtName 8) (gYes) (gCall KG.m__law_draw (gACons (gVar 1) (gACons (gOp oIx (gOp oIx (gVar 3) (gC (.int 0))) (gC (.int 0))) (gANil)))) [8]) (gANil))))
    (gIf (gNot (gTru (gCall KG.m__law_is (gACons (gCall KG.m_adviser_misses (gACons (gVar 3) (gACons (gVar 7) (gANil)))) (gACons (gCall oTuple (gACons (gLcG finI (giSeq (gVar 3)) (gtName 9) (gYes) (gCall KG.m__law_missed (gACons (gVar 9) (gACons (gVar 7) (gANil)))) [9]) (gANil))) (gANil)))))) (gRet (gC (.bl false))) (gNext)))))))))
    (gRet (gC (.bl true))))
noncomputable def m_law : OC := fnM 10 g_law
end K44
set_option Elab.async false
set_option linter.all false
set_option maxRecDepth 100000
set_option maxHeartbeats 4000000
namespace K44
open PySem PySem.Spec PyProof.Rows L2 KM
def topS (i : Nat) : Stmt := PySem.Challenge.pw_keptmisses_k44_advisers_and_circles_judg.main.body.getD i (.Pass ⟨0, 0, 0, 0⟩)
structure Txt (K : PySem.W.Frag) (mg : Str → Option Value) : Prop where
  z_abs : mg "abs" = none
  z_all : mg "all" = none
  z_bool : mg "bool" = none
  z_int : mg "int" = none
  z_isinstance : mg "isinstance" = none
  z_len : mg "len" = none
  z_list : mg "list" = none
  z_range : mg "range" = none
  z_set : mg "set" = none
  z_tuple : mg "tuple" = none
  z_zip : mg "zip" = none
  c_LEAST_SIZE : GlobC K mg "LEAST_SIZE" (.int 2)
  c_MOST_ADVISERS : GlobC K mg "MOST_ADVISERS" (.int 4)
  c_MOST_ADVISER_STATES : GlobC K mg "MOST_ADVISER_STATES" (.int 6)
  c_MOST_LETTERS : GlobC K mg "MOST_LETTERS" (.int 400)
  c_MOST_SIZE : GlobC K mg "MOST_SIZE" (.int 4)
  x_NoSize : ExcAt K mg "NoSize"
  x_NoCircle : ExcAt K mg "NoCircle"
  x_NoRow : ExcAt K mg "NoRow"
section
variable {P : Program} {w : World} {K : PySem.W.Frag} {mg : Str → Option Value} {base : Heap}
abbrev s__law_pot : Stmt := topS 26
abbrev n__law_pot : List Str := ["_law_script", "_law_cells", "_law_cell"]
theorem sc__law_pot : FnScope ["_law_script", "_law_cells", "_law_cell"] ["_law_script"] (defScope s__law_pot) := ⟨rfl, rfl, rfl, by decide +kernel, rfl, by decide +kernel, by decide +kernel⟩
theorem ok__law_pot {f : Addr} {fd : FuncData} (F : Fun K "_law_pot" "_law_pot" s__law_pot f fd) (T : Txt K mg)  :
    FnOk P w K mg base (L2.CX P w) 1 f fd ["_law_script"] (spM K mg 1 KG.m__law_pot) := by
  have z_abs := T.z_abs
  have z_int := T.z_int
  have z_len := T.z_len
  have nd := sc__law_pot.nd
  refine (fn_okM F sc__law_pot fun cdv A outer s H E hr tk po => ?_)
  exact ⟨_, xss_cons (xs_setLc 1 [("_law_cell", 2)] fin_I rfl nd (ki_seq K (ke_slice K (xe_v 0) (xo_none) (xo_some (xe_int)))) (blkOk_by (N := n__law_pot) (sc := defScope s__law_pot) (by decide +kernel)) (fun _ _ _ _ _ => xg_name 2 nd) (fun _ _ _ _ _ => xts_nil) (fun _ _ _ _ _ => xe_callB call_abs opc_abs z_abs (by decide +kernel) (xa_cons (xe_callTy call_int1 opc_int z_int (by decide +kernel) (xa_cons (xe_v 2) (xa_nil))) (xa_nil))))
    (xss_one (xs_ret (xe_lstM (xa_cons (xe_v 1) (xa_cons (xe_int) (xa_cons (xe_int) (xa_cons (xe_op (r := rAddG K) op_addG opd_add (xe_int) (xe_callB (r := rLenC K) call_len_seq opc_len z_len PySem.boot_len (xa_cons (xe_v 1) (xa_nil)))) (xa_cons (xe_int) (xa_nil)))))))))⟩
abbrev s__law_draw : Stmt := topS 27
abbrev n__law_draw : List Str := ["_law_pot_here", "_law_many", "_law_cell", "_law_digit", "_law_number"]
theorem sc__law_draw : FnScope ["_law_pot_here", "_law_many", "_law_cell", "_law_digit", "_law_number"] ["_law_pot_here", "_law_many"] (defScope s__law_draw) := ⟨rfl, rfl, rfl, by decide +kernel, rfl, by decide +kernel, by decide +kernel⟩
theorem ok__law_draw {f : Addr} {fd : FuncData} (F : Fun K "_law_draw" "_law_draw" s__law_draw f fd) (T : Txt K mg)  :
    FnOk P w K mg base (L2.CX P w) 1 f fd ["_law_pot_here", "_law_many"] (spM K mg 2 KG.m__law_draw) := by
  have z_int := T.z_int
  have z_len := T.z_len
  have nd := sc__law_draw.nd
  refine FnOk.cut (fn_okM F sc__law_draw fun cdv A outer s H E hr tk po => ?_)
  exact ⟨_, xss_cons (xs_if (xw_pt (xw_and (xt_cmp (r := rEqD K) (op_eqD hr.units) opd_eq (xe_ix (r := rIx K) ix_seq opd_ix (xe_v 0) (xe_int)) (xe_int)) (xw_and1 (xt_cmp op_lt opd_lt (xe_ix (r := rIx K) ix_seq opd_ix (xe_v 0) (xe_int)) (xe_callB (r := rLenC K) call_len_seq opc_len z_len PySem.boot_len (xa_cons (xe_ix (r := rIx K) ix_seq opd_ix (xe_v 0) (xe_int)) (xa_nil))))))) (xss_cons (xs_set 2 nd (xe_ix (r := rIx K) ix_seq opd_ix (xe_ix (r := rIx K) ix_seq opd_ix (xe_v 0) (xe_int)) (xe_ix (r := rIx K) ix_seq opd_ix (xe_v 0) (xe_int))))
    (xss_cons (xs_asg (xe_op (r := rAddG K) op_addG opd_add (xe_ix (r := rIx K) ix_seq opd_ix (xe_v 0) (xe_int)) (xe_int)) (xg_sub set_list setd_list (xe_v 0) (xe_int)))
    (xss_cons (xs_asg (xe_op op_mod opd_mod (xe_callTy call_int1 opc_int z_int (by decide +kernel) (xa_cons (xe_op (r := rAddG K) op_addG opd_add (xe_op (r := rAddG K) op_addG opd_add (xe_op (r := rMulA K) op_mulA opd_mul (xe_ix (r := rIx K) ix_seq opd_ix (xe_v 0) (xe_int)) (xe_int)) (xe_v 2)) (xe_int)) (xa_nil))) (xe_int)) (xg_sub set_list setd_list (xe_v 0) (xe_int)))
    (xss_one (xs_if (xt_cmp op_ge opd_ge (xe_v 2) (xe_op op_pow opd_pow (xe_int) (xe_int))) (xss_one (xs_asg (xe_v 2) (xg_sub set_list setd_list (xe_v 0) (xe_int)))) (xss_nil)))))) (xss_nil))
    (xss_cons (xs_if (xt_cmp op_gt opd_gt (xe_ix (r := rIx K) ix_seq opd_ix (xe_v 0) (xe_int)) (xe_int)) (xss_cons (xs_set 3 nd (xe_op op_mod opd_mod (xe_callTy call_int1 opc_int z_int (by decide +kernel) (xa_cons (xe_ix (r := rIx K) ix_seq opd_ix (xe_v 0) (xe_int)) (xa_nil))) (xe_v 1)))
    (xss_cons (xs_asg (xe_op op_fdivW opd_div (xe_ix (r := rIx K) ix_seq opd_ix (xe_v 0) (xe_int)) (xe_v 1)) (xg_sub set_list setd_list (xe_v 0) (xe_int)))
    (xss_one (xs_ret (xe_v 3))))) (xss_nil))
    (xss_cons (xs_asg (xe_op (r := rAddG K) op_addG opd_add (xe_ix (r := rIx K) ix_seq opd_ix (xe_v 0) (xe_int)) (xe_int)) (xg_sub set_list setd_list (xe_v 0) (xe_int)))
    (xss_cons (xs_set 4 nd (xe_op op_mod opd_mod (xe_callTy call_int1 opc_int z_int (by decide +kernel) (xa_cons (xe_op (r := rMulA K) op_mulA opd_mul (xe_callTy call_int1 opc_int z_int (by decide +kernel) (xa_cons (xe_op (r := rAddG K) op_addG opd_add (xe_ix (r := rIx K) ix_seq opd_ix (xe_v 0) (xe_int)) (xe_op (r := rMulA K) op_mulA opd_mul (xe_int) (xe_ix (r := rIx K) ix_seq opd_ix (xe_v 0) (xe_int)))) (xa_nil))) (xe_int)) (xa_nil))) (xe_int)))
    (xss_cons (xs_set 4 nd (xe_op op_mod opd_mod (xe_callTy call_int1 opc_int z_int (by decide +kernel) (xa_cons (xe_op (r := rMulA K) op_mulA opd_mul (xe_v 4) (xe_op (r := rAddG K) op_addG opd_add (xe_op op_fdivW opd_div (xe_v 4) (xe_int)) (xe_int))) (xa_nil))) (xe_int)))
    (xss_cons (xs_set 4 nd (xe_op op_mod opd_mod (xe_callTy call_int1 opc_int z_int (by decide +kernel) (xa_cons (xe_op (r := rMulA K) op_mulA opd_mul (xe_v 4) (xe_op (r := rAddG K) op_addG opd_add (xe_op op_fdivW opd_div (xe_v 4) (xe_int)) (xe_int))) (xa_nil))) (xe_int)))
    (xss_one (xs_ret (xe_op op_mod opd_mod (xe_callTy call_int1 opc_int z_int (by decide +kernel) (xa_cons (xe_op op_fdivW opd_div (xe_v 4) (xe_int)) (xa_nil))) (xe_v 1)))))))))⟩
abbrev s__law_any : Stmt := topS 28
abbrev n__law_any : List Str := ["_law_pot_here", "_law_things"]
theorem sc__law_any : FnScope ["_law_pot_here", "_law_things"] ["_law_pot_here", "_law_things"] (defScope s__law_any) := ⟨rfl, rfl, rfl, by decide +kernel, rfl, by decide +kernel, by decide +kernel⟩
theorem ok__law_any {f : Addr} {fd : FuncData} (F : Fun K "_law_any" "_law_any" s__law_any f fd) (T : Txt K mg) (C__law_draw : Callee P w K mg base "_law_draw" 1 2 KG.m__law_draw) :
    FnOk P w K mg base (L2.CX P w) 2 f fd ["_law_pot_here", "_law_things"] (spM K mg 2 KG.m__law_any) := by
  have z_len := T.z_len
  have nd := sc__law_any.nd
  refine FnOk.cut (fn_okM F sc__law_any fun cdv A outer s H E hr tk po => ?_)
  exact ⟨_, xss_one (xs_ret (xe_ix (r := rIx K) ix_seq opd_ix (xe_v 1) (ke_call K mg C__law_draw (hr.mono (by decide)) tk (xa_cons (xe_v 0) (xa_cons (xe_callB (r := rLenC K) call_len_seq opc_len z_len PySem.boot_len (xa_cons (xe_v 1) (xa_nil))) (xa_nil))))))⟩
abbrev s__law_adviser : Stmt := topS 37
abbrev n__law_adviser : List Str := ["_law_pot_here", "_law_size", "_law_most", "_law_states", "_law_rules", "_law_state", "_law_letter"]
theorem sc__law_adviser : FnScope ["_law_pot_here", "_law_size", "_law_most", "_law_states", "_law_rules", "_law_state", "_law_letter"] ["_law_pot_here", "_law_size", "_law_most"] (defScope s__law_adviser) := ⟨rfl, rfl, rfl, by decide +kernel, rfl, by decide +kernel, by decide +kernel⟩
theorem ok__law_adviser {f : Addr} {fd : FuncData} (F : Fun K "_law_adviser" "_law_adviser" s__law_adviser f fd) (T : Txt K mg) (C__law_draw : Callee P w K mg base "_law_draw" 1 2 KG.m__law_draw) :
    FnOk P w K mg base (L2.CX P w) 2 f fd ["_law_pot_here", "_law_size", "_law_most"] (spM K mg 3 KG.m__law_adviser) := by
  have z_range := T.z_range
  have z_tuple := T.z_tuple
  have nd := sc__law_adviser.nd
  refine FnOk.cut (fn_okM F sc__law_adviser fun cdv A outer s H E hr tk po => ?_)
  exact ⟨_, xss_cons (xs_set 3 nd (xe_op (r := rAddG K) op_addG opd_add (xe_int) (ke_call K mg C__law_draw (hr.mono (by decide)) tk (xa_cons (xe_v 0) (xa_cons (xe_v 2) (xa_nil))))))
    (xss_cons (xs_set 4 nd (xe_lstM (xa_nil)))
    (xss_cons (xs_for po rfl (xi_rng1 z_range (xa_cons (xe_v 3) (xa_nil))) (xg_name 5 nd) (xss_one (xs_expr (ke_bm K PySem.F.slot_list_append PySem.F.type_list_append mt_append opm_append (xe_v 4) (xa_cons (xe_tup (xa_cons (ke_call K mg C__law_draw (hr.mono (by decide)) tk (xa_cons (xe_v 0) (xa_cons (xe_v 1) (xa_nil)))) (xa_cons (xe_callTy (r := rTupleC K) call_tuple_of opc_tuple z_tuple (by decide +kernel) (xa_cons (xe_lc [("_law_letter", 6)] fin_I rfl nd (xi_rng1 z_range (xa_cons (xe_v 1) (xa_nil))) (blkOk_by (N := n__law_adviser) (sc := defScope s__law_adviser) (by decide +kernel)) (fun _ _ _ _ _ => xg_name 6 nd) (fun _ _ _ _ _ => xts_nil) (fun _ _ _ _ _ => ke_call K mg C__law_draw (hr.mono (by decide)) takes0 (xa_cons (xe_v 0) (xa_cons (xe_v 3) (xa_nil))))) (xa_nil))) (xa_nil)))) (xa_nil))))))
    (xss_one (xs_ret (xe_tup (xa_cons (xe_v 1) (xa_cons (xe_callTy (r := rTupleC K) call_tuple_of opc_tuple z_tuple (by decide +kernel) (xa_cons (xe_v 4) (xa_nil))) (xa_nil))))))))⟩
abbrev s__law_circle : Stmt := topS 38
abbrev n__law_circle : List Str := ["_law_pot_here", "_law_sizes", "_law_many", "_law_most", "_law_size", "_law_found", "_law_turn"]
theorem sc__law_circle : FnScope ["_law_pot_here", "_law_sizes", "_law_many", "_law_most", "_law_size", "_law_found", "_law_turn"] ["_law_pot_here", "_law_sizes", "_law_many", "_law_most"] (defScope s__law_circle) := ⟨rfl, rfl, rfl, by decide +kernel, rfl, by decide +kernel, by decide +kernel⟩
theorem ok__law_circle {f : Addr} {fd : FuncData} (F : Fun K "_law_circle" "_law_circle" s__law_circle f fd) (T : Txt K mg) (C__law_any : Callee P w K mg base "_law_any" 2 2 KG.m__law_any) (C__law_adviser : Callee P w K mg base "_law_adviser" 2 3 KG.m__law_adviser) (C__law_draw : Callee P w K mg base "_law_draw" 1 2 KG.m__law_draw) :
    FnOk P w K mg base (L2.CX P w) 3 f fd ["_law_pot_here", "_law_sizes", "_law_many", "_law_most"] (spM K mg 4 KG.m__law_circle) := by
  have z_tuple := T.z_tuple
  have z_range := T.z_range
  have z_len := T.z_len
  have nd := sc__law_circle.nd
  refine FnOk.cut (fn_okM F sc__law_circle fun cdv A outer s H E hr tk po => ?_)
  exact ⟨_, xss_cons (xs_set 4 nd (ke_call K mg C__law_any (hr.mono (by decide)) tk (xa_cons (xe_v 0) (xa_cons (xe_v 1) (xa_nil)))))
    (xss_cons (xs_setLc 5 [("_law_turn", 6)] fin_M rfl nd (xi_rng1 z_range (xa_cons (ke_call K mg C__law_any (hr.mono (by decide)) tk (xa_cons (xe_v 0) (xa_cons (xe_v 2) (xa_nil)))) (xa_nil))) (blkOk_by (N := n__law_circle) (sc := defScope s__law_circle) (by decide +kernel)) (fun _ _ _ _ _ => xg_name 6 nd) (fun _ _ _ _ _ => xts_nil) (fun _ _ _ _ _ => ke_call K mg C__law_adviser (hr.mono (by decide)) takes0 (xa_cons (xe_v 0) (xa_cons (xe_v 4) (xa_cons (xe_v 3) (xa_nil))))))
    (xss_cons (xs_if (xw_pt (xw_and (xt_cmp op_gt opd_gt (xe_callB (r := rLenC K) call_len_seq opc_len z_len PySem.boot_len (xa_cons (xe_v 5) (xa_nil))) (xe_int)) (xw_and1 (xt_cmp (r := rEqD K) (op_eqD hr.units) opd_eq (ke_call K mg C__law_draw (hr.mono (by decide)) tk (xa_cons (xe_v 0) (xa_cons (xe_int) (xa_nil)))) (xe_int))))) (xss_one (xs_asg (xe_ix (r := rIx K) ix_seq opd_ix (xe_v 5) (xe_int)) (xg_sub set_list setd_list (xe_v 5) (xe_un un_neg opu_neg (xe_int))))) (xss_nil))
    (xss_one (xs_ret (xe_callTy (r := rTupleC K) call_tuple_of opc_tuple z_tuple (by decide +kernel) (xa_cons (xe_v 5) (xa_nil)))))))⟩
abbrev s__law_deep : Stmt := topS 43
abbrev n__law_deep : List Str := ["_law_pot_here", "_law_found", "_law_turn"]
theorem sc__law_deep : FnScope ["_law_pot_here", "_law_found", "_law_turn"] ["_law_pot_here"] (defScope s__law_deep) := ⟨rfl, rfl, rfl, by decide +kernel, rfl, by decide +kernel, by decide +kernel⟩
theorem ok__law_deep {f : Addr} {fd : FuncData} (F : Fun K "_law_deep" "_law_deep" s__law_deep f fd) (T : Txt K mg) (C__law_any : Callee P w K mg base "_law_any" 2 2 KG.m__law_any) (C__law_draw : Callee P w K mg base "_law_draw" 1 2 KG.m__law_draw) :
    FnOk P w K mg base (L2.CX P w) 3 f fd ["_law_pot_here"] (spM K mg 1 KG.m__law_deep) := by
  have z_range := T.z_range
  have nd := sc__law_deep.nd
  refine FnOk.cut (fn_okM F sc__law_deep fun cdv A outer s H E hr tk po => ?_)
  exact ⟨_, xss_cons (xs_set 1 nd (ke_call K mg C__law_any (hr.mono (by decide)) tk (xa_cons (xe_v 0) (xa_cons (xe_lst (xa_cons (xe_non) (xa_cons (xe_tup (xa_nil)) (xa_cons (xe_int) (xa_cons (xe_bl) (xa_nil)))))) (xa_nil)))))
    (xss_cons (xs_for po rfl (xi_rng1 z_range (xa_cons (xe_op (r := rAddG K) op_addG opd_add (xe_int) (ke_call K mg C__law_draw (hr.mono (by decide)) tk (xa_cons (xe_v 0) (xa_cons (xe_int) (xa_nil))))) (xa_nil))) (xg_name 2 nd) (xss_one (xs_set 1 nd (ke_call K mg C__law_any (hr.mono (by decide)) tk (xa_cons (xe_v 0) (xa_cons (xe_lst (xa_cons (xe_lst (xa_cons (xe_v 1) (xa_nil))) (xa_cons (xe_tup (xa_cons (xe_v 1) (xa_nil))) (xa_cons (xe_dct1O (xe_v 1)) (xa_nil))))) (xa_nil)))))))
    (xss_one (xs_ret (xe_v 1))))⟩
abbrev s__law_bent : Stmt := topS 47
abbrev n__law_bent : List Str := ["_law_pot_here", "_law_adviser_here", "_law_size", "_law_rules", "_law_at", "_law_told", "_law_nexts", "_law_k", "_law_odd", "_law_rule", "_law_some"]
theorem sc__law_bent : FnScope ["_law_pot_here", "_law_adviser_here", "_law_size", "_law_rules", "_law_at", "_law_told", "_law_nexts", "_law_k", "_law_odd", "_law_rule", "_law_some"] ["_law_pot_here", "_law_adviser_here"] (defScope s__law_bent) := ⟨rfl, rfl, rfl, by decide +kernel, rfl, by decide +kernel, by decide +kernel⟩
theorem ok__law_bent {f : Addr} {fd : FuncData} (F : Fun K "_law_bent" "_law_bent" s__law_bent f fd) (T : Txt K mg) (C__law_draw : Callee P w K mg base "_law_draw" 1 2 KG.m__law_draw) (C__law_any : Callee P w K mg base "_law_any" 2 2 KG.m__law_any) (C__law_deep : Callee P w K mg base "_law_deep" 3 1 KG.m__law_deep) :
    FnOk P w K mg base (L2.CX P w) 4 f fd ["_law_pot_here", "_law_adviser_here"] (spM K mg 2 m__law_bent) := by
  have z_len := T.z_len
  have z_list := T.z_list
  have nd := sc__law_bent.nd
  refine FnOk.cut (fn_okM F sc__law_bent fun cdv A outer s H E hr tk po => ?_)
  exact ⟨_, xss_cons (xs_asg (xe_v 1) (kg_tup K rfl (xgs_cons (xg_name 2 nd) (xgs_cons (xg_name 3 nd) (xgs_nil)))))
    (xss_cons (xs_set 4 nd (ke_call K mg C__law_draw (hr.mono (by decide)) tk (xa_cons (xe_v 0) (xa_cons (xe_callB (r := rLenC K) call_len_seq opc_len z_len PySem.boot_len (xa_cons (xe_v 3) (xa_nil))) (xa_nil)))))
    (xss_cons (xs_asg (xe_ix (r := rIx K) ix_seq opd_ix (xe_v 3) (xe_v 4)) (kg_tup K rfl (xgs_cons (xg_name 5 nd) (xgs_cons (xg_name 6 nd) (xgs_nil)))))
    (xss_cons (xs_par (i := 7) (j := 8) rfl nd (ke_call K mg C__law_draw (hr.mono (by decide)) tk (xa_cons (xe_v 0) (xa_cons (xe_v 2) (xa_nil)))) (ke_call K mg C__law_any (hr.mono (by decide)) tk (xa_cons (xe_v 0) (xa_cons (xe_lst (xa_cons (xe_callB (r := rLenC K) call_len_seq opc_len z_len PySem.boot_len (xa_cons (xe_v 3) (xa_nil))) (xa_cons (xe_v 2) (xa_cons (xe_un un_neg opu_neg (xe_int)) (xa_cons (xe_bl) (xa_cons (xe_bl) (xa_cons (xe_non) (xa_cons (xe_str) (xa_cons (xe_tup (xa_cons (xe_int) (xa_nil))) (xa_cons (xe_int) (xa_cons (ke_call K mg C__law_deep (hr.mono (by decide)) tk (xa_cons (xe_v 0) (xa_nil))) (xa_nil)))))))))))) (xa_nil)))))
    (xss_cons (xs_set 9 nd (ke_call K mg C__law_any (hr.mono (by decide)) tk (xa_cons (xe_v 0) (xa_cons (xe_op (r := rAddG K) op_addG opd_add (xe_op (r := rAddG K) op_addG opd_add (xe_op (r := rMulA K) op_mulA opd_mul (xe_lst (xa_cons (xe_tup (xa_cons (xe_v 5) (xa_cons (xe_op (r := rAddG K) op_addG opd_add (xe_op (r := rAddG K) op_addG opd_add (ke_slice K (xe_v 6) (xo_none) (xo_some (xe_v 7))) (xe_tup (xa_cons (xe_v 8) (xa_nil)))) (ke_slice K (xe_v 6) (xo_some (xe_op (r := rAddG K) op_addG opd_add (xe_v 7) (xe_int))) (xo_none))) (xa_nil)))) (xa_nil))) (xe_int)) (xe_op (r := rMulA K) op_mulA opd_mul (xe_lst (xa_cons (xe_tup (xa_cons (xe_v 8) (xa_cons (xe_v 6) (xa_nil)))) (xa_nil))) (xe_int))) (xe_lst (xa_cons (xe_tup (xa_cons (xe_v 5) (xa_cons (xe_callTy (r := rListC K) call_list_of opc_list z_list (by decide +kernel) (xa_cons (xe_v 6) (xa_nil))) (xa_nil)))) (xa_cons (xe_tup (xa_cons (xe_v 5) (xa_cons (ke_slice K (xe_v 6) (xo_some (xe_int)) (xo_none)) (xa_nil)))) (xa_nil))))) (xa_nil)))))
    (xss_cons (xs_set 9 nd (ke_call K mg C__law_any (hr.mono (by decide)) tk (xa_cons (xe_v 0) (xa_cons (xe_lst (xa_cons (xe_v 9) (xa_cons (xe_v 9) (xa_cons (xe_v 9) (xa_cons (xe_tup (xa_cons (xe_v 5) (xa_cons (xe_op (r := rAddG K) op_addG opd_add (xe_v 6) (xe_tup (xa_cons (xe_int) (xa_nil)))) (xa_nil)))) (xa_cons (xe_tup (xa_cons (xe_v 5) (xa_nil))) (xa_cons (xe_lst (xa_cons (xe_v 5) (xa_cons (xe_v 6) (xa_nil)))) (xa_cons (xe_tup (xa_cons (xe_v 6) (xa_cons (xe_v 5) (xa_nil)))) (xa_cons (xe_tup (xa_cons (xe_v 5) (xa_cons (xe_v 6) (xa_cons (xe_int) (xa_nil))))) (xa_cons (ke_call K mg C__law_deep (hr.mono (by decide)) tk (xa_cons (xe_v 0) (xa_nil))) (xa_nil))))))))))) (xa_nil)))))
    (xss_cons (xs_set 10 nd (xe_op (r := rAddG K) op_addG opd_add (xe_op (r := rMulA K) op_mulA opd_mul (xe_lst (xa_cons (xe_tup (xa_cons (xe_v 2) (xa_cons (xe_op (r := rAddG K) op_addG opd_add (xe_op (r := rAddG K) op_addG opd_add (ke_slice K (xe_v 3) (xo_none) (xo_some (xe_v 4))) (xe_tup (xa_cons (xe_v 9) (xa_nil)))) (ke_slice K (xe_v 3) (xo_some (xe_op (r := rAddG K) op_addG opd_add (xe_v 4) (xe_int))) (xo_none))) (xa_nil)))) (xa_nil))) (xe_int)) (xe_lst (xa_cons (xe_tup (xa_cons (xe_op (r := rAddG K) op_addG opd_add (xe_v 2) (xe_int)) (xa_cons (xe_v 3) (xa_nil)))) (xa_cons (xe_tup (xa_cons (xe_bl) (xa_cons (xe_v 3) (xa_nil)))) (xa_cons (xe_tup (xa_cons (xe_v 2) (xa_cons (xe_tup (xa_nil)) (xa_nil)))) (xa_cons (xe_tup (xa_cons (xe_v 2) (xa_cons (xe_callTy (r := rListC K) call_list_of opc_list z_list (by decide +kernel) (xa_cons (xe_v 3) (xa_nil))) (xa_nil)))) (xa_cons (xe_tup (xa_cons (xe_int) (xa_cons (xe_v 3) (xa_nil)))) (xa_nil)))))))))
    (xss_one (xs_ret (ke_call K mg C__law_any (hr.mono (by decide)) tk (xa_cons (xe_v 0) (xa_cons (xe_op (r := rAddG K) op_addG opd_add (xe_v 10) (xe_lst (xa_cons (xe_callTy (r := rListC K) call_list_of opc_list z_list (by decide +kernel) (xa_cons (xe_v 1) (xa_nil))) (xa_cons (xe_tup (xa_cons (xe_v 2) (xa_nil))) (xa_cons (xe_tup (xa_cons (xe_v 3) (xa_cons (xe_v 2) (xa_nil)))) (xa_cons (xe_non) (xa_cons (xe_tup (xa_cons (xe_v 2) (xa_cons (xe_op (r := rMulA K) op_mulA opd_mul (xe_v 3) (xe_int)) (xa_nil)))) (xa_cons (xe_op (r := rAddG K) op_addG opd_add (xe_v 1) (xe_v 1)) (xa_cons (ke_call K mg C__law_deep (hr.mono (by decide)) tk (xa_cons (xe_v 0) (xa_nil))) (xa_nil)))))))))) (xa_nil))))))))))))⟩
abbrev s__law_bent_circle : Stmt := topS 48
abbrev n__law_bent_circle : List Str := ["_law_pot_here", "_law_circle_here", "_law_at", "_law_one", "_law_bent_here"]
theorem sc__law_bent_circle : FnScope ["_law_pot_here", "_law_circle_here", "_law_at", "_law_one", "_law_bent_here"] ["_law_pot_here", "_law_circle_here"] (defScope s__law_bent_circle) := ⟨rfl, rfl, rfl, by decide +kernel, rfl, by decide +kernel, by decide +kernel⟩
theorem ok__law_bent_circle {f : Addr} {fd : FuncData} (F : Fun K "_law_bent_circle" "_law_bent_circle" s__law_bent_circle f fd) (T : Txt K mg) (C__law_draw : Callee P w K mg base "_law_draw" 1 2 KG.m__law_draw) (C__law_any : Callee P w K mg base "_law_any" 2 2 KG.m__law_any) (C__law_bent : Callee P w K mg base "_law_bent" 4 2 m__law_bent) (C__law_adviser : Callee P w K mg base "_law_adviser" 2 3 KG.m__law_adviser) (C__law_deep : Callee P w K mg base "_law_deep" 3 1 KG.m__law_deep) :
    FnOk P w K mg base (L2.CX P w) 5 f fd ["_law_pot_here", "_law_circle_here"] (spM K mg 2 m__law_bent_circle) := by
  have z_len := T.z_len
  have z_list := T.z_list
  have nd := sc__law_bent_circle.nd
  refine FnOk.cut (fn_okM F sc__law_bent_circle fun cdv A outer s H E hr tk po => ?_)
  exact ⟨_, xss_cons (xs_set 2 nd (ke_call K mg C__law_draw (hr.mono (by decide)) tk (xa_cons (xe_v 0) (xa_cons (xe_callB (r := rLenC K) call_len_seq opc_len z_len PySem.boot_len (xa_cons (xe_v 1) (xa_nil))) (xa_nil)))))
    (xss_cons (xs_set 3 nd (ke_call K mg C__law_any (hr.mono (by decide)) tk (xa_cons (xe_v 0) (xa_cons (xe_lst (xa_cons (ke_call K mg C__law_bent (hr.mono (by decide)) tk (xa_cons (xe_v 0) (xa_cons (xe_ix (r := rIx K) ix_seq opd_ix (xe_v 1) (xe_v 2)) (xa_nil)))) (xa_cons (ke_call K mg C__law_bent (hr.mono (by decide)) tk (xa_cons (xe_v 0) (xa_cons (xe_ix (r := rIx K) ix_seq opd_ix (xe_v 1) (xe_v 2)) (xa_nil)))) (xa_cons (ke_call K mg C__law_adviser (hr.mono (by decide)) tk (xa_cons (xe_v 0) (xa_cons (xe_op (r := rAddG K) op_addG opd_add (xe_int) (ke_call K mg C__law_draw (hr.mono (by decide)) tk (xa_cons (xe_v 0) (xa_cons (xe_int) (xa_nil))))) (xa_cons (xe_int) (xa_nil))))) (xa_cons (xe_non) (xa_nil)))))) (xa_nil)))))
    (xss_cons (xs_set 4 nd (xe_op (r := rAddG K) op_addG opd_add (xe_op (r := rAddG K) op_addG opd_add (ke_slice K (xe_v 1) (xo_none) (xo_some (xe_v 2))) (xe_tup (xa_cons (xe_v 3) (xa_nil)))) (ke_slice K (xe_v 1) (xo_some (xe_op (r := rAddG K) op_addG opd_add (xe_v 2) (xe_int))) (xo_none))))
    (xss_one (xs_ret (ke_call K mg C__law_any (hr.mono (by decide)) tk (xa_cons (xe_v 0) (xa_cons (xe_op (r := rAddG K) op_addG opd_add (xe_op (r := rMulA K) op_mulA opd_mul (xe_lst (xa_cons (xe_v 4) (xa_nil))) (xe_int)) (xe_lst (xa_cons (xe_callTy (r := rListC K) call_list_of opc_list z_list (by decide +kernel) (xa_cons (xe_v 1) (xa_nil))) (xa_cons (xe_tup (xa_nil)) (xa_cons (xe_op (r := rAddG K) op_addG opd_add (xe_v 1) (xe_v 1)) (xa_cons (xe_op (r := rMulA K) op_mulA opd_mul (xe_v 1) (xe_int)) (xa_cons (xe_non) (xa_cons (xe_dct0O) (xa_cons (xe_ix (r := rIx K) ix_seq opd_ix (xe_v 1) (xe_int)) (xa_cons (ke_call K mg C__law_deep (hr.mono (by decide)) tk (xa_cons (xe_v 0) (xa_nil))) (xa_nil))))))))))) (xa_nil))))))))⟩
abbrev s__law_is : Stmt := topS 30
abbrev n__law_is : List Str := ["_law_told", "_law_due", "_law_k"]
theorem sc__law_is : FnScope ["_law_told", "_law_due", "_law_k"] ["_law_told", "_law_due"] (defScope s__law_is) := ⟨rfl, rfl, rfl, by decide +kernel, rfl, by decide +kernel, by decide +kernel⟩
theorem ok__law_is {f : Addr} {fd : FuncData} (F : Fun K "_law_is" "_law_is" s__law_is f fd) (T : Txt K mg)  (h1 : mg "_law_is" = some (.ref f)) (h2 : PySem.W.keepIn K (.ref f) = true) (h3 : Binds K fd ["_law_told", "_law_due"] []) (h4 : PySem.W.nsIn K mainGlobals "_law_is" = some (some (.ref f))) :
    ∀ j : Nat, FnOk P w K mg base (L2.CX P w) (1 + j) f fd ["_law_told", "_law_due"] (spM K mg 2 (KG.f__law_is j)) := by
  have z_isinstance := T.z_isinstance
  have z_tuple := T.z_tuple
  have z_list := T.z_list
  have z_all := T.z_all
  have z_bool := T.z_bool
  have z_len := T.z_len
  have z_range := T.z_range
  have nd := sc__law_is.nd
  intro j
  induction j with
  | zero => exact fn_bad rfl
  | succ j ih =>
  have C_self : Callee P w K mg base "_law_is" (1 + j) 2 (KG.f__law_is j) := FnOk.toC ih h1 h2 h3 h4
  refine FnOk.cut (fn_okM F sc__law_is fun cdv A outer s H E hr tk po => ?_)
  exact ⟨_, xss_cons (xs_if (kt_tru K (ke_isi2 K (T := "tuple") (U := "list") z_isinstance z_tuple (by decide +kernel) z_list (by decide +kernel) (xe_v 1))) (xss_cons (xs_if (xw_pt (xw_or (xt_cmp (r := rNeD K) (op_neD hr.units) opd_ne (ke_isi K (T := "tuple") z_isinstance z_tuple (by decide +kernel) (xe_v 0)) (ke_isi K (T := "tuple") z_isinstance z_tuple (by decide +kernel) (xe_v 1))) (xw_or1 (xt_cmp (r := rNeD K) (op_neD hr.units) opd_ne (ke_isi K (T := "list") z_isinstance z_list (by decide +kernel) (xe_v 0)) (ke_isi K (T := "list") z_isinstance z_list (by decide +kernel) (xe_v 1)))))) (xss_one (xs_ret (xe_bl))) (xss_nil))
    (xss_one (xs_ret (xe_and (xe_cmp (r := rEqD K) (op_eqD hr.units) opd_eq (xe_callB (r := rLenC K) call_len_seq opc_len z_len PySem.boot_len (xa_cons (xe_v 0) (xa_nil))) (xe_callB (r := rLenC K) call_len_seq opc_len z_len PySem.boot_len (xa_cons (xe_v 1) (xa_nil)))) (xe_one (xe_callB (r := rAll K) (cr_all rfl) opc_all z_all (by decide +kernel) (xa_cons (xe_lc [("_law_k", 2)] fin_I rfl nd (xi_rng1 z_range (xa_cons (xe_callB (r := rLenC K) call_len_seq opc_len z_len PySem.boot_len (xa_cons (xe_v 1) (xa_nil))) (xa_nil))) (blkOk_by (N := n__law_is) (sc := defScope s__law_is) (by decide +kernel)) (fun _ _ _ _ _ => xg_name 2 nd) (fun _ _ _ _ _ => xts_nil) (fun _ _ _ _ _ => ke_call K mg C_self (hr.mono (Nat.le_refl _)) takes0 (xa_cons (xe_ix (r := rIx K) ix_seq opd_ix (xe_v 0) (xe_v 2)) (xa_cons (xe_ix (r := rIx K) ix_seq opd_ix (xe_v 1) (xe_v 2)) (xa_nil))))) (xa_nil)))))))) (xss_nil))
    (xss_one (xs_ret (xe_and (xe_cmp (r := rEqD K) (op_eqD hr.units) opd_eq (ke_isi K (T := "bool") z_isinstance z_bool (by decide +kernel) (xe_v 0)) (ke_isi K (T := "bool") z_isinstance z_bool (by decide +kernel) (xe_v 1))) (xe_one (xe_cmp (r := rEqD K) (op_eqD hr.units) opd_eq (xe_v 0) (xe_v 1))))))⟩
abbrev s_nothing_heard : Stmt := topS 23
abbrev n_nothing_heard : List Str := ["circle"]
theorem sc_nothing_heard : FnScope ["circle"] ["circle"] (defScope s_nothing_heard) := ⟨rfl, rfl, rfl, by decide +kernel, rfl, by decide +kernel, by decide +kernel⟩
theorem ok_nothing_heard {f : Addr} {fd : FuncData} (F : Fun K "nothing_heard" "nothing_heard" s_nothing_heard f fd) (T : Txt K mg)  :
    FnOk P w K mg base (L2.CX P w) 1 f fd ["circle"] (spM K mg 1 KG.m_nothing_heard) := by
  have z_len := T.z_len
  have nd := sc_nothing_heard.nd
  refine FnOk.cut (fn_okM F sc_nothing_heard fun cdv A outer s H E hr tk po => ?_)
  exact ⟨_, xss_one (xs_ret (xe_tup (xa_cons (xe_op (r := rMulA K) op_mulA opd_mul (xe_tup (xa_cons (xe_int) (xa_nil))) (xe_callB (r := rLenC K) call_len_seq opc_len z_len PySem.boot_len (xa_cons (xe_v 0) (xa_nil)))) (xa_cons (xe_op (r := rMulA K) op_mulA opd_mul (xe_tup (xa_cons (xe_int) (xa_nil))) (xe_callB (r := rLenC K) call_len_seq opc_len z_len PySem.boot_len (xa_cons (xe_v 0) (xa_nil)))) (xa_nil)))))⟩
abbrev s_is_whole : Stmt := topS 6
abbrev n_is_whole : List Str := ["thing"]
theorem sc_is_whole : FnScope ["thing"] ["thing"] (defScope s_is_whole) := ⟨rfl, rfl, rfl, by decide +kernel, rfl, by decide +kernel, by decide +kernel⟩
theorem ok_is_whole {f : Addr} {fd : FuncData} (F : Fun K "is_whole" "is_whole" s_is_whole f fd) (T : Txt K mg)  :
    FnOk P w K mg base (L2.CX P w) 1 f fd ["thing"] (spM K mg 1 KG.m_is_whole) := by
  have z_isinstance := T.z_isinstance
  have z_int := T.z_int
  have z_bool := T.z_bool
  have nd := sc_is_whole.nd
  refine FnOk.cut (fn_okM F sc_is_whole fun cdv A outer s H E hr tk po => ?_)
  exact ⟨_, xss_one (xs_ret (xe_and (ke_isi K (T := "int") z_isinstance z_int (by decide +kernel) (xe_v 0)) (xe_one (xe_not (ke_isi K (T := "bool") z_isinstance z_bool (by decide +kernel) (xe_v 0))))))⟩
abbrev s_is_size : Stmt := topS 11
abbrev n_is_size : List Str := ["thing"]
theorem sc_is_size : FnScope ["thing"] ["thing"] (defScope s_is_size) := ⟨rfl, rfl, rfl, by decide +kernel, rfl, by decide +kernel, by decide +kernel⟩
theorem ok_is_size {f : Addr} {fd : FuncData} (F : Fun K "is_size" "is_size" s_is_size f fd) (T : Txt K mg) (C_is_whole : Callee P w K mg base "is_whole" 1 1 KG.m_is_whole) :
    FnOk P w K mg base (L2.CX P w) 2 f fd ["thing"] (spM K mg 1 KG.m_is_size) := by
  obtain ⟨v_LEAST_SIZE, u_LEAST_SIZE, c1_LEAST_SIZE, c2_LEAST_SIZE, c3_LEAST_SIZE⟩ := T.c_LEAST_SIZE.ex
  obtain ⟨v_MOST_SIZE, u_MOST_SIZE, c1_MOST_SIZE, c2_MOST_SIZE, c3_MOST_SIZE⟩ := T.c_MOST_SIZE.ex
  have nd := sc_is_size.nd
  refine FnOk.cut (fn_okM F sc_is_size fun cdv A outer s H E hr tk po => ?_)
  exact ⟨_, xss_one (xs_ret (xe_and (ke_call K mg C_is_whole (hr.mono (by decide)) tk (xa_cons (xe_v 0) (xa_nil))) (xe_one (xe_chain op_le op_le opd_le opd_le (xe_glob c1_LEAST_SIZE c2_LEAST_SIZE c3_LEAST_SIZE) (xe_v 0) (xe_glob c1_MOST_SIZE c2_MOST_SIZE c3_MOST_SIZE)))))⟩
abbrev s_is_below : Stmt := topS 12
abbrev n_is_below : List Str := ["thing", "end"]
theorem sc_is_below : FnScope ["thing", "end"] ["thing", "end"] (defScope s_is_below) := ⟨rfl, rfl, rfl, by decide +kernel, rfl, by decide +kernel, by decide +kernel⟩
theorem ok_is_below {f : Addr} {fd : FuncData} (F : Fun K "is_below" "is_below" s_is_below f fd) (T : Txt K mg) (C_is_whole : Callee P w K mg base "is_whole" 1 1 KG.m_is_whole) :
    FnOk P w K mg base (L2.CX P w) 2 f fd ["thing", "end"] (spM K mg 2 KG.m_is_below) := by

  have nd := sc_is_below.nd
  refine FnOk.cut (fn_okM F sc_is_below fun cdv A outer s H E hr tk po => ?_)
  exact ⟨_, xss_one (xs_ret (xe_and (ke_call K mg C_is_whole (hr.mono (by decide)) tk (xa_cons (xe_v 0) (xa_nil))) (xe_one (xe_chain op_le op_lt opd_le opd_lt (xe_int) (xe_v 0) (xe_v 1)))))⟩
abbrev s_are_below : Stmt := topS 13
abbrev n_are_below : List Str := ["thing", "many", "end", "item"]
theorem sc_are_below : FnScope ["thing", "many", "end", "item"] ["thing", "many", "end"] (defScope s_are_below) := ⟨rfl, rfl, rfl, by decide +kernel, rfl, by decide +kernel, by decide +kernel⟩
theorem ok_are_below {f : Addr} {fd : FuncData} (F : Fun K "are_below" "are_below" s_are_below f fd) (T : Txt K mg) (C_is_below : Callee P w K mg base "is_below" 2 2 KG.m_is_below) :
    FnOk P w K mg base (L2.CX P w) 3 f fd ["thing", "many", "end"] (spM K mg 3 KG.m_are_below) := by
  have z_all := T.z_all
  have z_isinstance := T.z_isinstance
  have z_tuple := T.z_tuple
  have z_len := T.z_len
  have nd := sc_are_below.nd
  refine FnOk.cut (fn_okM F sc_are_below fun cdv A outer s H E hr tk po => ?_)
  exact ⟨_, xss_cons (xs_if (xw_pt (xw_or (xt_not (kt_tru K (ke_isi K (T := "tuple") z_isinstance z_tuple (by decide +kernel) (xe_v 0)))) (xw_or1 (xt_cmp (r := rNeD K) (op_neD hr.units) opd_ne (xe_callB (r := rLenC K) call_len_seq opc_len z_len PySem.boot_len (xa_cons (xe_v 0) (xa_nil))) (xe_v 1))))) (xss_one (xs_ret (xe_bl))) (xss_nil))
    (xss_one (xs_ret (xe_callB (r := rAll K) (cr_all rfl) opc_all z_all (by decide +kernel) (xa_cons (xe_lc [("item", 3)] fin_I rfl nd (ki_seq K (xe_v 0)) (blkOk_by (N := n_are_below) (sc := defScope s_are_below) (by decide +kernel)) (fun _ _ _ _ _ => xg_name 3 nd) (fun _ _ _ _ _ => xts_nil) (fun _ _ _ _ _ => ke_call K mg C_is_below (hr.mono (by decide)) takes0 (xa_cons (xe_v 3) (xa_cons (xe_v 2) (xa_nil))))) (xa_nil)))))⟩
abbrev s_is_advice : Stmt := topS 19
abbrev n_is_advice : List Str := ["thing", "size", "states"]
theorem sc_is_advice : FnScope ["thing", "size", "states"] ["thing", "size", "states"] (defScope s_is_advice) := ⟨rfl, rfl, rfl, by decide +kernel, rfl, by decide +kernel, by decide +kernel⟩
theorem ok_is_advice {f : Addr} {fd : FuncData} (F : Fun K "is_advice" "is_advice" s_is_advice f fd) (T : Txt K mg) (C_is_below : Callee P w K mg base "is_below" 2 2 KG.m_is_below) (C_are_below : Callee P w K mg base "are_below" 3 3 KG.m_are_below) :
    FnOk P w K mg base (L2.CX P w) 4 f fd ["thing", "size", "states"] (spM K mg 3 KG.m_is_advice) := by
  have z_isinstance := T.z_isinstance
  have z_tuple := T.z_tuple
  have z_len := T.z_len
  have nd := sc_is_advice.nd
  refine FnOk.cut (fn_okM F sc_is_advice fun cdv A outer s H E hr tk po => ?_)
  exact ⟨_, xss_cons (xs_if (xw_pt (xw_or (xt_not (kt_tru K (ke_isi K (T := "tuple") z_isinstance z_tuple (by decide +kernel) (xe_v 0)))) (xw_or1 (xt_cmp (r := rNeD K) (op_neD hr.units) opd_ne (xe_callB (r := rLenC K) call_len_seq opc_len z_len PySem.boot_len (xa_cons (xe_v 0) (xa_nil))) (xe_int))))) (xss_one (xs_ret (xe_bl))) (xss_nil))
    (xss_one (xs_ret (xe_and (ke_call K mg C_is_below (hr.mono (by decide)) tk (xa_cons (xe_ix (r := rIx K) ix_seq opd_ix (xe_v 0) (xe_int)) (xa_cons (xe_v 1) (xa_nil)))) (xe_one (ke_call K mg C_are_below (hr.mono (by decide)) tk (xa_cons (xe_ix (r := rIx K) ix_seq opd_ix (xe_v 0) (xe_int)) (xa_cons (xe_v 1) (xa_cons (xe_v 2) (xa_nil)))))))))⟩
abbrev s_is_ruled : Stmt := topS 14
abbrev n_is_ruled : List Str := ["thing", "most", "judge", "size", "rules", "states", "rule"]
theorem sc_is_ruled : FnScope ["thing", "most", "judge", "size", "rules", "states", "rule"] ["thing", "most", "judge"] (defScope s_is_ruled) := ⟨rfl, rfl, rfl, by decide +kernel, rfl, by decide +kernel, by decide +kernel⟩
theorem ok_is_ruled {f : Addr} {fd : FuncData} (F : Fun K "is_ruled" "is_ruled" s_is_ruled f fd) (T : Txt K mg) (C_is_size : Callee P w K mg base "is_size" 2 1 KG.m_is_size) (C_is_advice : Callee P w K mg base "is_advice" 4 3 KG.m_is_advice) :
    FnOk P w K mg base (L2.CX P w) 5 f fd ["thing", "most", "judge"] (spM K mg 3 KG.m_is_ruled) := by
  have z_len := T.z_len
  have z_all := T.z_all
  have z_isinstance := T.z_isinstance
  have z_tuple := T.z_tuple
  have nd := sc_is_ruled.nd
  refine FnOk.cut (fn_okM F sc_is_ruled fun cdv A outer s H E hr tk po => ?_)
  exact ⟨_, xss_cons (xs_if (xw_pt (xw_or (xt_not (kt_tru K (ke_isi K (T := "tuple") z_isinstance z_tuple (by decide +kernel) (xe_v 0)))) (xw_or1 (xt_cmp (r := rNeD K) (op_neD hr.units) opd_ne (xe_callB (r := rLenC K) call_len_seq opc_len z_len PySem.boot_len (xa_cons (xe_v 0) (xa_nil))) (xe_int))))) (xss_one (xs_ret (xe_bl))) (xss_nil))
    (xss_cons (xs_asg (xe_v 0) (kg_tup K rfl (xgs_cons (xg_name 3 nd) (xgs_cons (xg_name 4 nd) (xgs_nil)))))
    (xss_cons (xs_if (xw_pt (xw_or (xt_not (kt_tru K (ke_call K mg C_is_size (hr.mono (by decide)) tk (xa_cons (xe_v 3) (xa_nil))))) (xw_or1 (xt_not (kt_tru K (ke_isi K (T := "tuple") z_isinstance z_tuple (by decide +kernel) (xe_v 4))))))) (xss_one (xs_ret (xe_bl))) (xss_nil))
    (xss_cons (xs_set 5 nd (xe_callB (r := rLenC K) call_len_seq opc_len z_len PySem.boot_len (xa_cons (xe_v 4) (xa_nil))))
    (xss_one (xs_ret (xe_and (xe_chain op_le op_le opd_le opd_le (xe_int) (xe_v 5) (xe_v 1)) (xe_one (xe_callB (r := rAll K) (cr_all rfl) opc_all z_all (by decide +kernel) (xa_cons (xe_lc [("rule", 6)] fin_I rfl nd (ki_seq K (xe_v 4)) (blkOk_by (N := n_is_ruled) (sc := defScope s_is_ruled) (by decide +kernel)) (fun _ _ _ _ _ => xg_name 6 nd) (fun _ _ _ _ _ => xts_nil) (fun _ _ _ _ _ => ke_callF P w K mg base 2 (k := 4) (tb := [("is_advice", KG.m_is_advice)]) (List.forall_mem_cons.mpr ⟨C_is_advice.mono (by decide), fun _ h => nomatch h⟩) (hr.mono (by decide)) takes0 (xa_cons (xe_v 6) (xa_cons (xe_v 3) (xa_cons (xe_v 5) (xa_nil)))))) (xa_nil))))))))))⟩
abbrev s_is_adviser : Stmt := topS 20
abbrev n_is_adviser : List Str := ["thing"]
theorem sc_is_adviser : FnScope ["thing"] ["thing"] (defScope s_is_adviser) := ⟨rfl, rfl, rfl, by decide +kernel, rfl, by decide +kernel, by decide +kernel⟩
theorem ok_is_adviser {f : Addr} {fd : FuncData} (F : Fun K "is_adviser" "is_adviser" s_is_adviser f fd) (T : Txt K mg) (C_is_ruled : Callee P w K mg base "is_ruled" 5 3 KG.m_is_ruled) (C_is_advice : Callee P w K mg base "is_advice" 4 3 KG.m_is_advice) :
    FnOk P w K mg base (L2.CX P w) 6 f fd ["thing"] (spM K mg 1 KG.m_is_adviser) := by
  obtain ⟨v_MOST_ADVISER_STATES, u_MOST_ADVISER_STATES, c1_MOST_ADVISER_STATES, c2_MOST_ADVISER_STATES, c3_MOST_ADVISER_STATES⟩ := T.c_MOST_ADVISER_STATES.ex
  obtain ⟨fv_is_advice, _, _, _, fm_is_advice, _, _, fn_is_advice⟩ := C_is_advice.ex
  have nd := sc_is_adviser.nd
  refine FnOk.cut (fn_okM F sc_is_adviser fun cdv A outer s H E hr tk po => ?_)
  exact ⟨_, xss_one (xs_ret (ke_call K mg C_is_ruled (hr.mono (by decide)) tk (xa_cons (xe_v 0) (xa_cons (xe_glob c1_MOST_ADVISER_STATES c2_MOST_ADVISER_STATES c3_MOST_ADVISER_STATES) (xa_cons (xe_fn fm_is_advice fn_is_advice) (xa_nil))))))⟩
abbrev s_is_circle : Stmt := topS 21
abbrev n_is_circle : List Str := ["thing", "adviser"]
theorem sc_is_circle : FnScope ["thing", "adviser"] ["thing"] (defScope s_is_circle) := ⟨rfl, rfl, rfl, by decide +kernel, rfl, by decide +kernel, by decide +kernel⟩
theorem ok_is_circle {f : Addr} {fd : FuncData} (F : Fun K "is_circle" "is_circle" s_is_circle f fd) (T : Txt K mg) (C_is_adviser : Callee P w K mg base "is_adviser" 6 1 KG.m_is_adviser) :
    FnOk P w K mg base (L2.CX P w) 7 f fd ["thing"] (spM K mg 1 KG.m_is_circle) := by
  have z_all := T.z_all
  have z_isinstance := T.z_isinstance
  have z_tuple := T.z_tuple
  have z_len := T.z_len
  obtain ⟨v_MOST_ADVISERS, u_MOST_ADVISERS, c1_MOST_ADVISERS, c2_MOST_ADVISERS, c3_MOST_ADVISERS⟩ := T.c_MOST_ADVISERS.ex
  have nd := sc_is_circle.nd
  refine FnOk.cut (fn_okM F sc_is_circle fun cdv A outer s H E hr tk po => ?_)
  exact ⟨_, xss_cons (xs_if (xw_pt (xw_or (xt_not (kt_tru K (ke_isi K (T := "tuple") z_isinstance z_tuple (by decide +kernel) (xe_v 0)))) (xw_or1 (xt_not (xt_chain op_le op_le opd_le opd_le (xe_int) (xe_callB (r := rLenC K) call_len_seq opc_len z_len PySem.boot_len (xa_cons (xe_v 0) (xa_nil))) (xe_glob c1_MOST_ADVISERS c2_MOST_ADVISERS c3_MOST_ADVISERS)))))) (xss_one (xs_ret (xe_bl))) (xss_nil))
    (xss_one (xs_ret (xe_and (xe_callB (r := rAll K) (cr_all rfl) opc_all z_all (by decide +kernel) (xa_cons (xe_lc [("adviser", 1)] fin_I rfl nd (ki_seq K (xe_v 0)) (blkOk_by (N := n_is_circle) (sc := defScope s_is_circle) (by decide +kernel)) (fun _ _ _ _ _ => xg_name 1 nd) (fun _ _ _ _ _ => xts_nil) (fun _ _ _ _ _ => ke_call K mg C_is_adviser (hr.mono (by decide)) takes0 (xa_cons (xe_v 1) (xa_nil)))) (xa_nil))) (xe_one (xe_callB (r := rAll K) (cr_all rfl) opc_all z_all (by decide +kernel) (xa_cons (xe_lc [("adviser", 1)] fin_I rfl nd (ki_seq K (xe_v 0)) (blkOk_by (N := n_is_circle) (sc := defScope s_is_circle) (by decide +kernel)) (fun _ _ _ _ _ => xg_name 1 nd) (fun _ _ _ _ _ => xts_nil) (fun _ _ _ _ _ => xe_cmp (r := rEqD K) (op_eqD hr.units) opd_eq (xe_ix (r := rIx K) ix_seq opd_ix (xe_v 1) (xe_int)) (xe_ix (r := rIx K) ix_seq opd_ix (xe_ix (r := rIx K) ix_seq opd_ix (xe_v 0) (xe_int)) (xe_int)))) (xa_nil)))))))⟩
abbrev s_is_row : Stmt := topS 15
abbrev n_is_row : List Str := ["size", "thing", "letter"]
theorem sc_is_row : FnScope ["size", "thing", "letter"] ["size", "thing"] (defScope s_is_row) := ⟨rfl, rfl, rfl, by decide +kernel, rfl, by decide +kernel, by decide +kernel⟩
theorem ok_is_row {f : Addr} {fd : FuncData} (F : Fun K "is_row" "is_row" s_is_row f fd) (T : Txt K mg) (C_is_size : Callee P w K mg base "is_size" 2 1 KG.m_is_size) (C_is_below : Callee P w K mg base "is_below" 2 2 KG.m_is_below) :
    FnOk P w K mg base (L2.CX P w) 3 f fd ["size", "thing"] (spM K mg 2 KG.m_is_row) := by
  have z_all := T.z_all
  have z_isinstance := T.z_isinstance
  have z_tuple := T.z_tuple
  have z_len := T.z_len
  obtain ⟨v_MOST_LETTERS, u_MOST_LETTERS, c1_MOST_LETTERS, c2_MOST_LETTERS, c3_MOST_LETTERS⟩ := T.c_MOST_LETTERS.ex
  obtain ⟨xa_NoSize, gx_NoSize, qx_NoSize, kx_NoSize, bx_NoSize, tx_NoSize⟩ := T.x_NoSize.ex
  have nd := sc_is_row.nd
  refine FnOk.cut (fn_okM F sc_is_row fun cdv A outer s H E hr tk po => ?_)
  exact ⟨_, xss_cons (xs_if (xt_not (kt_tru K (ke_call K mg C_is_size (hr.mono (by decide)) tk (xa_cons (xe_v 0) (xa_nil))))) (xss_one (xs_raise rfl tk gx_NoSize qx_NoSize kx_NoSize bx_NoSize tx_NoSize)) (xss_nil))
    (xss_cons (xs_if (xw_pt (xw_or (xt_not (kt_tru K (ke_isi K (T := "tuple") z_isinstance z_tuple (by decide +kernel) (xe_v 1)))) (xw_or1 (xt_cmp op_gt opd_gt (xe_callB (r := rLenC K) call_len_seq opc_len z_len PySem.boot_len (xa_cons (xe_v 1) (xa_nil))) (xe_glob c1_MOST_LETTERS c2_MOST_LETTERS c3_MOST_LETTERS))))) (xss_one (xs_ret (xe_bl))) (xss_nil))
    (xss_one (xs_ret (xe_callB (r := rAll K) (cr_all rfl) opc_all z_all (by decide +kernel) (xa_cons (xe_lc [("letter", 2)] fin_I rfl nd (ki_seq K (xe_v 1)) (blkOk_by (N := n_is_row) (sc := defScope s_is_row) (by decide +kernel)) (fun _ _ _ _ _ => xg_name 2 nd) (fun _ _ _ _ _ => xts_nil) (fun _ _ _ _ _ => ke_call K mg C_is_below (hr.mono (by decide)) takes0 (xa_cons (xe_v 2) (xa_cons (xe_v 0) (xa_nil))))) (xa_nil))))))⟩
abbrev s_heard : Stmt := topS 22
abbrev n_heard : List Str := ["circle", "states", "missed", "letter", "behind", "more", "_", "rules", "state", "many", "advice", "nexts"]
theorem sc_heard : FnScope ["circle", "states", "missed", "letter", "behind", "more", "_", "rules", "state", "many", "advice", "nexts"] ["circle", "states", "missed", "letter"] (defScope s_heard) := ⟨rfl, rfl, rfl, by decide +kernel, rfl, by decide +kernel, by decide +kernel⟩
theorem ok_heard {f : Addr} {fd : FuncData} (F : Fun K "heard" "heard" s_heard f fd) (T : Txt K mg)  :
    FnOk P w K mg base (L2.CX P w) 1 f fd ["circle", "states", "missed", "letter"] (spM K mg 4 KG.m_heard) := by
  have z_zip := T.z_zip
  have z_tuple := T.z_tuple
  have nd := sc_heard.nd
  refine FnOk.cut (fn_okM F sc_heard fun cdv A outer s H E hr tk po => ?_)
  exact ⟨_, xss_cons (xs_set 4 nd (xe_lstM (xa_nil)))
    (xss_cons (xs_set 5 nd (xe_lstM (xa_nil)))
    (xss_cons (xs_for po rfl (ki_zip3 K z_zip (xa_cons (xe_v 0) (xa_cons (xe_v 1) (xa_cons (xe_v 2) (xa_nil))))) (kg_tup K rfl (xgs_cons (kg_tup K rfl (xgs_cons (xg_name 6 nd) (xgs_cons (xg_name 7 nd) (xgs_nil)))) (xgs_cons (xg_name 8 nd) (xgs_cons (xg_name 9 nd) (xgs_nil))))) (xss_cons (xs_asg (xe_ix (r := rIx K) ix_seq opd_ix (xe_v 7) (xe_v 8)) (kg_tup K rfl (xgs_cons (xg_name 10 nd) (xgs_cons (xg_name 11 nd) (xgs_nil)))))
    (xss_cons (xs_expr (ke_bm K PySem.F.slot_list_append PySem.F.type_list_append mt_append opm_append (xe_v 4) (xa_cons (xe_ix (r := rIx K) ix_seq opd_ix (xe_v 11) (xe_v 3)) (xa_nil))))
    (xss_one (xs_expr (ke_bm K PySem.F.slot_list_append PySem.F.type_list_append mt_append opm_append (xe_v 5) (xa_cons (xe_if (xt_cmp (r := rEqD K) (op_eqD hr.units) opd_eq (xe_v 10) (xe_v 3)) (xe_v 9) (xe_op (r := rAddG K) op_addG opd_add (xe_v 9) (xe_int))) (xa_nil))))))))
    (xss_one (xs_ret (xe_tup (xa_cons (xe_callTy (r := rTupleC K) call_tuple_of opc_tuple z_tuple (by decide +kernel) (xa_cons (xe_v 4) (xa_nil))) (xa_cons (xe_callTy (r := rTupleC K) call_tuple_of opc_tuple z_tuple (by decide +kernel) (xa_cons (xe_v 5) (xa_nil))) (xa_nil))))))))⟩
abbrev s_adviser_misses : Stmt := topS 24
abbrev n_adviser_misses : List Str := ["circle", "row", "states", "missed", "letter"]
theorem sc_adviser_misses : FnScope ["circle", "row", "states", "missed", "letter"] ["circle", "row"] (defScope s_adviser_misses) := ⟨rfl, rfl, rfl, by decide +kernel, rfl, by decide +kernel, by decide +kernel⟩
theorem ok_adviser_misses {f : Addr} {fd : FuncData} (F : Fun K "adviser_misses" "adviser_misses" s_adviser_misses f fd) (T : Txt K mg) (C_nothing_heard : Callee P w K mg base "nothing_heard" 1 1 KG.m_nothing_heard) (C_is_circle : Callee P w K mg base "is_circle" 7 1 KG.m_is_circle) (C_is_row : Callee P w K mg base "is_row" 3 2 KG.m_is_row) (C_heard : Callee P w K mg base "heard" 1 4 KG.m_heard) :
    FnOk P w K mg base (L2.CX P w) 8 f fd ["circle", "row"] (spM K mg 2 KG.m_adviser_misses) := by
  obtain ⟨xa_NoCircle, gx_NoCircle, qx_NoCircle, kx_NoCircle, bx_NoCircle, tx_NoCircle⟩ := T.x_NoCircle.ex
  obtain ⟨xa_NoRow, gx_NoRow, qx_NoRow, kx_NoRow, bx_NoRow, tx_NoRow⟩ := T.x_NoRow.ex
  have nd := sc_adviser_misses.nd
  refine FnOk.cut (fn_okM F sc_adviser_misses fun cdv A outer s H E hr tk po => ?_)
  exact ⟨_, xss_cons (xs_if (xt_not (kt_tru K (ke_call K mg C_is_circle (hr.mono (by decide)) tk (xa_cons (xe_v 0) (xa_nil))))) (xss_one (xs_raise rfl tk gx_NoCircle qx_NoCircle kx_NoCircle bx_NoCircle tx_NoCircle)) (xss_nil))
    (xss_cons (xs_if (xt_not (kt_tru K (ke_call K mg C_is_row (hr.mono (by decide)) tk (xa_cons (xe_ix (r := rIx K) ix_seq opd_ix (xe_ix (r := rIx K) ix_seq opd_ix (xe_v 0) (xe_int)) (xe_int)) (xa_cons (xe_v 1) (xa_nil)))))) (xss_one (xs_raise rfl tk gx_NoRow qx_NoRow kx_NoRow bx_NoRow tx_NoRow)) (xss_nil))
    (xss_cons (xs_asg (ke_call K mg C_nothing_heard (hr.mono (by decide)) tk (xa_cons (xe_v 0) (xa_nil))) (kg_tup K rfl (xgs_cons (xg_name 2 nd) (xgs_cons (xg_name 3 nd) (xgs_nil)))))
    (xss_cons (xs_for po rfl (ki_seq K (xe_v 1)) (xg_name 4 nd) (xss_one (xs_asg (ke_call K mg C_heard (hr.mono (by decide)) tk (xa_cons (xe_v 0) (xa_cons (xe_v 2) (xa_cons (xe_v 3) (xa_cons (xe_v 4) (xa_nil)))))) (kg_tup K rfl (xgs_cons (xg_name 2 nd) (xgs_cons (xg_name 3 nd) (xgs_nil)))))))
    (xss_one (xs_ret (xe_v 3))))))⟩
abbrev s__law_is_int : Stmt := topS 44
abbrev n__law_is_int : List Str := ["_law_thing", "_law_least", "_law_most"]
theorem sc__law_is_int : FnScope ["_law_thing", "_law_least", "_law_most"] ["_law_thing", "_law_least", "_law_most"] (defScope s__law_is_int) := ⟨rfl, rfl, rfl, by decide +kernel, rfl, by decide +kernel, by decide +kernel⟩
theorem ok__law_is_int {f : Addr} {fd : FuncData} (F : Fun K "_law_is_int" "_law_is_int" s__law_is_int f fd) (T : Txt K mg)  :
    FnOk P w K mg base (L2.CX P w) 1 f fd ["_law_thing", "_law_least", "_law_most"] (spM K mg 3 KG.m__law_is_int) := by
  have z_isinstance := T.z_isinstance
  have z_int := T.z_int
  have z_bool := T.z_bool
  have nd := sc__law_is_int.nd
  refine FnOk.cut (fn_okM F sc__law_is_int fun cdv A outer s H E hr tk po => ?_)
  exact ⟨_, xss_one (xs_ret (xe_and (ke_isi K (T := "int") z_isinstance z_int (by decide +kernel) (xe_v 0)) (xe_and (xe_not (ke_isi K (T := "bool") z_isinstance z_bool (by decide +kernel) (xe_v 0))) (xe_one (xe_chain op_le op_le opd_le opd_le (xe_v 1) (xe_v 0) (xe_v 2))))))⟩
abbrev s__law_judged : Stmt := topS 45
abbrev n__law_judged : List Str := ["_law_thing", "_law_rule", "_law_later"]
theorem sc__law_judged : FnScope ["_law_thing", "_law_rule", "_law_later"] ["_law_thing"] (defScope s__law_judged) := ⟨rfl, rfl, rfl, by decide +kernel, rfl, by decide +kernel, by decide +kernel⟩
theorem ok__law_judged {f : Addr} {fd : FuncData} (F : Fun K "_law_judged" "_law_judged" s__law_judged f fd) (T : Txt K mg) (C__law_is_int : Callee P w K mg base "_law_is_int" 1 3 KG.m__law_is_int) :
    FnOk P w K mg base (L2.CX P w) 2 f fd ["_law_thing"] (spM K mg 1 m__law_judged) := by
  have z_isinstance := T.z_isinstance
  have z_tuple := T.z_tuple
  have z_len := T.z_len
  have z_all := T.z_all
  have nd := sc__law_judged.nd
  refine FnOk.cut (fn_okM F sc__law_judged fun cdv A outer s H E hr tk po => ?_)
  exact ⟨_, xss_cons (xs_if (xw_pt (xw_or (xt_not (kt_tru K (ke_isi K (T := "tuple") z_isinstance z_tuple (by decide +kernel) (xe_v 0)))) (xw_or (xt_cmp (r := rNeD K) (op_neD hr.units) opd_ne (xe_callB (r := rLenC K) call_len_seq opc_len z_len PySem.boot_len (xa_cons (xe_v 0) (xa_nil))) (xe_int)) (xw_or1 (xt_not (kt_tru K (ke_call K mg C__law_is_int (hr.mono (by decide)) tk (xa_cons (xe_ix (r := rIx K) ix_seq opd_ix (xe_v 0) (xe_int)) (xa_cons (xe_int) (xa_cons (xe_int) (xa_nil))))))))))) (xss_one (xs_ret (xe_bl))) (xss_nil))
    (xss_cons (xs_if (xw_pt (xw_or (xt_not (kt_tru K (ke_isi K (T := "tuple") z_isinstance z_tuple (by decide +kernel) (xe_ix (r := rIx K) ix_seq opd_ix (xe_v 0) (xe_int))))) (xw_or1 (xt_not (xt_chain op_le op_le opd_le opd_le (xe_int) (xe_callB (r := rLenC K) call_len_seq opc_len z_len PySem.boot_len (xa_cons (xe_ix (r := rIx K) ix_seq opd_ix (xe_v 0) (xe_int)) (xa_nil))) (xe_int)))))) (xss_one (xs_ret (xe_bl))) (xss_nil))
    (xss_cons (xs_for po rfl (ki_seq K (xe_ix (r := rIx K) ix_seq opd_ix (xe_v 0) (xe_int))) (xg_name 1 nd) (xss_cons (xs_if (xw_pt (xw_or (xt_not (kt_tru K (ke_isi K (T := "tuple") z_isinstance z_tuple (by decide +kernel) (xe_v 1)))) (xw_or (xt_cmp (r := rNeD K) (op_neD hr.units) opd_ne (xe_callB (r := rLenC K) call_len_seq opc_len z_len PySem.boot_len (xa_cons (xe_v 1) (xa_nil))) (xe_int)) (xw_or1 (xt_not (kt_tru K (ke_call K mg C__law_is_int (hr.mono (by decide)) tk (xa_cons (xe_ix (r := rIx K) ix_seq opd_ix (xe_v 1) (xe_int)) (xa_cons (xe_int) (xa_cons (xe_op op_sub opd_sub (xe_ix (r := rIx K) ix_seq opd_ix (xe_v 0) (xe_int)) (xe_int)) (xa_nil))))))))))) (xss_one (xs_ret (xe_bl))) (xss_nil))
    (xss_cons (xs_if (xw_pt (xw_or (xt_not (kt_tru K (ke_isi K (T := "tuple") z_isinstance z_tuple (by decide +kernel) (xe_ix (r := rIx K) ix_seq opd_ix (xe_v 1) (xe_int))))) (xw_or1 (xt_cmp (r := rNeD K) (op_neD hr.units) opd_ne (xe_callB (r := rLenC K) call_len_seq opc_len z_len PySem.boot_len (xa_cons (xe_ix (r := rIx K) ix_seq opd_ix (xe_v 1) (xe_int)) (xa_nil))) (xe_ix (r := rIx K) ix_seq opd_ix (xe_v 0) (xe_int)))))) (xss_one (xs_ret (xe_bl))) (xss_nil))
    (xss_one (xs_if (xt_not (kt_tru K (xe_callB (r := rAll K) (cr_all rfl) opc_all z_all (by decide +kernel) (xa_cons (xe_lc [("_law_later", 2)] fin_I rfl nd (ki_seq K (xe_ix (r := rIx K) ix_seq opd_ix (xe_v 1) (xe_int))) (blkOk_by (N := n__law_judged) (sc := defScope s__law_judged) (by decide +kernel)) (fun _ _ _ _ _ => xg_name 2 nd) (fun _ _ _ _ _ => xts_nil) (fun _ _ _ _ _ => ke_call K mg C__law_is_int (hr.mono (by decide)) takes0 (xa_cons (xe_v 2) (xa_cons (xe_int) (xa_cons (xe_op op_sub opd_sub (xe_callB (r := rLenC K) call_len_seq opc_len z_len PySem.boot_len (xa_cons (xe_ix (r := rIx K) ix_seq opd_ix (xe_v 0) (xe_int)) (xa_nil))) (xe_int)) (xa_nil)))))) (xa_nil))))) (xss_one (xs_ret (xe_bl))) (xss_nil))))))
    (xss_one (xs_ret (xe_bl)))))⟩
abbrev s__law_circle_judged : Stmt := topS 46
abbrev n__law_circle_judged : List Str := ["_law_thing", "_law_one"]
theorem sc__law_circle_judged : FnScope ["_law_thing", "_law_one"] ["_law_thing"] (defScope s__law_circle_judged) := ⟨rfl, rfl, rfl, by decide +kernel, rfl, by decide +kernel, by decide +kernel⟩
theorem ok__law_circle_judged {f : Addr} {fd : FuncData} (F : Fun K "_law_circle_judged" "_law_circle_judged" s__law_circle_judged f fd) (T : Txt K mg) (C__law_judged : Callee P w K mg base "_law_judged" 2 1 m__law_judged) :
    FnOk P w K mg base (L2.CX P w) 3 f fd ["_law_thing"] (spM K mg 1 m__law_circle_judged) := by
  have z_len := T.z_len
  have z_isinstance := T.z_isinstance
  have z_tuple := T.z_tuple
  have z_all := T.z_all
  have z_set := T.z_set
  have nd := sc__law_circle_judged.nd
  refine FnOk.cut (fn_okM F sc__law_circle_judged fun cdv A outer s H E hr tk po => ?_)
  exact ⟨_, xss_cons (xs_if (xw_pt (xw_or (xt_not (kt_tru K (ke_isi K (T := "tuple") z_isinstance z_tuple (by decide +kernel) (xe_v 0)))) (xw_or (xt_not (xt_chain op_le op_le opd_le opd_le (xe_int) (xe_callB (r := rLenC K) call_len_seq opc_len z_len PySem.boot_len (xa_cons (xe_v 0) (xa_nil))) (xe_int))) (xw_or1 (xt_not (kt_tru K (xe_callB (r := rAll K) (cr_all rfl) opc_all z_all (by decide +kernel) (xa_cons (xe_lc [("_law_one", 1)] fin_I rfl nd (ki_seq K (xe_v 0)) (blkOk_by (N := n__law_circle_judged) (sc := defScope s__law_circle_judged) (by decide +kernel)) (fun _ _ _ _ _ => xg_name 1 nd) (fun _ _ _ _ _ => xts_nil) (fun _ _ _ _ _ => ke_call K mg C__law_judged (hr.mono (by decide)) takes0 (xa_cons (xe_v 1) (xa_nil)))) (xa_nil))))))))) (xss_one (xs_ret (xe_bl))) (xss_nil))
    (xss_one (xs_ret (xe_cmp (r := rEqD K) (op_eqD hr.units) opd_eq (xe_lenSet z_len z_set (xe_lc [("_law_one", 1)] fin_I rfl nd (ki_seq K (xe_v 0)) (blkOk_by (N := n__law_circle_judged) (sc := defScope s__law_circle_judged) (by decide +kernel)) (fun _ _ _ _ _ => xg_name 1 nd) (fun _ _ _ _ _ => xts_nil) (fun _ _ _ _ _ => xe_ix (r := rIx K) ix_seq opd_ix (xe_v 1) (xe_int))) rfl) (xe_int))))⟩
abbrev s__law_missed : Stmt := topS 39
abbrev n__law_missed : List Str := ["_law_adviser_here", "_law_row", "_law_state", "_law_found", "_law_letter", "_law_told", "_law_nexts"]
theorem sc__law_missed : FnScope ["_law_adviser_here", "_law_row", "_law_state", "_law_found", "_law_letter", "_law_told", "_law_nexts"] ["_law_adviser_here", "_law_row"] (defScope s__law_missed) := ⟨rfl, rfl, rfl, by decide +kernel, rfl, by decide +kernel, by decide +kernel⟩
theorem ok__law_missed {f : Addr} {fd : FuncData} (F : Fun K "_law_missed" "_law_missed" s__law_missed f fd) (T : Txt K mg)  :
    FnOk P w K mg base (L2.CX P w) 1 f fd ["_law_adviser_here", "_law_row"] (spM K mg 2 KG.m__law_missed) := by
  have z_int := T.z_int
  have nd := sc__law_missed.nd
  refine FnOk.cut (fn_okM F sc__law_missed fun cdv A outer s H E hr tk po => ?_)
  exact ⟨_, xss_cons (xs_asg (xe_tup (xa_cons (xe_int) (xa_cons (xe_int) (xa_nil)))) (kg_tup K rfl (xgs_cons (xg_name 2 nd) (xgs_cons (xg_name 3 nd) (xgs_nil)))))
    (xss_cons (xs_for po rfl (ki_seq K (xe_v 1)) (xg_name 4 nd) (xss_cons (xs_asg (xe_ix (r := rIx K) ix_seq opd_ix (xe_ix (r := rIx K) ix_seq opd_ix (xe_v 0) (xe_int)) (xe_v 2)) (kg_tup K rfl (xgs_cons (xg_name 5 nd) (xgs_cons (xg_name 6 nd) (xgs_nil)))))
    (xss_one (xs_par (i := 3) (j := 2) rfl nd (xe_op (r := rAddG K) op_addG opd_add (xe_v 3) (xe_callTy call_int1 opc_int z_int (by decide +kernel) (xa_cons (xe_cmp (r := rNeD K) (op_neD hr.units) opd_ne (xe_v 5) (xe_v 4)) (xa_nil)))) (xe_ix (r := rIx K) ix_seq opd_ix (xe_v 6) (xe_v 4))))))
    (xss_one (xs_ret (xe_v 3))))⟩
abbrev s_law : Stmt := topS 49
abbrev n_law : List Str := ["_law_script", "_law_pot_here", "_law_turn", "_law_circle_here", "_law_bent_here", "_law_thing", "_law_many", "_law_row", "_law_k", "_law_one"]
theorem sc_law : FnScope ["_law_script", "_law_pot_here", "_law_turn", "_law_circle_here", "_law_bent_here", "_law_thing", "_law_many", "_law_row", "_law_k", "_law_one"] ["_law_script"] (defScope s_law) := ⟨rfl, rfl, rfl, by decide +kernel, rfl, by decide +kernel, by decide +kernel⟩
theorem ok_law {f : Addr} {fd : FuncData} (F : Fun K "law" "law" s_law f fd) (T : Txt K mg) (C__law_pot : Callee P w K mg base "_law_pot" 1 1 KG.m__law_pot) (C__law_circle : Callee P w K mg base "_law_circle" 3 4 KG.m__law_circle) (C__law_bent : Callee P w K mg base "_law_bent" 4 2 m__law_bent) (C__law_any : Callee P w K mg base "_law_any" 2 2 KG.m__law_any) (C__law_bent_circle : Callee P w K mg base "_law_bent_circle" 5 2 m__law_bent_circle) (C__law_is : Callee P w K mg base "_law_is" 5 2 KG.m__law_is) (C__law_draw : Callee P w K mg base "_law_draw" 1 2 KG.m__law_draw) (C_adviser_misses : Callee P w K mg base "adviser_misses" 8 2 KG.m_adviser_misses) (C_is_adviser : Callee P w K mg base "is_adviser" 6 1 KG.m_is_adviser) (C__law_judged : Callee P w K mg base "_law_judged" 2 1 m__law_judged) (C_is_circle : Callee P w K mg base "is_circle" 7 1 KG.m_is_circle) (C__law_circle_judged : Callee P w K mg base "_law_circle_judged" 3 1 m__law_circle_judged) (C__law_missed : Callee P w K mg base "_law_missed" 1 2 KG.m__law_missed) :
    FnOk P w K mg base (L2.CX P w) 9 f fd ["_law_script"] (spM K mg 1 m_law) := by
  have z_range := T.z_range
  have z_tuple := T.z_tuple
  have nd := sc_law.nd
  refine (fn_okM F sc_law fun cdv A outer s H E hr tk po => ?_)
  exact ⟨_, xss_cons (xs_set 1 nd (ke_call K mg C__law_pot (hr.mono (by decide)) tk (xa_cons (xe_v 0) (xa_nil))))
    (xss_cons (xs_for po rfl (xi_rng1 z_range (xa_cons (xe_int) (xa_nil))) (xg_name 2 nd) (xss_cons (xs_set 3 nd (ke_call K mg C__law_circle (hr.mono (by decide)) tk (xa_cons (xe_v 1) (xa_cons (xe_lst (xa_cons (xe_int) (xa_cons (xe_int) (xa_cons (xe_int) (xa_nil))))) (xa_cons (xe_lst (xa_cons (xe_int) (xa_cons (xe_int) (xa_cons (xe_int) (xa_cons (xe_int) (xa_nil)))))) (xa_cons (xe_int) (xa_nil)))))))
    (xss_cons (xs_set 4 nd (ke_call K mg C__law_bent (hr.mono (by decide)) tk (xa_cons (xe_v 1) (xa_cons (ke_call K mg C__law_any (hr.mono (by decide)) tk (xa_cons (xe_v 1) (xa_cons (xe_v 3) (xa_nil)))) (xa_nil)))))
    (xss_cons (xs_for po rfl (ki_seq K (xe_op (r := rAddG K) op_addG opd_add (xe_v 3) (xe_tup (xa_cons (xe_v 4) (xa_nil))))) (xg_name 5 nd) (xss_one (xs_if (xt_not (kt_tru K (ke_call K mg C__law_is (hr.mono (by decide)) tk (xa_cons (ke_call K mg C_is_adviser (hr.mono (by decide)) tk (xa_cons (xe_v 5) (xa_nil))) (xa_cons (ke_call K mg C__law_judged (hr.mono (by decide)) tk (xa_cons (xe_v 5) (xa_nil))) (xa_nil)))))) (xss_one (xs_ret (xe_bl))) (xss_nil))))
    (xss_cons (xs_for po rfl (ki_seq K (xe_tup (xa_cons (xe_v 3) (xa_cons (ke_call K mg C__law_bent_circle (hr.mono (by decide)) tk (xa_cons (xe_v 1) (xa_cons (xe_v 3) (xa_nil)))) (xa_cons (ke_call K mg C__law_bent_circle (hr.mono (by decide)) tk (xa_cons (xe_v 1) (xa_cons (xe_v 3) (xa_nil)))) (xa_nil)))))) (xg_name 5 nd) (xss_one (xs_if (xt_not (kt_tru K (ke_call K mg C__law_is (hr.mono (by decide)) tk (xa_cons (ke_call K mg C_is_circle (hr.mono (by decide)) tk (xa_cons (xe_v 5) (xa_nil))) (xa_cons (ke_call K mg C__law_circle_judged (hr.mono (by decide)) tk (xa_cons (xe_v 5) (xa_nil))) (xa_nil)))))) (xss_one (xs_ret (xe_bl))) (xss_nil))))
    (xss_cons (xs_set 6 nd (ke_call K mg C__law_any (hr.mono (by decide)) tk (xa_cons (xe_v 1) (xa_cons (xe_lst (xa_cons (xe_int) (xa_cons (xe_int) (xa_cons (xe_int) (xa_cons (xe_int) (xa_cons (xe_if (xt_cmp (r := rEqD K) (op_eqD hr.units) opd_eq (ke_call K mg C__law_draw (hr.mono (by decide)) tk (xa_cons (xe_v 1) (xa_cons (xe_int) (xa_nil)))) (xe_int)) (xe_int) (xe_int)) (xa_nil))))))) (xa_nil)))))
    (xss_cons (xs_set 7 nd (xe_callTy (r := rTupleC K) call_tuple_of opc_tuple z_tuple (by decide +kernel) (xa_cons (xe_lc [("_law_k", 8)] fin_I rfl nd (xi_rng1 z_range (xa_cons (xe_v 6) (xa_nil))) (blkOk_by (N := n_law) (sc := defScope s_law) (by decide +kernel)) (fun _ _ _ _ _ => xg_name 8 nd) (fun _ _ _ _ _ => xts_nil) (fun _ _ _ _ _ => ke_call K mg C__law_draw (hr.mono (by decide)) takes0 (xa_cons (xe_v 1) (xa_cons (xe_ix (r := rIx K) ix_seq opd_ix (xe_ix (r := rIx K) ix_seq opd_ix (xe_v 3) (xe_int)) (xe_int)) (xa_nil))))) (xa_nil))))
    (xss_one (xs_if (xt_not (kt_tru K (ke_call K mg C__law_is (hr.mono (by decide)) tk (xa_cons (ke_call K mg C_adviser_misses (hr.mono (by decide)) tk (xa_cons (xe_v 3) (xa_cons (xe_v 7) (xa_nil)))) (xa_cons (xe_callTy (r := rTupleC K) call_tuple_of opc_tuple z_tuple (by decide +kernel) (xa_cons (xe_lc [("_law_one", 9)] fin_I rfl nd (ki_seq K (xe_v 3)) (blkOk_by (N := n_law) (sc := defScope s_law) (by decide +kernel)) (fun _ _ _ _ _ => xg_name 9 nd) (fun _ _ _ _ _ => xts_nil) (fun _ _ _ _ _ => ke_call K mg C__law_missed (hr.mono (by decide)) takes0 (xa_cons (xe_v 9) (xa_cons (xe_v 7) (xa_nil))))) (xa_nil))) (xa_nil)))))) (xss_one (xs_ret (xe_bl))) (xss_nil))))))))))
    (xss_one (xs_ret (xe_bl))))⟩
end
end K44
set_option Elab.async false
set_option linter.all false
set_option maxRecDepth 100000
set_option maxHeartbeats 2000000
/-! What the pieces come to, in words of plain mathematics. -/
namespace KM
open PySem L2
def WF (M : List MO) : Prop := M.all (MO.lo M.length) = true
theorem WF.nil : WF [] := rfl
theorem cut_same {M : List MO} (h : WF M) {d : D} (hd : D.lo M.length d = true) : cutR M.length (.ok d M) = .ok d M := by
  unfold cutR
  simp only [List.take_length]
  rw [if_pos]
  rw [Bool.and_eq_true]
  exact ⟨hd, h⟩
/-- the objects that came to be are dropped -/
theorem cut_to {M M' : List MO} {n : Nat} (hn : M.length = n) (h : WF M) {d : D} (hd : D.lo n d = true) (hM : M'.take n = M) : cutR n (.ok d M') = .ok d M := by
  subst hn
  unfold cutR
  simp only [hM]
  rw [if_pos]
  rw [Bool.and_eq_true]
  exact ⟨hd, h⟩
mutual
theorem D.lo_mono {n m : Nat} (h : n ≤ m) : ∀ d : D, D.lo n d = true → D.lo m d = true
  | .non, _ => rfl
  | .bl _, _ => rfl
  | .int _, _ => rfl
  | .str _, _ => rfl
  | .obj _, _ => rfl
  | .fn _, _ => rfl
  | .dct, _ => rfl
  | .ref k, e => decide_eq_true (Nat.lt_of_lt_of_le (of_decide_eq_true e) h)
  | .tup xs, e => D.los_mono h xs e
  | .lst xs, e => D.los_mono h xs e
  | .rol xs, e => D.los_mono h xs e
theorem D.los_mono {n m : Nat} (h : n ≤ m) : ∀ ds : List D, D.los n ds = true → D.los m ds = true
  | [], _ => rfl
  | d :: ds, e => by
    unfold D.los at e ⊢
    rw [Bool.and_eq_true] at e ⊢
    exact ⟨D.lo_mono h d e.1, D.los_mono h ds e.2⟩
end
theorem D.los_all {n : Nat} : ∀ {ds : List D}, D.los n ds = true ↔ ∀ d ∈ ds, D.lo n d = true
  | [] => by simp [D.los]
  | d :: ds => by
    unfold D.los
    rw [Bool.and_eq_true, D.los_all]
    simp
theorem MO.lo_mono {n m : Nat} (h : n ≤ m) (o : MO) (e : MO.lo n o = true) : MO.lo m o = true := by
  cases o with
  | lst xs => exact D.los_mono h xs e
  | dct xs => exact D.los_mono h _ e
theorem WF.app {M : List MO} (h : WF M) {o : MO} (ho : MO.lo (M.length + 1) o = true) : WF (M ++ [o]) := by
  unfold WF at h ⊢
  rw [List.all_append, Bool.and_eq_true, List.length_append]
  refine ⟨List.all_eq_true.mpr fun x hx => MO.lo_mono (Nat.le_succ _) x (List.all_eq_true.mp h x hx), ?_⟩
  simpa using ho
theorem WF.set {M : List MO} (h : WF M) {o : MO} {k : Nat} (ho : MO.lo M.length o = true) : WF (M.set k o) := by
  unfold WF at h ⊢
  rw [List.length_set]
  refine List.all_eq_true.mpr fun x hx => ?_
  rcases List.mem_or_eq_of_mem_set hx with hm | e
  · exact List.all_eq_true.mp h x hm
  · subst e; exact ho
theorem WF.at {M : List MO} (h : WF M) {o : MO} {k : Nat} (ho : M[k]? = some o) : MO.lo M.length o = true := List.all_eq_true.mp h o (List.mem_of_getElem? ho)

/-! ### loops -/
/-- I: what holds ahead of the items that are left; a turn may go on, leave with a value, or break -/
theorem forL_ind {gd : List MO → Prop} {gg : GG} {gb : GS} (I : List D → Ctx → List MO → Prop) (B : Ctx → List MO → Prop) (Rt : D → List MO → Prop)
    (hd : ∀ δ M, I [] δ M → gd M)
    (hs : ∀ x xs δ M, I (x :: xs) δ M → gd M ∧ ∃ δ1 M1, gg x δ M = .nx δ1 M1 ∧
      ((∃ δ2 M2, (gb δ1 M1 = .nx δ2 M2 ∨ gb δ1 M1 = .ct δ2 M2) ∧ I xs δ2 M2) ∨ (∃ d M2, gb δ1 M1 = .rt d M2 ∧ Rt d M2) ∨ (∃ δ2 M2, gb δ1 M1 = .bk δ2 M2 ∧ B δ2 M2))) :
    ∀ xs δ M, I xs δ M → (∃ δ' M', forL gd gg gb xs δ M = .nx δ' M' ∧ (I [] δ' M' ∨ B δ' M')) ∨ (∃ d M', forL gd gg gb xs δ M = .rt d M' ∧ Rt d M')
  | [], δ, M, h => .inl ⟨δ, M, by unfold forL; rw [if_pos (hd δ M h)], .inl h⟩
  | x :: xs, δ, M, h => by
    obtain ⟨g, δ1, M1, e1, q⟩ := hs x xs δ M h
    unfold forL
    rw [if_pos g, e1]
    rcases q with ⟨δ2, M2, e2, h2⟩ | ⟨d, M2, e2, h2⟩ | ⟨δ2, M2, e2, h2⟩
    · rcases e2 with e2 | e2
      · simp only [e2]
        exact forL_ind I B Rt hd hs xs δ2 M2 h2
      · simp only [e2]
        exact forL_ind I B Rt hd hs xs δ2 M2 h2
    · simp only [e2]
      exact .inr ⟨d, M2, rfl, h2⟩
    · simp only [e2]
      exact .inl ⟨δ2, M2, rfl, .inr h2⟩
/-- a loop that always runs through -/
theorem forL_thru {gd : List MO → Prop} {gg : GG} {gb : GS} (I : List D → Ctx → List MO → Prop)
    (hd : ∀ δ M, I [] δ M → gd M)
    (hs : ∀ x xs δ M, I (x :: xs) δ M → gd M ∧ ∃ δ1 M1, gg x δ M = .nx δ1 M1 ∧ ∃ δ2 M2, (gb δ1 M1 = .nx δ2 M2 ∨ gb δ1 M1 = .ct δ2 M2) ∧ I xs δ2 M2) (xs : List D) (δ : Ctx) (M : List MO) (h : I xs δ M) :
    ∃ δ' M', forL gd gg gb xs δ M = .nx δ' M' ∧ I [] δ' M' := by
  rcases forL_ind (gd := gd) (gg := gg) (gb := gb) I (fun _ _ => False) (fun _ _ => False) hd (fun x xs δ M h => by
    obtain ⟨g, δ1, M1, e1, δ2, M2, e2, h2⟩ := hs x xs δ M h
    exact ⟨g, δ1, M1, e1, .inl ⟨δ2, M2, e2, h2⟩⟩) xs δ M h with ⟨δ', M', e, q | q⟩ | ⟨d, M', e, q⟩
  · exact ⟨δ', M', e, q⟩
  · exact q.elim
  · exact q.elim
/-- a comprehension without ifs: I left acc M -/
theorem lcL_ind {gd : List MO → Prop} {gg : GG} {ge : GE} {δ : Ctx} (I : List D → List D → List MO → Prop)
    (hd : ∀ acc M, I [] acc M → gd M)
    (hs : ∀ x xs acc M, I (x :: xs) acc M → gd M ∧ acc.length < 100000 ∧ ∃ δ1 M1 d M2, gg x δ M = .nx δ1 M1 ∧ ge δ1 M1 = .ok d M2 ∧ I xs (acc ++ [d]) M2) :
    ∀ xs acc M, I xs acc M → ∃ acc' M', lcL gd gg gYes ge δ xs acc M = .ok acc' M' ∧ I [] acc' M'
  | [], acc, M, h => ⟨acc, M, by unfold lcL; rw [if_pos (hd acc M h)], h⟩
  | x :: xs, acc, M, h => by
    obtain ⟨g, hl, δ1, M1, d, M2, e1, e2, h2⟩ := hs x xs acc M h
    unfold lcL
    rw [if_pos g, e1]
    simp only [gYes, if_true, e2]
    rw [if_pos (show bigS acc.length from hl)]
    exact lcL_ind I hd hs xs (acc ++ [d]) M2 h2
/-- .. that changes nothing: a map -/
theorem lcL_map {α : Type} {gd : List MO → Prop} {gg : GG} {ge : GE} {δ : Ctx} {M : List MO} {em : α → D} {f : α → D} (hgd : gd M := by trivial) : ∀ (xs : List α) (acc : List D), acc.length + xs.length ≤ 100000 →
    (∀ x ∈ xs, ∃ δ1, gg (em x) δ M = .nx δ1 M ∧ ge δ1 M = .ok (f x) M) → lcL gd gg gYes ge δ (xs.map em) acc M = .ok (acc ++ xs.map f) M
  | [], acc, _, _ => by simp [lcL, hgd]
  | x :: xs, acc, hl, h => by
    obtain ⟨δ1, e1, e2⟩ := h x (List.mem_cons_self ..)
    rw [List.length_cons] at hl
    rw [List.map_cons]
    unfold lcL
    rw [if_pos hgd, e1]
    simp only [gYes, if_true, e2]
    rw [if_pos (show bigS acc.length from (by unfold bigS; omega))]
    rw [lcL_map hgd xs (acc ++ [f x]) (by simp; omega) (fun y hy => h y (List.mem_cons_of_mem _ hy))]
    simp
/-! ### fractions -/
def fD (q : Rat) : D := .tup [.int q.num, .int q.den]
theorem fD_inj {p q : Rat} (h : fD p = fD q) : p = q := by
  unfold fD at h
  simp only [D.tup.injEq, List.cons.injEq, D.int.injEq, and_true] at h
  exact Rat.ext h.1 (by exact_mod_cast h.2)
@[simp] theorem fD_lo (n : Nat) (q : Rat) : D.lo n (fD q) = true := rfl
theorem eqPy_int (i j : Int) (M : List MO) : eqPy (.int i) (.int j) M = some (i == j) := rfl
theorem oEq_int (i j : Int) (M : List MO) : oEq (.int i) (.int j) M = .ok (.bl (i == j)) M := rfl
theorem oNe_int (i j : Int) (M : List MO) : oNe (.int i) (.int j) M = .ok (.bl (!(i == j))) M := rfl
theorem eqPy_fr (p q : Rat) (M : List MO) : eqPy (fD p) (fD q) M = some (decide (p = q)) := by
  have h1 : eqPy (fD p) (fD q) M = some ((p.num == q.num) && ((p.den : Int) == (q.den : Int)) && true) := by
    unfold fD
    simp [eqPy, pyM, D.py, D.pys, SeqAt.shaped, PyData.canLay0, PyData.canLayAll0, PyData.depth, PyData.depthAll, PyData.eqv, PyData.eqvAll]
  rw [h1]
  congr 1
  by_cases e : p = q
  · subst e; simp
  · rw [decide_eq_false e]
    by_cases e1 : p.num = q.num
    · by_cases e2 : p.den = q.den
      · exact absurd (Rat.ext e1 e2) e
      · simp [e1]
        omega
    · simp [e1]
theorem oEq_fr (p q : Rat) (M : List MO) : oEq (fD p) (fD q) M = .ok (.bl (decide (p = q))) M := by unfold oEq; rw [eqPy_fr]
theorem oNe_fr (p q : Rat) (M : List MO) : oNe (fD p) (fD q) M = .ok (.bl (!decide (p = q))) M := by unfold oNe; rw [eqPy_fr]
/-- top by bottom, reduced -/
theorem norm_fr (t : Int) (b : Nat) (hb : b ≠ 0) : fD (Rat.normalize t b hb) = .tup [.int (t / ((t.natAbs.gcd b : Nat) : Int)), .int ((b : Int) / ((t.natAbs.gcd b : Nat) : Int))] := by
  rw [Rat.normalize_eq]
  unfold fD
  simp
theorem tyOk_int : tyOk "int" = true := by decide +kernel
theorem tyOk_bool : tyOk "bool" = true := by decide +kernel
theorem tyOk_tuple : tyOk "tuple" = true := by decide +kernel
theorem tyOk_list : tyOk "list" = true := by decide +kernel
theorem tyOk_str : tyOk "str" = true := by decide +kernel
end KM
namespace KM
open PySem L2
open Classical
section
variable (δ : Ctx) (M : List MO) (ga gb gc : GE) (gA gB : GB) (g h : GS) (o o' : OD) (u : OU) (m : OC) (a : GA) (gi : GI) (gg : GG) (os : OSet) (om : OM)
@[simp] theorem s_gVar (i : Nat) : gVar i δ M = match δ[i]? with | some (some d) => .ok d M | _ => .bad := rfl
@[simp] theorem s_gC (d : D) : gC d δ M = .ok d M := rfl
@[simp] theorem s_gOp : gOp o ga gb δ M = (ga δ M).bind fun x M1 => (gb δ M1).bind fun y M2 => o x y M2 := rfl
@[simp] theorem s_gUn : gUn u ga δ M = (ga δ M).bind fun x M1 => u x M1 := rfl
@[simp] theorem s_gANil : gANil δ M = .ok [] M := rfl
@[simp] theorem s_gACons : gACons ga a δ M = (ga δ M).bind fun x M1 => (a δ M1).bind fun xs M2 => .ok (x :: xs) M2 := rfl
@[simp] theorem s_gCall : gCall m a δ M = (a δ M).bind fun ds M1 => m ds M1 := rfl
@[simp] theorem s_gETup : gETup a δ M = (a δ M).bind fun ds M1 => if bigN ds.length then .ok (.tup ds) M1 else .bad := rfl
@[simp] theorem s_gLst : gLst a δ M = (a δ M).bind fun ds M1 => if bigN ds.length then .ok (.lst ds) M1 else .bad := rfl
@[simp] theorem s_gLstM : gLstM a δ M = (a δ M).bind fun ds M1 => if bigN ds.length then .ok (.ref M1.length) (M1 ++ [.lst ds]) else .bad := rfl
@[simp] theorem s_gTest : gTest ga δ M = (ga δ M).bind fun x M1 => match x with | .bl b => .ok b M1 | _ => .bad := rfl
@[simp] theorem s_gTru : gTru ga δ M = (ga δ M).bind fun x M1 => match trD M1 x with | some b => .ok b M1 | none => .bad := rfl
@[simp] theorem s_gAnd : gAnd gA gB δ M = (gA δ M).bind fun x M1 => if x = true then gB δ M1 else .ok false M1 := rfl
@[simp] theorem s_gOr : gOr gA gB δ M = (gA δ M).bind fun x M1 => if x = true then .ok true M1 else gB δ M1 := rfl
@[simp] theorem s_gNot : gNot gA δ M = (gA δ M).bind fun x M1 => .ok (!x) M1 := rfl
@[simp] theorem s_gAndV : gAndV ga gb δ M = (ga δ M).bind fun x M1 => match x with | .bl true => gb δ M1 | .bl false => .ok (.bl false) M1 | _ => .bad := rfl
@[simp] theorem s_gOrV : gOrV ga gb δ M = (ga δ M).bind fun x M1 => match x with | .bl true => .ok (.bl true) M1 | .bl false => gb δ M1 | _ => .bad := rfl
@[simp] theorem s_gNotV : gNotV ga δ M = (ga δ M).bind fun x M1 => match x with | .bl b => .ok (.bl (!b)) M1 | _ => .bad := rfl
@[simp] theorem s_gIfE : gIfE gA ga gb δ M = (gA δ M).bind fun x M1 => if x = true then ga δ M1 else gb δ M1 := rfl
@[simp] theorem s_gChain : gChain o o' ga gb gc δ M = (ga δ M).bind fun x M1 => (gb δ M1).bind fun y M2 => (o x y M2).bind fun z M3 => match z with
  | .bl true => (gc δ M3).bind fun u M4 => o' y u M4
  | .bl false => .ok (.bl false) M3
  | _ => .bad := rfl
@[simp] theorem s_gNoP : gNoP δ M = .ok none M := rfl
@[simp] theorem s_gP : gP ga δ M = (ga δ M).bind fun x M1 => match x with | .int i => .ok (some i) M1 | _ => .bad := rfl
@[simp] theorem s_gSl (gl gh : GO) : gSl ga gl gh δ M = (ga δ M).bind fun x M1 => (gl δ M1).bind fun lo M2 => (gh δ M2).bind fun hi M3 => oSl x lo hi M3 := rfl
@[simp] theorem s_gNext : gNext δ M = .nx δ M := rfl
@[simp] theorem s_gSeq : gSeq g h δ M = (g δ M).then h := rfl
@[simp] theorem s_gSet (i : Nat) : gSet i ga δ M = (ga δ M).toS δ fun d M1 => .nx (δ.set i (some d)) M1 := rfl
@[simp] theorem s_gDrop : gDrop ga δ M = (ga δ M).toS δ fun _ M1 => .nx δ M1 := rfl
@[simp] theorem s_gRet : gRet ga δ M = (ga δ M).toS δ fun d M1 => .rt d M1 := rfl
@[simp] theorem s_gRetN : gRetN δ M = .rt .non M := rfl
@[simp] theorem s_gIf : gIf gA g h δ M = (gA δ M).toS δ fun b M1 => if b = true then g δ M1 else h δ M1 := rfl
@[simp] theorem s_gBreak : gBreak δ M = .bk δ M := rfl
@[simp] theorem s_gCont : gCont δ M = .ct δ M := rfl
@[simp] theorem s_gNever : gNever δ M = .bad := rfl
@[simp] theorem s_gtName (i : Nat) (d : D) : gtName i d δ M = .nx (δ.set i (some d)) M := rfl
@[simp] theorem s_gtNil : gtNil [] δ M = .nx δ M := rfl
@[simp] theorem s_gtCons (r : List D → GS) (d : D) (ds : List D) : gtCons gg r (d :: ds) δ M = match gg d δ M with
    | .nx δ1 M1 => match r ds δ1 M1 with
      | .nx δ2 M2 => .nx δ2 M2
      | _ => .bad
    | _ => .bad := rfl
@[simp] theorem s_gtTup (n : Nat) (r : List D → GS) (ds : List D) : gtTup n r (.tup ds) δ M = if ds.length = n then r ds δ M else .bad := rfl
@[simp] theorem s_gtSub (d : D) : gtSub ga gb os d δ M = (ga δ M).toS δ fun x M1 => (gb δ M1).toS δ fun i M2 => match os x i d M2 with
  | some M3 => .nx δ M3
  | none => .bad := rfl
@[simp] theorem s_gAsg : gAsg ga gg δ M = (ga δ M).toS δ fun d M1 => match gg d δ M1 with
  | .nx δ2 M2 => .nx δ2 M2
  | .ex c _ M2 => .ex c δ M2
  | _ => .bad := rfl
@[simp] theorem s_gPar (i j : Nat) : gPar i j ga gb δ M = (ga δ M).toS δ fun x M1 => (gb δ M1).toS δ fun y M2 => .nx ((δ.set i (some x)).set j (some y)) M2 := rfl
@[simp] theorem s_gFor : gFor gi gg g δ M = (gi δ M).toS δ fun it M1 => forL it.gd gg g it.items δ M1 := rfl
@[simp] theorem s_gLcG (fin : List D → List MO → R D) (vs : List Nat) : gLcG fin gi gg gA ga vs δ M = (gi δ M).bind fun it M1 => (lcL it.gd gg gA ga (wipeD δ vs) it.items [] M1).bind fin := rfl
@[simp] theorem s_giRng1 : giRng1 a δ M = (a δ M).bind fun xs M1 => match xs with
  | [.int j] => if rngB j then .ok (itT (rngD 0 j.toNat)) M1 else .bad
  | _ => .bad := rfl
@[simp] theorem s_giRng2 : giRng2 a δ M = (a δ M).bind fun xs M1 => match xs with
  | [.int i, .int j] => if rngB i ∧ rngB j then .ok (itT (rngD i (j - i).toNat)) M1 else .bad
  | _ => .bad := rfl
@[simp] theorem s_giSeq : giSeq ga δ M = (ga δ M).bind fun x M1 => match tupOf x with
  | some xs => .ok (itT xs) M1
  | none => match listOf M1 x with
    | some xs => .ok ⟨xs, gdOf x xs⟩ M1
    | none => .bad := rfl
@[simp] theorem s_gBM : gBM om ga a δ M = (ga δ M).bind fun x M1 => match listOf M1 x with
  | some _ => (a δ M1).bind fun ds M2 => om x ds M2
  | none => .bad := rfl
@[simp] theorem s_itT (xs : List D) : (itT xs).items = xs := rfl
@[simp] theorem s_itTg (xs : List D) : (itT xs).gd = fun _ => True := rfl
@[simp] theorem s_tupOf (xs : List D) : tupOf (.tup xs) = some xs := rfl
@[simp] theorem s_tupOf_int (i : Int) : tupOf (.int i) = none := rfl
@[simp] theorem s_tupOf_lst (xs : List D) : tupOf (.lst xs) = none := rfl
@[simp] theorem s_tupOf_rol (xs : List D) : tupOf (.rol xs) = none := rfl
@[simp] theorem s_tupOf_ref (k : Nat) : tupOf (.ref k) = none := rfl
@[simp] theorem s_listOf_lst (xs : List D) : listOf M (.lst xs) = some xs := rfl
@[simp] theorem s_listOf_rol (xs : List D) : listOf M (.rol xs) = some xs := rfl
theorem s_listOf_ref {k : Nat} {xs : List D} (h : M[k]? = some (.lst xs)) : listOf M (.ref k) = some xs := by unfold listOf; simp only [h]
@[simp] theorem s_oLen_tup (xs : List D) : oLen [.tup xs] M = .ok (.int (xs.length : Int)) M := rfl
@[simp] theorem s_oLen_lst (xs : List D) : oLen [.lst xs] M = .ok (.int (xs.length : Int)) M := rfl
@[simp] theorem s_oLen_rol (xs : List D) : oLen [.rol xs] M = .ok (.int (xs.length : Int)) M := rfl
@[simp] theorem s_oTuple_lst (xs : List D) : oTuple [.lst xs] M = .ok (.tup xs) M := rfl
@[simp] theorem s_oInt (i : Int) : oInt [.int i] M = .ok (.int i) M := rfl
@[simp] theorem s_oIntB (b : Bool) : oInt [.bl b] M = .ok (.int (if b then 1 else 0)) M := rfl
@[simp] theorem s_oAbs (i : Int) : oAbs [.int i] M = .ok (.int (if i < 0 then -i else i)) M := rfl
@[simp] theorem s_oGcd (i j : Int) : oGcd [.int i, .int j] M = .ok (.int ((Nat.gcd i.natAbs j.natAbs : Nat) : Int)) M := rfl
@[simp] theorem s_trB (b : Bool) : trD M (.bl b) = some b := rfl
@[simp] theorem s_addI (i j : Int) : oAdd (.int i) (.int j) M = .ok (.int (i + j)) M := rfl
@[simp] theorem s_subI (i j : Int) : oSub (.int i) (.int j) M = .ok (.int (i - j)) M := rfl
@[simp] theorem s_mulI (i j : Int) : oMul (.int i) (.int j) M = if CMulB i j then .ok (.int (i * j)) M else .bad := rfl
@[simp] theorem s_divI (i j : Int) : oDiv (.int i) (.int j) M = if CDivB i j then .ok (.int (i / j)) M else .bad := rfl
@[simp] theorem s_modI (i j : Int) : oMod (.int i) (.int j) M = if CModB i j then .ok (.int (i % j)) M else .bad := rfl
@[simp] theorem s_powI (i j : Int) : oPow (.int i) (.int j) M = if CPowB i j then .ok (.int (i ^ j.toNat)) M else .bad := rfl
@[simp] theorem s_ltI (i j : Int) : oLt (.int i) (.int j) M = .ok (.bl (decide (i < j))) M := rfl
@[simp] theorem s_leI (i j : Int) : oLe (.int i) (.int j) M = .ok (.bl (decide (i ≤ j))) M := rfl
@[simp] theorem s_gtI (i j : Int) : oGt (.int i) (.int j) M = .ok (.bl (decide (j < i))) M := rfl
@[simp] theorem s_geI (i j : Int) : oGe (.int i) (.int j) M = .ok (.bl (decide (j ≤ i))) M := rfl
@[simp] theorem s_eqI (i j : Int) : oEq (.int i) (.int j) M = .ok (.bl (i == j)) M := rfl
@[simp] theorem s_neI (i j : Int) : oNe (.int i) (.int j) M = .ok (.bl (!(i == j))) M := rfl
@[simp] theorem s_negI (i : Int) : oNeg (.int i) M = .ok (.int (-i)) M := rfl
@[simp] theorem s_isi_tup (xs : List D) : oIsi "tuple" (.tup xs) M = .ok (.bl true) M := by simp [oIsi, tyM, tyN, isiB, tyOk_tuple]
@[simp] theorem s_isi_int (i : Int) : oIsi "int" (.int i) M = .ok (.bl true) M := by simp [oIsi, tyM, tyN, isiB, tyOk_int]
@[simp] theorem s_isi_intb (i : Int) : oIsi "bool" (.int i) M = .ok (.bl false) M := by simp [oIsi, tyM, tyN, isiB, tyOk_bool]
theorem s_ixT {xs : List D} {n : Nat} {d : D} (h : xs[n]? = some d) : oIx (.tup xs) (.int (n : Int)) M = .ok d M := by
  unfold oIx
  simp only [s_tupOf]
  rw [atI_nat h]
theorem s_ixL {x : D} {xs : List D} {n : Nat} {d : D} (ht : tupOf x = none) (hl : listOf M x = some xs) (h : xs[n]? = some d) : oIx x (.int (n : Int)) M = .ok d M := by
  unfold oIx
  simp only [ht, hl]
  rw [atI_nat h]
theorem s_fnM {N : Nat} {ds : List D} {d : D} {M' : List MO} (h : g (startD N ds) M = .rt d M') : fnM N g ds M = .ok d M' := by unfold fnM; rw [h]
end

theorem ixT_map {α : Type} {f : α → D} {xs : List α} {n : Nat} {x : α} (h : xs[n]? = some x) (M : List MO) : oIx (.tup (xs.map f)) (.int (n : Int)) M = .ok (f x) M := s_ixT M (by rw [List.getElem?_map, h]; rfl)
theorem put_last (M : List MO) (a b : MO) : (M ++ [a]).set M.length b = M ++ [b] := by simp
theorem get_last (M : List MO) (a : MO) : (M ++ [a])[M.length]? = some a := by simp
theorem oAppend_eq {M : List MO} {k : Nat} {xs : List D} (h : M[k]? = some (.lst xs)) (hl : xs.length < 100000) (d : D) : oAppend (.ref k) [d] M = .ok .non (M.set k (.lst (xs ++ [d]))) := by
  unfold oAppend
  simp only [h]
  rw [if_pos (show bigS xs.length from hl)]
theorem cmul_ok {i j : Int} {a b : Nat} (ha : i.natAbs < 2 ^ a) (hb : j.natAbs < 2 ^ b) (h : a + b < 999998) : CMulB i j := by
  have h1 : i.natAbs.log2 ≤ a := by
    by_cases h0 : i.natAbs = 0
    · rw [h0, Nat.log2_zero]; omega
    · exact Nat.le_of_lt ((Nat.log2_lt h0).mpr ha)
  have h2 : j.natAbs.log2 ≤ b := by
    by_cases h0 : j.natAbs = 0
    · rw [h0, Nat.log2_zero]; omega
    · exact Nat.le_of_lt ((Nat.log2_lt h0).mpr hb)
  exact .inr (by omega)
theorem cmul_l {i j : Int} (h1 : -1000000000000000000 ≤ i) (h2 : i ≤ 1000000000000000000) : CMulB i j := .inl (.inl ⟨by omega, by omega⟩)
theorem cmul_r {i j : Int} (h1 : -1000000000000000000 ≤ j) (h2 : j ≤ 1000000000000000000) : CMulB i j := .inl (.inr ⟨by omega, by omega⟩)
theorem cdiv_ok {i j : Int} (h0 : 0 < j) (h : j.natAbs < 2 ^ 8999) : CDivB i j := by
  refine ⟨h0, ?_⟩
  have : j.natAbs.log2 < 8999 := (Nat.log2_lt (by omega)).mpr h
  omega
theorem cdiv_s {i j : Int} (h0 : 0 < j) (h : j ≤ 1000000000000000000) : CDivB i j := cdiv_ok h0 (Nat.lt_of_lt_of_le (show j.natAbs < 2 ^ 64 by omega) (Nat.pow_le_pow_right (by decide) (by decide)))
theorem cmod_ok {i j : Int} (h0 : 0 < j) : CModB i j := h0
theorem bigN_ok {n : Nat} (h : n ≤ 100000) : bigN n := h
theorem rngB_ok {i : Int} (h1 : -1000000000000000000 ≤ i) (h2 : i ≤ 1000000000000000000) : rngB i := ⟨by omega, by omega⟩
/-- sums of fractions -/
def sq : List Rat → Rat
  | [] => 0
  | q :: qs => q + sq qs
theorem sq_append (xs ys : List Rat) : sq (xs ++ ys) = sq xs + sq ys := by
  induction xs with
  | nil => simp [sq, Rat.zero_add]
  | cons x xs ih => simp [sq, ih, Rat.add_assoc]
theorem divInt_same {a b c : Int} (hc : c ≠ 0) : Rat.divInt a c + Rat.divInt b c = Rat.divInt (a + b) c := by
  rw [Rat.divInt_add_divInt _ _ hc hc, ← Int.add_mul, Rat.divInt_mul_right hc]
theorem norm_div {t : Int} {b : Nat} (hb : b ≠ 0) : Rat.normalize t b hb = Rat.divInt t b := by
  first
    | rw [Rat.normalize_eq_mkRat, Rat.mkRat_eq_divInt]
    | (rw [← Rat.mkRat_eq_normalize]; rfl)
    | (unfold Rat.divInt; simp [mkRat, hb])
end KM
set_option Elab.async false
set_option linter.all false
set_option maxRecDepth 100000
set_option maxHeartbeats 2000000
namespace KM
open PySem L2
section
variable (δ : Ctx) (M : List MO) (ga gb gc : GE) (g : GS) (a : GA)
@[simp] theorem s_gRaise (c : Str) : gRaise c δ M = .ex c δ M := rfl
@[simp] theorem s_gTry (cs : List Str) (hs : List (Str × GS)) : gTry cs hs g δ M = match g δ M with
  | .ex c δ1 M1 => if cs.contains c = true then handL hs c δ1 M1 else .bad
  | r => r := rfl
@[simp] theorem s_gCallL (i : Nat) (tb : List (Str × OC)) : gCallL i tb a δ M = match δ[i]? with
  | some (some (.fn x)) => match tb.lookup x with
    | some m => (a δ M).bind fun ds M1 => m ds M1
    | none => .bad
  | _ => .bad := rfl
@[simp] theorem s_gDct2 : gDct2 ga gb δ M = match ga δ M with
  | .ok _ M1 => match gb δ M1 with
    | .ok _ M2 => .ok .dct M2
    | _ => .bad
  | _ => .bad := rfl
end
theorem tyOk_dict : tyOk "dict" = true := by decide +kernel
end KM
set_option linter.all false
set_option maxRecDepth 100000
set_option maxHeartbeats 2000000
namespace KG
open PySem L2 KM
/-! judges over data of any form; small tools -/
def isWh : D → Bool
  | .int _ => true
  | _ => false
def notObj : D → Bool
  | .obj _ => false
  | .ref _ => false
  | .fn _ => false
  | _ => true
theorem is_whole_eq {d : D} {M : List MO} (h : WF M) (hd : notObj d = true) : m_is_whole [d] M = .ok (.bl (isWh d)) M := by
  unfold m_is_whole cutM
  have e : fnM 1 g_is_whole [d] M = .ok (.bl (isWh d)) M := by
    cases d <;> first
      | (simp [fnM, g_is_whole, startD, oIsi, tyM, tyN, isiB, tyOk_int, tyOk_bool, isWh]; done)
      | (simp [notObj] at hd)
  rw [e, cut_same h rfl]
theorem is_whole_int {i : Int} {M : List MO} (h : WF M) : m_is_whole [.int i] M = .ok (.bl true) M := is_whole_eq h rfl
theorem is_size_int {i : Int} {M : List MO} (h : WF M) : m_is_size [.int i] M = .ok (.bl (decide (2 ≤ i) && decide (i ≤ 4))) M := by
  unfold m_is_size cutM
  have e : fnM 1 g_is_size [.int i] M = .ok (.bl (decide (2 ≤ i) && decide (i ≤ 4))) M := by
    by_cases c : (2 : Int) ≤ i <;> simp [fnM, g_is_size, startD, is_whole_int h, c]
  rw [e, cut_same h rfl]
theorem is_below_int {i n : Int} {M : List MO} (h : WF M) : m_is_below [.int i, .int n] M = .ok (.bl (decide (0 ≤ i) && decide (i < n))) M := by
  unfold m_is_below cutM
  have e : fnM 2 g_is_below [.int i, .int n] M = .ok (.bl (decide (0 ≤ i) && decide (i < n))) M := by
    by_cases c : (0 : Int) ≤ i <;> simp [fnM, g_is_below, startD, is_whole_int h, c]
  rw [e, cut_same h rfl]
theorem bls_map {α : Type} (f : α → Bool) : ∀ xs : List α, bls (xs.map fun x => D.bl (f x)) = some (xs.map f)
  | [] => rfl
  | x :: xs => by
    rw [List.map_cons, List.map_cons]
    unfold bls
    rw [bls_map f xs]
    rfl
theorem oAll_map {α : Type} (f : α → Bool) (xs : List α) (M : List MO) : oAll [.lst (xs.map fun x => D.bl (f x))] M = .ok (.bl ((xs.map f).all id)) M := by
  unfold oAll
  simp only [s_listOf_lst, bls_map]
mutual
def okD (B : Nat) : D → Bool
  | .int i => decide (i.natAbs ≤ B)
  | .tup xs => decide (xs.length ≤ 5000) && okDs B xs
  | .lst xs => decide (xs.length ≤ 5000) && okDs B xs
  | .non => true
  | .bl _ => true
  | .str _ => true
  | .dct => true
  | .rol _ => false
  | .ref _ => false
  | .obj _ => false
  | .fn _ => false
def okDs (B : Nat) : List D → Bool
  | [] => true
  | x :: xs => okD B x && okDs B xs
end
theorem okDs_iff {B : Nat} : ∀ {xs : List D}, okDs B xs = true ↔ ∀ x ∈ xs, okD B x = true
  | [] => by simp [okDs]
  | x :: xs => by
    unfold okDs
    rw [Bool.and_eq_true, okDs_iff]
    simp
theorem okD_tup {B : Nat} {xs : List D} : okD B (.tup xs) = true ↔ xs.length ≤ 5000 ∧ ∀ x ∈ xs, okD B x = true := by
  have e : okD B (.tup xs) = (decide (xs.length ≤ 5000) && okDs B xs) := by rw [okD]
  rw [e, Bool.and_eq_true, okDs_iff, decide_eq_true_iff]
theorem okD_lst {B : Nat} {xs : List D} : okD B (.lst xs) = true ↔ xs.length ≤ 5000 ∧ ∀ x ∈ xs, okD B x = true := by
  have e : okD B (.lst xs) = (decide (xs.length ≤ 5000) && okDs B xs) := by rw [okD]
  rw [e, Bool.and_eq_true, okDs_iff, decide_eq_true_iff]
theorem okD_int {B : Nat} {i : Int} : okD B (.int i) = true ↔ i.natAbs ≤ B := by
  unfold okD
  simp
mutual
theorem okD_lo {B n : Nat} : ∀ {d : D}, okD B d = true → D.lo n d = true
  | .int _, _ => rfl
  | .non, _ => rfl
  | .bl _, _ => rfl
  | .str _, _ => rfl
  | .dct, _ => rfl
  | .tup xs, h => by
    unfold okD at h
    rw [Bool.and_eq_true] at h
    exact okDs_lo h.2
  | .lst xs, h => by
    unfold okD at h
    rw [Bool.and_eq_true] at h
    exact okDs_lo h.2
theorem okDs_lo {B n : Nat} : ∀ {ds : List D}, okDs B ds = true → D.los n ds = true
  | [], _ => rfl
  | d :: ds, h => by
    unfold okDs at h
    rw [Bool.and_eq_true] at h
    unfold D.los
    rw [Bool.and_eq_true]
    exact ⟨okD_lo h.1, okDs_lo h.2⟩
end
mutual
theorem okD_mono {B C : Nat} (hb : B ≤ C) : ∀ {d : D}, okD B d = true → okD C d = true
  | .int i, h => by
    rw [okD_int] at h ⊢
    omega
  | .non, _ => rfl
  | .bl _, _ => rfl
  | .str _, _ => rfl
  | .dct, _ => rfl
  | .tup xs, h => by
    unfold okD at h ⊢
    rw [Bool.and_eq_true] at h ⊢
    exact ⟨h.1, okDs_mono hb h.2⟩
  | .lst xs, h => by
    unfold okD at h ⊢
    rw [Bool.and_eq_true] at h ⊢
    exact ⟨h.1, okDs_mono hb h.2⟩
theorem okDs_mono {B C : Nat} (hb : B ≤ C) : ∀ {ds : List D}, okDs B ds = true → okDs C ds = true
  | [], _ => rfl
  | d :: ds, h => by
    unfold okDs at h ⊢
    rw [Bool.and_eq_true] at h ⊢
    exact ⟨okD_mono hb h.1, okDs_mono hb h.2⟩
end
theorem okD_not {B : Nat} {d : D} (h : okD B d = true) : notObj d = true := by
  cases d <;> first | rfl | cases h
def isTup : D → Bool
  | .tup _ => true
  | _ => false
theorem isi_tup {d : D} (h : notObj d = true) (M : List MO) : oIsi "tuple" d M = .ok (.bl (isTup d)) M := by
  cases d <;> first | (simp [oIsi, tyM, tyN, isiB, tyOk_tuple, isTup]; done) | cases h
def isInD : D → Bool
  | .int _ => true
  | .bl _ => true
  | _ => false
def isBlD : D → Bool
  | .bl _ => true
  | _ => false
theorem isi_int {d : D} (h : notObj d = true) (M : List MO) : oIsi "int" d M = .ok (.bl (isInD d)) M := by
  cases d <;> first | (simp [oIsi, tyM, tyN, isiB, tyOk_int, isInD]; done) | cases h
theorem isi_bl {d : D} (h : notObj d = true) (M : List MO) : oIsi "bool" d M = .ok (.bl (isBlD d)) M := by
  cases d <;> first | (simp [oIsi, tyM, tyN, isiB, tyOk_bool, isBlD]; done) | cases h
theorem tup_of {d : D} (h : isTup d = true) : ∃ xs, d = .tup xs := by
  cases d <;> first | exact ⟨_, rfl⟩ | cases h
theorem wh_of {d : D} (h : isWh d = true) : ∃ i, d = .int i := by
  cases d <;> first | exact ⟨_, rfl⟩ | cases h
theorem two_of {xs : List D} (h : xs.length = 2) : ∃ x y, xs = [x, y] := by
  match xs, h with
  | [x, y], _ => exact ⟨x, y, rfl⟩

def isBel (n : Int) : D → Bool
  | .int i => decide (0 ≤ i) && decide (i < n)
  | _ => false
def isRw (k : Int) : D → Bool
  | .tup xs => decide (xs.length ≤ 400) && xs.all (isBel k)
  | _ => false
theorem ix2_0 (x y : D) (M : List MO) : oIx (.tup [x, y]) (.int 0) M = .ok x M := s_ixT M (n := 0) rfl
theorem ix2_1 (x y : D) (M : List MO) : oIx (.tup [x, y]) (.int 1) M = .ok y M := s_ixT M (n := 1) rfl
section
variable {M : List MO} {B : Nat}
theorem lcL_mapD {gg : GG} {ge : GE} {δ : KM.Ctx} {f : D → D} (xs : List D) (hl : xs.length ≤ 100000) (h : ∀ x ∈ xs, ∃ δ1, gg x δ M = .nx δ1 M ∧ ge δ1 M = .ok (f x) M) : lcL (fun _ => True) gg gYes ge δ xs [] M = .ok (xs.map f) M := by
  have e := lcL_map (em := fun d : D => d) (f := f) (gd := fun _ => True) trivial xs [] (by simpa using hl) h
  rw [List.map_id', List.nil_append] at e
  exact e
theorem is_below_any {d : D} {n : Int} (wf : WF M) (hd : okD B d = true) : m_is_below [d, .int n] M = .ok (.bl (isBel n d)) M := by
  unfold m_is_below cutM
  have f := is_whole_eq wf (okD_not hd)
  have e : fnM 2 g_is_below [d, .int n] M = .ok (.bl (isBel n d)) M := by
    by_cases h : isWh d = true
    · obtain ⟨i, rfl⟩ := wh_of h
      by_cases c : 0 ≤ i <;> simp [fnM, g_is_below, startD, f, isWh, isBel, c]
    · have h' : isWh d = false := by simpa using h
      have g : isBel n d = false := by
        cases d <;> first | rfl | cases h'
      simp [fnM, g_is_below, startD, f, h', g]
  rw [e, cut_same wf rfl]
theorem bls_mapD (f : D → Bool) : ∀ xs : List D, bls (xs.map fun x => D.bl (f x)) = some (xs.map f) := bls_map f
theorem oAll_mapD (f : D → Bool) (xs : List D) : oAll [.lst (xs.map fun x => D.bl (f x))] M = .ok (.bl (xs.all f)) M := by
  rw [oAll_map, List.all_map]
  rfl
def isSz : D → Bool
  | .int i => decide (2 ≤ i) && decide (i ≤ 4)
  | _ => false
theorem is_size_any {d : D} (wf : WF M) (hd : okD B d = true) : m_is_size [d] M = .ok (.bl (isSz d)) M := by
  by_cases h : isWh d = true
  · obtain ⟨i, rfl⟩ := wh_of h
    exact is_size_int wf
  · unfold m_is_size cutM
    have f := is_whole_eq wf (okD_not hd)
    have h' : isWh d = false := by simpa using h
    have e : fnM 1 g_is_size [d] M = .ok (.bl false) M := by simp [fnM, g_is_size, startD, f, h']
    have g : isSz d = false := by
      cases d <;> first | rfl | cases h'
    rw [e, cut_same wf rfl, g]
theorem is_row_any {d : D} {k : Int} (k2 : 2 ≤ k) (k4 : k ≤ 4) (wf : WF M) (hd : okD B d = true) : m_is_row [.int k, d] M = .ok (.bl (isRw k d)) M := by
  unfold m_is_row cutM
  have t := isi_tup (okD_not hd) M
  have e : fnM 3 g_is_row [.int k, d] M = .ok (.bl (isRw k d)) M := by
    by_cases ht : isTup d = true
    · obtain ⟨xs, rfl⟩ := tup_of ht
      rw [okD_tup] at hd
      by_cases hl : xs.length ≤ 400
      · have hl' : ¬ (400 : Int) < xs.length := by omega
        have hc := lcL_mapD (gg := gtName 2) (ge := gCall m_is_below (gACons (gVar 2) (gACons (gVar 0) gANil))) (δ := [some (.int k), some (.tup xs), none]) (f := fun x => .bl (isBel k x)) (M := M) xs (by omega)
          (fun x hx => ⟨_, rfl, by simp [is_below_any wf (hd.2 x hx)]⟩)
        simp [fnM, g_is_row, startD, is_size_int wf, k2, k4, t, isTup, hl', wipeD, hc, finI, oAll_mapD, isRw, hl]
      · have hl' : (400 : Int) < xs.length := by omega
        simp [fnM, g_is_row, startD, is_size_int wf, k2, k4, t, isTup, hl', isRw, hl]
    · have f : isRw k d = false := by
        cases d <;> first | rfl | exact absurd rfl ht
      simp [fnM, g_is_row, startD, is_size_int wf, k2, k4, t, ht, f]
  rw [e, cut_same wf rfl]
end
theorem cut_wf {M M' : List MO} (hl : M'.length = M.length) (h : WF M') {d : D} (hd : D.lo M.length d = true) : cutR M.length (.ok d M') = .ok d M' := by
  rw [← hl] at hd ⊢
  exact cut_same h hd
theorem oIx_L {x : D} {xs : List D} {i : Int} {d : D} {M : List MO} (ht : tupOf x = none) (hl : listOf M x = some xs) (h0 : 0 ≤ i) (h : xs[i.toNat]? = some d) : oIx x (.int i) M = .ok d M := by
  have e : i = ((i.toNat : Nat) : Int) := by omega
  rw [e]
  exact s_ixL M ht hl h
theorem los_ints (n : Nat) : ∀ c : List Int, D.los n (c.map D.int) = true
  | [] => rfl
  | _ :: c => by
    rw [List.map_cons]
    unfold D.los
    rw [los_ints n c]
    rfl
end KG
set_option linter.all false
set_option maxRecDepth 100000
set_option maxHeartbeats 2000000
namespace KG
open PySem L2 KM
/-! ### the pot of draws -/
theorem rngD_succ (lo : Int) (n : Nat) : rngD lo (n + 1) = .int lo :: rngD (lo + 1) n := by
  unfold rngD
  rw [List.range_succ_eq_map, List.map_cons, List.map_map]
  congr 1
  · simp
  · apply List.map_congr_left
    intro i _
    simp only [Function.comp]
    congr 1
    omega
def wl (c : List Int) (i d s n : Int) : MO := .lst [.lst (c.map D.int), .int i, .int d, .int s, .int n]
def Pot (k : Nat) (c : List Int) (M : List MO) : Prop := ∃ i d s n, 0 ≤ i ∧ M[k]? = some (wl c i d s n)
theorem wl_lo (m : Nat) (c : List Int) (i d s n : Int) : MO.lo m (wl c i d s n) = true := by
  show (D.los m (c.map D.int) && true) = true
  rw [los_ints]
  rfl
structure Nx (k : Nat) (c : List Int) (M M' : List MO) : Prop where
  len : M'.length = M.length
  oth : ∀ j, j ≠ k → M'[j]? = M[j]?
  w : Pot k c M'
  wf : WF M'
theorem Nx.refl {k : Nat} {c : List Int} {M : List MO} (h : WF M) (w : Pot k c M) : Nx k c M M := ⟨rfl, fun _ _ => rfl, w, h⟩
theorem Nx.trans {k : Nat} {c : List Int} {M M1 M2 : List MO} (a : Nx k c M M1) (b : Nx k c M1 M2) : Nx k c M M2 := ⟨b.len.trans a.len, fun j hj => (b.oth j hj).trans (a.oth j hj), b.w, b.wf⟩
theorem Nx.set {k : Nat} {c : List Int} {M : List MO} {i d s n i' d' s' n' : Int} (wf : WF M) (e : M[k]? = some (wl c i d s n)) (h0 : 0 ≤ i') : Nx k c M (M.set k (wl c i' d' s' n')) := by
  have hk := (List.getElem?_eq_some_iff.mp e).1
  exact ⟨List.length_set, fun j hj => List.getElem?_set_ne (Ne.symm hj), ⟨i', d', s', n', h0, List.getElem?_set_self hk⟩, wf.set (wl_lo _ _ _ _ _ _)⟩
theorem Pot.lt {k : Nat} {c : List Int} {M : List MO} (h : Pot k c M) : k < M.length := by
  obtain ⟨_, _, _, _, _, e⟩ := h
  exact (List.getElem?_eq_some_iff.mp e).1
section
variable {k : Nat} {c : List Int} {M : List MO} {i d s n : Int}
theorem ixW {j : Nat} {x : D} (e : M[k]? = some (wl c i d s n)) (hj : [D.lst (c.map D.int), .int i, .int d, .int s, .int n][j]? = some x) : oIx (.ref k) (.int (j : Int)) M = .ok x M := s_ixL M rfl (s_listOf_ref M e) hj
theorem ixW0 (e : M[k]? = some (wl c i d s n)) : oIx (.ref k) (.int 0) M = .ok (.lst (c.map D.int)) M := ixW (j := 0) e rfl
theorem ixW1 (e : M[k]? = some (wl c i d s n)) : oIx (.ref k) (.int 1) M = .ok (.int i) M := ixW (j := 1) e rfl
theorem ixW2 (e : M[k]? = some (wl c i d s n)) : oIx (.ref k) (.int 2) M = .ok (.int d) M := ixW (j := 2) e rfl
theorem ixW3 (e : M[k]? = some (wl c i d s n)) : oIx (.ref k) (.int 3) M = .ok (.int s) M := ixW (j := 3) e rfl
theorem ixW4 (e : M[k]? = some (wl c i d s n)) : oIx (.ref k) (.int 4) M = .ok (.int n) M := ixW (j := 4) e rfl
theorem setW1 (e : M[k]? = some (wl c i d s n)) (x : Int) : oSetL (.ref k) (.int 1) (.int x) M = some (M.set k (wl c x d s n)) := by
  unfold oSetL
  simp only [e]
  rfl
theorem setW2 (e : M[k]? = some (wl c i d s n)) (x : Int) : oSetL (.ref k) (.int 2) (.int x) M = some (M.set k (wl c i x s n)) := by
  unfold oSetL
  simp only [e]
  rfl
theorem setW3 (e : M[k]? = some (wl c i d s n)) (x : Int) : oSetL (.ref k) (.int 3) (.int x) M = some (M.set k (wl c i d x n)) := by
  unfold oSetL
  simp only [e]
  rfl
theorem setW4 (e : M[k]? = some (wl c i d s n)) (x : Int) : oSetL (.ref k) (.int 4) (.int x) M = some (M.set k (wl c i d s x)) := by
  unfold oSetL
  simp only [e]
  rfl
theorem getW (e : M[k]? = some (wl c i d s n)) (o : MO) : (M.set k o)[k]? = some o := List.getElem?_set_self (List.getElem?_eq_some_iff.mp e).1
end
noncomputable def gDrawA : GS := gIf (gAnd (gTest (gOp oEq (gOp oIx (gVar 0) (gC (.int 2))) (gC (.int 0)))) (gTest (gOp oLt (gOp oIx (gVar 0) (gC (.int 1))) (gCall oLen (gACons (gOp oIx (gVar 0) (gC (.int 0))) (gANil)))))) (gSeq (gSet 2 (gOp oIx (gOp oIx (gVar 0) (gC (.int 0))) (gOp oIx (gVar 0) (gC (.int 1)))))
    (gSeq (gAsg (gOp oAdd (gOp oIx (gVar 0) (gC (.int 1))) (gC (.int 1))) (gtSub (gVar 0) (gC (.int 1)) oSetL))
    (gSeq (gAsg (gOp oMod (gCall oInt (gACons (gOp oAdd (gOp oAdd (gOp oMul (gOp oIx (gVar 0) (gC (.int 3))) (gC (.int 69621))) (gVar 2)) (gC (.int 11))) (gANil))) (gC (.int 2147483629))) (gtSub (gVar 0) (gC (.int 3)) oSetL))
    (gIf (gTest (gOp oGe (gVar 2) (gOp oPow (gC (.int 10)) (gC (.int 18))))) (gAsg (gVar 2) (gtSub (gVar 0) (gC (.int 2)) oSetL)) (gNext))))) (gNext)
/-- the second half of a draw -/
noncomputable def gDrawB : GS := gSeq (gIf (gTest (gOp oGt (gOp oIx (gVar 0) (gC (.int 2))) (gC (.int 0)))) (gSeq (gSet 3 (gOp oMod (gCall oInt (gACons (gOp oIx (gVar 0) (gC (.int 2))) (gANil))) (gVar 1)))
    (gSeq (gAsg (gOp oDiv (gOp oIx (gVar 0) (gC (.int 2))) (gVar 1)) (gtSub (gVar 0) (gC (.int 2)) oSetL))
    (gRet (gVar 3)))) (gNext))
    (gSeq (gAsg (gOp oAdd (gOp oIx (gVar 0) (gC (.int 4))) (gC (.int 1))) (gtSub (gVar 0) (gC (.int 4)) oSetL))
    (gSeq (gSet 4 (gOp oMod (gCall oInt (gACons (gOp oMul (gCall oInt (gACons (gOp oAdd (gOp oIx (gVar 0) (gC (.int 3))) (gOp oMul (gC (.int 7919)) (gOp oIx (gVar 0) (gC (.int 4))))) (gANil))) (gC (.int 48271))) (gANil))) (gC (.int 2147483647))))
    (gSeq (gSet 4 (gOp oMod (gCall oInt (gACons (gOp oMul (gVar 4) (gOp oAdd (gOp oDiv (gVar 4) (gC (.int 1009))) (gC (.int 69621)))) (gANil))) (gC (.int 2147483647))))
    (gSeq (gSet 4 (gOp oMod (gCall oInt (gACons (gOp oMul (gVar 4) (gOp oAdd (gOp oDiv (gVar 4) (gC (.int 2003))) (gC (.int 40692)))) (gANil))) (gC (.int 2147483399))))
    (gRet (gOp oMod (gCall oInt (gACons (gOp oDiv (gVar 4) (gC (.int 16))) (gANil))) (gVar 1)))))))
theorem drawB_eq {k : Nat} {c : List Int} {M : List MO} (wf : WF M) (w : Pot k c M) {many : Int} (m0 : 0 < many) (m1 : many ≤ 1000000000000000000) (x2 : Option D) :
    ∃ t M', gDrawB [some (.ref k), some (.int many), x2, none, none] M = .rt (.int t) M' ∧ 0 ≤ t ∧ t < many ∧ Nx k c M M' := by
  obtain ⟨i, d, s, n, h0, e⟩ := w
  have md : ∀ i : Int, CModB i many := fun _ => cmod_ok m0
  have dv : ∀ i : Int, CDivB i many := fun _ => cdiv_s m0 m1
  have t2 := ixW2 e
  by_cases hd : 0 < d
  · have s2 := setW2 e (d / many)
    refine ⟨d % many, M.set k (wl c i (d / many) s n), ?_, Int.emod_nonneg _ (by omega), Int.emod_lt_of_pos _ m0, Nx.set wf e h0⟩
    simp [gDrawB, t2, hd, md, dv, s2]
  · have t4 := ixW4 e
    have s4 := setW4 e (n + 1)
    have g1 := getW e (wl c i d s (n + 1))
    have u3 := ixW3 g1
    have u4 := ixW4 g1
    have c1 : ∀ i : Int, CMulB 7919 i := fun _ => cmul_l (by decide) (by decide)
    have c2 : ∀ i : Int, CMulB i 48271 := fun _ => cmul_r (by decide) (by decide)
    have c3 : ∀ i j : Int, CMulB (i % 2147483647) j := fun i j => cmul_l (by omega) (by omega)
    have n1 : ∀ i : Int, CModB i 2147483647 := fun _ => cmod_ok (by decide)
    have n2 : ∀ i : Int, CModB i 2147483399 := fun _ => cmod_ok (by decide)
    have v1 : ∀ i : Int, CDivB i 1009 := fun _ => cdiv_s (by decide) (by decide)
    have v2 : ∀ i : Int, CDivB i 2003 := fun _ => cdiv_s (by decide) (by decide)
    have v3 : ∀ i : Int, CDivB i 16 := fun _ => cdiv_s (by decide) (by decide)
    refine ⟨((s + 7919 * (n + 1)) * 48271 % 2147483647 * ((s + 7919 * (n + 1)) * 48271 % 2147483647 / 1009 + 69621) % 2147483647 * ((s + 7919 * (n + 1)) * 48271 % 2147483647 * ((s + 7919 * (n + 1)) * 48271 % 2147483647 / 1009 + 69621) % 2147483647 / 2003 + 40692) % 2147483399 / 16) % many, M.set k (wl c i d s (n + 1)), ?_, Int.emod_nonneg _ (by omega), Int.emod_lt_of_pos _ m0, Nx.set wf e h0⟩
    simp [gDrawB, t2, hd, md, t4, s4, u3, u4, c1, c2, c3, n1, n2, v1, v2, v3]
theorem draw_eq {k : Nat} {c : List Int} {M : List MO} (wf : WF M) (w : Pot k c M) {many : Int} (m0 : 0 < many) (m1 : many ≤ 1000000000000000000) :
    ∃ t M', m__law_draw [.ref k, .int many] M = .ok (.int t) M' ∧ 0 ≤ t ∧ t < many ∧ Nx k c M M' := by
  obtain ⟨i, d, s, n, h0, e⟩ := id w
  have fin : ∀ {t : Int} {M' : List MO} {x : Option D}, (∃ M1 x2, g__law_draw (startD 5 [.ref k, .int many]) M = gDrawB [some (.ref k), some (.int many), x2, none, none] M1 ∧ Nx k c M M1) →
      ∃ t M', m__law_draw [.ref k, .int many] M = .ok (.int t) M' ∧ 0 ≤ t ∧ t < many ∧ Nx k c M M' := fun {t M' x} h => by
    obtain ⟨M1, x2, e1, n1⟩ := h
    obtain ⟨t, M', e2, a, b, n2⟩ := drawB_eq n1.wf n1.w m0 m1 x2
    have nx := n1.trans n2
    refine ⟨t, M', ?_, a, b, nx⟩
    unfold m__law_draw cutM
    have e3 : fnM 5 g__law_draw [.ref k, .int many] M = .ok (.int t) M' := by unfold fnM; rw [e1.trans e2]
    rw [e3]
    exact cut_wf nx.len nx.wf rfl
  have t2 := ixW2 e
  have t1 := ixW1 e
  have t0 := ixW0 e
  have st : startD 5 [.ref k, .int many] = [some (D.ref k), some (.int many), none, none, none] := rfl
  rw [st] at fin
  by_cases hd : d = 0
  · subst hd
    by_cases hc : i < (c.length : Int)
    · have hn : i.toNat < c.length := by omega
      have i0 : ∀ M', oIx (.lst (c.map D.int)) (.int i) M' = .ok (.int c[i.toNat]) M' := fun M' => oIx_L rfl rfl h0 (by rw [List.getElem?_map, List.getElem?_eq_getElem hn]; rfl)
      generalize c[i.toNat] = cell at i0
      have s1 := setW1 e (i + 1)
      have g1 := getW e (wl c (i + 1) 0 s n)
      have u3 := ixW3 g1
      have s3 := setW3 g1 ((s * 69621 + cell + 11) % 2147483629)
      rw [List.set_set] at s3
      have g2 := getW e (wl c (i + 1) 0 ((s * 69621 + cell + 11) % 2147483629) n)
      have s2 := setW2 g2 cell
      rw [List.set_set] at s2
      have cm : ∀ i : Int, CMulB i 69621 := fun _ => cmul_r (by decide) (by decide)
      have md : ∀ i : Int, CModB i 2147483629 := fun _ => cmod_ok (by decide)
      have cp : CPowB 10 18 := ⟨⟨by decide, by decide⟩, by decide⟩
      by_cases hb : (10 : Int) ^ 18 ≤ cell
      · have hb2 : (1000000000000000000 : Int) ≤ cell := hb
        refine fin (t := 0) (M' := M) (x := none) ⟨M.set k (wl c (i + 1) cell ((s * 69621 + cell + 11) % 2147483629) n), some (.int cell), ?_, Nx.set wf e (by omega)⟩
        show (gDrawA _ _).then gDrawB = _
        have q : gDrawA [some (D.ref k), some (.int many), none, none, none] M = .nx [some (D.ref k), some (.int many), some (.int cell), none, none] (M.set k (wl c (i + 1) cell ((s * 69621 + cell + 11) % 2147483629) n)) := by
          simp [gDrawA, t2, t1, t0, hc, i0, s1, u3, s3, s2, cm, md, cp, hb2]
        rw [q]
        rfl
      · have hb2 : ¬ (1000000000000000000 : Int) ≤ cell := hb
        refine fin (t := 0) (M' := M) (x := none) ⟨M.set k (wl c (i + 1) 0 ((s * 69621 + cell + 11) % 2147483629) n), some (.int cell), ?_, Nx.set wf e (by omega)⟩
        show (gDrawA _ _).then gDrawB = _
        have q : gDrawA [some (D.ref k), some (.int many), none, none, none] M = .nx [some (D.ref k), some (.int many), some (.int cell), none, none] (M.set k (wl c (i + 1) 0 ((s * 69621 + cell + 11) % 2147483629) n)) := by
          simp [gDrawA, t2, t1, t0, hc, i0, s1, u3, s3, cm, md, cp, hb2]
        rw [q]
        rfl
    · refine fin (t := 0) (M' := M) (x := none) ⟨M, none, ?_, Nx.refl wf w⟩
      show (gDrawA _ _).then gDrawB = _
      have q : gDrawA [some (D.ref k), some (.int many), none, none, none] M = .nx [some (D.ref k), some (.int many), none, none, none] M := by
        simp [gDrawA, t2, t1, t0, hc]
      rw [q]
      rfl
  · refine fin (t := 0) (M' := M) (x := none) ⟨M, none, ?_, Nx.refl wf w⟩
    show (gDrawA _ _).then gDrawB = _
    have q : gDrawA [some (D.ref k), some (.int many), none, none, none] M = .nx [some (D.ref k), some (.int many), none, none, none] M := by
      simp [gDrawA, t2, hd]
    rw [q]
    rfl
/-- one of some things -/
theorem any_eq {k : Nat} {c : List Int} {M : List MO} (wf : WF M) (w : Pot k c M) {x : D} {xs : List D} (hx : x = .lst xs ∨ x = .tup xs) (h1 : 1 ≤ xs.length) (h2 : xs.length ≤ 100000) (hl : ∀ d ∈ xs, D.lo M.length d = true) :
    ∃ d M', m__law_any [.ref k, x] M = .ok d M' ∧ d ∈ xs ∧ Nx k c M M' := by
  obtain ⟨t, M', e, a, b, nx⟩ := draw_eq wf w (many := (xs.length : Int)) (by omega) (by omega)
  have ht : t.toNat < xs.length := by omega
  have hm : xs[t.toNat]? = some xs[t.toNat] := List.getElem?_eq_getElem ht
  have hlen : ∀ M, oLen [x] M = .ok (.int (xs.length : Int)) M := fun M => by rcases hx with rfl | rfl <;> rfl
  have hix : oIx x (.int t) M' = .ok xs[t.toNat] M' := by
    have et : ((t.toNat : Nat) : Int) = t := by omega
    rcases hx with rfl | rfl
    · have q := s_ixL M' (x := .lst xs) rfl rfl hm
      rw [et] at q
      exact q
    · have q := s_ixT M' hm
      rw [et] at q
      exact q
  refine ⟨xs[t.toNat], M', ?_, List.getElem_mem ht, nx⟩
  unfold m__law_any cutM
  have q : fnM 2 g__law_any [.ref k, x] M = .ok xs[t.toNat] M' := by
    simp [fnM, g__law_any, startD, hlen, e, hix]
  rw [q]
  exact cut_wf nx.len nx.wf (hl _ (List.getElem_mem ht))
end KG
set_option linter.all false
set_option maxRecDepth 100000
set_option maxHeartbeats 2000000
namespace KG
open PySem L2 KM
/-! ### advisers and circles, judged -/
def isAvd (k n : Int) : D → Bool
  | .tup [x, .tup ns] => isBel k x && ((ns.length : Int) == k) && ns.all (isBel n)
  | _ => false
def isAdv : D → Bool
  | .tup [.int s, .tup rs] => decide (2 ≤ s) && decide (s ≤ 4) && decide (1 ≤ rs.length) && decide (rs.length ≤ 6) && rs.all (isAvd s rs.length)
  | _ => false
theorem isAvd_two {k n : Int} {xs : List D} (h : xs.length ≠ 2) : isAvd k n (.tup xs) = false := by
  cases hb : isAvd k n (.tup xs) with
  | false => rfl
  | true =>
    unfold isAvd at hb
    split at hb
    · rename_i heq
      cases heq
      exact absurd rfl h
    · cases hb
theorem isAdv_two {xs : List D} (h : xs.length ≠ 2) : isAdv (.tup xs) = false := by
  cases hb : isAdv (.tup xs) with
  | false => rfl
  | true =>
    unfold isAdv at hb
    split at hb
    · rename_i heq
      cases heq
      exact absurd rfl h
    · cases hb
def isBs (k n : Int) : D → Bool
  | .tup xs => ((xs.length : Int) == k) && xs.all (isBel n)
  | _ => false
section
variable {M : List MO} {B : Nat}
theorem are_below_any {d : D} {k n : Int} (wf : WF M) (hd : okD B d = true) : m_are_below [d, .int k, .int n] M = .ok (.bl (isBs k n d)) M := by
  unfold m_are_below cutM
  have t := isi_tup (okD_not hd) M
  have e : fnM 4 g_are_below [d, .int k, .int n] M = .ok (.bl (isBs k n d)) M := by
    by_cases ht : isTup d = true
    · obtain ⟨xs, rfl⟩ := tup_of ht
      rw [okD_tup] at hd
      by_cases hl : (xs.length : Int) = k
      · have hc := lcL_mapD (gg := gtName 3) (ge := gCall m_is_below (gACons (gVar 3) (gACons (gVar 2) gANil))) (δ := [some (.tup xs), some (.int k), some (.int n), none]) (f := fun x => .bl (isBel n x)) (M := M) xs (by omega)
          (fun x hx => ⟨_, rfl, by simp [is_below_any wf (hd.2 x hx)]⟩)
        simp [fnM, g_are_below, startD, t, isTup, hl, wipeD, hc, finI, oAll_mapD, isBs]
      · simp [fnM, g_are_below, startD, t, isTup, hl, isBs]
    · have f : isBs k n d = false := by
        cases d <;> first | rfl | exact absurd rfl ht
      simp [fnM, g_are_below, startD, t, ht, f]
  rw [e, cut_same wf rfl]
theorem isAvd_eq (k n : Int) (x y : D) : isAvd k n (.tup [x, y]) = (isBel k x && isBs k n y) := by
  cases y <;> simp [isAvd, isBs, Bool.and_assoc]
theorem is_advice_any {d : D} {k n : Int} (wf : WF M) (hd : okD B d = true) : m_is_advice [d, .int k, .int n] M = .ok (.bl (isAvd k n d)) M := by
  unfold m_is_advice cutM
  have t := isi_tup (okD_not hd) M
  have e : fnM 3 g_is_advice [d, .int k, .int n] M = .ok (.bl (isAvd k n d)) M := by
    by_cases ht : isTup d = true
    · obtain ⟨xs, rfl⟩ := tup_of ht
      rw [okD_tup] at hd
      by_cases hl : xs.length = 2
      · obtain ⟨x, y, rfl⟩ := two_of hl
        have a1 := is_below_any (n := k) wf (hd.2 x (by simp))
        have a2 := are_below_any (k := k) (n := n) wf (hd.2 y (by simp))
        rw [isAvd_eq]
        cases c : isBel k x <;> simp [fnM, g_is_advice, startD, t, isTup, ix2_0, ix2_1, a1, a2, c]
      · have hl2 : ¬ (xs.length : Int) = 2 := by omega
        simp [fnM, g_is_advice, startD, t, isTup, hl2, isAvd_two hl]
    · have f : isAvd k n d = false := by
        cases d <;> first | rfl | exact absurd rfl ht
      simp [fnM, g_is_advice, startD, t, ht, f]
  rw [e, cut_same wf rfl]
theorem is_ruled_adv {d : D} (wf : WF M) (hd : okD B d = true) : m_is_ruled [d, .int 6, .fn "is_advice"] M = .ok (.bl (isAdv d)) M := by
  unfold m_is_ruled cutM
  have t := isi_tup (okD_not hd) M
  have e : fnM 7 g_is_ruled [d, .int 6, .fn "is_advice"] M = .ok (.bl (isAdv d)) M := by
    by_cases ht : isTup d = true
    · obtain ⟨xs, rfl⟩ := tup_of ht
      rw [okD_tup] at hd
      by_cases hl : xs.length = 2
      · obtain ⟨x, y, rfl⟩ := two_of hl
        have o1 := hd.2 x (by simp)
        have o2 := hd.2 y (by simp)
        have s := is_size_any wf o1
        have t2 := isi_tup (okD_not o2) M
        by_cases hx : ∃ i, x = .int i ∧ 2 ≤ i ∧ i ≤ 4
        · obtain ⟨i, rfl, i2, i4⟩ := hx
          by_cases hy : isTup y = true
          · obtain ⟨rs, rfl⟩ := tup_of hy
            rw [okD_tup] at o2
            have hc := lcL_mapD (gg := gtName 6) (ge := gCallL 2 [("is_advice", m_is_advice)] (gACons (gVar 6) (gACons (gVar 3) (gACons (gVar 5) gANil)))) (δ := [some (.tup [.int i, .tup rs]), some (.int 6), some (.fn "is_advice"), some (.int i), some (.tup rs), some (.int rs.length), none]) (f := fun x => .bl (isAvd i rs.length x)) (M := M) rs (by omega)
              (fun x hx => ⟨_, rfl, by simp [gCallL, is_advice_any wf (o2.2 x hx)]⟩)
            by_cases c1 : 1 ≤ rs.length
            · have c1' : (1 : Int) ≤ rs.length := by omega
              by_cases c2 : rs.length ≤ 6
              · have c2' : (rs.length : Int) ≤ 6 := by omega
                simp [fnM, g_is_ruled, startD, t, t2, isTup, s, isSz, i2, i4, c1', c2', wipeD, hc, finI, oAll_mapD, isAdv, c1, c2]
              · have c2' : ¬ (rs.length : Int) ≤ 6 := by omega
                simp [fnM, g_is_ruled, startD, t, t2, isTup, s, isSz, i2, i4, c1', c2', isAdv, c1, c2]
            · have c1' : ¬ (1 : Int) ≤ rs.length := by omega
              simp [fnM, g_is_ruled, startD, t, t2, isTup, s, isSz, i2, i4, c1', isAdv, c1]
          · have f : isAdv (.tup [.int i, y]) = false := by
              cases y <;> first | rfl | exact absurd rfl hy
            have hy' : isTup y = false := by simpa using hy
            rw [hy'] at t2
            rw [show isTup (.tup [.int i, y]) = true from rfl] at t
            simp [fnM, g_is_ruled, startD, t, t2, s, isSz, i2, i4, f]
        · have f : isAdv (.tup [x, y]) = false := by
            cases x <;> first | rfl | skip
            rename_i i
            cases y <;> first | rfl | skip
            have : ¬ (2 ≤ i ∧ i ≤ 4) := fun c => hx ⟨i, rfl, c⟩
            by_cases c1 : 2 ≤ i
            · have c2 : ¬ i ≤ 4 := fun c => this ⟨c1, c⟩
              simp [isAdv, c2]
            · simp [isAdv, c1]
          have g : isSz x = false := by
            cases x <;> first | rfl | skip
            rename_i i
            have : ¬ (2 ≤ i ∧ i ≤ 4) := fun c => hx ⟨i, rfl, c⟩
            by_cases c1 : 2 ≤ i
            · have c2 : ¬ i ≤ 4 := fun c => this ⟨c1, c⟩
              simp [isSz, c2]
            · simp [isSz, c1]
          rw [g] at s
          simp [fnM, g_is_ruled, startD, t, isTup, s, f]
      · have hl2 : ¬ (xs.length : Int) = 2 := by omega
        simp [fnM, g_is_ruled, startD, t, isTup, hl2, isAdv_two hl]
    · have f : isAdv d = false := by
        cases d <;> first | rfl | exact absurd rfl ht
      simp [fnM, g_is_ruled, startD, t, ht, f]
  rw [e, cut_same wf rfl]
theorem is_adviser_any {d : D} (wf : WF M) (hd : okD B d = true) : m_is_adviser [d] M = .ok (.bl (isAdv d)) M := by
  unfold m_is_adviser cutM
  have e : fnM 1 g_is_adviser [d] M = .ok (.bl (isAdv d)) M := by
    simp [fnM, g_is_adviser, startD, is_ruled_adv wf hd]
  rw [e, cut_same wf rfl]
/-- the size an adviser has -/
def szD : D → Int
  | .tup (.int s :: _) => s
  | _ => 0
theorem isAdv_form {d : D} (h : isAdv d = true) : ∃ (s : Int) (rs : List D), d = .tup [.int s, .tup rs] ∧ 2 ≤ s ∧ s ≤ 4 ∧ 1 ≤ rs.length ∧ rs.length ≤ 6 ∧ rs.all (isAvd s rs.length) = true := by
  unfold isAdv at h
  split at h
  · rename_i s rs
    simp only [Bool.and_eq_true, decide_eq_true_eq] at h
    exact ⟨s, rs, rfl, h.1.1.1.1, h.1.1.1.2, h.1.1.2, h.1.2, h.2⟩
  · cases h
def isCir : D → Bool
  | .tup xs => decide (1 ≤ xs.length) && decide (xs.length ≤ 4) && xs.all isAdv && xs.all (fun x => szD x == szD (xs.headD .non))
  | _ => false
theorem is_circle_any {d : D} (wf : WF M) (hd : okD B d = true) : m_is_circle [d] M = .ok (.bl (isCir d)) M := by
  unfold m_is_circle cutM
  have t := isi_tup (okD_not hd) M
  have e : fnM 2 g_is_circle [d] M = .ok (.bl (isCir d)) M := by
    by_cases ht : isTup d = true
    · obtain ⟨xs, rfl⟩ := tup_of ht
      rw [okD_tup] at hd
      by_cases c1 : 1 ≤ xs.length
      · have c1' : (1 : Int) ≤ xs.length := by omega
        by_cases c2 : xs.length ≤ 4
        · have c2' : (xs.length : Int) ≤ 4 := by omega
          have hc := lcL_mapD (gg := gtName 1) (ge := gCall m_is_adviser (gACons (gVar 1) gANil)) (δ := [some (.tup xs), none]) (f := fun x => .bl (isAdv x)) (M := M) xs (by omega)
            (fun x hx => ⟨_, rfl, by simp [is_adviser_any wf (hd.2 x hx)]⟩)
          by_cases c3 : xs.all isAdv = true
          · have hc2 := lcL_mapD (gg := gtName 1) (ge := gOp oEq (gOp oIx (gVar 1) (gC (.int 0))) (gOp oIx (gOp oIx (gVar 0) (gC (.int 0))) (gC (.int 0)))) (δ := [some (.tup xs), none]) (f := fun x => .bl (szD x == szD (xs.headD .non))) (M := M) xs (by omega)
              (fun x hx => ⟨_, rfl, by
                obtain ⟨s, rs, rfl, _⟩ := isAdv_form (List.all_eq_true.mp c3 x hx)
                cases xs with
                | nil => cases hx
                | cons y ys =>
                  obtain ⟨s', rs', rfl, _⟩ := isAdv_form (List.all_eq_true.mp c3 y (by simp))
                  have i0 : oIx (.tup (.tup [.int s', .tup rs'] :: ys)) (.int 0) M = .ok (.tup [.int s', .tup rs']) M := s_ixT M (n := 0) rfl
                  simp [ix2_0, i0, szD]⟩)
            simp [fnM, g_is_circle, startD, t, isTup, c1', c2', wipeD, hc, hc2, finI, oAll_mapD, isCir, c1, c2, c3]
          · have c3' : xs.all isAdv = false := by simpa using c3
            simp [fnM, g_is_circle, startD, t, isTup, c1', c2', wipeD, hc, finI, oAll_mapD, isCir, c1, c2, c3']
        · have c2' : ¬ (xs.length : Int) ≤ 4 := by omega
          simp [fnM, g_is_circle, startD, t, isTup, c1', c2', isCir, c1, c2]
      · have c1' : ¬ (1 : Int) ≤ xs.length := by omega
        simp [fnM, g_is_circle, startD, t, isTup, c1', isCir, c1]
    · have f : isCir d = false := by
        cases d <;> first | rfl | exact absurd rfl ht
      simp [fnM, g_is_circle, startD, t, ht, f]
  rw [e, cut_same wf rfl]
end
end KG
set_option linter.all false
set_option maxRecDepth 100000
set_option maxHeartbeats 2000000
namespace KG
open PySem L2 KM
def isBt (lo hi : Int) : D → Bool
  | .int i => decide (lo ≤ i) && decide (i ≤ hi)
  | _ => false
section
variable {M : List MO} {B : Nat}
theorem is_int_any {d : D} {lo hi : Int} (wf : WF M) (hd : okD B d = true) : m__law_is_int [d, .int lo, .int hi] M = .ok (.bl (isBt lo hi d)) M := by
  unfold m__law_is_int cutM
  have t1 := isi_int (okD_not hd) M
  have t2 := isi_bl (okD_not hd) M
  have e : fnM 3 g__law_is_int [d, .int lo, .int hi] M = .ok (.bl (isBt lo hi d)) M := by
    cases d <;> first
      | (simp [fnM, g__law_is_int, startD, t1, t2, isInD, isBlD, isBt]; done)
      | skip
    rename_i i
    by_cases c : lo ≤ i <;> simp [fnM, g__law_is_int, startD, t1, t2, isInD, isBlD, isBt, c]
  rw [e, cut_same wf rfl]
theorem isBt_bel (n : Int) (d : D) : isBt 0 (n - 1) d = isBel n d := by
  cases d <;> first | rfl | skip
  rename_i i
  show (decide (0 ≤ i) && decide (i ≤ n - 1)) = (decide (0 ≤ i) && decide (i < n))
  congr 1
  exact decide_eq_decide.mpr (by omega)
end
/-! ### data of right advisers -/
abbrev Adv := Nat × List (Nat × List Nat)
def nsD (ns : List Nat) : D := .tup (ns.map fun (n : Nat) => D.int n)
def arD (r : Nat × List Nat) : D := .tup [.int r.1, nsD r.2]
def advD (a : Adv) : D := .tup [.int a.1, .tup (a.2.map arD)]
def cirD (c : List Adv) : D := .tup (c.map advD)
structure AdvOk (k : Nat) (a : Adv) : Prop where
  s : a.1 = k
  s2 : 2 ≤ k
  s4 : k ≤ 4
  l1 : 1 ≤ a.2.length
  l6 : a.2.length ≤ 6
  ru : ∀ r ∈ a.2, r.1 < k ∧ r.2.length = k ∧ ∀ n ∈ r.2, n < a.2.length
structure CirOk (k : Nat) (c : List Adv) : Prop where
  l1 : 1 ≤ c.length
  l4 : c.length ≤ 4
  ad : ∀ a ∈ c, AdvOk k a
theorem CirOk.s2 {k : Nat} {c : List Adv} (h : CirOk k c) : 2 ≤ k := by
  have := h.l1
  exact (h.ad c[0] (List.getElem_mem (by omega))).s2
theorem CirOk.s4 {k : Nat} {c : List Adv} (h : CirOk k c) : k ≤ 4 := by
  have := h.l1
  exact (h.ad c[0] (List.getElem_mem (by omega))).s4
theorem nsD_lo (n : Nat) (ns : List Nat) : D.lo n (nsD ns) = true := by
  show D.los n _ = true
  rw [D.los_all]
  intro d hd
  obtain ⟨x, _, rfl⟩ := List.mem_map.mp hd
  rfl
theorem nsD_ok {B : Nat} {ns : List Nat} (hl : ns.length ≤ 5000) (h : ∀ n ∈ ns, n ≤ B) : okD B (nsD ns) = true := by
  unfold nsD
  rw [okD_tup]
  refine ⟨by simpa using hl, fun d hd => ?_⟩
  obtain ⟨x, hx, rfl⟩ := List.mem_map.mp hd
  rw [okD_int]
  have := h x hx
  omega
theorem arD_ok {B k m : Nat} {r : Nat × List Nat} (h : r.1 < k ∧ r.2.length = k ∧ ∀ n ∈ r.2, n < m) (h4 : k ≤ 4) (hm : m ≤ 6) (hB : 10 ≤ B) : okD B (arD r) = true := by
  unfold arD
  rw [okD_tup]
  refine ⟨by simp, fun d hd => ?_⟩
  have hd' : d = .int r.1 ∨ d = nsD r.2 := by simpa using hd
  rcases hd' with rfl | rfl
  · rw [okD_int]; omega
  · exact nsD_ok (by omega) (fun n hn => by have := h.2.2 n hn; omega)
theorem AdvOk.ok {B k : Nat} {a : Adv} (h : AdvOk k a) (hB : 10 ≤ B) : okD B (advD a) = true := by
  unfold advD
  rw [okD_tup]
  refine ⟨by simp, fun d hd => ?_⟩
  have hd' : d = .int a.1 ∨ d = .tup (a.2.map arD) := by simpa using hd
  rcases hd' with rfl | rfl
  · rw [okD_int]; have := h.s; have := h.s4; omega
  · rw [okD_tup]
    refine ⟨by have := h.l6; simp; omega, fun d hd => ?_⟩
    obtain ⟨r, hr, rfl⟩ := List.mem_map.mp hd
    exact arD_ok (h.ru r hr) h.s4 h.l6 hB
theorem CirOk.ok {B k : Nat} {c : List Adv} (h : CirOk k c) (hB : 10 ≤ B) : okD B (cirD c) = true := by
  unfold cirD
  rw [okD_tup]
  refine ⟨by have := h.l4; simp; omega, fun d hd => ?_⟩
  obtain ⟨r, hr, rfl⟩ := List.mem_map.mp hd
  exact (h.ad r hr).ok hB
theorem isBel_nat {k n : Nat} (h : n < k) : isBel (k : Int) (.int (n : Int)) = true := by
  simp [isBel]
  omega
theorem AdvOk.isAdv {k : Nat} {a : Adv} (h : AdvOk k a) : isAdv (advD a) = true := by
  have h1 := h.s
  have h2 := h.s2
  have h3 := h.s4
  have h4 := h.l1
  have h5 := h.l6
  have hr : (a.2.map arD).all (isAvd (a.1 : Int) ((a.2.map arD).length : Nat)) = true := by
    rw [List.all_eq_true]
    intro d hd
    obtain ⟨r, hr, rfl⟩ := List.mem_map.mp hd
    have q := h.ru r hr
    unfold arD
    rw [isAvd_eq]
    rw [Bool.and_eq_true]
    refine ⟨isBel_nat (by rw [h1]; exact q.1), ?_⟩
    unfold nsD isBs
    simp only [List.length_map, List.all_map, Bool.and_eq_true, beq_iff_eq]
    refine ⟨by rw [q.2.1, h1], ?_⟩
    rw [List.all_eq_true]
    intro n hn
    exact isBel_nat (by simpa using q.2.2 n hn)
  show (decide (2 ≤ (a.1 : Int)) && decide ((a.1 : Int) ≤ 4) && decide (1 ≤ (a.2.map arD).length) && decide ((a.2.map arD).length ≤ 6) && (a.2.map arD).all (isAvd (a.1 : Int) ((a.2.map arD).length : Nat))) = true
  rw [hr]
  simp
  omega
theorem CirOk.isCir {k : Nat} {c : List Adv} (h : CirOk k c) : isCir (cirD c) = true := by
  have h1 := h.l1
  have h4 := h.l4
  have e1 : (c.map advD).all KG.isAdv = true := by
    rw [List.all_eq_true]
    intro d hd
    obtain ⟨a, ha, rfl⟩ := List.mem_map.mp hd
    exact (h.ad a ha).isAdv
  have e2 : (c.map advD).all (fun x => szD x == szD ((c.map advD).headD .non)) = true := by
    rw [List.all_eq_true]
    intro d hd
    obtain ⟨a, ha, rfl⟩ := List.mem_map.mp hd
    cases c with
    | nil => simp at h1
    | cons b bs =>
      have q1 := (h.ad a ha).s
      have q2 := (h.ad b (by simp)).s
      simp [advD, szD, q1, q2]
  show (decide (1 ≤ (c.map advD).length) && decide ((c.map advD).length ≤ 4) && (c.map advD).all KG.isAdv && (c.map advD).all (fun x => szD x == szD ((c.map advD).headD .non))) = true
  rw [e1, e2]
  simp
  omega
/-! ### what is heard -/
/-- an adviser behind a letter: its state, and whether it missed -/
def advAt (a : Adv) (s : Nat) : Nat × List Nat := a.2.getD s (0, [])
def advTold (a : Adv) (s : Nat) : Nat := (advAt a s).1
def advNext (a : Adv) (s x : Nat) : Nat := (advAt a s).2.getD x 0
def missOne (a : Adv) (s x : Nat) : Nat := if advTold a s = x then 0 else 1
theorem advAt_get {k : Nat} {a : Adv} (h : AdvOk k a) {s : Nat} (hs : s < a.2.length) : a.2[s]? = some (advAt a s) ∧ advTold a s < k ∧ (advAt a s).2.length = k ∧ ∀ n ∈ (advAt a s).2, n < a.2.length := by
  have e : a.2[s]? = some a.2[s] := List.getElem?_eq_getElem hs
  have e2 : advAt a s = a.2[s] := by unfold advAt; rw [List.getD_eq_getElem?_getD, e]; rfl
  have q := h.ru _ (List.getElem_mem hs)
  rw [← e2] at q
  exact ⟨by rw [e, e2], q.1, q.2.1, q.2.2⟩
theorem advNext_lt {k : Nat} {a : Adv} (h : AdvOk k a) {s x : Nat} (hs : s < a.2.length) (hx : x < k) : (advAt a s).2[x]? = some (advNext a s x) ∧ advNext a s x < a.2.length := by
  obtain ⟨_, _, q2, q3⟩ := advAt_get h hs
  have hl : x < (advAt a s).2.length := by omega
  have e : (advAt a s).2[x]? = some (advAt a s).2[x] := List.getElem?_eq_getElem hl
  have e2 : advNext a s x = (advAt a s).2[x] := by unfold advNext; rw [List.getD_eq_getElem?_getD, e]; rfl
  rw [e2]
  exact ⟨e, q3 _ (List.getElem_mem hl)⟩
def nxts (c : List Adv) (ss : List Nat) (x : Nat) : List Nat := (c.zip ss).map fun p => advNext p.1 p.2 x
def msts (c : List Adv) (ss ms : List Nat) (x : Nat) : List Nat := ((c.zip ss).zip ms).map fun p => p.2 + missOne p.1.1 p.1.2 x
theorem app_a (M0 : List MO) (xs ys : List D) (hl : xs.length < 100000) (d : D) : oAppend (.ref M0.length) [d] (M0 ++ [.lst xs, .lst ys]) = .ok .non (M0 ++ [.lst (xs ++ [d]), .lst ys]) := by
  have e : (M0 ++ [MO.lst xs, .lst ys])[M0.length]? = some (.lst xs) := by simp
  rw [oAppend_eq e hl]
  simp
theorem app_b (M0 : List MO) (xs ys : List D) (hl : ys.length < 100000) (d : D) : oAppend (.ref (M0.length + 1)) [d] (M0 ++ [.lst xs, .lst ys]) = .ok .non (M0 ++ [.lst xs, .lst (ys ++ [d])]) := by
  have e : (M0 ++ [MO.lst xs, .lst ys])[M0.length + 1]? = some (.lst ys) := by
    rw [List.getElem?_append_right (by omega)]
    simp
  rw [oAppend_eq e hl]
  congr 1
  rw [List.set_append_right _ _ (by omega)]
  simp
theorem lo_a (M0 : List MO) (xs ys : List D) : listOf (M0 ++ [.lst xs, .lst ys]) (.ref M0.length) = some xs := s_listOf_ref _ (by simp)
theorem lo_b (M0 : List MO) (xs ys : List D) : listOf (M0 ++ [.lst xs, .lst ys]) (.ref (M0.length + 1)) = some ys := s_listOf_ref _ (by
    rw [List.getElem?_append_right (by omega)]
    simp)
theorem heard_loop {k : Nat} {M0 : List MO} {x : Nat} (hx : x < k) (C0 S0 N0 : Option D) : ∀ (c : List Adv) (ss ms : List Nat) (b m : List D) (u6 u7 u8 u9 u10 u11 : Option D), (∀ a ∈ c, AdvOk k a) → c.length = ss.length → c.length = ms.length → (∀ p ∈ c.zip ss, p.2 < p.1.2.length) → b.length + c.length ≤ 100 → m.length + c.length ≤ 100 →
    ∃ v6 v7 v8 v9 v10 v11, forL (fun _ => True) (gtTup 3 (gtCons (gtTup 2 (gtCons (gtName 6) (gtCons (gtName 7) (gtNil)))) (gtCons (gtName 8) (gtCons (gtName 9) (gtNil))))) (gSeq (gAsg (gOp oIx (gVar 7) (gVar 8)) (gtTup 2 (gtCons (gtName 10) (gtCons (gtName 11) (gtNil)))))
    (gSeq (gDrop (gBM oAppend (gVar 4) (gACons (gOp oIx (gVar 11) (gVar 3)) (gANil))))
    (gDrop (gBM oAppend (gVar 5) (gACons (gIfE (gTest (gOp oEq (gVar 10) (gVar 3))) (gVar 9) (gOp oAdd (gVar 9) (gC (.int 1)))) (gANil))))))
      (zipD3 (c.map advD) (ss.map fun (n : Nat) => D.int n) (ms.map fun (n : Nat) => D.int n)) [C0, S0, N0, some (.int x), some (.ref M0.length), some (.ref (M0.length + 1)), u6, u7, u8, u9, u10, u11] (M0 ++ [.lst b, .lst m]) =
      .nx [C0, S0, N0, some (.int x), some (.ref M0.length), some (.ref (M0.length + 1)), v6, v7, v8, v9, v10, v11] (M0 ++ [.lst (b ++ (nxts c ss x).map fun (n : Nat) => D.int n), .lst (m ++ (msts c ss ms x).map fun (n : Nat) => D.int n)])
  | [], ss, ms, b, m, u6, u7, u8, u9, u10, u11, ha, h1, h2, hz, l1, l2 => by
    cases ss with
    | cons => simp at h1
    | nil => exact ⟨u6, u7, u8, u9, u10, u11, by simp [zipD3, forL, nxts, msts]⟩
  | a :: c, [], ms, b, m, u6, u7, u8, u9, u10, u11, ha, h1, h2, hz, l1, l2 => by simp at h1
  | a :: c, s :: ss, [], b, m, u6, u7, u8, u9, u10, u11, ha, h1, h2, hz, l1, l2 => by simp at h2
  | a :: c, s :: ss, n :: ms, b, m, u6, u7, u8, u9, u10, u11, ha, h1, h2, hz, l1, l2 => by
    have oa := ha a (by simp)
    have hs : s < a.2.length := hz (a, s) (by simp)
    obtain ⟨q1, q2, q3, q4⟩ := advAt_get oa hs
    obtain ⟨r1, r2⟩ := advNext_lt oa hs hx
    simp only [List.length_cons] at l1 l2 h1 h2
    obtain ⟨v6, v7, v8, v9, v10, v11, e⟩ := heard_loop (M0 := M0) hx C0 S0 N0 c ss ms (b ++ [.int (advNext a s x)]) (m ++ [.int ((n + missOne a s x : Nat) : Int)]) (some (.int a.1)) (some (.tup (a.2.map arD))) (some (.int s)) (some (.int n)) (some (.int (advTold a s))) (some (nsD (advAt a s).2)) (fun y hy => ha y (by simp [hy])) (by omega) (by omega) (fun p hp => hz p (by simp [hp])) (by simp; omega) (by simp; omega)
    refine ⟨v6, v7, v8, v9, v10, v11, ?_⟩
    have i1 : ∀ M, oIx (.tup (a.2.map arD)) (.int s) M = .ok (.tup [.int (advTold a s), nsD (advAt a s).2]) M := fun M => ixT_map (f := arD) q1 M
    have i2 : ∀ M, oIx (nsD (advAt a s).2) (.int x) M = .ok (.int (advNext a s x)) M := fun M => ixT_map (f := fun (n : Nat) => D.int n) r1 M
    have e1 : nxts (a :: c) (s :: ss) x = advNext a s x :: nxts c ss x := rfl
    have e2 : msts (a :: c) (s :: ss) (n :: ms) x = (n + missOne a s x) :: msts c ss ms x := rfl
    rw [e1, e2]
    simp only [List.map_cons, zipD3]
    unfold forL
    have la := lo_a M0 b m
    have aa := app_a M0 b m (by omega) (.int (advNext a s x))
    have lb := lo_b M0 (b ++ [.int (advNext a s x)]) m
    have ab := app_b M0 (b ++ [.int (advNext a s x)]) m (by omega) (.int ((n : Int) + (missOne a s x : Int)))
    have hm : (if (advTold a s : Int) = (x : Int) then (R.ok (D.int (n : Int)) (M0 ++ [.lst (b ++ [.int (advNext a s x)]), .lst m])) else .ok (.int ((n : Int) + 1)) (M0 ++ [.lst (b ++ [.int (advNext a s x)]), .lst m])) = .ok (.int ((n : Int) + (missOne a s x : Int))) (M0 ++ [.lst (b ++ [.int (advNext a s x)]), .lst m]) := by
      unfold missOne
      by_cases c : advTold a s = x
      · simp [c]
      · have c' : ¬ (advTold a s : Int) = (x : Int) := by omega
        simp [c, c']
    simp only [List.append_assoc, List.cons_append, List.nil_append] at e
    simp [advD, i1, i2, la, aa, lb, hm, ab]
    simpa using e
theorem heard_eq {k : Nat} {M : List MO} (wf : WF M) {c : List Adv} (h : CirOk k c) {ss ms : List Nat} (h1 : c.length = ss.length) (h2 : c.length = ms.length) (hz : ∀ p ∈ c.zip ss, p.2 < p.1.2.length) {x : Nat} (hx : x < k) :
    m_heard [cirD c, nsD ss, nsD ms, .int x] M = .ok (.tup [nsD (nxts c ss x), nsD (msts c ss ms x)]) M := by
  have l4 := h.l4
  obtain ⟨v6, v7, v8, v9, v10, v11, e⟩ := heard_loop (M0 := M) hx (some (cirD c)) (some (nsD ss)) (some (nsD ms)) c ss ms [] [] none none none none none none h.ad h1 h2 hz (by simp; omega) (by simp; omega)
  unfold m_heard cutM
  rw [List.nil_append, List.nil_append] at e
  have t1 := lo_a M ((nxts c ss x).map fun (n : Nat) => D.int n) ((msts c ss ms x).map fun (n : Nat) => D.int n)
  have t2 := lo_b M ((nxts c ss x).map fun (n : Nat) => D.int n) ((msts c ss ms x).map fun (n : Nat) => D.int n)
  have q : fnM 12 g_heard [cirD c, nsD ss, nsD ms, .int x] M = .ok (.tup [nsD (nxts c ss x), nsD (msts c ss ms x)]) (M ++ [.lst ((nxts c ss x).map fun (n : Nat) => D.int n), .lst ((msts c ss ms x).map fun (n : Nat) => D.int n)]) := by
    have z : ∀ δ M', giZip3 (gACons (gVar 0) (gACons (gVar 1) (gACons (gVar 2) gANil))) ([some (cirD c), some (nsD ss), some (nsD ms)] ++ δ) M' = .ok (itT (zipD3 (c.map advD) (ss.map fun (n : Nat) => D.int n) (ms.map fun (n : Nat) => D.int n))) M' := fun δ M' => by
      simp [giZip3, cirD, nsD, sqOf]
    have z' := z [some (.int x), some (.ref M.length), some (.ref (M.length + 1)), none, none, none, none, none, none]
    simp only [List.cons_append, List.nil_append] at z'
    simp [fnM, g_heard, startD, bigN, z', e, oTuple, t1, t2]
    exact ⟨rfl, rfl⟩
  rw [q]
  exact cut_to rfl wf (by show (D.lo _ (nsD _) && (D.lo _ (nsD _) && true)) = true; rw [nsD_lo, nsD_lo]; rfl) (by simp)
end KG
set_option linter.all false
set_option maxRecDepth 100000
set_option maxHeartbeats 2000000
namespace KG
open PySem L2 KM
/-! ### advisers along a row -/
def advStep (a : Adv) (p : Nat × Nat) (x : Nat) : Nat × Nat := (advNext a p.1 x, p.2 + missOne a p.1 x)
def advFrom (a : Adv) (p : Nat × Nat) (row : List Nat) : Nat × Nat := row.foldl (advStep a) p
def advRun (a : Adv) (row : List Nat) : Nat × Nat := advFrom a (0, 0) row
theorem zip_map {α β γ : Type} (f : α → β) (g : α × β → γ) : ∀ c : List α, (c.zip (c.map f)).map g = c.map fun a => g (a, f a)
  | [] => rfl
  | a :: c => by
    show g (a, f a) :: _ = g (a, f a) :: _
    rw [← zip_map f g c]
    rfl
theorem nxts_map (c : List Adv) (f : Adv → Nat) (x : Nat) : nxts c (c.map f) x = c.map fun a => advNext a (f a) x := zip_map f _ c
theorem zip_map2 {α β γ δ : Type} (f : α → β) (h : α → γ) (g : (α × β) × γ → δ) : ∀ c : List α, ((c.zip (c.map f)).zip (c.map h)).map g = c.map fun a => g ((a, f a), h a)
  | [] => rfl
  | a :: c => by
    show g ((a, f a), h a) :: _ = g ((a, f a), h a) :: _
    rw [← zip_map2 f h g c]
    rfl
theorem msts_map (c : List Adv) (f h : Adv → Nat) (x : Nat) : msts c (c.map f) (c.map h) x = c.map fun a => h a + missOne a (f a) x := zip_map2 f h _ c
theorem zip_lt {c : List Adv} {f : Adv → Nat} (h : ∀ a ∈ c, f a < a.2.length) : ∀ p ∈ c.zip (c.map f), p.2 < p.1.2.length := by
  intro p hp
  have e : c.zip (c.map f) = c.map fun a => (a, f a) := by
    have := zip_map f (fun q => q) c
    rw [List.map_id'] at this
    exact this
  rw [e] at hp
  obtain ⟨a, ha, rfl⟩ := List.mem_map.mp hp
  exact h a ha
theorem advStep_lt {k : Nat} {a : Adv} (h : AdvOk k a) {p : Nat × Nat} (hp : p.1 < a.2.length) {x : Nat} (hx : x < k) : (advStep a p x).1 < a.2.length := (advNext_lt h hp hx).2
theorem misses_loop {k : Nat} {M : List MO} (wf : WF M) {c : List Adv} (h : CirOk k c) (R0 : Option D) : ∀ (row : List Nat) (f : Adv → Nat × Nat) (u4 : Option D), (∀ x ∈ row, x < k) → (∀ a ∈ c, (f a).1 < a.2.length) →
    ∃ v4, forL (fun _ => True) (gtName 4) (gAsg (gCall m_heard (gACons (gVar 0) (gACons (gVar 2) (gACons (gVar 3) (gACons (gVar 4) (gANil)))))) (gtTup 2 (gtCons (gtName 2) (gtCons (gtName 3) (gtNil)))))
      (row.map fun (n : Nat) => D.int n) [some (cirD c), R0, some (nsD (c.map fun a => (f a).1)), some (nsD (c.map fun a => (f a).2)), u4] M =
      .nx [some (cirD c), R0, some (nsD (c.map fun a => (advFrom a (f a) row).1)), some (nsD (c.map fun a => (advFrom a (f a) row).2)), v4] M
  | [], f, u4, hr, hf => ⟨u4, by simp [forL, advFrom]⟩
  | x :: row, f, u4, hr, hf => by
    obtain ⟨v4, e⟩ := misses_loop wf h R0 row (fun a => advStep a (f a) x) (some (.int x)) (fun y hy => hr y (by simp [hy])) (fun a ha => advStep_lt (h.ad a ha) (hf a ha) (hr x (by simp)))
    refine ⟨v4, ?_⟩
    have hh := heard_eq wf h (ss := c.map fun a => (f a).1) (ms := c.map fun a => (f a).2) (by simp) (by simp) (zip_lt hf) (hr x (by simp))
    rw [nxts_map, msts_map] at hh
    rw [List.map_cons]
    unfold forL
    simp [hh]
    exact e
theorem nothing_heard_eq {M : List MO} (wf : WF M) {k : Nat} {c : List Adv} (h : CirOk k c) : m_nothing_heard [cirD c] M = .ok (.tup [nsD (c.map fun _ => 0), nsD (c.map fun _ => 0)]) M := by
  have l1 := h.l1
  have l4 := h.l4
  unfold m_nothing_heard cutM
  have e0 : ∀ M', oMul (.tup [.int 0]) (.int (c.length : Int)) M' = .ok (nsD (c.map fun _ => 0)) M' := fun M' => by
    have e : nsD (c.map fun _ => 0) = .tup (List.replicate c.length (.int 0)) := by
      unfold nsD
      rw [List.map_map, ← List.map_const']
      rfl
    rw [e]
    have hc : c.length = 1 ∨ c.length = 2 ∨ c.length = 3 ∨ c.length = 4 := by omega
    rcases hc with q | q | q | q <;> rw [q] <;> simp [oMul, bigN] <;> rfl
  have q : fnM 1 g_nothing_heard [cirD c] M = .ok (.tup [nsD (c.map fun _ => 0), nsD (c.map fun _ => 0)]) M := by
    have hl : ∀ M', oLen [cirD c] M' = .ok (.int (c.length : Int)) M' := fun M' => by unfold cirD; simp
    simp [fnM, g_nothing_heard, startD, hl, e0, bigN]
  rw [q]
  exact cut_same wf (by show (D.lo _ (nsD _) && (D.lo _ (nsD _) && true)) = true; rw [nsD_lo]; rfl)
theorem isRw_row {k : Nat} {row : List Nat} (hl : row.length ≤ 400) (hr : ∀ x ∈ row, x < k) : isRw (k : Int) (nsD row) = true := by
  unfold nsD isRw
  rw [Bool.and_eq_true]
  refine ⟨by simpa using hl, ?_⟩
  rw [List.all_map, List.all_eq_true]
  intro x hx
  exact isBel_nat (hr x hx)
theorem adviser_misses_eq {k : Nat} {M : List MO} (wf : WF M) {c : List Adv} (h : CirOk k c) {row : List Nat} (hl : row.length ≤ 400) (hr : ∀ x ∈ row, x < k) :
    m_adviser_misses [cirD c, nsD row] M = .ok (nsD (c.map fun a => (advRun a row).2)) M := by
  have h2 := h.s2
  have h4 := h.s4
  unfold m_adviser_misses cutM
  have ic := is_circle_any (B := 10) wf (h.ok (Nat.le_refl _))
  rw [h.isCir] at ic
  have ir := is_row_any (B := 10) (d := nsD row) (k := (k : Int)) (by omega) (by omega) wf (nsD_ok (by omega) (fun n hn => by have := hr n hn; omega))
  rw [isRw_row hl hr] at ir
  obtain ⟨v4, e⟩ := misses_loop wf h (some (nsD row)) row (fun _ => (0, 0)) none hr (fun a ha => (h.ad a ha).l1)
  have n0 := nothing_heard_eq wf h
  obtain ⟨a0, i0, sz⟩ : ∃ a0, oIx (cirD c) (.int 0) M = .ok (advD a0) M ∧ a0.1 = k := by
    have l1 := h.l1
    cases c with
    | nil => simp at l1
    | cons a c => exact ⟨a, s_ixT M (n := 0) rfl, (h.ad a (by simp)).s⟩
  have i1 : oIx (advD a0) (.int 0) M = .ok (.int k) M := by
    unfold advD
    rw [ix2_0, sz]
  have gs : tupOf (nsD row) = some (row.map fun (n : Nat) => D.int n) := rfl
  have q : fnM 5 g_adviser_misses [cirD c, nsD row] M = .ok (nsD (c.map fun a => (advRun a row).2)) M := by
    simp [fnM, g_adviser_misses, startD, ic, i0, i1, ir, n0, gs, e]
    rfl
  rw [q]
  exact cut_same wf (nsD_lo _ _)
theorem missed_loop {k : Nat} {M : List MO} {a : Adv} (h : AdvOk k a) (R0 : Option D) : ∀ (row : List Nat) (p : Nat × Nat) (u4 u5 u6 : Option D), (∀ x ∈ row, x < k) → p.1 < a.2.length →
    ∃ v4 v5 v6, forL (fun _ => True) (gtName 4) (gSeq (gAsg (gOp oIx (gOp oIx (gVar 0) (gC (.int 1))) (gVar 2)) (gtTup 2 (gtCons (gtName 5) (gtCons (gtName 6) (gtNil)))))
    (gPar 3 2 (gOp oAdd (gVar 3) (gCall oInt (gACons (gOp oNe (gVar 5) (gVar 4)) (gANil)))) (gOp oIx (gVar 6) (gVar 4))))
      (row.map fun (n : Nat) => D.int n) [some (advD a), R0, some (.int p.1), some (.int p.2), u4, u5, u6] M = .nx [some (advD a), R0, some (.int (advFrom a p row).1), some (.int (advFrom a p row).2), v4, v5, v6] M
  | [], p, u4, u5, u6, hr, hp => ⟨u4, u5, u6, by simp [forL, advFrom]⟩
  | x :: row, p, u4, u5, u6, hr, hp => by
    obtain ⟨q1, q2, q3, q4⟩ := advAt_get h hp
    obtain ⟨r1, r2⟩ := advNext_lt h hp (hr x (by simp))
    obtain ⟨v4, v5, v6, e⟩ := missed_loop (M := M) h R0 row (advStep a p x) (some (.int x)) (some (.int (advTold a p.1))) (some (nsD (advAt a p.1).2)) (fun y hy => hr y (by simp [hy])) r2
    refine ⟨v4, v5, v6, ?_⟩
    have i0 : ∀ M, oIx (advD a) (.int 1) M = .ok (.tup (a.2.map arD)) M := fun M => ix2_1 _ _ M
    have i1 : ∀ M, oIx (.tup (a.2.map arD)) (.int p.1) M = .ok (.tup [.int (advTold a p.1), nsD (advAt a p.1).2]) M := fun M => ixT_map (f := arD) q1 M
    have i2 : ∀ M, oIx (nsD (advAt a p.1).2) (.int x) M = .ok (.int (advNext a p.1 x)) M := fun M => ixT_map (f := fun (n : Nat) => D.int n) r1 M
    rw [List.map_cons]
    unfold forL
    have hm : (p.2 : Int) + (if (advTold a p.1 : Int) = (x : Int) then 0 else 1) = (((advStep a p x).2 : Nat) : Int) := by
      unfold advStep missOne
      by_cases c : advTold a p.1 = x
      · simp [c]
      · have c' : ¬ (advTold a p.1 : Int) = (x : Int) := by omega
        simp [c, c']
    have hm2 : (p.2 : Int) + (if (!decide ((advTold a p.1 : Int) = (x : Int))) = true then 1 else 0) = (((advStep a p x).2 : Nat) : Int) := by
      rw [← hm]
      by_cases c : (advTold a p.1 : Int) = (x : Int) <;> simp [c]
    simp [i0, i1, i2]
    rw [hm]
    exact e
theorem law_missed_eq {k : Nat} {M : List MO} (wf : WF M) {a : Adv} (h : AdvOk k a) {row : List Nat} (hr : ∀ x ∈ row, x < k) : m__law_missed [advD a, nsD row] M = .ok (.int ((advRun a row).2 : Nat)) M := by
  obtain ⟨v4, v5, v6, e⟩ := missed_loop (M := M) h (some (nsD row)) row (0, 0) none none none hr h.l1
  unfold m__law_missed cutM
  have q : fnM 7 g__law_missed [advD a, nsD row] M = .ok (.int ((advRun a row).2 : Nat)) M := by
    have gs : tupOf (nsD row) = some (row.map fun (n : Nat) => D.int n) := rfl
    simp at e
    simp [fnM, g__law_missed, startD, gs, bigN, e]
    rfl
  rw [q]
  exact cut_same wf rfl
end KG
set_option linter.all false
set_option maxRecDepth 100000
set_option maxHeartbeats 2000000
namespace KG
open PySem L2 KM
/-- what a block leaves of the world below n, and its own list behind -/
structure Lv (k : Nat) (c : List Int) (M0 M : List MO) (own : List D) : Prop where
  len : M.length = M0.length + 1
  oth : ∀ j, j ≠ k → j < M0.length → M[j]? = M0[j]?
  own : M[M0.length]? = some (.lst own)
  w : Pot k c M
  wf : WF M
theorem Lv.nx {k : Nat} {c : List Int} {M0 M M' : List MO} {own : List D} (l : Lv k c M0 M own) (hk : k < M0.length) (n : Nx k c M M') : Lv k c M0 M' own :=
  ⟨n.len.trans l.len, fun j hj hl => (n.oth j hj).trans (l.oth j hj hl), (n.oth _ (by omega)).trans l.own, n.w, n.wf⟩
theorem Lv.app {k : Nat} {c : List Int} {M0 M : List MO} {own : List D} (l : Lv k c M0 M own) (hk : k < M0.length) {d : D} (hd : ∀ n, D.lo n d = true) (ho : ∀ x ∈ own, ∀ n, D.lo n x = true) : Lv k c M0 (M.set M0.length (.lst (own ++ [d]))) (own ++ [d]) := by
  obtain ⟨n, p, h, h5, h0, e⟩ := l.w
  refine ⟨by rw [List.length_set]; exact l.len, fun j hj hl => by rw [List.getElem?_set_ne (by omega)]; exact l.oth j hj hl, List.getElem?_set_self (by rw [l.len]; omega), ⟨n, p, h, h5, h0, by rw [List.getElem?_set_ne (by omega)]; exact e⟩, l.wf.set ?_⟩
  unfold MO.lo
  rw [D.los_all]
  intro x hx
  rcases List.mem_append.mp hx with hx | hx
  · exact ho x hx _
  · have : x = d := by simpa using hx
    subst this
    exact hd _
theorem Lv.cut {k : Nat} {c : List Int} {M0 M : List MO} {own : List D} (wf0 : WF M0) (l : Lv k c M0 M own) (hk : k < M0.length) : Nx k c M0 (M.take M0.length) := by
  have hl : (M.take M0.length).length = M0.length := by rw [List.length_take, l.len]; omega
  have ho : ∀ j, j ≠ k → (M.take M0.length)[j]? = M0[j]? := fun j hj => by
    rw [List.getElem?_take]
    split
    · rename_i hlt
      exact l.oth j hj hlt
    · rw [List.getElem?_eq_none (by omega)]
  obtain ⟨n, p, h, h5, h0, e⟩ := l.w
  have hw : (M.take M0.length)[k]? = some (wl c n p h h5) := by rw [List.getElem?_take, if_pos hk]; exact e
  refine ⟨hl, ho, ⟨n, p, h, h5, h0, hw⟩, ?_⟩
  unfold WF
  rw [hl]
  refine List.all_eq_true.mpr fun o hm => ?_
  obtain ⟨j, hj⟩ := List.getElem?_of_mem hm
  by_cases hjk : j = k
  · subst hjk
    rw [hw] at hj
    cases hj
    exact wl_lo _ _ _ _ _ _
  · rw [ho j hjk] at hj
    exact List.all_eq_true.mp wf0 o (List.mem_of_getElem? hj)
theorem cut_lv {k : Nat} {c : List Int} {M0 M : List MO} {own : List D} (wf0 : WF M0) (l : Lv k c M0 M own) (hk : k < M0.length) {d : D} (hd : D.lo M0.length d = true) : cutR M0.length (.ok d M) = .ok d (M.take M0.length) := by
  have q := l.cut wf0 hk
  have hb : (D.lo M0.length d && (M.take M0.length).all (MO.lo M0.length)) = true := by
    rw [Bool.and_eq_true]
    refine ⟨hd, ?_⟩
    have := q.wf
    unfold WF at this
    rw [q.len] at this
    exact this
  show (if (D.lo M0.length d && (M.take M0.length).all (MO.lo M0.length)) = true then R.ok d (M.take M0.length) else R.bad) = _
  rw [if_pos hb]
theorem Lv.new {k : Nat} {c : List Int} {M : List MO} (wf : WF M) (w : Pot k c M) : Lv k c M (M ++ [.lst []]) [] := by
  obtain ⟨n, p, h, h5, h0, e⟩ := w
  have hk := (List.getElem?_eq_some_iff.mp e).1
  exact ⟨by simp, fun j hj hl => by rw [List.getElem?_append_left hl], get_last _ _, ⟨n, p, h, h5, h0, by rw [List.getElem?_append_left hk]; exact e⟩, wf.app rfl⟩
theorem mapD_lo {α : Type} {f : α → D} (h : ∀ n x, D.lo n (f x) = true) (xs : List α) : ∀ x ∈ xs.map f, ∀ n, D.lo n x = true := fun x hx n => by
  obtain ⟨y, _, rfl⟩ := List.mem_map.mp hx
  exact h n y
theorem nD_lo (n : Nat) (m : Nat) : D.lo n (.int m) = true := rfl
theorem arD_lo (n : Nat) (r : Nat × List Nat) : D.lo n (arD r) = true := by
  show (true && (D.lo n (nsD r.2) && true)) = true
  rw [nsD_lo]
  rfl
theorem los_mapD {α : Type} {f : α → D} {n : Nat} (h : ∀ x, D.lo n (f x) = true) (xs : List α) : D.los n (xs.map f) = true := by
  rw [D.los_all]
  intro d hd
  obtain ⟨x, _, rfl⟩ := List.mem_map.mp hd
  exact h x
theorem advD_lo (n : Nat) (a : Adv) : D.lo n (advD a) = true := by
  show (true && (D.los n (a.2.map arD) && true)) = true
  rw [los_mapD (arD_lo n)]
  rfl
theorem cirD_lo (n : Nat) (c : List Adv) : D.lo n (cirD c) = true := los_mapD (advD_lo n) c
/-- some draws in a comprehension -/
theorem draws_comp {k : Nat} {c : List Int} {m sl sv : Nat} {x : D} (hm : 1 ≤ m) (hm2 : m ≤ 1000) {δ : KM.Ctx} {ge : GE} (hv : ∀ (i : Int) (M : List MO), WF M → Pot k c M → ge (δ.set sv (some (.int i))) M = m__law_draw [.ref k, .int (m : Int)] M) : ∀ (n : Nat) (lo : Int) (acc : List Nat) (M : List MO), WF M → Pot k c M → acc.length + n ≤ 1000 → (∀ s ∈ acc, s < m) →
    ∃ (r : List Nat) (M' : List MO), lcL (fun _ => True) (gtName sv) gYes ge δ (rngD lo n) (acc.map fun (n : Nat) => D.int n) M = .ok (r.map fun (n : Nat) => D.int n) M' ∧ Nx k c M M' ∧ r.length = acc.length + n ∧ ∀ s ∈ r, s < m
  | 0, lo, acc, M, wf, w, hl, ha => ⟨acc, M, by simp [rngD, lcL], Nx.refl wf w, rfl, ha⟩
  | n + 1, lo, acc, M, wf, w, hl, ha => by
    obtain ⟨t, M2, e2, a2, b2, n2⟩ := draw_eq wf w (many := (m : Int)) (by omega) (by omega)
    have et : t = ((t.toNat : Nat) : Int) := by omega
    obtain ⟨r, M', e, nx, hr, hq⟩ := draws_comp (sl := sl) (x := x) hm hm2 hv n (lo + 1) (acc ++ [t.toNat]) M2 n2.wf n2.w (by simp; omega) (fun s hs => by
      rcases List.mem_append.mp hs with hs | hs
      · exact ha s hs
      · have : s = t.toNat := by simpa using hs
        omega)
    refine ⟨r, M', ?_, n2.trans nx, by rw [hr]; simp; omega, hq⟩
    rw [rngD_succ]
    unfold lcL
    rw [if_pos trivial]
    have bs : bigS (acc.map fun (n : Nat) => D.int n).length := by rw [List.length_map]; unfold bigS; omega
    rw [List.map_append, List.map_cons, List.map_nil, ← et] at e
    simp only [s_gtName, gYes, if_true, hv lo M wf w, e2, if_pos bs]
    exact e
theorem adv_loop {k : Nat} {c : List Int} {M0 : List MO} (hk : k < M0.length) {size states : Nat} (h2 : 2 ≤ size) (h4 : size ≤ 4) (hs : 1 ≤ states) (hs2 : states ≤ 6) (x2 : Option D) : ∀ (n : Nat) (lo : Int) (rs : List (Nat × List Nat)) (M : List MO) (x5 x6 : Option D), rs.length + n ≤ 1000 → (∀ r ∈ rs, r.1 < size ∧ r.2.length = size ∧ ∀ n ∈ r.2, n < states) → Lv k c M0 M (rs.map arD) →
    ∃ (rs' : List (Nat × List Nat)) (M' : List MO) (y5 y6 : Option D), forL (fun _ => True) (gtName 5) (gDrop (gBM oAppend (gVar 4) (gACons (gETup (gACons (gCall m__law_draw (gACons (gVar 0) (gACons (gVar 1) (gANil)))) (gACons (gCall oTuple (gACons (gLcG finI (giRng1 (gACons (gVar 1) (gANil))) (gtName 6) (gYes) (gCall m__law_draw (gACons (gVar 0) (gACons (gVar 3) (gANil)))) [6]) (gANil))) (gANil)))) (gANil))))
      (rngD lo n) [some (.ref k), some (.int size), x2, some (.int states), some (.ref M0.length), x5, x6] M = .nx [some (.ref k), some (.int size), x2, some (.int states), some (.ref M0.length), y5, y6] M' ∧
      Lv k c M0 M' (rs'.map arD) ∧ rs'.length = rs.length + n ∧ ∀ r ∈ rs', r.1 < size ∧ r.2.length = size ∧ ∀ n ∈ r.2, n < states
  | 0, lo, rs, M, x5, x6, hl, hr, lv => ⟨rs, M, x5, x6, by simp [rngD, forL], lv, rfl, hr⟩
  | n + 1, lo, rs, M, x5, x6, hl, hr, lv => by
    obtain ⟨t, M1, e1, a1, b1, n1⟩ := draw_eq lv.wf lv.w (many := (size : Int)) (by omega) (by omega)
    have et : t = ((t.toNat : Nat) : Int) := by omega
    obtain ⟨r, M2, e2, n2, r1, r2⟩ := draws_comp (k := k) (c := c) (sl := 0) (x := .non) (m := states) (sv := 6) (by omega) (by omega) (δ := [some (.ref k), some (.int size), x2, some (.int states), some (.ref M0.length), some (.int lo), none]) (ge := gCall m__law_draw (gACons (gVar 0) (gACons (gVar 3) (gANil)))) (fun i M _ _ => by simp) size 0 [] M1 n1.wf n1.w (by simp; omega) (by simp)
    have lv2 := lv.nx hk (n1.trans n2)
    have lv3 := lv2.app hk (d := arD (t.toNat, r)) (fun n => arD_lo n _) (mapD_lo arD_lo rs)
    rw [← List.map_singleton, ← List.map_append] at lv3
    obtain ⟨rs', M', y5, y6, e, l', q1, q2⟩ := adv_loop hk h2 h4 hs hs2 x2 n (lo + 1) (rs ++ [(t.toNat, r)]) _ (some (.int lo)) x6 (by simp; omega) (fun x hx => by
      rcases List.mem_append.mp hx with hx | hx
      · exact hr x hx
      · have : x = (t.toNat, r) := by simpa using hx
        subst this
        exact ⟨by show t.toNat < size; omega, by simpa using r1, r2⟩) lv3
    refine ⟨rs', M', y5, y6, ?_, l', by rw [q1]; simp; omega, q2⟩
    rw [rngD_succ]
    unfold forL
    rw [if_pos trivial]
    have ap := oAppend_eq lv2.own (by simp; omega) (arD (t.toNat, r))
    have lo1 := s_listOf_ref M2 lv2.own
    have lo0 := s_listOf_ref M lv.own
    have rb : rngB (size : Int) := rngB_ok (by omega) (by omega)
    rw [List.map_nil] at e2
    have er : D.tup [.int t, .tup (r.map fun (n : Nat) => D.int n)] = arD (t.toNat, r) := by unfold arD nsD; rw [← et]
    rw [List.map_append, List.map_singleton] at e
    simp [e1, lo0, rb, wipeD, e2, finI, bigN, er, ap]
    simpa using e
theorem adviser_eq {k : Nat} {c : List Int} {M : List MO} (wf : WF M) (w : Pot k c M) {size most : Nat} (h2 : 2 ≤ size) (h4 : size ≤ 4) (m1 : 1 ≤ most) (m6 : most ≤ 6) : ∃ a M', m__law_adviser [.ref k, .int size, .int most] M = .ok (advD a) M' ∧ AdvOk size a ∧ Nx k c M M' := by
  obtain ⟨t, M1, e1, a1, b1, n1⟩ := draw_eq wf w (many := (most : Int)) (by omega) (by omega)
  have es : 1 + t = (((1 + t).toNat : Nat) : Int) := by omega
  have hk1 : k < M1.length := n1.w.lt
  obtain ⟨rs, M', y5, y6, e, l, q1, q2⟩ := adv_loop hk1 (size := size) (states := (1 + t).toNat) h2 h4 (by omega) (by omega) (some (.int most)) (1 + t).toNat 0 [] _ none none (by simp; omega) (by simp) (Lv.new n1.wf n1.w)
  have q1' : rs.length = (1 + t).toNat := by simpa using q1
  refine ⟨(size, rs), M'.take M1.length, ?_, ⟨rfl, h2, h4, by show 1 ≤ rs.length; omega, by show rs.length ≤ 6; omega, fun r hr => ⟨(q2 r hr).1, (q2 r hr).2.1, fun n hn => by have := (q2 r hr).2.2 n hn; show n < rs.length; omega⟩⟩, n1.trans (l.cut n1.wf hk1)⟩
  have q : fnM 7 g__law_adviser [.ref k, .int size, .int most] M = .ok (advD (size, rs)) M' := by
    have rb : rngB (1 + t) := rngB_ok (by omega) (by omega)
    have lo1 := s_listOf_ref M' l.own
    have tp : oTuple [.ref M1.length] M' = .ok (.tup (rs.map arD)) M' := by
      unfold oTuple
      simp only [s_tupOf_ref, lo1]
    rw [← es] at e
    unfold advD
    simp [fnM, g__law_adviser, startD, e1, bigN, rb, e, tp]
  have e9 : m__law_adviser [.ref k, .int size, .int most] M = cutR M.length (fnM 7 g__law_adviser [.ref k, .int size, .int most] M) := rfl
  rw [e9, q, ← n1.len]
  exact cut_lv n1.wf l hk1 (advD_lo _ _)
end KG
set_option linter.all false
set_option maxRecDepth 100000
set_option maxHeartbeats 2000000
namespace KG
open PySem L2 KM
theorem circ_comp {k : Nat} {c : List Int} {size most sv : Nat} (h2 : 2 ≤ size) (h4 : size ≤ 4) (m1 : 1 ≤ most) (m6 : most ≤ 6) {δ : KM.Ctx} {ge : GE} (hv : ∀ (i : Int) (M : List MO), WF M → Pot k c M → ge (δ.set sv (some (.int i))) M = m__law_adviser [.ref k, .int size, .int most] M) : ∀ (n : Nat) (lo : Int) (acc : List Adv) (M : List MO), WF M → Pot k c M → acc.length + n ≤ 1000 → (∀ a ∈ acc, AdvOk size a) →
    ∃ (r : List Adv) (M' : List MO), lcL (fun _ => True) (gtName sv) gYes ge δ (rngD lo n) (acc.map advD) M = .ok (r.map advD) M' ∧ Nx k c M M' ∧ r.length = acc.length + n ∧ ∀ a ∈ r, AdvOk size a
  | 0, lo, acc, M, wf, w, hl, ha => ⟨acc, M, by simp [rngD, lcL], Nx.refl wf w, rfl, ha⟩
  | n + 1, lo, acc, M, wf, w, hl, ha => by
    obtain ⟨a, M2, e2, oa, n2⟩ := adviser_eq wf w h2 h4 m1 m6
    obtain ⟨r, M', e, nx, hr, hq⟩ := circ_comp h2 h4 m1 m6 hv n (lo + 1) (acc ++ [a]) M2 n2.wf n2.w (by simp; omega) (fun s hs => by
      rcases List.mem_append.mp hs with hs | hs
      · exact ha s hs
      · have : s = a := by simpa using hs
        subst this
        exact oa)
    refine ⟨r, M', ?_, n2.trans nx, by rw [hr]; simp; omega, hq⟩
    rw [rngD_succ]
    unfold lcL
    rw [if_pos trivial]
    have bs : bigS (acc.map advD).length := by rw [List.length_map]; unfold bigS; omega
    rw [List.map_append, List.map_cons, List.map_nil] at e
    simp only [s_gtName, gYes, if_true, hv lo M wf w, e2, if_pos bs]
    exact e
theorem ixN_last {n : Nat} (h : 1 ≤ n) : ixN n (-1) = some (n - 1) := by
  unfold ixN
  rw [if_neg (by decide), if_pos (by omega)]
  congr 1
  omega
theorem circle_eq {k : Nat} {c : List Int} {M : List MO} (wf : WF M) (w : Pot k c M) {sizes many : List Nat} {most : Nat} (s1 : 1 ≤ sizes.length) (s9 : sizes.length ≤ 1000) (hs : ∀ s ∈ sizes, 2 ≤ s ∧ s ≤ 4) (l1 : 1 ≤ many.length) (l9 : many.length ≤ 1000) (hm : ∀ s ∈ many, 1 ≤ s ∧ s ≤ 4) (m1 : 1 ≤ most) (m6 : most ≤ 6) :
    ∃ (size : Nat) (r : List Adv) (M' : List MO), m__law_circle [.ref k, .lst (sizes.map fun (n : Nat) => D.int n), .lst (many.map fun (n : Nat) => D.int n), .int most] M = .ok (cirD r) M' ∧ size ∈ sizes ∧ r.length ∈ many ∧ CirOk size r ∧ Nx k c M M' := by
  have hk := w.lt
  obtain ⟨d1, M1, e1, q1, n1⟩ := any_eq wf w (x := .lst (sizes.map fun (n : Nat) => D.int n)) (.inl rfl) (by simpa using s1) (by simp; omega) (fun d hd => by
    obtain ⟨x, _, rfl⟩ := List.mem_map.mp hd
    rfl)
  obtain ⟨size, hsz, rfl⟩ := List.mem_map.mp q1
  obtain ⟨d2, M2, e2, q2, n2⟩ := any_eq n1.wf n1.w (x := .lst (many.map fun (n : Nat) => D.int n)) (.inl rfl) (by simpa using l1) (by simp; omega) (fun d hd => by
    obtain ⟨x, _, rfl⟩ := List.mem_map.mp hd
    rfl)
  obtain ⟨num, hnum, rfl⟩ := List.mem_map.mp q2
  have N2 := n1.trans n2
  have hh := hs size hsz
  have hn := hm num hnum
  obtain ⟨r, M3, e3, n3, r1, r2⟩ := circ_comp (k := k) (c := c) (size := size) (most := most) (sv := 6) hh.1 hh.2 m1 m6 (δ := [some (.ref k), some (.lst (sizes.map fun (n : Nat) => D.int n)), some (.lst (many.map fun (n : Nat) => D.int n)), some (.int most), some (.int size), none, none])
    (ge := gCall m__law_adviser (gACons (gVar 0) (gACons (gVar 4) (gACons (gVar 3) (gANil))))) (fun i M _ _ => by simp) num 0 [] M2 n2.wf n2.w (by simp; omega) (by simp)
  rw [List.map_nil] at e3
  have N3 := N2.trans n3
  have rl : r.length = num := by simpa using r1
  have rb : rngB (num : Int) := rngB_ok (by omega) (by omega)
  have lv : Lv k c M3 (M3 ++ [.lst (r.map advD)]) (r.map advD) := by
    have l0 := Lv.new n3.wf n3.w
    obtain ⟨n, p, h, h5, h0, e⟩ := n3.w
    have hk := (List.getElem?_eq_some_iff.mp e).1
    exact ⟨by simp, fun j hj hl => by rw [List.getElem?_append_left hl], get_last _ _, ⟨n, p, h, h5, h0, by rw [List.getElem?_append_left hk]; exact e⟩, n3.wf.app (los_mapD (advD_lo _) r)⟩
  have hk3 : k < M3.length := n3.w.lt
  have fin : ∀ (r' : List Adv) (M' : List MO), g__law_circle (startD 7 [.ref k, .lst (sizes.map fun (n : Nat) => D.int n), .lst (many.map fun (n : Nat) => D.int n), .int most]) M = .rt (cirD r') M' → Lv k c M3 M' (r'.map advD) → r'.length = num → (∀ a ∈ r', AdvOk size a) →
      ∃ (size : Nat) (r : List Adv) (M' : List MO), m__law_circle [.ref k, .lst (sizes.map fun (n : Nat) => D.int n), .lst (many.map fun (n : Nat) => D.int n), .int most] M = .ok (cirD r) M' ∧ size ∈ sizes ∧ r.length ∈ many ∧ CirOk size r ∧ Nx k c M M' := by
    intro r' M' e l hl ha
    refine ⟨size, r', M'.take M3.length, ?_, hsz, by rw [hl]; exact hnum, ⟨by omega, by omega, ha⟩, N3.trans (l.cut n3.wf hk3)⟩
    unfold m__law_circle cutM
    have q : fnM 7 g__law_circle [.ref k, .lst (sizes.map fun (n : Nat) => D.int n), .lst (many.map fun (n : Nat) => D.int n), .int most] M = .ok (cirD r') M' := by unfold fnM; rw [e]
    rw [q, ← N3.len]
    exact cut_lv n3.wf l hk3 (cirD_lo _ _)
  have tp : ∀ {M' : List MO} {r' : List Adv}, Lv k c M3 M' (r'.map advD) → oTuple [.ref M3.length] M' = .ok (cirD r') M' := fun {M' r'} l => by
    unfold oTuple
    simp only [s_tupOf_ref, s_listOf_ref M' l.own]
    rfl
  have ln : ∀ {M' : List MO} {r' : List Adv}, Lv k c M3 M' (r'.map advD) → oLen [.ref M3.length] M' = .ok (.int (r'.length : Int)) M' := fun {M' r'} l => by
    unfold oLen
    simp only [s_tupOf_ref, s_listOf_ref M' l.own]
    simp
  have st : startD 7 [.ref k, .lst (sizes.map fun (n : Nat) => D.int n), .lst (many.map fun (n : Nat) => D.int n), .int most] = [some (.ref k), some (.lst (sizes.map fun (n : Nat) => D.int n)), some (.lst (many.map fun (n : Nat) => D.int n)), some (.int most), none, none, none] := rfl
  rw [st] at fin
  have ln3 := ln lv
  have tp3 := tp lv
  by_cases h1 : 1 < r.length
  · have h1' : (1 : Int) < r.length := by omega
    obtain ⟨t, M4, e4, a4, b4, n4⟩ := draw_eq lv.wf lv.w (many := 6) (by decide) (by decide)
    have lv4 := lv.nx hk3 n4
    by_cases ht : t = 0
    · subst ht
      have i0 : oIx (.ref M3.length) (.int 0) M4 = .ok (advD r[0]) M4 := s_ixL M4 (n := 0) rfl (s_listOf_ref M4 lv4.own) (by rw [List.getElem?_map, List.getElem?_eq_getElem (by omega)]; rfl)
      have ss : oSetL (.ref M3.length) (.int (-1)) (advD r[0]) M4 = some (M4.set M3.length (.lst ((r.set (r.length - 1) r[0]).map advD))) := by
        unfold oSetL
        simp only [lv4.own, List.length_map, ixN_last (show 1 ≤ r.length by omega), List.map_set]
      have lv5 : Lv k c M3 (M4.set M3.length (.lst ((r.set (r.length - 1) r[0]).map advD))) ((r.set (r.length - 1) r[0]).map advD) := by
        obtain ⟨n, p, h, h5, h0, e⟩ := lv4.w
        refine ⟨by rw [List.length_set]; exact lv4.len, fun j hj hl => by rw [List.getElem?_set_ne (by omega)]; exact lv4.oth j hj hl, List.getElem?_set_self (by rw [lv4.len]; omega), ⟨n, p, h, h5, h0, by rw [List.getElem?_set_ne (by omega)]; exact e⟩, lv4.wf.set (los_mapD (advD_lo _) _)⟩
      refine fin (r.set (r.length - 1) r[0]) _ ?_ lv5 (by rw [List.length_set]; exact rl) (fun a ha => ?_)
      · have tp5 := tp lv5
        simp only [List.map_set] at tp5
        simp [g__law_circle, e1, e2, rb, wipeD, e3, finM, ln3, h1', e4, i0, ss, tp5]
      · rcases List.mem_or_eq_of_mem_set ha with h | h
        · exact r2 a h
        · rw [h]; exact r2 _ (List.getElem_mem _)
    · refine fin r M4 ?_ lv4 rl r2
      have tp4 := tp lv4
      simp [g__law_circle, e1, e2, rb, wipeD, e3, finM, ln3, h1', e4, ht, tp4]
  · have h1' : ¬ (1 : Int) < r.length := by omega
    refine fin r _ ?_ lv rl r2
    simp [g__law_circle, e1, e2, rb, wipeD, e3, finM, ln3, h1', tp3]
/-- the pot, new -/
theorem pot_eq {ns : List Int} (hl : ns.length ≤ 63) : ∃ c, m__law_pot [.rol (ns.map D.int)] [] = .ok (.ref 0) [wl c 0 0 (1 + (c.length : Int)) 0] ∧ c.length = ns.length := by
  refine ⟨ns.map fun i => if i < 0 then -i else i, ?_, by simp⟩
  have e1 : cutD (ns.map D.int) none (some 63) = ns.map D.int := by
    unfold cutD
    have h1 : HT.sIx (ns.map D.int).length 0 none = 0 := rfl
    have h2 : HT.sIx (ns.map D.int).length (ns.map D.int).length (some 63) = ns.length := by
      have q : (ns.map D.int).length = ns.length := List.length_map ..
      rw [q]
      unfold HT.sIx
      simp
      omega
    rw [h1, h2, List.drop_zero, Nat.sub_zero, List.take_of_length_le (by simp)]
  have gd : gdOf (.lst (ns.map D.int)) (ns.map D.int) = fun _ => True := rfl
  have hc := lcL_map (gd := fun _ => True) (gg := gtName 2) (ge := gCall oAbs (gACons (gCall oInt (gACons (gVar 2) (gANil))) (gANil))) (δ := [some (.rol (ns.map D.int)), none, none]) (M := []) (em := D.int) (f := fun i => D.int (if i < 0 then -i else i)) trivial ns [] (by simp; omega) (fun x _ => ⟨_, rfl, by simp⟩)
  rw [List.nil_append] at hc
  unfold m__law_pot
  have so : oSl (.rol (ns.map D.int)) none (some 63) [] = .ok (.lst (ns.map D.int)) [] := by
    unfold oSl
    simp only [s_tupOf_rol, s_listOf_rol, e1]
  simp [fnM, g__law_pot, startD, so, wipeD, gd, hc, finI, bigN, wl]
theorem pot_at {c : List Int} {s : Int} : Pot 0 c [wl c 0 0 s 0] := ⟨0, 0, s, 0, by decide, rfl⟩
theorem pot_wf {c : List Int} {s : Int} : WF [wl c 0 0 s 0] := by
  unfold WF
  simp [wl_lo]
/-- what is nested deep -/
theorem deep_loop {k : Nat} {c : List Int} {B : Nat} : ∀ (n : Nat) (lo : Int) (f : D) (M : List MO) (x2 : Option D), WF M → Pot k c M → okD B f = true →
    ∃ (f' : D) (M' : List MO) (y2 : Option D), forL (fun _ => True) (gtName 2) (gSet 1 (gCall m__law_any (gACons (gVar 0) (gACons (gLst (gACons (gLst (gACons (gVar 1) (gANil))) (gACons (gETup (gACons (gVar 1) (gANil))) (gACons (gDctO (gVar 1)) (gANil))))) (gANil)))))
      (rngD lo n) [some (.ref k), some f, x2] M = .nx [some (.ref k), some f', y2] M' ∧ okD B f' = true ∧ Nx k c M M'
  | 0, lo, f, M, x2, wf, w, hf => ⟨f, M, x2, by simp [rngD, forL], hf, Nx.refl wf w⟩
  | n + 1, lo, f, M, x2, wf, w, hf => by
    have hall : ∀ d ∈ [D.lst [f], .tup [f], .dct], okD B d = true := by
      intro d hd
      have : d = .lst [f] ∨ d = .tup [f] ∨ d = .dct := by simpa using hd
      rcases this with rfl | rfl | rfl
      · rw [okD_lst]; simp [hf]
      · rw [okD_tup]; simp [hf]
      · rfl
    obtain ⟨d, M1, e1, hd, n1⟩ := any_eq wf w (x := .lst [.lst [f], .tup [f], .dct]) (.inl rfl) (by simp) (by simp) (fun d hd => okD_lo (hall d hd))
    obtain ⟨f', M', y2, e, q1, q2⟩ := deep_loop n (lo + 1) d M1 (some (.int lo)) n1.wf n1.w (hall d hd)
    refine ⟨f', M', y2, ?_, q1, n1.trans q2⟩
    rw [rngD_succ]
    unfold forL
    simp [bigN, gDctO, e1]
    exact e
theorem deep_eq {k : Nat} {c : List Int} {B : Nat} {M : List MO} (wf : WF M) (w : Pot k c M) : ∃ f M', m__law_deep [.ref k] M = .ok f M' ∧ okD B f = true ∧ Nx k c M M' := by
  have hall : ∀ d ∈ [D.non, .tup [], .int 0, .bl true], okD B d = true := by
    intro d hd
    have : d = .non ∨ d = .tup [] ∨ d = .int 0 ∨ d = .bl true := by simpa using hd
    rcases this with rfl | rfl | rfl | rfl <;> simp [okD, okDs]
  obtain ⟨d, M1, e1, hd, n1⟩ := any_eq wf w (x := .lst [.non, .tup [], .int 0, .bl true]) (.inl rfl) (by simp) (by simp) (fun d hd => okD_lo (hall d hd))
  obtain ⟨t, M2, e2, a2, b2, n2⟩ := draw_eq n1.wf n1.w (many := 12) (by decide) (by decide)
  obtain ⟨f', M', y2, e, q1, q2⟩ := deep_loop (B := B) (8 + t).toNat 0 d M2 none n2.wf n2.w (hall d hd)
  have N := (n1.trans n2).trans q2
  refine ⟨f', M', ?_, q1, N⟩
  unfold m__law_deep cutM
  have rb : rngB (8 + t) := rngB_ok (by omega) (by omega)
  have q : fnM 3 g__law_deep [.ref k] M = .ok f' M' := by
    simp [fnM, g__law_deep, startD, bigN, e1, e2, rb, e]
  rw [q]
  exact cut_wf N.len N.wf (okD_lo q1)
theorem tyOk_l : tyOk "list" = true := by decide +kernel
/-- equal flags are told equal -/
theorem law_is_bl {M : List MO} (wf : WF M) (a b : Bool) : m__law_is [.bl a, .bl b] M = .ok (.bl (a == b)) M := by
  show f__law_is 4 [.bl a, .bl b] M = _
  unfold f__law_is cutM
  have q : fnM 3 (g__law_is (f__law_is 3)) [.bl a, .bl b] M = .ok (.bl (a == b)) M := by
    have e1 : oIsi2 "tuple" "list" (.bl b) M = .ok (.bl false) M := by simp [oIsi2, tyM, tyN, isiB, tyOk_tuple, tyOk_l]
    have e2 : ∀ c, oIsi "bool" (.bl c) M = .ok (.bl true) M := fun c => by simp [oIsi, tyM, tyN, isiB, tyOk_bool]
    have e3 : oEq (.bl true) (.bl true) M = .ok (.bl true) M := rfl
    have e4 : oEq (.bl a) (.bl b) M = .ok (.bl (a == b)) M := by cases a <;> cases b <;> rfl
    simp [fnM, g__law_is, startD, e1, e2, e3, e4]
  rw [q]
  exact cut_same wf rfl
end KG
set_option linter.all false
set_option maxRecDepth 100000
set_option maxHeartbeats 2000000
namespace K44
open PySem L2 KM KG
/-! ### tools for spoilt data -/
theorem okDs_app {B : Nat} {xs ys : List D} : okDs B (xs ++ ys) = (okDs B xs && okDs B ys) := by
  induction xs with
  | nil => simp [okDs]
  | cons x xs ih =>
    show (okD B x && okDs B (xs ++ ys)) = ((okD B x && okDs B xs) && okDs B ys)
    rw [ih, Bool.and_assoc]
theorem okD_t {B : Nat} {xs : List D} (h : xs.length ≤ 5000) (h2 : okDs B xs = true) : okD B (.tup xs) = true := by
  unfold okD
  rw [h2]
  simpa using h
theorem okD_l {B : Nat} {xs : List D} (h : xs.length ≤ 5000) (h2 : okDs B xs = true) : okD B (.lst xs) = true := by
  unfold okD
  rw [h2]
  simpa using h
theorem cutD_len (xs : List D) (lo hi : Option Int) : (cutD xs lo hi).length ≤ xs.length := by
  unfold cutD
  rw [List.length_take, List.length_drop]
  omega
theorem cutD_ok {B : Nat} {xs : List D} (lo hi : Option Int) (h : okDs B xs = true) : okDs B (cutD xs lo hi) = true := by
  rw [okDs_iff] at h ⊢
  intro x hx
  unfold cutD at hx
  exact h x (List.mem_of_mem_drop (List.mem_of_mem_take hx))
theorem sl_t (xs : List D) (lo hi : Option Int) (M : List MO) : oSl (.tup xs) lo hi M = .ok (.tup (cutD xs lo hi)) M := rfl
theorem add_t {xs ys : List D} (M : List MO) (h : xs.length + ys.length ≤ 100000) : oAdd (.tup xs) (.tup ys) M = .ok (.tup (xs ++ ys)) M := by
  unfold oAdd
  simp only [if_pos (show bigN (xs.length + ys.length) from h)]
theorem add_l {xs ys : List D} (M : List MO) (h : xs.length + ys.length ≤ 100000) : oAdd (.lst xs) (.lst ys) M = .ok (.lst (xs ++ ys)) M := by
  unfold oAdd
  simp only [listOfT, if_pos (show bigN (xs.length + ys.length) from h)]
theorem mul_l (x : D) (n : Nat) (h : n ≤ 100) (M : List MO) : oMul (.lst [x]) (.int (n : Int)) M = .ok (.lst (List.replicate n x)) M := by
  have e : (List.replicate n [x]).flatten = List.replicate n x := by
    induction n with
    | zero => rfl
    | succ n ih => rw [List.replicate_succ, List.flatten_cons, ih (by omega)]; rfl
  unfold oMul
  simp [listOfT, bigN, e]
  omega
theorem mul_t {xs : List D} (n : Nat) (h0 : xs ≠ []) (h : n ≤ 100) (hl : xs.length ≤ 1000) (M : List MO) : oMul (.tup xs) (.int (n : Int)) M = .ok (.tup (List.replicate n xs).flatten) M := by
  unfold oMul
  simp only [Int.toNat_natCast]
  rw [if_pos ⟨h0, by omega, by omega, hl⟩]
theorem rep_ok {B : Nat} {xs : List D} (h : okDs B xs = true) : ∀ n : Nat, okDs B (List.replicate n xs).flatten = true
  | 0 => rfl
  | n + 1 => by
    rw [List.replicate_succ, List.flatten_cons, okDs_app, h, rep_ok h n]
    rfl
theorem all_of {B : Nat} {xs : List D} (h : okDs B xs = true) : ∀ d ∈ xs, okD B d = true := okDs_iff.mp h
theorem los_of {B : Nat} {M : List MO} {xs : List D} (h : okDs B xs = true) : ∀ d ∈ xs, D.lo M.length d = true := fun d hd => okD_lo (all_of h d hd)
theorem ok_nil {B : Nat} : okDs B [] = true := rfl
theorem ok_cons {B : Nat} {x : D} {xs : List D} (h : okD B x = true) (h2 : okDs B xs = true) : okDs B (x :: xs) = true := by
  show (okD B x && okDs B xs) = true
  rw [h, h2]
  rfl
theorem ok_app {B : Nat} {xs ys : List D} (h : okDs B xs = true) (h2 : okDs B ys = true) : okDs B (xs ++ ys) = true := by rw [okDs_app, h, h2]; rfl
theorem ok_rep {B : Nat} {x : D} (h : okD B x = true) : ∀ n : Nat, okDs B (List.replicate n x) = true
  | 0 => rfl
  | n + 1 => ok_cons h (ok_rep h n)
theorem ok_t1 {B : Nat} {x : D} (h : okD B x = true) : okD B (.tup [x]) = true := okD_t (by simp) (ok_cons h ok_nil)
theorem ok_t2 {B : Nat} {x y : D} (h : okD B x = true) (h2 : okD B y = true) : okD B (.tup [x, y]) = true := okD_t (by simp) (ok_cons h (ok_cons h2 ok_nil))
theorem ok_t3 {B : Nat} {x y z : D} (h : okD B x = true) (h2 : okD B y = true) (h3 : okD B z = true) : okD B (.tup [x, y, z]) = true := okD_t (by simp) (ok_cons h (ok_cons h2 (ok_cons h3 ok_nil)))
theorem ok_t4 {B : Nat} {x y z u : D} (h : okD B x = true) (h2 : okD B y = true) (h3 : okD B z = true) (h4 : okD B u = true) : okD B (.tup [x, y, z, u]) = true := okD_t (by simp) (ok_cons h (ok_cons h2 (ok_cons h3 (ok_cons h4 ok_nil))))
theorem ok_l2 {B : Nat} {x y : D} (h : okD B x = true) (h2 : okD B y = true) : okD B (.lst [x, y]) = true := okD_l (by simp) (ok_cons h (ok_cons h2 ok_nil))
theorem ok_bl {B : Nat} (b : Bool) : okD B (.bl b) = true := rfl
theorem ok_non {B : Nat} : okD B .non = true := rfl
theorem ok_str {B : Nat} (s : Str) : okD B (.str s) = true := rfl
theorem ok_t0 {B : Nat} : okD B (.tup []) = true := rfl
open Classical in
theorem add_l' (xs ys : List D) (M : List MO) : oAdd (.lst xs) (.lst ys) M = if bigN (xs.length + ys.length) then R.ok (.lst (xs ++ ys)) M else R.bad := by
  unfold oAdd
  simp only [listOfT]
theorem oList_t (xs : List D) (M : List MO) : oList [.tup xs] M = .ok (.lst xs) M := rfl
theorem bent_eq {k : Nat} {c : List Int} {M : List MO} {s : Nat} {a : Adv} (wf : WF M) (w : Pot k c M) (h : AdvOk s a) : ∃ d M', m__law_bent [.ref k, advD a] M = .ok d M' ∧ okD 100 d = true ∧ Nx k c M M' := by
  have hs := h.s
  have s2 := h.s2
  have s4 := h.s4
  have l1 := h.l1
  have l6 := h.l6
  obtain ⟨t1, M1, e1, a1, b1, n1⟩ := draw_eq wf w (many := (a.2.length : Int)) (by omega) (by omega)
  obtain ⟨j, rfl⟩ : ∃ j : Nat, t1 = (j : Int) := ⟨t1.toNat, by omega⟩
  have hj : j < a.2.length := by omega
  have ej : a.2[j]? = some a.2[j] := List.getElem?_eq_getElem hj
  have qr := h.ru _ (List.getElem_mem hj)
  generalize a.2[j] = r at ej qr
  have ij : ∀ M, oIx (.tup (a.2.map arD)) (.int j) M = .ok (.tup [.int r.1, .tup (r.2.map fun (n : Nat) => D.int n)]) M := fun M => ixT_map (f := arD) ej M
  obtain ⟨t2, M2, e2, a2, b2, n2⟩ := draw_eq n1.wf n1.w (many := (a.1 : Int)) (by omega) (by omega)
  obtain ⟨i, rfl⟩ : ∃ i : Nat, t2 = (i : Int) := ⟨t2.toNat, by omega⟩
  obtain ⟨f3, M3, e3, o3, n3⟩ := deep_eq (B := 100) n2.wf n2.w
  have okn : okDs 100 (r.2.map fun (n : Nat) => D.int n) = true := by
    rw [okDs_iff]
    intro d hd
    obtain ⟨x, hx, rfl⟩ := List.mem_map.mp hd
    rw [okD_int]
    have := qr.2.2 x hx
    omega
  have oku : okDs 100 (a.2.map arD) = true := by
    rw [okDs_iff]
    intro d hd
    obtain ⟨x, hx, rfl⟩ := List.mem_map.mp hd
    exact arD_ok (h.ru x hx) s4 l6 (by omega)
  have lnn : (r.2.map fun (n : Nat) => D.int n).length = a.1 := by rw [List.length_map, hs]; exact qr.2.1
  have luu : (a.2.map arD).length = a.2.length := List.length_map ..
  have z1 : okD 100 (.int (a.2.length : Int)) = true := by rw [okD_int]; omega
  have z2 : okD 100 (.int (a.1 : Int)) = true := by rw [okD_int]; omega
  have z3 : okD 100 (.int (r.1 : Int)) = true := by rw [okD_int]; have := qr.1; omega
  have z4 : okD 100 (.int ((a.1 : Int) + 1)) = true := by rw [okD_int]; omega
  have zc : ∀ m : Int, m.natAbs ≤ 100 → okD 100 (.int m) = true := fun m hm => by rw [okD_int]; exact hm
  have zz : okD 100 (.int 0) = true := zc 0 (by decide)
  obtain ⟨odd, M4, e4, m4, n4⟩ := any_eq n3.wf n3.w (x := .lst [.int (a.2.length : Int), .int (a.1 : Int), .int (-1), .bl true, .bl false, .non, .str (PySem.Str.ofString "0"), .tup [.int 0], .int 0, f3]) (.inl rfl) (by simp) (by simp) (los_of (B := 100) (ok_cons z1 (ok_cons z2 (ok_cons (zc (-1) (by decide)) (ok_cons (ok_bl _) (ok_cons (ok_bl _) (ok_cons ok_non (ok_cons (ok_str _) (ok_cons (ok_t1 zz) (ok_cons zz (ok_cons o3 ok_nil)))))))))))
  have o4 : okD 100 odd = true := all_of (ok_cons z1 (ok_cons z2 (ok_cons (zc (-1) (by decide)) (ok_cons (ok_bl _) (ok_cons (ok_bl _) (ok_cons ok_non (ok_cons (ok_str _) (ok_cons (ok_t1 zz) (ok_cons zz (ok_cons o3 ok_nil)))))))))) _ m4
  generalize hns : (r.2.map fun (n : Nat) => D.int n) = ns at ij okn lnn
  generalize hru : a.2.map arD = ru at ij oku luu
  have hne : ru ≠ [] := by intro z; rw [z] at luu; simp at luu; omega
  have c1 := cutD_len ns none (some (i : Int))
  have c2 := cutD_len ns (some ((i : Int) + 1)) none
  have okx : okD 100 (.tup [.int r.1, .tup (cutD ns none (some (i : Int)) ++ [odd] ++ cutD ns (some ((i : Int) + 1)) none)]) = true :=
    ok_t2 z3 (okD_t (by simp; omega) (ok_app (ok_app (cutD_ok _ _ okn) (ok_cons o4 ok_nil)) (cutD_ok _ _ okn)))
  have x1 : ∀ M', oAdd (.tup (cutD ns none (some (i : Int)))) (.tup [odd]) M' = .ok (.tup (cutD ns none (some (i : Int)) ++ [odd])) M' := fun M' => add_t M' (by simp; omega)
  have x2 : ∀ M', oAdd (.tup (cutD ns none (some (i : Int)) ++ [odd])) (.tup (cutD ns (some ((i : Int) + 1)) none)) M' = .ok (.tup (cutD ns none (some (i : Int)) ++ [odd] ++ cutD ns (some ((i : Int) + 1)) none)) M' := fun M' => add_t M' (by simp; omega)
  generalize cutD ns none (some (i : Int)) ++ [odd] ++ cutD ns (some ((i : Int) + 1)) none = XX at okx x2
  have oknt : okD 100 (.tup ns) = true := okD_t (by omega) okn
  have oknl : okD 100 (.lst ns) = true := okD_l (by omega) okn
  have oku1 : okD 100 (.tup (cutD ns (some 1) none)) = true := okD_t (by have := cutD_len ns (some 1) none; omega) (cutD_ok _ _ okn)
  have L5 : okDs 100 (List.replicate 3 (.tup [.int r.1, .tup XX]) ++ List.replicate 3 (.tup [odd, .tup ns]) ++ [.tup [.int r.1, .lst ns], .tup [.int r.1, .tup (cutD ns (some 1) none)]]) = true :=
    ok_app (ok_app (ok_rep okx 3) (ok_rep (ok_t2 o4 oknt) 3)) (ok_cons (ok_t2 z3 oknl) (ok_cons (ok_t2 z3 oku1) ok_nil))
  obtain ⟨ru1, M5, e5, m5, n5⟩ := any_eq n4.wf n4.w (x := .lst (List.replicate 3 (.tup [.int r.1, .tup XX]) ++ List.replicate 3 (.tup [odd, .tup ns]) ++ [.tup [.int r.1, .lst ns], .tup [.int r.1, .tup (cutD ns (some 1) none)]])) (.inl rfl) (by simp) (by simp) (los_of L5)
  have o5 := all_of L5 _ m5
  obtain ⟨f6, M6, e6, o6, n6⟩ := deep_eq (B := 100) n5.wf n5.w
  have ok0 : okD 100 (.tup (ns ++ [.int 0])) = true := okD_t (by simp; omega) (ok_app okn (ok_cons zz ok_nil))
  have L7 : okDs 100 [ru1, ru1, ru1, .tup [.int r.1, .tup (ns ++ [.int 0])], .tup [.int r.1], .lst [.int r.1, .tup ns], .tup [.tup ns, .int r.1], .tup [.int r.1, .tup ns, .int 0], f6] = true :=
    ok_cons o5 (ok_cons o5 (ok_cons o5 (ok_cons (ok_t2 z3 ok0) (ok_cons (ok_t1 z3) (ok_cons (ok_l2 z3 oknt) (ok_cons (ok_t2 oknt z3) (ok_cons (ok_t3 z3 oknt zz) (ok_cons o6 ok_nil))))))))
  obtain ⟨ru2, M7, e7, m7, n7⟩ := any_eq n6.wf n6.w (x := .lst [ru1, ru1, ru1, .tup [.int r.1, .tup (ns ++ [.int 0])], .tup [.int r.1], .lst [.int r.1, .tup ns], .tup [.tup ns, .int r.1], .tup [.int r.1, .tup ns, .int 0], f6]) (.inl rfl) (by simp) (by simp) (los_of L7)
  have o7 := all_of L7 _ m7
  have c3 := cutD_len ru none (some (j : Int))
  have c4 := cutD_len ru (some ((j : Int) + 1)) none
  have oky : okD 100 (.tup [.int a.1, .tup (cutD ru none (some (j : Int)) ++ [ru2] ++ cutD ru (some ((j : Int) + 1)) none)]) = true :=
    ok_t2 z2 (okD_t (by simp; omega) (ok_app (ok_app (cutD_ok _ _ oku) (ok_cons o7 ok_nil)) (cutD_ok _ _ oku)))
  have y1 : ∀ M', oAdd (.tup (cutD ru none (some (j : Int)))) (.tup [ru2]) M' = .ok (.tup (cutD ru none (some (j : Int)) ++ [ru2])) M' := fun M' => add_t M' (by simp; omega)
  have y2 : ∀ M', oAdd (.tup (cutD ru none (some (j : Int)) ++ [ru2])) (.tup (cutD ru (some ((j : Int) + 1)) none)) M' = .ok (.tup (cutD ru none (some (j : Int)) ++ [ru2] ++ cutD ru (some ((j : Int) + 1)) none)) M' := fun M' => add_t M' (by simp; omega)
  generalize cutD ru none (some (j : Int)) ++ [ru2] ++ cutD ru (some ((j : Int) + 1)) none = YY at oky y2
  have okut : okD 100 (.tup ru) = true := okD_t (by omega) oku
  have okul : okD 100 (.lst ru) = true := okD_l (by omega) oku
  obtain ⟨f8, M8, e8, o8, n8⟩ := deep_eq (B := 100) n7.wf n7.w
  have ok7 : okD 100 (.tup (List.replicate 7 ru).flatten) = true := okD_t (by simp; omega) (rep_ok oku 7)
  have x7 : ∀ M', oMul (.tup ru) (.int 7) M' = .ok (.tup (List.replicate 7 ru).flatten) M' := fun M' => mul_t 7 hne (by omega) (by omega) M'
  generalize (List.replicate 7 ru).flatten = ru7 at ok7 x7
  have L9 : okDs 100 (List.replicate 9 (.tup [.int a.1, .tup YY]) ++ [.tup [.int ((a.1 : Int) + 1), .tup ru], .tup [.bl true, .tup ru], .tup [.int a.1, .tup []], .tup [.int a.1, .lst ru], .tup [.int 5, .tup ru]] ++ [.lst [.int a.1, .tup ru], .tup [.int a.1], .tup [.tup ru, .int a.1], .non, .tup [.int a.1, .tup ru7], .tup [.int a.1, .tup ru, .int a.1, .tup ru], f8]) = true :=
    ok_app (ok_app (ok_rep oky 9) (ok_cons (ok_t2 z4 okut) (ok_cons (ok_t2 (ok_bl _) okut) (ok_cons (ok_t2 z2 ok_t0) (ok_cons (ok_t2 z2 okul) (ok_cons (ok_t2 (zc 5 (by decide)) okut) ok_nil))))))
      (ok_cons (ok_l2 z2 okut) (ok_cons (ok_t1 z2) (ok_cons (ok_t2 okut z2) (ok_cons ok_non (ok_cons (ok_t2 z2 ok7) (ok_cons (ok_t4 z2 okut z2 okut) (ok_cons o8 ok_nil)))))))
  obtain ⟨d, M9, e9, m9, n9⟩ := any_eq n8.wf n8.w (x := .lst (List.replicate 9 (.tup [.int a.1, .tup YY]) ++ [.tup [.int ((a.1 : Int) + 1), .tup ru], .tup [.bl true, .tup ru], .tup [.int a.1, .tup []], .tup [.int a.1, .lst ru], .tup [.int 5, .tup ru]] ++ [.lst [.int a.1, .tup ru], .tup [.int a.1], .tup [.tup ru, .int a.1], .non, .tup [.int a.1, .tup ru7], .tup [.int a.1, .tup ru, .int a.1, .tup ru], f8])) (.inl rfl) (by simp) (by simp) (los_of L9)
  have o9 := all_of L9 _ m9
  have N := n1.trans (n2.trans (n3.trans (n4.trans (n5.trans (n6.trans (n7.trans (n8.trans n9)))))))
  refine ⟨d, M9, ?_, o9, N⟩
  unfold m__law_bent cutM
  have ea : advD a = .tup [.int a.1, .tup ru] := by unfold advD; rw [hru]
  have lr : ∀ M', oLen [.tup ru] M' = .ok (.int (a.2.length : Int)) M' := fun M' => by rw [s_oLen_tup, luu]
  have x3 : ∀ x M', oMul (.lst [x]) (.int 3) M' = .ok (.lst (List.replicate 3 x)) M' := fun x M' => mul_l x 3 (by omega) M'
  have x9 : ∀ x M', oMul (.lst [x]) (.int 9) M' = .ok (.lst (List.replicate 9 x)) M' := fun x M' => mul_l x 9 (by omega) M'
  have y0 : ∀ M', oAdd (.tup ns) (.tup [.int 0]) M' = .ok (.tup (ns ++ [.int 0])) M' := fun M' => add_t M' (by simp; omega)
  have y3 : ∀ M', oAdd (.tup [.int a.1, .tup ru]) (.tup [.int a.1, .tup ru]) M' = .ok (.tup [.int a.1, .tup ru, .int a.1, .tup ru]) M' := fun M' => add_t M' (by simp)
  have q : g__law_bent (startD 11 [.ref k, advD a]) M = .rt d M9 := by
    rw [ea, show startD 11 [.ref k, .tup [.int a.1, .tup ru]] = [some (D.ref k), some (.tup [.int a.1, .tup ru]), none, none, none, none, none, none, none, none, none] from rfl]
    unfold g__law_bent
    simp only [s_gVar, s_gC, s_gOp, s_gUn, s_gANil, s_gACons, s_gCall, s_gETup, s_gLst, s_gLstM, s_gTest, s_gTru, s_gAnd, s_gOr, s_gNot, s_gAndV, s_gOrV, s_gNotV, s_gIfE, s_gChain, s_gNoP, s_gP, s_gSl, s_gNext, s_gSeq, s_gSet, s_gDrop, s_gRet, s_gRetN, s_gIf, s_gBreak, s_gCont, s_gtName, s_gtNil, s_gtCons, s_gtTup, s_gtSub, s_gAsg, s_gPar, s_gFor, s_gLcG, s_giRng1, s_giRng2, s_giSeq, s_gBM, s_itT, s_itTg, s_tupOf, s_tupOf_int, s_tupOf_lst, s_tupOf_rol, s_tupOf_ref, s_listOf_lst, s_listOf_rol, s_trB, s_addI, s_subI, s_ltI, s_leI, s_gtI, s_geI, s_eqI, s_neI, s_negI, s_isi_tup, s_isi_int, s_isi_intb, s_oLen_tup, s_oLen_lst, s_oTuple_lst, s_oInt, s_oIntB, R.bind_ok, R.toS_ok, R.bind_ex, R.toS_ex, SR.then_nx, SR.then_rt, SR.then_ex, List.getElem?_cons_zero, List.getElem?_cons_succ, List.set_cons_zero, List.set_cons_succ, List.length_cons, List.length_nil, List.length_append, List.length_replicate, Nat.reduceAdd, Nat.reduceLeDiff, Nat.reduceLT, bigN, if_true, ite_true, reduceIte, Nat.zero_le, lr, e1, ij, e2, e3, e4, sl_t, x1, x2, x3, x9, add_l', oList_t, e5, y0, e6, e7, y1, y2, y3, x7, e8, e9]
  have q2 : fnM 11 g__law_bent [.ref k, advD a] M = .ok d M9 := by unfold fnM; rw [q]
  rw [q2]
  exact cut_wf N.len N.wf (okD_lo o9)
end K44
set_option linter.all false
set_option maxRecDepth 100000
set_option maxHeartbeats 2000000
namespace K44
open PySem L2 KM KG
/-! ### the law's own judges -/
section
variable {M : List MO}
theorem rule_turn {d : D} {s : Int} {rs : List D} {x x2 : Option D} {y : D} (wf : WF M) (hy : okD 100 y = true) (hs : 2 ≤ s ∧ s ≤ 4) (hr : rs.length ≤ 100) :
    gSeq (gIf (gOr (gNot (gTru (gUn (oIsi "tuple") (gVar 1)))) (gOr (gTest (gOp oNe (gCall oLen (gACons (gVar 1) (gANil))) (gC (.int 2)))) (gNot (gTru (gCall m__law_is_int (gACons (gOp oIx (gVar 1) (gC (.int 0))) (gACons (gC (.int 0)) (gACons (gOp oSub (gOp oIx (gVar 0) (gC (.int 0))) (gC (.int 1))) (gANil))))))))) (gRet (gC (.bl false))) (gNext))
    (gSeq (gIf (gOr (gNot (gTru (gUn (oIsi "tuple") (gOp oIx (gVar 1) (gC (.int 1)))))) (gTest (gOp oNe (gCall oLen (gACons (gOp oIx (gVar 1) (gC (.int 1))) (gANil))) (gOp oIx (gVar 0) (gC (.int 0)))))) (gRet (gC (.bl false))) (gNext))
    (gIf (gNot (gTru (gCall oAll (gACons (gLcG finI (giSeq (gOp oIx (gVar 1) (gC (.int 1)))) (gtName 2) (gYes) (gCall m__law_is_int (gACons (gVar 2) (gACons (gC (.int 0)) (gACons (gOp oSub (gCall oLen (gACons (gOp oIx (gVar 0) (gC (.int 1))) (gANil))) (gC (.int 1))) (gANil))))) [2]) (gANil))))) (gRet (gC (.bl false))) (gNext)))
      [some (.tup [.int s, .tup rs]), some y, x2] M = if isAvd s rs.length y = true then .nx [some (.tup [.int s, .tup rs]), some y, x2] M else .rt (.bl false) M := by
  have t := isi_tup (okD_not hy) M
  by_cases ht : isTup y = true
  · obtain ⟨xs, rfl⟩ := tup_of ht
    rw [okD_tup] at hy
    by_cases hl : xs.length = 2
    · obtain ⟨u, v, rfl⟩ := two_of hl
      have o1 := hy.2 u (by simp)
      have o2 := hy.2 v (by simp)
      have i1 := is_int_any (lo := 0) (hi := s - 1) wf o1
      rw [isBt_bel] at i1
      have t2 := isi_tup (okD_not o2) M
      by_cases c1 : isBel s u = true
      · by_cases hv : isTup v = true
        · obtain ⟨ns, rfl⟩ := tup_of hv
          rw [okD_tup] at o2
          by_cases hn : (ns.length : Int) = s
          · have hc := lcL_mapD (gg := gtName 2) (ge := gCall m__law_is_int (gACons (gVar 2) (gACons (gC (.int 0)) (gACons (gOp oSub (gCall oLen (gACons (gOp oIx (gVar 0) (gC (.int 1))) (gANil))) (gC (.int 1))) (gANil))))) (δ := [some (.tup [.int s, .tup rs]), some (.tup [u, .tup ns]), none]) (f := fun x => .bl (isBel rs.length x)) (M := M) ns (by omega)
              (fun x hx => ⟨_, rfl, by
                have := is_int_any (lo := 0) (hi := (rs.length : Int) - 1) wf (o2.2 x hx)
                rw [isBt_bel] at this
                simp [ix2_1, this]⟩)
            by_cases c2 : ns.all (isBel rs.length) = true
            · simp [t, t2, isTup, ix2_0, ix2_1, i1, c1, hn, wipeD, hc, finI, oAll_mapD, isAvd, c2]
            · have c2' : ns.all (isBel rs.length) = false := by simpa using c2
              simp [t, t2, isTup, ix2_0, ix2_1, i1, c1, hn, wipeD, hc, finI, oAll_mapD, isAvd, c2']
          · simp [t, t2, isTup, ix2_0, ix2_1, i1, c1, hn, isAvd]
        · have hv' : isTup v = false := by simpa using hv
          rw [hv'] at t2
          have f : isAvd s rs.length (.tup [u, v]) = false := by
            cases v <;> first | rfl | exact absurd rfl hv
          simp [t, t2, isTup, ix2_0, ix2_1, i1, c1, f]
      · have c1' : isBel s u = false := by simpa using c1
        simp [t, isTup, ix2_0, ix2_1, i1, isAvd_eq, c1']
    · have hl2 : ¬ (xs.length : Int) = 2 := by omega
      simp [t, isTup, hl2, isAvd_two hl]
  · have f : isAvd s rs.length y = false := by
      cases y <;> first | rfl | exact absurd rfl ht
    simp [t, ht, f]
theorem rules_judged {d : D} {s : Int} {rs : List D} (wf : WF M) (hs : 2 ≤ s ∧ s ≤ 4) (hr : rs.length ≤ 100) : ∀ (ys : List D) (x1 x2 : Option D), (∀ y ∈ ys, okD 100 y = true) →
    (ys.all (isAvd s rs.length) = true ∧ ∃ v1 v2, forL (fun _ => True) (gtName 1) (gSeq (gIf (gOr (gNot (gTru (gUn (oIsi "tuple") (gVar 1)))) (gOr (gTest (gOp oNe (gCall oLen (gACons (gVar 1) (gANil))) (gC (.int 2)))) (gNot (gTru (gCall m__law_is_int (gACons (gOp oIx (gVar 1) (gC (.int 0))) (gACons (gC (.int 0)) (gACons (gOp oSub (gOp oIx (gVar 0) (gC (.int 0))) (gC (.int 1))) (gANil))))))))) (gRet (gC (.bl false))) (gNext))
    (gSeq (gIf (gOr (gNot (gTru (gUn (oIsi "tuple") (gOp oIx (gVar 1) (gC (.int 1)))))) (gTest (gOp oNe (gCall oLen (gACons (gOp oIx (gVar 1) (gC (.int 1))) (gANil))) (gOp oIx (gVar 0) (gC (.int 0)))))) (gRet (gC (.bl false))) (gNext))
    (gIf (gNot (gTru (gCall oAll (gACons (gLcG finI (giSeq (gOp oIx (gVar 1) (gC (.int 1)))) (gtName 2) (gYes) (gCall m__law_is_int (gACons (gVar 2) (gACons (gC (.int 0)) (gACons (gOp oSub (gCall oLen (gACons (gOp oIx (gVar 0) (gC (.int 1))) (gANil))) (gC (.int 1))) (gANil))))) [2]) (gANil))))) (gRet (gC (.bl false))) (gNext))))
      ys [some (.tup [.int s, .tup rs]), x1, x2] M = .nx [some (.tup [.int s, .tup rs]), v1, v2] M) ∨
    (ys.all (isAvd s rs.length) = false ∧ forL (fun _ => True) (gtName 1) (gSeq (gIf (gOr (gNot (gTru (gUn (oIsi "tuple") (gVar 1)))) (gOr (gTest (gOp oNe (gCall oLen (gACons (gVar 1) (gANil))) (gC (.int 2)))) (gNot (gTru (gCall m__law_is_int (gACons (gOp oIx (gVar 1) (gC (.int 0))) (gACons (gC (.int 0)) (gACons (gOp oSub (gOp oIx (gVar 0) (gC (.int 0))) (gC (.int 1))) (gANil))))))))) (gRet (gC (.bl false))) (gNext))
    (gSeq (gIf (gOr (gNot (gTru (gUn (oIsi "tuple") (gOp oIx (gVar 1) (gC (.int 1)))))) (gTest (gOp oNe (gCall oLen (gACons (gOp oIx (gVar 1) (gC (.int 1))) (gANil))) (gOp oIx (gVar 0) (gC (.int 0)))))) (gRet (gC (.bl false))) (gNext))
    (gIf (gNot (gTru (gCall oAll (gACons (gLcG finI (giSeq (gOp oIx (gVar 1) (gC (.int 1)))) (gtName 2) (gYes) (gCall m__law_is_int (gACons (gVar 2) (gACons (gC (.int 0)) (gACons (gOp oSub (gCall oLen (gACons (gOp oIx (gVar 0) (gC (.int 1))) (gANil))) (gC (.int 1))) (gANil))))) [2]) (gANil))))) (gRet (gC (.bl false))) (gNext))))
      ys [some (.tup [.int s, .tup rs]), x1, x2] M = .rt (.bl false) M)
  | [], x1, x2, h => .inl ⟨rfl, x1, x2, by simp [forL]⟩
  | y :: ys, x1, x2, h => by
    have q := rule_turn (d := .non) (x := none) (x2 := x2) wf (h y (by simp)) hs hr (rs := rs)
    unfold forL
    rw [if_pos trivial]
    simp only [s_gtName, List.set_cons_succ, List.set_cons_zero]
    rw [q]
    by_cases c : isAvd s rs.length y = true
    · rw [if_pos c]
      rcases rules_judged (d := .non) wf hs hr ys (some y) x2 (fun z hz => h z (by simp [hz])) with ⟨a, v1, v2, e⟩ | ⟨a, e⟩
      · exact .inl ⟨by simp [c, a], v1, v2, e⟩
      · exact .inr ⟨by rw [List.all_cons, a, Bool.and_false], e⟩
    · rw [if_neg c]
      exact .inr ⟨by rw [List.all_cons]; simp [c], rfl⟩
theorem law_judged_any {d : D} (wf : WF M) (hd : okD 100 d = true) : m__law_judged [d] M = .ok (.bl (isAdv d)) M := by
  unfold m__law_judged cutM
  have t := isi_tup (okD_not hd) M
  have e : fnM 3 g__law_judged [d] M = .ok (.bl (isAdv d)) M := by
    by_cases ht : isTup d = true
    · obtain ⟨xs, rfl⟩ := tup_of ht
      rw [okD_tup] at hd
      by_cases hl : xs.length = 2
      · obtain ⟨x, y, rfl⟩ := two_of hl
        have o1 := hd.2 x (by simp)
        have o2 := hd.2 y (by simp)
        have i1 := is_int_any (lo := 2) (hi := 4) wf o1
        have t2 := isi_tup (okD_not o2) M
        by_cases c0 : isBt 2 4 x = true
        · obtain ⟨i, rfl, i2, i4⟩ : ∃ i, x = .int i ∧ 2 ≤ i ∧ i ≤ 4 := by
            cases x <;> first | (cases c0; done) | skip
            rename_i i
            simp [isBt] at c0
            exact ⟨i, rfl, c0.1, c0.2⟩
          by_cases hy : isTup y = true
          · obtain ⟨rs, rfl⟩ := tup_of hy
            rw [okD_tup] at o2
            by_cases c1 : 1 ≤ rs.length
            · have c1' : (1 : Int) ≤ rs.length := by omega
              by_cases c2 : rs.length ≤ 6
              · have c2' : (rs.length : Int) ≤ 6 := by omega
                rcases rules_judged (d := .non) wf ⟨i2, i4⟩ (show rs.length ≤ 100 by omega) rs none none o2.2 with ⟨a, v1, v2, e⟩ | ⟨a, e⟩
                · simp [fnM, g__law_judged, startD, t, t2, isTup, ix2_0, ix2_1, i1, c0, c1', c2', e, isAdv, i2, i4, c1, c2, a]
                · simp [fnM, g__law_judged, startD, t, t2, isTup, ix2_0, ix2_1, i1, c0, c1', c2', e, isAdv, i2, i4, c1, c2, a]
              · have c2' : ¬ (rs.length : Int) ≤ 6 := by omega
                simp [fnM, g__law_judged, startD, t, t2, isTup, ix2_0, ix2_1, i1, c0, c1', c2', isAdv, c2]
            · have c1' : ¬ (1 : Int) ≤ rs.length := by omega
              simp [fnM, g__law_judged, startD, t, t2, isTup, ix2_0, ix2_1, i1, c0, c1', isAdv, c1]
          · have f : isAdv (.tup [.int i, y]) = false := by
              cases y <;> first | rfl | exact absurd rfl hy
            have hy' : isTup y = false := by simpa using hy
            rw [hy'] at t2
            simp [fnM, g__law_judged, startD, t, t2, isTup, ix2_0, ix2_1, i1, c0, f]
        · have c0' : isBt 2 4 x = false := by simpa using c0
          have f : isAdv (.tup [x, y]) = false := by
            cases hb : isAdv (.tup [x, y]) with
            | false => rfl
            | true =>
              obtain ⟨s, rs, e, h1, h2, _⟩ := isAdv_form hb
              cases e
              simp [isBt, h1, h2] at c0'
          simp [fnM, g__law_judged, startD, t, isTup, ix2_0, ix2_1, i1, c0', f]
      · have hl2 : ¬ (xs.length : Int) = 2 := by omega
        simp [fnM, g__law_judged, startD, t, isTup, hl2, isAdv_two hl]
    · have f : isAdv d = false := by
        cases d <;> first | rfl | exact absurd rfl ht
      simp [fnM, g__law_judged, startD, t, ht, f]
  rw [e, cut_same wf rfl]
end
end K44
set_option linter.all false
set_option maxRecDepth 100000
set_option maxHeartbeats 2000000
namespace K44
open PySem L2 KM KG PyProof.Rows
theorem dd_le : ∀ (l acc : List Int), acc.length ≤ (l.foldl step_dedup acc).length
  | [], acc => Nat.le_refl _
  | x :: l, acc => by
    rw [List.foldl_cons]
    refine Nat.le_trans ?_ (dd_le l _)
    unfold step_dedup
    split
    · exact Nat.le_refl _
    · simp
theorem dd_lt : ∀ (l acc : List Int), (∃ x ∈ l, ¬ x ∈ acc) → acc.length < (l.foldl step_dedup acc).length
  | [], acc, h => by simp at h
  | x :: l, acc, h => by
    rw [List.foldl_cons]
    by_cases c : acc.any (· == x) = true
    · have e : step_dedup acc x = acc := by unfold step_dedup; rw [if_pos c]
      rw [e]
      obtain ⟨y, hy, hn⟩ := h
      rcases List.mem_cons.mp hy with rfl | hy
      · exact absurd (by simpa using c) hn
      · exact dd_lt l acc ⟨y, hy, hn⟩
    · have e : step_dedup acc x = acc ++ [x] := by unfold step_dedup; rw [if_neg c]
      rw [e]
      exact Nat.lt_of_lt_of_le (by simp) (dd_le l _)
theorem dd_same (a : Int) : ∀ l : List Int, (∀ x ∈ l, x = a) → l.foldl step_dedup [a] = [a]
  | [], _ => rfl
  | x :: l, h => by
    have e : x = a := h x (by simp)
    subst e
    rw [List.foldl_cons]
    have e2 : step_dedup [x] x = [x] := by unfold step_dedup; simp
    rw [e2]
    exact dd_same x l fun y hy => h y (by simp [hy])
theorem setL_eq (ns : List Int) : setL ns = ns.foldl step_dedup [] := by
  unfold setL firstMet
  have e : (List.range ns.length).map (fun i => ns.getD i 0) = ns := by
    apply List.ext_getElem
    · simp
    · intro i h1 h2
      simp
      rw [List.getElem?_eq_getElem h2]
      rfl
  rw [e]
theorem setL_one (ns : List Int) : ((setL ns).length = 1) ↔ (ns ≠ [] ∧ ∀ x ∈ ns, x = ns.headD 0) := by
  rw [setL_eq]
  cases ns with
  | nil => simp
  | cons a l =>
    have e0 : step_dedup [] a = [a] := by unfold step_dedup; simp
    rw [List.foldl_cons, e0]
    constructor
    · intro h
      refine ⟨by simp, fun x hx => ?_⟩
      show x = a
      rcases List.mem_cons.mp hx with rfl | hx
      · rfl
      · by_cases c : x = a
        · exact c
        · have := dd_lt l [a] ⟨x, hx, by simpa using c⟩
          simp at this
          omega
    · intro h
      rw [dd_same a l fun x hx => h.2 x (by simp [hx])]
      rfl
theorem intsD_map {α : Type} (f : α → Int) : ∀ xs : List α, intsD (xs.map fun x => D.int (f x)) = some (xs.map f)
  | [] => rfl
  | x :: xs => by
    rw [List.map_cons]
    unfold intsD
    rw [intsD_map f xs]
    rfl
section
variable {M : List MO}
theorem circle_judged_any {d : D} (wf : WF M) (hd : okD 100 d = true) : m__law_circle_judged [d] M = .ok (.bl (isCir d)) M := by
  unfold m__law_circle_judged cutM
  have t := isi_tup (okD_not hd) M
  have e : fnM 2 g__law_circle_judged [d] M = .ok (.bl (isCir d)) M := by
    by_cases ht : isTup d = true
    · obtain ⟨xs, rfl⟩ := tup_of ht
      rw [okD_tup] at hd
      by_cases c1 : 1 ≤ xs.length
      · have c1' : (1 : Int) ≤ xs.length := by omega
        by_cases c2 : xs.length ≤ 4
        · have c2' : (xs.length : Int) ≤ 4 := by omega
          have hc := lcL_mapD (gg := gtName 1) (ge := gCall m__law_judged (gACons (gVar 1) gANil)) (δ := [some (.tup xs), none]) (f := fun x => .bl (isAdv x)) (M := M) xs (by omega)
            (fun x hx => ⟨_, rfl, by simp [law_judged_any wf (hd.2 x hx)]⟩)
          by_cases c3 : xs.all isAdv = true
          · have hc2 := lcL_mapD (gg := gtName 1) (ge := gOp oIx (gVar 1) (gC (.int 0))) (δ := [some (.tup xs), none]) (f := fun x => .int (szD x)) (M := M) xs (by omega)
              (fun x hx => ⟨_, rfl, by
                obtain ⟨s, rs, rfl, _⟩ := isAdv_form (List.all_eq_true.mp c3 x hx)
                simp [ix2_0, szD]⟩)
            have hl : ∀ M', gLenSet (gC (.lst (xs.map fun x => D.int (szD x)))) [] M' = .ok (.int ((setL (xs.map szD)).length : Nat)) M' := fun M' => by
              unfold gLenSet
              simp only [s_gC, R.bind_ok, s_listOf_lst, intsD_map]
              rw [if_pos (by simp; omega)]
            have hl2 : gLenSet (gLcG finI (giSeq (gVar 0)) (gtName 1) gYes (gOp oIx (gVar 1) (gC (.int 0))) [1]) [some (.tup xs), none] M = .ok (.int ((setL (xs.map szD)).length : Nat)) M := by
              unfold gLenSet
              have : gLcG finI (giSeq (gVar 0)) (gtName 1) gYes (gOp oIx (gVar 1) (gC (.int 0))) [1] [some (.tup xs), none] M = .ok (.lst (xs.map fun x => D.int (szD x))) M := by
                simp [wipeD, hc2, finI]
              rw [this]
              simp only [R.bind_ok, s_listOf_lst, intsD_map]
              rw [if_pos (by simp; omega)]
            have hb : (((setL (xs.map szD)).length : Int) == 1) = xs.all (fun x => szD x == szD (xs.headD .non)) := by
              cases xs with
              | nil => simp at c1
              | cons a l =>
                have h1 := setL_one ((a :: l).map szD)
                rw [Bool.eq_iff_iff, List.all_eq_true]
                constructor
                · intro h x hx
                  have q : (setL ((a :: l).map szD)).length = 1 := by
                    have := beq_iff_eq.mp h
                    omega
                  have := (h1.mp q).2 (szD x) (List.mem_map.mpr ⟨x, hx, rfl⟩)
                  simpa using this
                · intro h
                  have q := h1.mpr ⟨by simp, fun y hy => by
                    obtain ⟨x, hx, rfl⟩ := List.mem_map.mp hy
                    have := h x hx
                    simpa using this⟩
                  rw [q]
                  rfl
            simp [fnM, g__law_circle_judged, startD, t, isTup, c1', c2', wipeD, hc, finI, oAll_mapD, c3, hl2]
            rw [hb]
            simp [isCir, c1, c2, c3]
          · have c3' : xs.all isAdv = false := by simpa using c3
            simp [fnM, g__law_circle_judged, startD, t, isTup, c1', c2', wipeD, hc, finI, oAll_mapD, isCir, c1, c2, c3']
        · have c2' : ¬ (xs.length : Int) ≤ 4 := by omega
          simp [fnM, g__law_circle_judged, startD, t, isTup, c1', c2', isCir, c1, c2]
      · have c1' : ¬ (1 : Int) ≤ xs.length := by omega
        simp [fnM, g__law_circle_judged, startD, t, isTup, c1', isCir, c1]
    · have f : isCir d = false := by
        cases d <;> first | rfl | exact absurd rfl ht
      simp [fnM, g__law_circle_judged, startD, t, ht, f]
  rw [e, cut_same wf rfl]
end
/-! ### a spoilt circle -/
theorem bent_circle_eq {k : Nat} {c : List Int} {M : List MO} {s : Nat} {r : List Adv} (wf : WF M) (w : Pot k c M) (h : CirOk s r) : ∃ d M', m__law_bent_circle [.ref k, cirD r] M = .ok d M' ∧ okD 100 d = true ∧ Nx k c M M' := by
  have l1 := h.l1
  have l4 := h.l4
  obtain ⟨t1, M1, e1, a1, b1, n1⟩ := draw_eq wf w (many := (r.length : Int)) (by omega) (by omega)
  obtain ⟨j, rfl⟩ : ∃ j : Nat, t1 = (j : Int) := ⟨t1.toNat, by omega⟩
  have hj : j < r.length := by omega
  have ej : r[j]? = some r[j] := List.getElem?_eq_getElem hj
  have oj := h.ad _ (List.getElem_mem hj)
  generalize r[j] = a at ej oj
  have ij : ∀ M, oIx (.tup (r.map advD)) (.int j) M = .ok (advD a) M := fun M => ixT_map (f := advD) ej M
  have i0 : ∃ b, okD 100 b = true ∧ ∀ M, oIx (.tup (r.map advD)) (.int 0) M = .ok b M := by
    have h0 : (0 : Nat) < r.length := by omega
    exact ⟨advD r[0], (h.ad _ (List.getElem_mem h0)).ok (by omega), fun M => ixT_map (f := advD) (n := 0) (List.getElem?_eq_getElem h0) M⟩
  obtain ⟨b0, ob0, i0⟩ := i0
  obtain ⟨d2, M2, e2, o2, n2⟩ := bent_eq n1.wf n1.w oj
  obtain ⟨d3, M3, e3, o3, n3⟩ := bent_eq n2.wf n2.w oj
  obtain ⟨t4, M4, e4, a4, b4, n4⟩ := draw_eq n3.wf n3.w (many := 3) (by decide) (by decide)
  obtain ⟨z, rfl⟩ : ∃ z : Nat, t4 = (z : Int) := ⟨t4.toNat, by omega⟩
  obtain ⟨a5, M5, e5, o5, n5⟩ := adviser_eq n4.wf n4.w (size := 2 + z) (most := 6) (by omega) (by omega) (by omega) (by omega)
  have e5' : m__law_adviser [.ref k, .int (2 + (z : Int)), .int 6] M4 = .ok (advD a5) M5 := e5
  have o5' := o5.ok (B := 100) (by omega)
  have L6 : okDs 100 [d2, d3, advD a5, .non] = true := ok_cons o2 (ok_cons o3 (ok_cons o5' (ok_cons ok_non ok_nil)))
  obtain ⟨one, M6, e6, m6, n6⟩ := any_eq n5.wf n5.w (x := .lst [d2, d3, advD a5, .non]) (.inl rfl) (by simp) (by simp) (los_of L6)
  have o6 := all_of L6 _ m6
  have okr : okDs 100 (r.map advD) = true := by
    rw [okDs_iff]
    intro d hd
    obtain ⟨x, hx, rfl⟩ := List.mem_map.mp hd
    exact (h.ad x hx).ok (by omega)
  have luu : (r.map advD).length = r.length := List.length_map ..
  have ec : cirD r = .tup (r.map advD) := rfl
  generalize r.map advD = ru at ec ij i0 okr luu
  have hne : ru ≠ [] := by intro z; rw [z] at luu; simp at luu; omega
  have c3 := cutD_len ru none (some (j : Int))
  have c4 := cutD_len ru (some ((j : Int) + 1)) none
  have oky : okD 100 (.tup (cutD ru none (some (j : Int)) ++ [one] ++ cutD ru (some ((j : Int) + 1)) none)) = true :=
    okD_t (by simp; omega) (ok_app (ok_app (cutD_ok _ _ okr) (ok_cons o6 ok_nil)) (cutD_ok _ _ okr))
  have y1 : ∀ M', oAdd (.tup (cutD ru none (some (j : Int)))) (.tup [one]) M' = .ok (.tup (cutD ru none (some (j : Int)) ++ [one])) M' := fun M' => add_t M' (by simp; omega)
  have y2 : ∀ M', oAdd (.tup (cutD ru none (some (j : Int)) ++ [one])) (.tup (cutD ru (some ((j : Int) + 1)) none)) M' = .ok (.tup (cutD ru none (some (j : Int)) ++ [one] ++ cutD ru (some ((j : Int) + 1)) none)) M' := fun M' => add_t M' (by simp; omega)
  generalize cutD ru none (some (j : Int)) ++ [one] ++ cutD ru (some ((j : Int) + 1)) none = YY at oky y2
  have ok2 : okD 100 (.tup (ru ++ ru)) = true := okD_t (by simp; omega) (ok_app okr okr)
  have y3 : ∀ M', oAdd (.tup ru) (.tup ru) M' = .ok (.tup (ru ++ ru)) M' := fun M' => add_t M' (by omega)
  generalize ru ++ ru = r2 at ok2 y3
  have ok5 : okD 100 (.tup (List.replicate 5 ru).flatten) = true := okD_t (by simp; omega) (rep_ok okr 5)
  have x5 : ∀ M', oMul (.tup ru) (.int 5) M' = .ok (.tup (List.replicate 5 ru).flatten) M' := fun M' => mul_t 5 hne (by omega) (by omega) M'
  generalize (List.replicate 5 ru).flatten = r5 at ok5 x5
  obtain ⟨f8, M8, e8, o8, n8⟩ := deep_eq (B := 100) n6.wf n6.w
  have okrl : okD 100 (.lst ru) = true := okD_l (by omega) okr
  have L9 : okDs 100 (List.replicate 6 (.tup YY) ++ [.lst ru, .tup [], .tup r2, .tup r5, .non, .dct, b0, f8]) = true :=
    ok_app (ok_rep oky 6) (ok_cons okrl (ok_cons ok_t0 (ok_cons ok2 (ok_cons ok5 (ok_cons ok_non (ok_cons (rfl : okD 100 .dct = true) (ok_cons ob0 (ok_cons o8 ok_nil))))))))
  obtain ⟨d, M9, e9, m9, n9⟩ := any_eq n8.wf n8.w (x := .lst (List.replicate 6 (.tup YY) ++ [.lst ru, .tup [], .tup r2, .tup r5, .non, .dct, b0, f8])) (.inl rfl) (by simp) (by simp) (los_of L9)
  have o9 := all_of L9 _ m9
  have N := n1.trans (n2.trans (n3.trans (n4.trans (n5.trans (n6.trans (n8.trans n9))))))
  refine ⟨d, M9, ?_, o9, N⟩
  unfold m__law_bent_circle cutM
  have lr : ∀ M', oLen [.tup ru] M' = .ok (.int (r.length : Int)) M' := fun M' => by rw [s_oLen_tup, luu]
  have x6 : ∀ x M', oMul (.lst [x]) (.int 6) M' = .ok (.lst (List.replicate 6 x)) M' := fun x M' => mul_l x 6 (by omega) M'
  have q : g__law_bent_circle (startD 5 [.ref k, cirD r]) M = .rt d M9 := by
    rw [ec, show startD 5 [.ref k, .tup ru] = [some (D.ref k), some (.tup ru), none, none, none] from rfl]
    unfold g__law_bent_circle
    simp only [s_gVar, s_gC, s_gOp, s_gUn, s_gANil, s_gACons, s_gCall, s_gETup, s_gLst, s_gLstM, s_gTest, s_gTru, s_gAnd, s_gOr, s_gNot, s_gAndV, s_gOrV, s_gNotV, s_gIfE, s_gChain, s_gNoP, s_gP, s_gSl, s_gNext, s_gSeq, s_gSet, s_gDrop, s_gRet, s_gRetN, s_gIf, s_gBreak, s_gCont, s_gtName, s_gtNil, s_gtCons, s_gtTup, s_gtSub, s_gAsg, s_gPar, s_gFor, s_gLcG, s_giRng1, s_giRng2, s_giSeq, s_gBM, s_itT, s_itTg, s_tupOf, s_tupOf_int, s_tupOf_lst, s_tupOf_rol, s_tupOf_ref, s_listOf_lst, s_listOf_rol, s_trB, s_addI, s_subI, s_ltI, s_leI, s_gtI, s_geI, s_eqI, s_neI, s_negI, s_isi_tup, s_isi_int, s_isi_intb, s_oLen_tup, s_oLen_lst, s_oTuple_lst, s_oInt, s_oIntB, R.bind_ok, R.toS_ok, R.bind_ex, R.toS_ex, SR.then_nx, SR.then_rt, SR.then_ex, List.getElem?_cons_zero, List.getElem?_cons_succ, List.set_cons_zero, List.set_cons_succ, List.length_cons, List.length_nil, List.length_append, List.length_replicate, Nat.reduceAdd, Nat.reduceLeDiff, Nat.reduceLT, bigN, if_true, ite_true, reduceIte, Nat.zero_le, lr, e1, ij, e2, e3, e4, e5', e6, sl_t, y1, y2, x6, oList_t, y3, x5, i0, e8, add_l', e9]
  have q2 : fnM 5 g__law_bent_circle [.ref k, cirD r] M = .ok d M9 := by unfold fnM; rw [q]
  rw [q2]
  exact cut_wf N.len N.wf (okD_lo o9)
end K44
set_option linter.all false
set_option maxRecDepth 100000
set_option maxHeartbeats 2000000
namespace K44
open PySem L2 KM KG
theorem is_int_self {M : List MO} (wf : WF M) (j : Nat) (i : Int) : f__law_is (j + 1) [.int i, .int i] M = .ok (.bl true) M := by
  unfold f__law_is cutM
  have q : fnM 3 (g__law_is (f__law_is j)) [.int i, .int i] M = .ok (.bl true) M := by
    have e1 : oIsi2 "tuple" "list" (.int i) M = .ok (.bl false) M := by simp [oIsi2, tyM, tyN, isiB, tyOk_tuple, tyOk_l]
    have e3 : oEq (.bl false) (.bl false) M = .ok (.bl true) M := rfl
    simp [fnM, g__law_is, startD, e1, e3]
  rw [q]
  exact cut_same wf rfl
theorem is_ns_self {M : List MO} (wf : WF M) {ns : List Nat} (hl : ns.length ≤ 1000) : m__law_is [nsD ns, nsD ns] M = .ok (.bl true) M := by
  show f__law_is 4 [nsD ns, nsD ns] M = _
  unfold f__law_is cutM
  have q : fnM 3 (g__law_is (f__law_is 3)) [nsD ns, nsD ns] M = .ok (.bl true) M := by
    have e1 : ∀ xs, oIsi2 "tuple" "list" (.tup xs) M = .ok (.bl true) M := fun xs => by simp [oIsi2, tyM, tyN, isiB, tyOk_tuple, tyOk_l]
    have e2 : ∀ xs, oIsi "list" (.tup xs) M = .ok (.bl false) M := fun xs => by simp [oIsi, tyM, tyN, isiB, tyOk_l]
    have e3 : ∀ b, oNe (.bl b) (.bl b) M = .ok (.bl false) M := fun b => by cases b <;> rfl
    have hc := lcL_map (gd := fun _ => True) (gg := gtName 2) (ge := gCall (f__law_is 3) (gACons (gOp oIx (gVar 0) (gVar 2)) (gACons (gOp oIx (gVar 1) (gVar 2)) (gANil)))) (δ := [some (nsD ns), some (nsD ns), none]) (M := M) (em := fun i : Nat => D.int (0 + (i : Nat))) (f := fun _ => D.bl true) trivial (List.range ns.length) [] (by simp; omega) (fun i hi => ⟨_, rfl, by
      have hi' : i < ns.length := by simpa using hi
      have ix : oIx (nsD ns) (.int (i : Int)) M = .ok (.int (ns[i] : Nat)) M := ixT_map (f := fun (n : Nat) => D.int n) (List.getElem?_eq_getElem hi') M
      simp [ix, is_int_self wf 2]⟩)
    have e4 : rngD 0 ns.length = (List.range ns.length).map fun i : Nat => D.int (0 + (i : Nat)) := rfl
    rw [List.nil_append] at hc
    have rb : rngB (ns.length : Int) := rngB_ok (by omega) (by omega)
    have al : oAll [.lst ((List.range ns.length).map fun _ => D.bl true)] M = .ok (.bl true) M := by
      rw [oAll_map (fun _ : Nat => true)]
      simp
    unfold nsD at hc ⊢
    simp only [fnM, g__law_is, startD, List.map_cons, List.map_nil, List.replicate, Nat.reduceSub, List.cons_append, List.nil_append, s_gVar, s_gC, s_gOp, s_gUn, s_gANil, s_gACons, s_gCall, s_gETup, s_gLst, s_gLstM, s_gTest, s_gTru, s_gAnd, s_gOr, s_gNot, s_gAndV, s_gOrV, s_gNotV, s_gIfE, s_gChain, s_gNoP, s_gP, s_gSl, s_gNext, s_gSeq, s_gSet, s_gDrop, s_gRet, s_gRetN, s_gIf, s_gBreak, s_gCont, s_gtName, s_gtNil, s_gtCons, s_gtTup, s_gtSub, s_gAsg, s_gPar, s_gFor, s_gLcG, s_giRng1, s_giRng2, s_giSeq, s_gBM, s_itT, s_itTg, s_tupOf, s_tupOf_int, s_tupOf_lst, s_tupOf_rol, s_tupOf_ref, s_listOf_lst, s_listOf_rol, s_trB, s_addI, s_subI, s_ltI, s_leI, s_gtI, s_geI, s_eqI, s_neI, s_negI, s_isi_tup, s_isi_int, s_isi_intb, s_oLen_tup, s_oLen_lst, s_oTuple_lst, s_oInt, s_oIntB, R.bind_ok, R.toS_ok, R.bind_ex, R.toS_ex, SR.then_nx, SR.then_rt, SR.then_ex, List.getElem?_cons_zero, List.getElem?_cons_succ, List.set_cons_zero, List.set_cons_succ, List.length_cons, List.length_nil, List.length_append, List.length_replicate, Nat.reduceAdd, Nat.reduceLeDiff, Nat.reduceLT, bigN, if_true, ite_true, reduceIte, Nat.zero_le, e1, e2, e3, rb, wipeD, e4, hc, finI, al, List.length_map, Int.toNat_natCast, beq_self_eq_true, s_gLcG, Bool.not_false, Bool.not_true, Bool.false_eq_true, if_false]
  rw [q]
  exact cut_same wf rfl

theorem adv_things {M : List MO} (wf : WF M) (c0 c1 c2 c3 c4 c6 c7 c8 c9 : Option D) : ∀ (xs : List D) (x5 : Option D), (∀ x ∈ xs, okD 100 x = true) → ∃ y5, forL (fun _ => True) (gtName 5) (gIf (gNot (gTru (gCall m__law_is (gACons (gCall m_is_adviser (gACons (gVar 5) (gANil))) (gACons (gCall m__law_judged (gACons (gVar 5) (gANil))) (gANil)))))) (gRet (gC (.bl false))) (gNext))
      xs [c0, c1, c2, c3, c4, x5, c6, c7, c8, c9] M = .nx [c0, c1, c2, c3, c4, y5, c6, c7, c8, c9] M
  | [], x5, h => ⟨x5, by simp [forL]⟩
  | x :: xs, x5, h => by
    obtain ⟨y5, e⟩ := adv_things wf c0 c1 c2 c3 c4 c6 c7 c8 c9 xs (some x) (fun z hz => h z (by simp [hz]))
    refine ⟨y5, ?_⟩
    have q1 := is_adviser_any wf (h x (by simp))
    have q2 := law_judged_any wf (h x (by simp))
    have q3 := law_is_bl wf (isAdv x) (isAdv x)
    unfold forL
    simp [q1, q2, q3]
    exact e
theorem cir_things {M : List MO} (wf : WF M) (c0 c1 c2 c3 c4 c6 c7 c8 c9 : Option D) : ∀ (xs : List D) (x5 : Option D), (∀ x ∈ xs, okD 100 x = true) → ∃ y5, forL (fun _ => True) (gtName 5) (gIf (gNot (gTru (gCall m__law_is (gACons (gCall m_is_circle (gACons (gVar 5) (gANil))) (gACons (gCall m__law_circle_judged (gACons (gVar 5) (gANil))) (gANil)))))) (gRet (gC (.bl false))) (gNext))
      xs [c0, c1, c2, c3, c4, x5, c6, c7, c8, c9] M = .nx [c0, c1, c2, c3, c4, y5, c6, c7, c8, c9] M
  | [], x5, h => ⟨x5, by simp [forL]⟩
  | x :: xs, x5, h => by
    obtain ⟨y5, e⟩ := cir_things wf c0 c1 c2 c3 c4 c6 c7 c8 c9 xs (some x) (fun z hz => h z (by simp [hz]))
    refine ⟨y5, ?_⟩
    have q1 := is_circle_any wf (h x (by simp))
    have q2 := circle_judged_any wf (h x (by simp))
    have q3 := law_is_bl wf (isCir x) (isCir x)
    unfold forL
    simp [q1, q2, q3]
    exact e
theorem row_draws {k : Nat} {c : List Int} {M : List MO} {δ : KM.Ctx} {ge : GE} {m many : Nat} (wf : WF M) (w : Pot k c M) (hm : 1 ≤ m) (hm2 : m ≤ 1000) (hn : many ≤ 900) (hv : ∀ (i : Int) (M : List MO), WF M → Pot k c M → ge (δ.set 8 (some (.int i))) M = m__law_draw [.ref k, .int (m : Int)] M) :
    ∃ (r : List Nat) (M' : List MO), lcL (fun _ => True) (gtName 8) gYes ge δ (rngD 0 many) [] M = .ok (r.map fun (n : Nat) => D.int n) M' ∧ Nx k c M M' ∧ r.length = many ∧ ∀ s ∈ r, s < m := by
  obtain ⟨r, M', e, n, h1, h2⟩ := draws_comp (sl := 0) (x := .non) hm hm2 hv many 0 [] M wf w (by simp; omega) (by simp)
  exact ⟨r, M', e, n, by simpa using h1, h2⟩
end K44
set_option linter.all false
set_option maxRecDepth 100000
set_option maxHeartbeats 4000000
namespace K44
open PySem L2 KM KG
noncomputable def gBody : GS := (gSeq (gSet 3 (gCall KG.m__law_circle (gACons (gVar 1) (gACons (gLst (gACons (gC (.int 2)) (gACons (gC (.int 3)) (gACons (gC (.int 4)) (gANil))))) (gACons (gLst (gACons (gC (.int 1)) (gACons (gC (.int 2)) (gACons (gC (.int 3)) (gACons (gC (.int 4)) (gANil)))))) (gACons (gC (.int 6)) (gANil)))))))
    (gSeq (gSet 4 (gCall m__law_bent (gACons (gVar 1) (gACons (gCall KG.m__law_any (gACons (gVar 1) (gACons (gVar 3) (gANil)))) (gANil)))))
    (gSeq (gFor (giSeq (gOp oAdd (gVar 3) (gETup (gACons (gVar 4) (gANil))))) (gtName 5) (gIf (gNot (gTru (gCall KG.m__law_is (gACons (gCall KG.m_is_adviser (gACons (gVar 5) (gANil))) (gACons (gCall m__law_judged (gACons (gVar 5) (gANil))) (gANil)))))) (gRet (gC (.bl false))) (gNext)))
    (gSeq (gFor (giSeq (gETup (gACons (gVar 3) (gACons (gCall m__law_bent_circle (gACons (gVar 1) (gACons (gVar 3) (gANil)))) (gACons (gCall m__law_bent_circle (gACons (gVar 1) (gACons (gVar 3) (gANil)))) (gANil)))))) (gtName 5) (gIf (gNot (gTru (gCall KG.m__law_is (gACons (gCall KG.m_is_circle (gACons (gVar 5) (gANil))) (gACons (gCall m__law_circle_judged (gACons (gVar 5) (gANil))) (gANil)))))) (gRet (gC (.bl false))) (gNext)))
    (gSeq (gSet 6 (gCall KG.m__law_any (gACons (gVar 1) (gACons (gLst (gACons (gC (.int 0)) (gACons (gC (.int 1)) (gACons (gC (.int 5)) (gACons (gC (.int 30)) (gACons (gIfE (gTest (gOp oEq (gCall KG.m__law_draw (gACons (gVar 1) (gACons (gC (.int 4)) (gANil)))) (gC (.int 0)))) (gC (.int 400)) (gC (.int 9))) (gANil))))))) (gANil)))))
    (gSeq (gSet 7 (gCall oTuple (gACons (gLcG finI (giRng1 (gACons (gVar 6) (gANil))) (gtName 8) (gYes) (gCall KG.m__law_draw (gACons (gVar 1) (gACons (gOp oIx (gOp oIx (gVar 3) (gC (.int 0))) (gC (.int 0))) (gANil)))) [8]) (gANil))))
    (gIf (gNot (gTru (gCall KG.m__law_is (gACons (gCall KG.m_adviser_misses (gACons (gVar 3) (gACons (gVar 7) (gANil)))) (gACons (gCall oTuple (gACons (gLcG finI (giSeq (gVar 3)) (gtName 9) (gYes) (gCall KG.m__law_missed (gACons (gVar 9) (gACons (gVar 7) (gANil)))) [9]) (gANil))) (gANil)))))) (gRet (gC (.bl false))) (gNext))))))))
theorem turn_eq {c : List Int} {M : List MO} (wf : WF M) (w : Pot 0 c M) (x0 x2 x3 x4 x5 x6 x7 x8 x9 : Option D) :
    ∃ y2 y3 y4 y5 y6 y7 y8 y9 M', gBody [x0, some (.ref 0), x2, x3, x4, x5, x6, x7, x8, x9] M = .nx [x0, some (.ref 0), y2, y3, y4, y5, y6, y7, y8, y9] M' ∧ Nx 0 c M M' := by
  obtain ⟨s, r, M1, e1, hs, hr, ok, n1⟩ := circle_eq wf w (sizes := [2, 3, 4]) (many := [1, 2, 3, 4]) (most := 6) (by simp) (by simp) (by simp) (by simp) (by simp) (by simp) (by simp) (by simp)
  have e1' : m__law_circle [.ref 0, .lst [.int 2, .int 3, .int 4], .lst [.int 1, .int 2, .int 3, .int 4], .int 6] M = .ok (cirD r) M1 := e1
  have l1 := ok.l1
  have l4 := ok.l4
  have s2 := ok.s2
  have s4 := ok.s4
  obtain ⟨d, M2, e2, m2, n2⟩ := any_eq n1.wf n1.w (x := cirD r) (xs := r.map advD) (.inr rfl) (by simpa using l1) (by simp; omega) (fun d hd => by
    obtain ⟨x, _, rfl⟩ := List.mem_map.mp hd
    exact advD_lo _ x)
  obtain ⟨a, ha, rfl⟩ := List.mem_map.mp m2
  obtain ⟨b, M3, e3, o3, n3⟩ := bent_eq n2.wf n2.w (ok.ad a ha)
  have okr : ∀ x ∈ r.map advD ++ [b], okD 100 x = true := by
    intro x hx
    rcases List.mem_append.mp hx with hx | hx
    · obtain ⟨y, hy, rfl⟩ := List.mem_map.mp hx
      exact (ok.ad y hy).ok (by omega)
    · have : x = b := by simpa using hx
      rw [this]; exact o3
  obtain ⟨y5, f5⟩ := adv_things n3.wf x0 (some (.ref 0)) x2 (some (cirD r)) (some b) x6 x7 x8 x9 (r.map advD ++ [b]) x5 okr
  obtain ⟨b1, M4, e4, o4, n4⟩ := bent_circle_eq n3.wf n3.w ok
  obtain ⟨b2, M5, e5, o5, n5⟩ := bent_circle_eq n4.wf n4.w ok
  obtain ⟨z5, g5⟩ := cir_things n5.wf x0 (some (.ref 0)) x2 (some (cirD r)) (some b) x6 x7 x8 x9 [cirD r, b1, b2] y5 (by
    intro x hx
    have : x = cirD r ∨ x = b1 ∨ x = b2 := by simpa using hx
    rcases this with rfl | rfl | rfl
    · exact ok.ok (by omega)
    · exact o4
    · exact o5)
  obtain ⟨t6, M6, e6, a6, b6, n6⟩ := draw_eq n5.wf n5.w (many := 4) (by decide) (by decide)
  obtain ⟨q, hq, q4⟩ : ∃ q : Nat, (if t6 = 0 then R.ok (D.int 400) M6 else R.ok (D.int 9) M6) = R.ok (D.int q) M6 ∧ q ≤ 400 := by
    by_cases h0 : t6 = 0
    · exact ⟨400, by rw [if_pos h0]; rfl, by omega⟩
    · exact ⟨9, by rw [if_neg h0]; rfl, by omega⟩
  have hq2 : (if (t6 == 0) = true then R.ok (D.int 400) M6 else R.ok (D.int 9) M6) = R.ok (D.int q) M6 := by
    rw [← hq]
    by_cases h0 : t6 = 0 <;> simp [h0]
  have lo7 : ∀ d ∈ [D.int 0, .int 1, .int 5, .int 30, .int q], D.lo M6.length d = true := by
    intro d hd
    have : d = .int 0 ∨ d = .int 1 ∨ d = .int 5 ∨ d = .int 30 ∨ d = .int q := by simpa using hd
    rcases this with rfl | rfl | rfl | rfl | rfl <;> rfl
  obtain ⟨d7, M7, e7, m7, n7⟩ := any_eq n6.wf n6.w (x := .lst [.int 0, .int 1, .int 5, .int 30, .int q]) (.inl rfl) (by simp) (by simp) lo7
  obtain ⟨many, rfl, hmany⟩ : ∃ many : Nat, d7 = .int many ∧ many ≤ 400 := by
    have : d7 = .int 0 ∨ d7 = .int 1 ∨ d7 = .int 5 ∨ d7 = .int 30 ∨ d7 = .int q := by simpa using m7
    rcases this with rfl | rfl | rfl | rfl | rfl
    · exact ⟨0, rfl, by omega⟩
    · exact ⟨1, rfl, by omega⟩
    · exact ⟨5, rfl, by omega⟩
    · exact ⟨30, rfl, by omega⟩
    · exact ⟨q, rfl, q4⟩
  obtain ⟨a0, i0, sz⟩ : ∃ a0, (∀ M', oIx (cirD r) (.int 0) M' = .ok (advD a0) M') ∧ a0.1 = s := by
    cases r with
    | nil => simp at l1
    | cons a c => exact ⟨a, fun M' => s_ixT M' (n := 0) rfl, (ok.ad a (by simp)).s⟩
  have i1 : ∀ M', oIx (advD a0) (.int 0) M' = .ok (.int s) M' := fun M' => by
    unfold advD
    rw [ix2_0, sz]
  obtain ⟨row, M8, e8, n8, hrl, hrow⟩ := row_draws (k := 0) (c := c) (m := s) (many := many) (δ := [x0, some (.ref 0), x2, some (cirD r), some b, z5, some (.int many), x7, none, x9]) (ge := gCall KG.m__law_draw (gACons (gVar 1) (gACons (gOp oIx (gOp oIx (gVar 3) (gC (.int 0))) (gC (.int 0))) (gANil)))) n7.wf n7.w (by omega) (by omega) (by omega) (fun i M _ _ => by simp [i0, i1])
  have e9 := adviser_misses_eq n8.wf ok (row := row) (by omega) hrow
  have e10 := lcL_map (gd := fun _ => True) (gg := gtName 9) (ge := gCall KG.m__law_missed (gACons (gVar 9) (gACons (gVar 7) (gANil)))) (δ := [x0, some (.ref 0), x2, some (cirD r), some b, z5, some (.int many), some (nsD row), x8, none]) (M := M8) (em := advD) (f := fun a => D.int ((advRun a row).2 : Nat)) trivial r [] (by simp; omega) (fun a ha => ⟨_, rfl, by simp [law_missed_eq n8.wf (ok.ad a ha) hrow]⟩)
  rw [List.nil_append] at e10
  have e11 := is_ns_self n8.wf (ns := r.map fun a => (advRun a row).2) (by simp; omega)
  have e12 : D.tup (r.map fun a => D.int ((advRun a row).2 : Nat)) = nsD (r.map fun a => (advRun a row).2) := by
    unfold nsD
    rw [List.map_map]
    rfl
  have rb : rngB (many : Int) := rngB_ok (by omega) (by omega)
  have N := n1.trans (n2.trans (n3.trans (n4.trans (n5.trans (n6.trans (n7.trans n8))))))
  refine ⟨x2, some (cirD r), some b, z5, some (.int many), some (nsD row), x8, x9, M8, ?_, N⟩
  have y1 : ∀ M', oAdd (cirD r) (.tup [b]) M' = .ok (.tup (r.map advD ++ [b])) M' := fun M' => add_t M' (by simp; omega)
  have ts : tupOf (cirD r) = some (r.map advD) := rfl
  have er : D.tup (row.map fun (n : Nat) => D.int n) = nsD row := rfl
  unfold gBody
  simp only [s_gVar, s_gC, s_gOp, s_gUn, s_gANil, s_gACons, s_gCall, s_gETup, s_gLst, s_gLstM, s_gTest, s_gTru, s_gAnd, s_gOr, s_gNot, s_gAndV, s_gOrV, s_gNotV, s_gIfE, s_gChain, s_gNoP, s_gP, s_gSl, s_gNext, s_gSeq, s_gSet, s_gDrop, s_gRet, s_gRetN, s_gIf, s_gBreak, s_gCont, s_gtName, s_gtNil, s_gtCons, s_gtTup, s_gtSub, s_gAsg, s_gPar, s_gFor, s_gLcG, s_giRng1, s_giRng2, s_giSeq, s_gBM, s_itT, s_itTg, s_tupOf, s_tupOf_int, s_tupOf_lst, s_tupOf_rol, s_tupOf_ref, s_listOf_lst, s_listOf_rol, s_trB, s_addI, s_subI, s_ltI, s_leI, s_gtI, s_geI, s_eqI, s_neI, s_negI, s_isi_tup, s_isi_int, s_isi_intb, s_oLen_tup, s_oLen_lst, s_oTuple_lst, s_oInt, s_oIntB, R.bind_ok, R.toS_ok, R.bind_ex, R.toS_ex, SR.then_nx, SR.then_rt, SR.then_ex, List.getElem?_cons_zero, List.getElem?_cons_succ, List.set_cons_zero, List.set_cons_succ, List.length_cons, List.length_nil, List.length_append, List.length_replicate, Nat.reduceAdd, Nat.reduceLeDiff, Nat.reduceLT, bigN, if_true, ite_true, reduceIte, Nat.zero_le, e1', e2, e3, y1, f5, e4, e5, g5, e6, hq2, e7, rb, wipeD, Int.toNat_natCast, e8, finI, er, e9, ts, e10, e12, e11, Bool.not_true, Bool.false_eq_true, if_false, i0, i1]
theorem law_loop {c : List Int} (x0 : Option D) : ∀ (n : Nat) (lo : Int) (M : List MO) (x2 x3 x4 x5 x6 x7 x8 x9 : Option D), WF M → Pot 0 c M →
    ∃ δ' M', forL (fun _ => True) (gtName 2) gBody (rngD lo n) [x0, some (.ref 0), x2, x3, x4, x5, x6, x7, x8, x9] M = .nx δ' M'
  | 0, lo, M, x2, x3, x4, x5, x6, x7, x8, x9, wf, w => ⟨_, M, by simp [rngD, forL]; rfl⟩
  | n + 1, lo, M, x2, x3, x4, x5, x6, x7, x8, x9, wf, w => by
    obtain ⟨y2, y3, y4, y5, y6, y7, y8, y9, M1, e, n1⟩ := turn_eq wf w x0 (some (.int lo)) x3 x4 x5 x6 x7 x8 x9
    obtain ⟨δ', M', e2⟩ := law_loop x0 n (lo + 1) M1 y2 y3 y4 y5 y6 y7 y8 y9 n1.wf n1.w
    refine ⟨δ', M', ?_⟩
    rw [rngD_succ]
    unfold forL
    rw [if_pos trivial]
    simp only [s_gtName, List.set_cons_succ, List.set_cons_zero]
    rw [e]
    exact e2
theorem law_true : LawTrue m_law := by
  intro ns hl _
  obtain ⟨c, e0, hc⟩ := pot_eq hl
  obtain ⟨δ', M', e⟩ := law_loop (c := c) (some (.rol (ns.map D.int))) 6 0 [wl c 0 0 (1 + (c.length : Int)) 0] none none none none none none none none pot_wf pot_at
  refine ⟨M', ?_⟩
  have rb : rngB 6 := rngB_ok (by decide) (by decide)
  have q : g_law (startD 10 [.rol (ns.map D.int)]) [] = .rt (.bl true) M' := by
    show ((gSet 1 (gCall KG.m__law_pot (gACons (gVar 0) (gANil))) _ _).then (gSeq (gFor (giRng1 (gACons (gC (.int 6)) (gANil))) (gtName 2) gBody) (gRet (gC (.bl true))))) = _
    rw [show startD 10 [.rol (ns.map D.int)] = [some (D.rol (ns.map D.int)), none, none, none, none, none, none, none, none, none] from rfl]
    simp only [s_gVar, s_gC, s_gOp, s_gUn, s_gANil, s_gACons, s_gCall, s_gETup, s_gLst, s_gLstM, s_gTest, s_gTru, s_gAnd, s_gOr, s_gNot, s_gAndV, s_gOrV, s_gNotV, s_gIfE, s_gChain, s_gNoP, s_gP, s_gSl, s_gNext, s_gSeq, s_gSet, s_gDrop, s_gRet, s_gRetN, s_gIf, s_gBreak, s_gCont, s_gtName, s_gtNil, s_gtCons, s_gtTup, s_gtSub, s_gAsg, s_gPar, s_gFor, s_gLcG, s_giRng1, s_giRng2, s_giSeq, s_gBM, s_itT, s_itTg, s_tupOf, s_tupOf_int, s_tupOf_lst, s_tupOf_rol, s_tupOf_ref, s_listOf_lst, s_listOf_rol, s_trB, s_addI, s_subI, s_ltI, s_leI, s_gtI, s_geI, s_eqI, s_neI, s_negI, s_isi_tup, s_isi_int, s_isi_intb, s_oLen_tup, s_oLen_lst, s_oTuple_lst, s_oInt, s_oIntB, R.bind_ok, R.toS_ok, R.bind_ex, R.toS_ex, SR.then_nx, SR.then_rt, SR.then_ex, List.getElem?_cons_zero, List.getElem?_cons_succ, List.set_cons_zero, List.set_cons_succ, List.length_cons, List.length_nil, List.length_append, List.length_replicate, Nat.reduceAdd, Nat.reduceLeDiff, Nat.reduceLT, bigN, if_true, ite_true, reduceIte, Nat.zero_le, e0, rb, show (6 : Int).toNat = 6 from rfl, e]
  unfold m_law fnM
  rw [q]
end K44

set_option Elab.async false
set_option linter.all false
set_option maxRecDepth 100000
namespace K44
open PySem PySem.Spec PyProof.Rows L2 KM
set_option maxHeartbeats 4000000 in
theorem all_ok {P : Program} {w : World} {K : PySem.W.Frag} {mg : Str → Option Value} {fa : Addr} (hfa : mg "law" = some (.ref fa)) (T : Txt K mg) (d__law_pot : DefAt K mg "_law_pot" s__law_pot) (d__law_draw : DefAt K mg "_law_draw" s__law_draw) (d__law_any : DefAt K mg "_law_any" s__law_any) (d__law_adviser : DefAt K mg "_law_adviser" s__law_adviser) (d__law_circle : DefAt K mg "_law_circle" s__law_circle) (d__law_deep : DefAt K mg "_law_deep" s__law_deep) (d__law_bent : DefAt K mg "_law_bent" s__law_bent) (d__law_bent_circle : DefAt K mg "_law_bent_circle" s__law_bent_circle) (d__law_is : DefAt K mg "_law_is" s__law_is) (d_nothing_heard : DefAt K mg "nothing_heard" s_nothing_heard) (d_is_whole : DefAt K mg "is_whole" s_is_whole) (d_is_size : DefAt K mg "is_size" s_is_size) (d_is_below : DefAt K mg "is_below" s_is_below) (d_are_below : DefAt K mg "are_below" s_are_below) (d_is_advice : DefAt K mg "is_advice" s_is_advice) (d_is_ruled : DefAt K mg "is_ruled" s_is_ruled) (d_is_adviser : DefAt K mg "is_adviser" s_is_adviser) (d_is_circle : DefAt K mg "is_circle" s_is_circle) (d_is_row : DefAt K mg "is_row" s_is_row) (d_heard : DefAt K mg "heard" s_heard) (d_adviser_misses : DefAt K mg "adviser_misses" s_adviser_misses) (d__law_is_int : DefAt K mg "_law_is_int" s__law_is_int) (d__law_judged : DefAt K mg "_law_judged" s__law_judged) (d__law_circle_judged : DefAt K mg "_law_circle_judged" s__law_circle_judged) (d__law_missed : DefAt K mg "_law_missed" s__law_missed) (d_law : DefAt K mg "law" s_law) :
    ∃ fd : FuncData, (∀ (s : Shared) (v : Value), BindsTo s fd ⟨[v], []⟩ [("_law_script", v)]) ∧ ∀ base : Heap, FnOk P w K mg base (L2.CX P w) 9 fa fd ["_law_script"] (spLaw K) := by
  obtain ⟨a__law_pot, e__law_pot, F__law_pot, M__law_pot, K__law_pot, N__law_pot⟩ := d__law_pot
  obtain ⟨a__law_draw, e__law_draw, F__law_draw, M__law_draw, K__law_draw, N__law_draw⟩ := d__law_draw
  obtain ⟨a__law_any, e__law_any, F__law_any, M__law_any, K__law_any, N__law_any⟩ := d__law_any
  obtain ⟨a__law_adviser, e__law_adviser, F__law_adviser, M__law_adviser, K__law_adviser, N__law_adviser⟩ := d__law_adviser
  obtain ⟨a__law_circle, e__law_circle, F__law_circle, M__law_circle, K__law_circle, N__law_circle⟩ := d__law_circle
  obtain ⟨a__law_deep, e__law_deep, F__law_deep, M__law_deep, K__law_deep, N__law_deep⟩ := d__law_deep
  obtain ⟨a__law_bent, e__law_bent, F__law_bent, M__law_bent, K__law_bent, N__law_bent⟩ := d__law_bent
  obtain ⟨a__law_bent_circle, e__law_bent_circle, F__law_bent_circle, M__law_bent_circle, K__law_bent_circle, N__law_bent_circle⟩ := d__law_bent_circle
  obtain ⟨a__law_is, e__law_is, F__law_is, M__law_is, K__law_is, N__law_is⟩ := d__law_is
  obtain ⟨a_nothing_heard, e_nothing_heard, F_nothing_heard, M_nothing_heard, K_nothing_heard, N_nothing_heard⟩ := d_nothing_heard
  obtain ⟨a_is_whole, e_is_whole, F_is_whole, M_is_whole, K_is_whole, N_is_whole⟩ := d_is_whole
  obtain ⟨a_is_size, e_is_size, F_is_size, M_is_size, K_is_size, N_is_size⟩ := d_is_size
  obtain ⟨a_is_below, e_is_below, F_is_below, M_is_below, K_is_below, N_is_below⟩ := d_is_below
  obtain ⟨a_are_below, e_are_below, F_are_below, M_are_below, K_are_below, N_are_below⟩ := d_are_below
  obtain ⟨a_is_advice, e_is_advice, F_is_advice, M_is_advice, K_is_advice, N_is_advice⟩ := d_is_advice
  obtain ⟨a_is_ruled, e_is_ruled, F_is_ruled, M_is_ruled, K_is_ruled, N_is_ruled⟩ := d_is_ruled
  obtain ⟨a_is_adviser, e_is_adviser, F_is_adviser, M_is_adviser, K_is_adviser, N_is_adviser⟩ := d_is_adviser
  obtain ⟨a_is_circle, e_is_circle, F_is_circle, M_is_circle, K_is_circle, N_is_circle⟩ := d_is_circle
  obtain ⟨a_is_row, e_is_row, F_is_row, M_is_row, K_is_row, N_is_row⟩ := d_is_row
  obtain ⟨a_heard, e_heard, F_heard, M_heard, K_heard, N_heard⟩ := d_heard
  obtain ⟨a_adviser_misses, e_adviser_misses, F_adviser_misses, M_adviser_misses, K_adviser_misses, N_adviser_misses⟩ := d_adviser_misses
  obtain ⟨a__law_is_int, e__law_is_int, F__law_is_int, M__law_is_int, K__law_is_int, N__law_is_int⟩ := d__law_is_int
  obtain ⟨a__law_judged, e__law_judged, F__law_judged, M__law_judged, K__law_judged, N__law_judged⟩ := d__law_judged
  obtain ⟨a__law_circle_judged, e__law_circle_judged, F__law_circle_judged, M__law_circle_judged, K__law_circle_judged, N__law_circle_judged⟩ := d__law_circle_judged
  obtain ⟨a__law_missed, e__law_missed, F__law_missed, M__law_missed, K__law_missed, N__law_missed⟩ := d__law_missed
  obtain ⟨a_law, e_law, F_law, M_law, K_law, N_law⟩ := d_law
  have e := hfa.symm.trans M_law
  cases e
  obtain ⟨oc, od, kV, doc, pm, an, cdv, ct, osl, rfl, lk, hcd⟩ := F_law.ex
  refine ⟨PySem.W.fnOf "law" "law" (defArgs s_law) (defBody s_law) (defScope s_law) .none kV doc pm an cdv ct, fun s v => .of_eq rfl, fun base => ?_⟩
  have C__law_pot : Callee P w K mg base "_law_pot" 1 1 KG.m__law_pot := FnOk.toC (ok__law_pot F__law_pot T ) M__law_pot K__law_pot (F__law_pot.binds (ps := ["_law_script"]) fun _ _ _ _ _ _ us hl => match us, hl with | [_], _ => rfl) N__law_pot
  have C__law_draw : Callee P w K mg base "_law_draw" 1 2 KG.m__law_draw := FnOk.toC (ok__law_draw F__law_draw T ) M__law_draw K__law_draw (F__law_draw.binds (ps := ["_law_pot_here", "_law_many"]) fun _ _ _ _ _ _ us hl => match us, hl with | [_, _], _ => rfl) N__law_draw
  have C__law_any : Callee P w K mg base "_law_any" 2 2 KG.m__law_any := FnOk.toC (ok__law_any F__law_any T C__law_draw) M__law_any K__law_any (F__law_any.binds (ps := ["_law_pot_here", "_law_things"]) fun _ _ _ _ _ _ us hl => match us, hl with | [_, _], _ => rfl) N__law_any
  have C__law_adviser : Callee P w K mg base "_law_adviser" 2 3 KG.m__law_adviser := FnOk.toC (ok__law_adviser F__law_adviser T C__law_draw) M__law_adviser K__law_adviser (F__law_adviser.binds (ps := ["_law_pot_here", "_law_size", "_law_most"]) fun _ _ _ _ _ _ us hl => match us, hl with | [_, _, _], _ => rfl) N__law_adviser
  have C__law_circle : Callee P w K mg base "_law_circle" 3 4 KG.m__law_circle := FnOk.toC (ok__law_circle F__law_circle T C__law_any C__law_adviser C__law_draw) M__law_circle K__law_circle (F__law_circle.binds (ps := ["_law_pot_here", "_law_sizes", "_law_many", "_law_most"]) fun _ _ _ _ _ _ us hl => match us, hl with | [_, _, _, _], _ => rfl) N__law_circle
  have C__law_deep : Callee P w K mg base "_law_deep" 3 1 KG.m__law_deep := FnOk.toC (ok__law_deep F__law_deep T C__law_any C__law_draw) M__law_deep K__law_deep (F__law_deep.binds (ps := ["_law_pot_here"]) fun _ _ _ _ _ _ us hl => match us, hl with | [_], _ => rfl) N__law_deep
  have C__law_bent : Callee P w K mg base "_law_bent" 4 2 m__law_bent := FnOk.toC (ok__law_bent F__law_bent T C__law_draw C__law_any C__law_deep) M__law_bent K__law_bent (F__law_bent.binds (ps := ["_law_pot_here", "_law_adviser_here"]) fun _ _ _ _ _ _ us hl => match us, hl with | [_, _], _ => rfl) N__law_bent
  have C__law_bent_circle : Callee P w K mg base "_law_bent_circle" 5 2 m__law_bent_circle := FnOk.toC (ok__law_bent_circle F__law_bent_circle T C__law_draw C__law_any C__law_bent C__law_adviser C__law_deep) M__law_bent_circle K__law_bent_circle (F__law_bent_circle.binds (ps := ["_law_pot_here", "_law_circle_here"]) fun _ _ _ _ _ _ us hl => match us, hl with | [_, _], _ => rfl) N__law_bent_circle
  have C__law_is : Callee P w K mg base "_law_is" 5 2 KG.m__law_is := FnOk.toC (ok__law_is F__law_is T  M__law_is K__law_is (F__law_is.binds (ps := ["_law_told", "_law_due"]) fun _ _ _ _ _ _ us hl => match us, hl with | [_, _], _ => rfl) N__law_is 4) M__law_is K__law_is (F__law_is.binds (ps := ["_law_told", "_law_due"]) fun _ _ _ _ _ _ us hl => match us, hl with | [_, _], _ => rfl) N__law_is
  have C_nothing_heard : Callee P w K mg base "nothing_heard" 1 1 KG.m_nothing_heard := FnOk.toC (ok_nothing_heard F_nothing_heard T ) M_nothing_heard K_nothing_heard (F_nothing_heard.binds (ps := ["circle"]) fun _ _ _ _ _ _ us hl => match us, hl with | [_], _ => rfl) N_nothing_heard
  have C_is_whole : Callee P w K mg base "is_whole" 1 1 KG.m_is_whole := FnOk.toC (ok_is_whole F_is_whole T ) M_is_whole K_is_whole (F_is_whole.binds (ps := ["thing"]) fun _ _ _ _ _ _ us hl => match us, hl with | [_], _ => rfl) N_is_whole
  have C_is_size : Callee P w K mg base "is_size" 2 1 KG.m_is_size := FnOk.toC (ok_is_size F_is_size T C_is_whole) M_is_size K_is_size (F_is_size.binds (ps := ["thing"]) fun _ _ _ _ _ _ us hl => match us, hl with | [_], _ => rfl) N_is_size
  have C_is_below : Callee P w K mg base "is_below" 2 2 KG.m_is_below := FnOk.toC (ok_is_below F_is_below T C_is_whole) M_is_below K_is_below (F_is_below.binds (ps := ["thing", "end"]) fun _ _ _ _ _ _ us hl => match us, hl with | [_, _], _ => rfl) N_is_below
  have C_are_below : Callee P w K mg base "are_below" 3 3 KG.m_are_below := FnOk.toC (ok_are_below F_are_below T C_is_below) M_are_below K_are_below (F_are_below.binds (ps := ["thing", "many", "end"]) fun _ _ _ _ _ _ us hl => match us, hl with | [_, _, _], _ => rfl) N_are_below
  have C_is_advice : Callee P w K mg base "is_advice" 4 3 KG.m_is_advice := FnOk.toC (ok_is_advice F_is_advice T C_is_below C_are_below) M_is_advice K_is_advice (F_is_advice.binds (ps := ["thing", "size", "states"]) fun _ _ _ _ _ _ us hl => match us, hl with | [_, _, _], _ => rfl) N_is_advice
  have C_is_ruled : Callee P w K mg base "is_ruled" 5 3 KG.m_is_ruled := FnOk.toC (ok_is_ruled F_is_ruled T C_is_size C_is_advice) M_is_ruled K_is_ruled (F_is_ruled.binds (ps := ["thing", "most", "judge"]) fun _ _ _ _ _ _ us hl => match us, hl with | [_, _, _], _ => rfl) N_is_ruled
  have C_is_adviser : Callee P w K mg base "is_adviser" 6 1 KG.m_is_adviser := FnOk.toC (ok_is_adviser F_is_adviser T C_is_ruled C_is_advice) M_is_adviser K_is_adviser (F_is_adviser.binds (ps := ["thing"]) fun _ _ _ _ _ _ us hl => match us, hl with | [_], _ => rfl) N_is_adviser
  have C_is_circle : Callee P w K mg base "is_circle" 7 1 KG.m_is_circle := FnOk.toC (ok_is_circle F_is_circle T C_is_adviser) M_is_circle K_is_circle (F_is_circle.binds (ps := ["thing"]) fun _ _ _ _ _ _ us hl => match us, hl with | [_], _ => rfl) N_is_circle
  have C_is_row : Callee P w K mg base "is_row" 3 2 KG.m_is_row := FnOk.toC (ok_is_row F_is_row T C_is_size C_is_below) M_is_row K_is_row (F_is_row.binds (ps := ["size", "thing"]) fun _ _ _ _ _ _ us hl => match us, hl with | [_, _], _ => rfl) N_is_row
  have C_heard : Callee P w K mg base "heard" 1 4 KG.m_heard := FnOk.toC (ok_heard F_heard T ) M_heard K_heard (F_heard.binds (ps := ["circle", "states", "missed", "letter"]) fun _ _ _ _ _ _ us hl => match us, hl with | [_, _, _, _], _ => rfl) N_heard
  have C_adviser_misses : Callee P w K mg base "adviser_misses" 8 2 KG.m_adviser_misses := FnOk.toC (ok_adviser_misses F_adviser_misses T C_nothing_heard C_is_circle C_is_row C_heard) M_adviser_misses K_adviser_misses (F_adviser_misses.binds (ps := ["circle", "row"]) fun _ _ _ _ _ _ us hl => match us, hl with | [_, _], _ => rfl) N_adviser_misses
  have C__law_is_int : Callee P w K mg base "_law_is_int" 1 3 KG.m__law_is_int := FnOk.toC (ok__law_is_int F__law_is_int T ) M__law_is_int K__law_is_int (F__law_is_int.binds (ps := ["_law_thing", "_law_least", "_law_most"]) fun _ _ _ _ _ _ us hl => match us, hl with | [_, _, _], _ => rfl) N__law_is_int
  have C__law_judged : Callee P w K mg base "_law_judged" 2 1 m__law_judged := FnOk.toC (ok__law_judged F__law_judged T C__law_is_int) M__law_judged K__law_judged (F__law_judged.binds (ps := ["_law_thing"]) fun _ _ _ _ _ _ us hl => match us, hl with | [_], _ => rfl) N__law_judged
  have C__law_circle_judged : Callee P w K mg base "_law_circle_judged" 3 1 m__law_circle_judged := FnOk.toC (ok__law_circle_judged F__law_circle_judged T C__law_judged) M__law_circle_judged K__law_circle_judged (F__law_circle_judged.binds (ps := ["_law_thing"]) fun _ _ _ _ _ _ us hl => match us, hl with | [_], _ => rfl) N__law_circle_judged
  have C__law_missed : Callee P w K mg base "_law_missed" 1 2 KG.m__law_missed := FnOk.toC (ok__law_missed F__law_missed T ) M__law_missed K__law_missed (F__law_missed.binds (ps := ["_law_adviser_here", "_law_row"]) fun _ _ _ _ _ _ us hl => match us, hl with | [_, _], _ => rfl) N__law_missed
  exact (ok_law F_law T C__law_pot C__law_circle C__law_bent C__law_any C__law_bent_circle C__law_is C__law_draw C_adviser_misses C_is_adviser C__law_judged C_is_circle C__law_circle_judged C__law_missed).imp (law_imp law_true)
end K44
open PySem PySem.W PyProof.Rows
set_option maxRecDepth 100000 in
set_option maxHeartbeats 0 in
theorem PySem.Challenge.cw_keptmisses_k44_advisers_and_circles_judg_holds : PySem.Challenge.rw_keptmisses_k44_advisers_and_circles_judg.Holds := by
  w_on; o_law; k_head; (case hw => w_witness2)
  k_fill
  refine KM.law_walk (l := PySem.Challenge.rw_keptmisses_k44_advisers_and_circles_judg) (k := 9) (x := "_law_script") rfl rfl ⟨rfl, by decide, by decide⟩ (fun w h Y => PySem.W.kIn_of Y) ?F
  case F =>
    intro w mg fa h KX G hmg
    have z_abs : mg "abs" = none := by (refine' PySem.W.mg_none_of KX G ?z); (case z => k_is)
    have z_all : mg "all" = none := by (refine' PySem.W.mg_none_of KX G ?z); (case z => k_is)
    have z_bool : mg "bool" = none := by (refine' PySem.W.mg_none_of KX G ?z); (case z => k_is)
    have z_int : mg "int" = none := by (refine' PySem.W.mg_none_of KX G ?z); (case z => k_is)
    have z_isinstance : mg "isinstance" = none := by (refine' PySem.W.mg_none_of KX G ?z); (case z => k_is)
    have z_len : mg "len" = none := by (refine' PySem.W.mg_none_of KX G ?z); (case z => k_is)
    have z_list : mg "list" = none := by (refine' PySem.W.mg_none_of KX G ?z); (case z => k_is)
    have z_range : mg "range" = none := by (refine' PySem.W.mg_none_of KX G ?z); (case z => k_is)
    have z_set : mg "set" = none := by (refine' PySem.W.mg_none_of KX G ?z); (case z => k_is)
    have z_tuple : mg "tuple" = none := by (refine' PySem.W.mg_none_of KX G ?z); (case z => k_is)
    have z_zip : mg "zip" = none := by (refine' PySem.W.mg_none_of KX G ?z); (case z => k_is)
    have c_LEAST_SIZE : KM.GlobC (L2.KOf KX) mg "LEAST_SIZE" (.int 2) := by (refine' KM.globI_mk KX G ?z); (case z => k_is)
    have c_MOST_ADVISERS : KM.GlobC (L2.KOf KX) mg "MOST_ADVISERS" (.int 4) := by (refine' KM.globI_mk KX G ?z); (case z => k_is)
    have c_MOST_ADVISER_STATES : KM.GlobC (L2.KOf KX) mg "MOST_ADVISER_STATES" (.int 6) := by (refine' KM.globI_mk KX G ?z); (case z => k_is)
    have c_MOST_LETTERS : KM.GlobC (L2.KOf KX) mg "MOST_LETTERS" (.int 400) := by (refine' KM.globI_mk KX G ?z); (case z => k_is)
    have c_MOST_SIZE : KM.GlobC (L2.KOf KX) mg "MOST_SIZE" (.int 4) := by (refine' KM.globI_mk KX G ?z); (case z => k_is)
    have x_NoSize : KM.ExcAt (L2.KOf KX) mg "NoSize" := by (refine' KM.excAt_mk KX G ?x0a ?x0q ?x0k ?x0b ?x0t); (case x0a => k_is); (case x0q => k_exc); (case x0k => k_is); (case x0b => k_is); (case x0t => k_is)
    have x_NoCircle : KM.ExcAt (L2.KOf KX) mg "NoCircle" := by (refine' KM.excAt_mk KX G ?x1a ?x1q ?x1k ?x1b ?x1t); (case x1a => k_is); (case x1q => k_exc); (case x1k => k_is); (case x1b => k_is); (case x1t => k_is)
    have x_NoRow : KM.ExcAt (L2.KOf KX) mg "NoRow" := by (refine' KM.excAt_mk KX G ?x2a ?x2q ?x2k ?x2b ?x2t); (case x2a => k_is); (case x2q => k_exc); (case x2k => k_is); (case x2b => k_is); (case x2t => k_is)
    have d__law_pot : KM.DefAt (L2.KOf KX) mg "_law_pot" K44.s__law_pot := by (refine' KM.def_mk KX G ?a ?l ?c ?k); (case a => k_is); (case l => k_is); (case c => k_is); (case k => k_is)
    have d__law_draw : KM.DefAt (L2.KOf KX) mg "_law_draw" K44.s__law_draw := by (refine' KM.def_mk KX G ?a ?l ?c ?k); (case a => k_is); (case l => k_is); (case c => k_is); (case k => k_is)
    have d__law_any : KM.DefAt (L2.KOf KX) mg "_law_any" K44.s__law_any := by (refine' KM.def_mk KX G ?a ?l ?c ?k); (case a => k_is); (case l => k_is); (case c => k_is); (case k => k_is)
    have d__law_adviser : KM.DefAt (L2.KOf KX) mg "_law_adviser" K44.s__law_adviser := by (refine' KM.def_mk KX G ?a ?l ?c ?k); (case a => k_is); (case l => k_is); (case c => k_is); (case k => k_is)
    have d__law_circle : KM.DefAt (L2.KOf KX) mg "_law_circle" K44.s__law_circle := by (refine' KM.def_mk KX G ?a ?l ?c ?k); (case a => k_is); (case l => k_is); (case c => k_is); (case k => k_is)
    have d__law_deep : KM.DefAt (L2.KOf KX) mg "_law_deep" K44.s__law_deep := by (refine' KM.def_mk KX G ?a ?l ?c ?k); (case a => k_is); (case l => k_is); (case c => k_is); (case k => k_is)
    have d__law_bent : KM.DefAt (L2.KOf KX) mg "_law_bent" K44.s__law_bent := by (refine' KM.def_mk KX G ?a ?l ?c ?k); (case a => k_is); (case l => k_is); (case c => k_is); (case k => k_is)
    have d__law_bent_circle : KM.DefAt (L2.KOf KX) mg "_law_bent_circle" K44.s__law_bent_circle := by (refine' KM.def_mk KX G ?a ?l ?c ?k); (case a => k_is); (case l => k_is); (case c => k_is); (case k => k_is)
    have d__law_is : KM.DefAt (L2.KOf KX) mg "_law_is" K44.s__law_is := by (refine' KM.def_mk KX G ?a ?l ?c ?k); (case a => k_is); (case l => k_is); (case c => k_is); (case k => k_is)
    have d_nothing_heard : KM.DefAt (L2.KOf KX) mg "nothing_heard" K44.s_nothing_heard := by (refine' KM.def_mk KX G ?a ?l ?c ?k); (case a => k_is); (case l => k_is); (case c => k_is); (case k => k_is)
    have d_is_whole : KM.DefAt (L2.KOf KX) mg "is_whole" K44.s_is_whole := by (refine' KM.def_mk KX G ?a ?l ?c ?k); (case a => k_is); (case l => k_is); (case c => k_is); (case k => k_is)
    have d_is_size : KM.DefAt (L2.KOf KX) mg "is_size" K44.s_is_size := by (refine' KM.def_mk KX G ?a ?l ?c ?k); (case a => k_is); (case l => k_is); (case c => k_is); (case k => k_is)
    have d_is_below : KM.DefAt (L2.KOf KX) mg "is_below" K44.s_is_below := by (refine' KM.def_mk KX G ?a ?l ?c ?k); (case a => k_is); (case l => k_is); (case c => k_is); (case k => k_is)
    have d_are_below : KM.DefAt (L2.KOf KX) mg "are_below" K44.s_are_below := by (refine' KM.def_mk KX G ?a ?l ?c ?k); (case a => k_is); (case l => k_is); (case c => k_is); (case k => k_is)
    have d_is_advice : KM.DefAt (L2.KOf KX) mg "is_advice" K44.s_is_advice := by (refine' KM.def_mk KX G ?a ?l ?c ?k); (case a => k_is); (case l => k_is); (case c => k_is); (case k => k_is)
    have d_is_ruled : KM.DefAt (L2.KOf KX) mg "is_ruled" K44.s_is_ruled := by (refine' KM.def_mk KX G ?a ?l ?c ?k); (case a => k_is); (case l => k_is); (case c => k_is); (case k => k_is)
    have d_is_adviser : KM.DefAt (L2.KOf KX) mg "is_adviser" K44.s_is_adviser := by (refine' KM.def_mk KX G ?a ?l ?c ?k); (case a => k_is); (case l => k_is); (case c => k_is); (case k => k_is)
    have d_is_circle : KM.DefAt (L2.KOf KX) mg "is_circle" K44.s_is_circle := by (refine' KM.def_mk KX G ?a ?l ?c ?k); (case a => k_is); (case l => k_is); (case c => k_is); (case k => k_is)
    have d_is_row : KM.DefAt (L2.KOf KX) mg "is_row" K44.s_is_row := by (refine' KM.def_mk KX G ?a ?l ?c ?k); (case a => k_is); (case l => k_is); (case c => k_is); (case k => k_is)
    have d_heard : KM.DefAt (L2.KOf KX) mg "heard" K44.s_heard := by (refine' KM.def_mk KX G ?a ?l ?c ?k); (case a => k_is); (case l => k_is); (case c => k_is); (case k => k_is)
    have d_adviser_misses : KM.DefAt (L2.KOf KX) mg "adviser_misses" K44.s_adviser_misses := by (refine' KM.def_mk KX G ?a ?l ?c ?k); (case a => k_is); (case l => k_is); (case c => k_is); (case k => k_is)
    have d__law_is_int : KM.DefAt (L2.KOf KX) mg "_law_is_int" K44.s__law_is_int := by (refine' KM.def_mk KX G ?a ?l ?c ?k); (case a => k_is); (case l => k_is); (case c => k_is); (case k => k_is)
    have d__law_judged : KM.DefAt (L2.KOf KX) mg "_law_judged" K44.s__law_judged := by (refine' KM.def_mk KX G ?a ?l ?c ?k); (case a => k_is); (case l => k_is); (case c => k_is); (case k => k_is)
    have d__law_circle_judged : KM.DefAt (L2.KOf KX) mg "_law_circle_judged" K44.s__law_circle_judged := by (refine' KM.def_mk KX G ?a ?l ?c ?k); (case a => k_is); (case l => k_is); (case c => k_is); (case k => k_is)
    have d__law_missed : KM.DefAt (L2.KOf KX) mg "_law_missed" K44.s__law_missed := by (refine' KM.def_mk KX G ?a ?l ?c ?k); (case a => k_is); (case l => k_is); (case c => k_is); (case k => k_is)
    have d_law : KM.DefAt (L2.KOf KX) mg "law" K44.s_law := by (refine' KM.def_mk KX G ?a ?l ?c ?k); (case a => k_is); (case l => k_is); (case c => k_is); (case k => k_is)
    obtain ⟨fd, h1, h2⟩ := K44.all_ok (P := (PySem.Challenge.rw_keptmisses_k44_advisers_and_circles_judg).prog) (w := w) hmg ⟨z_abs, z_all, z_bool, z_int, z_isinstance, z_len, z_list, z_range, z_set, z_tuple, z_zip, c_LEAST_SIZE, c_MOST_ADVISERS, c_MOST_ADVISER_STATES, c_MOST_LETTERS, c_MOST_SIZE, x_NoSize, x_NoCircle, x_NoRow⟩ d__law_pot d__law_draw d__law_any d__law_adviser d__law_circle d__law_deep d__law_bent d__law_bent_circle d__law_is d_nothing_heard d_is_whole d_is_size d_is_below d_are_below d_is_advice d_is_ruled d_is_adviser d_is_circle d_is_row d_heard d_adviser_misses d__law_is_int d__law_judged d__law_circle_judged d__law_missed d_law
    exact ⟨fd, h1, fun base _ _ => h2 base⟩
