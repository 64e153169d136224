import PyProof.Rows.All
import Wide.All
import OpenK.AllK
import Wide.FinOn
import HandS.ForMost
import HandS.ForExc
import HandS.Evl
import HandS.Walk
import HandS.Zip
import HandS.Gcd
import HandS.Wide
import HandS.IsInst
import HandS.TupAny
import HandS.TupMul
import HandS.TryMany
import HandS.EndBits
import HandS.SortInts
import HandS.RaiseMore
import HandS.Small
import HandS.More
import HandS.Conv
import HandS.SortRule
import HandS.Iter
import HandS.Style
import PySem.Challenge.RW_keptmisses_k08_whole_states_without_use
set_option Elab.async false
set_option linter.all false
set_option maxRecDepth 100000
set_option maxHeartbeats 2000000
/-! Programs over data: values are told by trees of data (D), what changes is told by a store (M). -/
namespace KM
open PySem L2 PySem.Spec PyProof.Rows

inductive D where
  | non
  | bl (b : Bool)
  | int (i : Int)
  | str (s : Str)
  | tup (xs : List D)
  | lst (xs : List D)
  | rol (xs : List D)
  | ref (k : Nat)
  | obj (a : Addr)
  | fn (x : Str)
  | dct
inductive MO where
  | lst (xs : List D)
  | dct (kvs : List (Int × D))

mutual
inductive Rep (K : PySem.W.Frag) (I : Hp) (as : List Addr) : V → D → Prop
  | non : Rep K I as .non .non
  | bl (b : Bool) : Rep K I as (.bl b) (.bl b)
  | int (i : Int) : Rep K I as (.int i) (.int i)
  | str (s : Str) : Rep K I as (.str s) (.str s)
  | tup {a : Addr} {xs : List V} {ds : List D} : SqT K I a xs → Reps K I as xs ds → Rep K I as (.ref a) (.tup ds)
  | lst {a : Addr} {xs : List V} {ds : List D} : I a = some (.lst xs) → Reps K I as xs ds → Rep K I as (.ref a) (.lst ds)
  | rol {a : Addr} {xs : List V} {ds : List D} : SqL K I a xs → Reps K I as xs ds → Rep K I as (.ref a) (.rol ds)
  | ref {k : Nat} {a : Addr} : as[k]? = some a → Rep K I as (.ref a) (.ref k)
  | obj (a : Addr) : Rep K I as (.ref a) (.obj a)
  | fn {a : Addr} {x : Str} : PySem.W.nsIn K mainGlobals x = some (some (.ref a)) → Rep K I as (.ref a) (.fn x)
  | dct {a : Addr} {kvs : List (L2.Key × V)} : I a = some (.dK kvs) → Rep K I as (.ref a) .dct
inductive Reps (K : PySem.W.Frag) (I : Hp) (as : List Addr) : List V → List D → Prop
  | nil : Reps K I as [] []
  | cons {v : V} {vs : List V} {d : D} {ds : List D} : Rep K I as v d → Reps K I as vs ds → Reps K I as (v :: vs) (d :: ds)
end
/-- the world grows -/
structure Gr (I : Hp) (as : List Addr) (I' : Hp) (as' : List Addr) : Prop where
  sub : ∀ a o, I a = some o → I' a = some o
  pre : ∃ t, as' = as ++ t
theorem Gr.refl (I : Hp) (as : List Addr) : Gr I as I as := ⟨fun _ _ h => h, [], by simp⟩
theorem Gr.trans {I I1 I2 : Hp} {as as1 as2 : List Addr} (g : Gr I as I1 as1) (h : Gr I1 as1 I2 as2) : Gr I as I2 as2 := by
  obtain ⟨s, t, rfl⟩ := g
  obtain ⟨s', t', rfl⟩ := h
  exact ⟨fun a o e => s' a o (s a o e), t ++ t', by simp⟩
theorem Gr.at {I I' : Hp} {as as' : List Addr} (g : Gr I as I' as') {k : Nat} {a : Addr} (h : as[k]? = some a) : as'[k]? = some a := by
  obtain ⟨_, t, rfl⟩ := g
  have hk : k < as.length := (List.getElem?_eq_some_iff.mp h).1
  rw [List.getElem?_append_left hk]
  exact h
mutual
theorem Rep.mono {K : PySem.W.Frag} {I I' : Hp} {as as' : List Addr} (g : Gr I as I' as') : ∀ {v : V} {d : D}, Rep K I as v d → Rep K I' as' v d
  | _, _, .non => .non
  | _, _, .bl b => .bl b
  | _, _, .int b => .int b
  | _, _, .str b => .str b
  | _, _, .tup h r => .tup (Evl.ex_t g.sub h) (Reps.mono g r)
  | _, _, .lst h r => .lst (g.sub _ _ h) (Reps.mono g r)
  | _, _, .rol h r => .rol (Evl.ex_l g.sub h) (Reps.mono g r)
  | _, _, .ref h => .ref (g.at h)
  | _, _, .obj a => .obj a
  | _, _, .fn h => .fn h
  | _, _, .dct h => .dct (g.sub _ _ h)
theorem Reps.mono {K : PySem.W.Frag} {I I' : Hp} {as as' : List Addr} (g : Gr I as I' as') : ∀ {vs : List V} {ds : List D}, Reps K I as vs ds → Reps K I' as' vs ds
  | _, _, .nil => .nil
  | _, _, .cons h r => .cons (Rep.mono g h) (Reps.mono g r)
end
section
variable {K : PySem.W.Frag} {I : Hp} {as : List Addr}
theorem Reps.len : ∀ {vs : List V} {ds : List D}, Reps K I as vs ds → vs.length = ds.length
  | _, _, .nil => rfl
  | _, _, .cons _ r => by rw [List.length_cons, List.length_cons, Reps.len r]
theorem Reps.get : ∀ {vs : List V} {ds : List D} {i : Nat} {d : D}, Reps K I as vs ds → ds[i]? = some d → ∃ v, vs[i]? = some v ∧ Rep K I as v d
  | _, _, i, d, .nil, h => by simp at h
  | _, _, 0, d, .cons a r, h => by
    have e := Option.some.inj h
    subst e
    exact ⟨_, rfl, a⟩
  | _, _, i + 1, d, .cons a r, h => Reps.get (i := i) r h
theorem Reps.get' : ∀ {vs : List V} {ds : List D} {i : Nat} {v : V}, Reps K I as vs ds → vs[i]? = some v → ∃ d, ds[i]? = some d ∧ Rep K I as v d
  | _, _, i, d, .nil, h => by simp at h
  | _, _, 0, d, .cons a r, h => by
    have e := Option.some.inj h
    subst e
    exact ⟨_, rfl, a⟩
  | _, _, i + 1, d, .cons a r, h => Reps.get' (i := i) r h
theorem Reps.append : ∀ {vs ws : List V} {ds es : List D}, Reps K I as vs ds → Reps K I as ws es → Reps K I as (vs ++ ws) (ds ++ es)
  | _, _, _, _, .nil, h => h
  | _, _, _, _, .cons a r, h => .cons a (Reps.append r h)
theorem Reps.set : ∀ {vs : List V} {ds : List D} {i : Nat} {v : V} {d : D}, Reps K I as vs ds → Rep K I as v d → Reps K I as (vs.set i v) (ds.set i d)
  | _, _, _, _, _, .nil, _ => .nil
  | _, _, 0, _, _, .cons a r, h => .cons h r
  | _, _, i + 1, _, _, .cons a r, h => .cons a (Reps.set (i := i) r h)
theorem Reps.take : ∀ {vs : List V} {ds : List D} (n : Nat), Reps K I as vs ds → Reps K I as (vs.take n) (ds.take n)
  | _, _, 0, _ => .nil
  | _, _, n + 1, .nil => .nil
  | _, _, n + 1, .cons a r => .cons a (Reps.take n r)
theorem Reps.drop : ∀ {vs : List V} {ds : List D} (n : Nat), Reps K I as vs ds → Reps K I as (vs.drop n) (ds.drop n)
  | _, _, 0, h => h
  | _, _, n + 1, .nil => .nil
  | _, _, n + 1, .cons a r => Reps.drop n r
theorem Reps.eraseIdx : ∀ {vs : List V} {ds : List D} (n : Nat), Reps K I as vs ds → Reps K I as (vs.eraseIdx n) (ds.eraseIdx n)
  | _, _, _, .nil => .nil
  | _, _, 0, .cons a r => r
  | _, _, n + 1, .cons a r => .cons a (Reps.eraseIdx n r)
theorem Reps.rep {vs : List V} {ds : List D} (h : Reps K I as vs ds) : ∀ n : Nat, Reps K I as (List.replicate n vs).flatten (List.replicate n ds).flatten
  | 0 => .nil
  | n + 1 => by
    rw [List.replicate_succ, List.replicate_succ, List.flatten_cons, List.flatten_cons]
    exact h.append (Reps.rep h n)
theorem Reps.ints : ∀ {vs : List V} (ns : List Int), vs = ns.map V.int → Reps K I as vs (ns.map D.int)
  | _, [], rfl => .nil
  | _, n :: ns, rfl => .cons (.int n) (Reps.ints ns rfl)
end

def MRep (K : PySem.W.Frag) (I : Hp) (as : List Addr) (H : Hp) (a : Addr) : MO → Prop
  | .lst ds => ∃ vs, H a = some (.lst vs) ∧ Reps K I as vs ds
  | .dct kvs => ∃ vs : List (L2.Key × V), H a = some (.dK vs) ∧ vs.map (fun p => p.1) = kvs.map (fun p => Sum.inl p.1) ∧ Reps K I as (vs.map fun p => p.2) (kvs.map fun p => p.2)
theorem MRep.some {K : PySem.W.Frag} {I : Hp} {as : List Addr} {H : Hp} {a : Addr} {o : MO} (h : MRep K I as H a o) : ∃ u, H a = some u := by
  cases o with
  | lst ds => exact ⟨_, h.choose_spec.1⟩
  | dct ds => exact ⟨_, h.choose_spec.1⟩
theorem MRep.mono {K : PySem.W.Frag} {I I' : Hp} {as as' : List Addr} {H H' : Hp} {a : Addr} {o : MO} (g : Gr I as I' as') (e : H' a = H a) (h : MRep K I as H a o) : MRep K I' as' H' a o := by
  cases o with
  | lst ds =>
    obtain ⟨vs, h1, h2⟩ := h
    exact ⟨vs, e.trans h1, h2.mono g⟩
  | dct ds =>
    obtain ⟨vs, h1, h2, h3⟩ := h
    exact ⟨vs, e.trans h1, h2, h3.mono g⟩
/-- the world: I what never changes, as and M what may, P what somebody keeps for himself -/
structure Wr (K : PySem.W.Frag) (H I : Hp) (as : List Addr) (M : List MO) (P : Hp) : Prop where
  sub : ∀ (a : Addr) (o : HO), I a = some o → H a = some o
  len : as.length = M.length
  nd : as.Nodup
  mu : ∀ (k : Nat) (a : Addr) (o : MO), as[k]? = some a → M[k]? = some o → I a = none ∧ P a = none ∧ MRep K I as H a o
  prv : ∀ (a : Addr) (o : HO), P a = some o → H a = some o ∧ I a = none
section
variable {K : PySem.W.Frag} {H I P : Hp} {as : List Addr} {M : List MO}
theorem Wr.at (w : Wr K H I as M P) {k : Nat} {a : Addr} (h : as[k]? = some a) : ∃ o, M[k]? = some o ∧ I a = none ∧ P a = none ∧ MRep K I as H a o := by
  have hk : k < M.length := by rw [← w.len]; exact (List.getElem?_eq_some_iff.mp h).1
  exact ⟨M[k], List.getElem?_eq_getElem hk, w.mu k a _ h (List.getElem?_eq_getElem hk)⟩
theorem Wr.fresh (w : Wr K H I as M P) {p : Addr} (h : H p = none) : I p = none ∧ P p = none ∧ p ∉ as := by
  refine ⟨?_, ?_, fun hm => ?_⟩
  · cases e : I p with
    | none => rfl
    | some o => rw [w.sub _ _ e] at h; cases h
  · cases e : P p with
    | none => rfl
    | some o => rw [(w.prv _ _ e).1] at h; cases h
  · obtain ⟨k, hk⟩ := List.getElem?_of_mem hm
    obtain ⟨o, _, _, _, m⟩ := w.at hk
    obtain ⟨u, hu⟩ := m.some
    rw [hu] at h; cases h
theorem Wr.newI (w : Wr K H I as M P) {p : Addr} (h : H p = none) (o : HO) : Wr K (upd H p o) (upd I p o) as M P ∧ Gr I as (upd I p o) as := by
  obtain ⟨f1, f2, f3⟩ := w.fresh h
  have g : Gr I as (upd I p o) as := ⟨fun a u e => by rw [upd_ne (ne_of_none e f1)]; exact e, [], by simp⟩
  refine ⟨⟨fun a u e => ?_, w.len, w.nd, fun k a u ha hu => ?_, fun a u e => ?_⟩, g⟩
  · by_cases q : a = p
    · subst q; rw [upd_same] at e ⊢; exact e
    · rw [upd_ne q] at e ⊢; exact w.sub _ _ e
  · have q : a ≠ p := fun z => f3 (by rw [← z]; exact List.mem_of_getElem? ha)
    obtain ⟨m1, m2, m3⟩ := w.mu k a u ha hu
    exact ⟨by rw [upd_ne q]; exact m1, m2, m3.mono g (upd_ne q)⟩
  · obtain ⟨h1, h2⟩ := w.prv _ _ e
    have q : a ≠ p := ne_of_none h1 h
    rw [upd_ne q, upd_ne q]
    exact ⟨h1, h2⟩
theorem Gr.more (I : Hp) (as t : List Addr) : Gr I as I (as ++ t) := ⟨fun _ _ e => e, t, rfl⟩
theorem Wr.newM (w : Wr K H I as M P) {p : Addr} (h : H p = none) (o : HO) (m : MO) (hm : MRep K I as (upd H p o) p m) : Wr K (upd H p o) I (as ++ [p]) (M ++ [m]) P := by
  obtain ⟨f1, f2, f3⟩ := w.fresh h
  have hl := w.len
  refine ⟨fun a u e => ?_, by simp [hl], ?_, fun k a u ha hu => ?_, fun a u e => ?_⟩
  · rw [upd_ne (ne_of_none (w.sub _ _ e) h)]; exact w.sub _ _ e
  · rw [List.nodup_append]
    exact ⟨w.nd, by simp, fun a ha b hb => by
      have e : b = p := by simpa using hb
      subst e
      exact fun z => f3 (z ▸ ha)⟩
  · by_cases hk : k < as.length
    · rw [List.getElem?_append_left hk] at ha
      rw [List.getElem?_append_left (by omega)] at hu
      have q : a ≠ p := fun z => f3 (by rw [← z]; exact List.mem_of_getElem? ha)
      obtain ⟨m1, m2, m3⟩ := w.mu k a u ha hu
      exact ⟨m1, m2, m3.mono (Gr.more I as [p]) (upd_ne q)⟩
    · have hk2 : k - as.length = 0 := by
        rw [List.getElem?_append_right (by omega)] at ha
        have := (List.getElem?_eq_some_iff.mp ha).1
        simp at this
        omega
      rw [List.getElem?_append_right (by omega), hk2] at ha
      rw [List.getElem?_append_right (by omega), show k - M.length = 0 by omega] at hu
      have e1 : p = a := by simpa using ha
      have e2 : m = u := by simpa using hu
      subst e1 e2
      exact ⟨f1, f2, hm.mono (Gr.more I as [p]) rfl⟩
  · obtain ⟨h1, h2⟩ := w.prv _ _ e
    rw [upd_ne (ne_of_none h1 h)]
    exact ⟨h1, h2⟩
theorem nodup_get {as : List Addr} (h : as.Nodup) {i j : Nat} {a : Addr} (hi : as[i]? = some a) (hj : as[j]? = some a) : i = j :=
  (List.getElem?_inj (List.getElem?_eq_some_iff.mp hi).1 h).mp (hi.trans hj.symm)
theorem Wr.put (w : Wr K H I as M P) {k : Nat} {a : Addr} (ha : as[k]? = some a) (o : HO) (m : MO) (hm : MRep K I as (upd H a o) a m) : Wr K (upd H a o) I as (M.set k m) P := by
  obtain ⟨_, _, i1, p1, _⟩ := w.at ha
  refine ⟨fun b u e => ?_, by simp [w.len], w.nd, fun j b u hb hu => ?_, fun b u e => ?_⟩
  · rw [upd_ne (ne_of_none e i1)]; exact w.sub _ _ e
  · by_cases hj : k = j
    · subst hj
      have e1 : a = b := Option.some.inj (ha.symm.trans hb)
      subst e1
      have hk : k < M.length := by rw [← w.len]; exact (List.getElem?_eq_some_iff.mp ha).1
      rw [List.getElem?_set_self hk] at hu
      have e2 : m = u := Option.some.inj hu
      subst e2
      exact ⟨i1, p1, hm⟩
    · rw [List.getElem?_set_ne hj] at hu
      obtain ⟨m1, m2, m3⟩ := w.mu j b u hb hu
      have q : b ≠ a := fun z => hj (nodup_get w.nd ha (z ▸ hb))
      exact ⟨m1, m2, m3.mono (Gr.refl I as) (upd_ne q)⟩
  · obtain ⟨h1, h2⟩ := w.prv _ _ e
    have q : b ≠ a := ne_of_none e p1
    rw [upd_ne q]
    exact ⟨h1, h2⟩
/-- a private cell is laid -/
theorem Wr.newP (w : Wr K H I as M P) {p : Addr} (h : H p = none) (o : HO) : Wr K (upd H p o) I as M (upd P p o) := by
  obtain ⟨f1, f2, f3⟩ := w.fresh h
  refine ⟨fun a u e => ?_, w.len, w.nd, fun k a u ha hu => ?_, fun a u e => ?_⟩
  · rw [upd_ne (ne_of_none e f1)]; exact w.sub _ _ e
  · have q : a ≠ p := fun z => f3 (by rw [← z]; exact List.mem_of_getElem? ha)
    obtain ⟨m1, m2, m3⟩ := w.mu k a u ha hu
    exact ⟨m1, by rw [upd_ne q]; exact m2, m3.mono (Gr.refl _ _) (upd_ne q)⟩
  · by_cases q : a = p
    · subst q
      rw [upd_same] at e ⊢
      exact ⟨e, f1⟩
    · rw [upd_ne q] at e ⊢
      exact w.prv _ _ e
/-- it changes -/
theorem Wr.putP (w : Wr K H I as M P) {p : Addr} {u : HO} (h : P p = some u) (o : HO) : Wr K (upd H p o) I as M (upd P p o) := by
  obtain ⟨h1, i1⟩ := w.prv _ _ h
  refine ⟨fun a u e => ?_, w.len, w.nd, fun k a u ha hu => ?_, fun a u e => ?_⟩
  · rw [upd_ne (ne_of_none e i1)]; exact w.sub _ _ e
  · obtain ⟨m1, m2, m3⟩ := w.mu k a u ha hu
    have q : a ≠ p := fun z => by rw [z, h] at m2; cases m2
    exact ⟨m1, by rw [upd_ne q]; exact m2, m3.mono (Gr.refl _ _) (upd_ne q)⟩
  · by_cases q : a = p
    · subst q
      rw [upd_same] at e ⊢
      exact ⟨e, i1⟩
    · rw [upd_ne q] at e ⊢
      exact w.prv _ _ e
theorem upd_take {P : Hp} {p : Addr} {o : HO} (h : P p = none) (b : Addr) (u : HO) (e : P b = some u) : upd P p o b = some u := by
  rw [upd_ne (ne_of_none e h)]; exact e
/-- a private cell is given to what never changes -/
theorem Wr.giveI {P0 : Hp} {o : HO} {p : Addr} (w : Wr K H I as M (upd P0 p o)) (h0 : P0 p = none) : Wr K H (upd I p o) as M P0 ∧ Gr I as (upd I p o) as := by
  obtain ⟨h1, i1⟩ := w.prv p o upd_same
  have g : Gr I as (upd I p o) as := ⟨fun a u e => by rw [upd_ne (ne_of_none e i1)]; exact e, [], by simp⟩
  refine ⟨⟨fun a u e => ?_, w.len, w.nd, fun k a u ha hu => ?_, fun a u e => ?_⟩, g⟩
  · by_cases q : a = p
    · subst q; rw [upd_same] at e; cases e; exact h1
    · rw [upd_ne q] at e; exact w.sub _ _ e
  · obtain ⟨m1, m2, m3⟩ := w.mu k a u ha hu
    have q : a ≠ p := fun z => by rw [z, upd_same] at m2; cases m2
    rw [upd_ne q] at m2
    exact ⟨by rw [upd_ne q]; exact m1, m2, m3.mono g rfl⟩
  · have q : a ≠ p := ne_of_none e h0
    obtain ⟨x, y⟩ := w.prv a u (by rw [upd_ne q]; exact e)
    exact ⟨x, by rw [upd_ne q]; exact y⟩
/-- .. to what may change -/
theorem Wr.giveM {P0 : Hp} {o : HO} {p : Addr} {m : MO} (w : Wr K H I as M (upd P0 p o)) (h0 : P0 p = none) (hm : MRep K I as H p m) : Wr K H I (as ++ [p]) (M ++ [m]) P0 := by
  obtain ⟨h1, i1⟩ := w.prv p o upd_same
  have hl := w.len
  have np : p ∉ as := fun hmem => by
    obtain ⟨k, hk⟩ := List.getElem?_of_mem hmem
    obtain ⟨_, _, _, m2, _⟩ := w.at hk
    rw [upd_same] at m2; cases m2
  refine ⟨w.sub, by simp [hl], ?_, fun k a u ha hu => ?_, fun a u e => ?_⟩
  · rw [List.nodup_append]
    exact ⟨w.nd, by simp, fun a ha b hb => by
      have e : b = p := by simpa using hb
      subst e
      exact fun z => np (z ▸ ha)⟩
  · by_cases hk : k < as.length
    · rw [List.getElem?_append_left hk] at ha
      rw [List.getElem?_append_left (by omega)] at hu
      obtain ⟨m1, m2, m3⟩ := w.mu k a u ha hu
      have q : a ≠ p := fun z => np (by rw [← z]; exact List.mem_of_getElem? ha)
      rw [upd_ne q] at m2
      exact ⟨m1, m2, m3.mono (Gr.more I as [p]) rfl⟩
    · have hk2 : k - as.length = 0 := by
        rw [List.getElem?_append_right (by omega)] at ha
        have := (List.getElem?_eq_some_iff.mp ha).1
        simp at this
        omega
      rw [List.getElem?_append_right (by omega), hk2] at ha
      rw [List.getElem?_append_right (by omega), show k - M.length = 0 by omega] at hu
      have e1 : p = a := by simpa using ha
      have e2 : m = u := by simpa using hu
      subst e1 e2
      exact ⟨i1, h0, hm.mono (Gr.more I as [p]) rfl⟩
  · have q : a ≠ p := ne_of_none e h0
    exact w.prv a u (by rw [upd_ne q]; exact e)
end

/-- slots -/
structure Envr (K : PySem.W.Frag) (I : Hp) (as : List Addr) (σ : L2.St) (δ : List (Option D)) : Prop where
  len : σ.length = δ.length
  at_ : ∀ (i : Nat) (d : D), δ[i]? = some (some d) → ∃ v, σ[i]? = some (some v) ∧ Rep K I as v d
theorem Envr.mono {K : PySem.W.Frag} {I I' : Hp} {as as' : List Addr} {σ : L2.St} {δ : List (Option D)} (g : Gr I as I' as') (e : Envr K I as σ δ) : Envr K I' as' σ δ :=
  ⟨e.len, fun i d h => let ⟨v, h1, h2⟩ := e.at_ i d h; ⟨v, h1, h2.mono g⟩⟩
theorem Envr.set {K : PySem.W.Frag} {I : Hp} {as : List Addr} {σ : L2.St} {δ : List (Option D)} {v : V} {d : D} (e : Envr K I as σ δ) (r : Rep K I as v d) (i : Nat) : Envr K I as (σ.set i (some v)) (δ.set i (some d)) := by
  refine ⟨by simp [e.len], fun j d' h => ?_⟩
  by_cases hj : i = j
  · subst hj
    have hi : i < δ.length := by
      have := (List.getElem?_eq_some_iff.mp h).1
      simpa using this
    rw [List.getElem?_set_self hi] at h
    have e1 : d = d' := Option.some.inj (Option.some.inj h)
    subst e1
    exact ⟨v, List.getElem?_set_self (by rw [e.len]; exact hi), r⟩
  · rw [List.getElem?_set_ne hj] at h
    obtain ⟨w, h1, h2⟩ := e.at_ j d' h
    exact ⟨w, by rw [List.getElem?_set_ne hj]; exact h1, h2⟩
theorem Envr.unset {K : PySem.W.Frag} {I : Hp} {as : List Addr} {σ : L2.St} {δ : List (Option D)} (e : Envr K I as σ δ) (i : Nat) : Envr K I as (σ.set i none) (δ.set i none) := by
  refine ⟨by simp [e.len], fun j d' h => ?_⟩
  by_cases hj : i = j
  · subst hj
    by_cases hi : i < δ.length
    · rw [List.getElem?_set_self hi] at h
      cases h
    · rw [List.getElem?_eq_none (by simpa using hi)] at h
      cases h
  · rw [List.getElem?_set_ne hj] at h
    obtain ⟨w, h1, h2⟩ := e.at_ j d' h
    exact ⟨w, by rw [List.getElem?_set_ne hj]; exact h1, h2⟩
def wipeD (δ : List (Option D)) : List Nat → List (Option D)
  | [] => δ
  | v :: vs => (wipeD δ vs).set v none
theorem Envr.wipe {K : PySem.W.Frag} {I : Hp} {as : List Addr} {σ : L2.St} {δ : List (Option D)} (e : Envr K I as σ δ) : ∀ vs, Envr K I as (L2.wipe σ vs) (wipeD δ vs)
  | [] => e
  | v :: vs => (Envr.wipe e vs).unset v

/-- what a piece comes to -/
inductive R (α : Type) where
  | bad
  | ok (a : α) (M : List MO)
  | ex (c : Str) (M : List MO)
def R.bind {α β : Type} (r : R α) (f : α → List MO → R β) : R β :=
  match r with
  | .bad => .bad
  | .ok a M => f a M
  | .ex c M => .ex c M
@[simp] theorem R.bind_bad {α β : Type} (f : α → List MO → R β) : (R.bad).bind f = .bad := rfl
@[simp] theorem R.bind_ok {α β : Type} (f : α → List MO → R β) (a : α) (M : List MO) : (R.ok a M).bind f = f a M := rfl
@[simp] theorem R.bind_ex {α β : Type} (f : α → List MO → R β) (c : Str) (M : List MO) : (R.ex c M).bind f = .ex c M := rfl
abbrev Ctx := List (Option D)
abbrev GE := Ctx → List MO → R D
abbrev GB := Ctx → List MO → R Bool
abbrev GA := Ctx → List MO → R (List D)
inductive SR where
  | bad
  | nx (δ : Ctx) (M : List MO)
  | rt (d : D) (M : List MO)
  | bk (δ : Ctx) (M : List MO)
  | ct (δ : Ctx) (M : List MO)
  | ex (c : Str) (δ : Ctx) (M : List MO)
abbrev GS := Ctx → List MO → SR

/-- what is wanted of an exception, by the class's name -/
def lowW (mg : Str → Option Value) (W : WX) : Str → L2.St → Hp → Prop := fun c σ H => ∀ cls, mg c = some cls → W cls none σ H

def Sat {α β : Type} (K : PySem.W.Frag) (rel : Hp → List Addr → β → α → Prop) (Wf : Str → Hp → Prop) (I : Hp) (as : List Addr) (P : Hp) (Q : β → Hp → Prop) : R α → Prop
  | .bad => False
  | .ok d M => ∀ v H' I' as', Gr I as I' as' → Wr K H' I' as' M P → rel I' as' v d → Q v H'
  | .ex c M => ∀ H' I' as', Gr I as I' as' → Wr K H' I' as' M P → Wf c H'
def SatS (K : PySem.W.Frag) (Wf : Str → L2.St → Hp → Prop) (I : Hp) (as : List Addr) (P : Hp) (E : Ends) : SR → Prop
  | .bad => False
  | .nx δ M => ∀ σ' H' I' as', Gr I as I' as' → Wr K H' I' as' M P → Envr K I' as' σ' δ → E.nx σ' H'
  | .rt d M => ∀ v H' I' as', Gr I as I' as' → Wr K H' I' as' M P → Rep K I' as' v d → E.rt v H'
  | .bk δ M => ∀ σ' H' I' as', Gr I as I' as' → Wr K H' I' as' M P → Envr K I' as' σ' δ → E.bk σ' H'
  | .ct δ M => ∀ σ' H' I' as', Gr I as I' as' → Wr K H' I' as' M P → Envr K I' as' σ' δ → E.ct σ' H'
  | .ex c δ M => ∀ σ' H' I' as', Gr I as I' as' → Wr K H' I' as' M P → Envr K I' as' σ' δ → Wf c σ' H'
section
variable {α β γ ε : Type} {K : PySem.W.Frag}
/-- Sat is kept when the world grows -/
theorem Sat.gr {rel : Hp → List Addr → β → α → Prop} {Wf : Str → Hp → Prop} {I I' P : Hp} {as as' : List Addr} {Q : β → Hp → Prop} {r : R α} (g : Gr I as I' as') (h : Sat K rel Wf I as P Q r) : Sat K rel Wf I' as' P Q r := by
  cases r with
  | bad => exact h
  | ok d M => exact fun v H2 I2 as2 g2 w r => h v H2 I2 as2 (g.trans g2) w r
  | ex c M => exact fun H2 I2 as2 g2 w => h H2 I2 as2 (g.trans g2) w
theorem SatS.gr {Wf : Str → L2.St → Hp → Prop} {I I' P : Hp} {as as' : List Addr} {E : Ends} {r : SR} (g : Gr I as I' as') (h : SatS K Wf I as P E r) : SatS K Wf I' as' P E r := by
  cases r with
  | bad => exact h
  | nx d M => exact fun v H2 I2 as2 g2 w r => h v H2 I2 as2 (g.trans g2) w r
  | rt d M => exact fun v H2 I2 as2 g2 w r => h v H2 I2 as2 (g.trans g2) w r
  | bk d M => exact fun v H2 I2 as2 g2 w r => h v H2 I2 as2 (g.trans g2) w r
  | ct d M => exact fun v H2 I2 as2 g2 w r => h v H2 I2 as2 (g.trans g2) w r
  | ex c d M => exact fun v H2 I2 as2 g2 w r => h v H2 I2 as2 (g.trans g2) w r
/-- one piece behind another -/
theorem Sat.bind {rel : Hp → List Addr → β → α → Prop} {rel2 : Hp → List Addr → ε → γ → Prop} {Wf : Str → Hp → Prop} {I P : Hp} {as : List Addr} {Q : ε → Hp → Prop} {r : R α} {f : α → List MO → R γ} (h : Sat K rel2 Wf I as P Q (r.bind f))
    {Q1 : β → Hp → Prop} (k : ∀ a M v H' I' as', r = .ok a M → Gr I as I' as' → Wr K H' I' as' M P → rel I' as' v a → Sat K rel2 Wf I' as' P Q (f a M) → Q1 v H') : Sat K rel Wf I as P Q1 r := by
  cases r with
  | bad => exact h
  | ok d M => exact fun v H2 I2 as2 g2 w r => k d M v H2 I2 as2 rfl g2 w r (Sat.gr g2 h)
  | ex c M => exact h
end
end KM
set_option Elab.async false
set_option linter.all false
set_option maxRecDepth 100000
set_option maxHeartbeats 2000000
namespace KM
open PySem L2 PySem.Spec PyProof.Rows

/-! ### judgements -/
def ImpE (K : PySem.W.Frag) (mg : Str → Option Value) (W : WX) (t : TE) (g : GE) : Prop := ∀ (σ : L2.St) (H : Hp) (δ : Ctx) (I : Hp) (as : List Addr) (M : List MO) (P : Hp) (Q : VK),
  Wr K H I as M P → Envr K I as σ δ → Sat K (Rep K) (fun c H' => lowW mg W c σ H') I as P Q (g δ M) → t σ H Q
def ImpT (K : PySem.W.Frag) (mg : Str → Option Value) (W : WX) (t : TT) (g : GB) : Prop := ∀ (σ : L2.St) (H : Hp) (δ : Ctx) (I : Hp) (as : List Addr) (M : List MO) (P : Hp) (Q : Bool → Hp → Prop),
  Wr K H I as M P → Envr K I as σ δ → Sat K (fun _ _ b b' => b = b') (fun c H' => lowW mg W c σ H') I as P Q (g δ M) → t σ H Q
def ImpA (K : PySem.W.Frag) (mg : Str → Option Value) (W : WX) (t : TA) (g : GA) : Prop := ∀ (σ : L2.St) (H : Hp) (δ : Ctx) (I : Hp) (as : List Addr) (M : List MO) (P : Hp) (Q : List V → Hp → Prop),
  Wr K H I as M P → Envr K I as σ δ → Sat K (Reps K) (fun c H' => lowW mg W c σ H') I as P Q (g δ M) → t σ H Q
def ImpS (K : PySem.W.Frag) (mg : Str → Option Value) (W : WX) (t : TS) (g : GS) : Prop := ∀ (σ : L2.St) (H : Hp) (δ : Ctx) (I : Hp) (as : List Addr) (M : List MO) (P : Hp) (E : Ends),
  Wr K H I as M P → Envr K I as σ δ → SatS K (lowW mg W) I as P E (g δ M) → t E σ H
structure XE (X : Cx) (W : WX) (e : Expr) (t : TE) (g : GE) : Prop where
  pe : PE X e t
  im : ImpE X.K X.mg W t g
structure XT (X : Cx) (W : WX) (e : Expr) (t : TT) (g : GB) : Prop where
  pe : PT X e t
  im : ImpT X.K X.mg W t g
structure XW (X : Cx) (W : WX) (e : Expr) (t : TT) (g : GB) : Prop where
  pe : PW X e t
  im : ImpT X.K X.mg W t g
structure XA (X : Cx) (W : WX) (es : List Expr) (t : TA) (g : GA) : Prop where
  pe : PA X es t
  im : ImpA X.K X.mg W t g
structure XS (X : Cx) (W : WX) (st : Stmt) (t : TS) (g : GS) : Prop where
  pe : PS X st t
  im : ImpS X.K X.mg W t g
structure XSs (X : Cx) (W : WX) (sts : List Stmt) (t : TS) (g : GS) : Prop where
  pe : PSs X sts t
  im : ImpS X.K X.mg W t g

/-! ### what data an address shows -/
def listOf (M : List MO) : D → Option (List D)
  | .lst xs => some xs
  | .rol xs => some xs
  | .ref k => match M[k]? with
    | some (.lst xs) => some xs
    | _ => none
  | _ => none
/-- a list that may be the operand of + and * -/
def listOfT (M : List MO) : D → Option (List D)
  | .lst xs => some xs
  | .ref k => match M[k]? with
    | some (.lst xs) => some xs
    | _ => none
  | _ => none
def tupOf : D → Option (List D)
  | .tup xs => some xs
  | _ => none
section
variable {K : PySem.W.Frag} {H I P : Hp} {as : List Addr} {M : List MO}
theorem Wr.seqT (w : Wr K H I as M P) {a : Addr} {xs : List V} (h : SqT K I a xs) : SqT K H a xs := Evl.ex_t w.sub h
theorem Wr.seqL (w : Wr K H I as M P) {a : Addr} {xs : List V} (h : SqL K I a xs) : SqL K H a xs := Evl.ex_l w.sub h
theorem Rep.listT (w : Wr K H I as M P) {v : V} {d : D} {ds : List D} (r : Rep K I as v d) (h : listOfT M d = some ds) : ∃ a vs, v = .ref a ∧ H a = some (.lst vs) ∧ Reps K I as vs ds := by
  cases r with
  | lst h1 h2 =>
    cases h
    exact ⟨_, _, rfl, w.sub _ _ h1, h2⟩
  | @ref k a h1 =>
    obtain ⟨o, ho, _, _, m⟩ := w.at h1
    unfold listOfT at h
    cases o with
    | dct kvs => simp [ho] at h
    | lst xs =>
      simp only [ho, Option.some.injEq] at h
      subst h
      obtain ⟨vs, e, r⟩ := m
      exact ⟨_, _, rfl, e, r⟩
  | _ => cases h
theorem Rep.list (w : Wr K H I as M P) {v : V} {d : D} {ds : List D} (r : Rep K I as v d) (h : listOf M d = some ds) : ∃ a vs, v = .ref a ∧ SqL K H a vs ∧ Reps K I as vs ds := by
  cases r with
  | lst h1 h2 =>
    cases h
    exact ⟨_, _, rfl, .of (w.sub _ _ h1), h2⟩
  | rol h1 h2 =>
    cases h
    exact ⟨_, _, rfl, w.seqL h1, h2⟩
  | @ref k a h1 =>
    obtain ⟨o, ho, _, _, m⟩ := w.at h1
    unfold listOf at h
    cases o with
    | dct kvs => simp [ho] at h
    | lst xs =>
      simp only [ho, Option.some.injEq] at h
      subst h
      obtain ⟨vs, e, r⟩ := m
      exact ⟨_, _, rfl, .of e, r⟩
  | _ => cases h
theorem Rep.tupl (w : Wr K H I as M P) {v : V} {d : D} {ds : List D} (r : Rep K I as v d) (h : tupOf d = some ds) : ∃ a vs, v = .ref a ∧ SqT K H a vs ∧ Reps K I as vs ds := by
  cases r with
  | tup h1 h2 =>
    cases h
    exact ⟨_, _, rfl, w.seqT h1, h2⟩
  | _ => cases h
theorem Rep.int_inv {v : V} {i : Int} (r : Rep K I as v (.int i)) : v = .int i := by cases r; rfl
theorem Rep.bl_inv {v : V} {b : Bool} (r : Rep K I as v (.bl b)) : v = .bl b := by cases r; rfl
theorem Rep.str_inv {v : V} {b : Str} (r : Rep K I as v (.str b)) : v = .str b := by cases r; rfl
theorem Rep.non_inv {v : V} (r : Rep K I as v .non) : v = .non := by cases r; rfl
end

/-! ### operations by values -/
abbrev OD := D → D → List MO → R D
def OpD (K : PySem.W.Frag) (r : R2) (o : OD) : Prop := ∀ (H I : Hp) (as : List Addr) (M : List MO) (P : Hp) (x y : V) (d e : D) (Wf : Str → Hp → Prop) (Q : VK),
  Wr K H I as M P → Rep K I as x d → Rep K I as y e → Sat K (Rep K) Wf I as P Q (o d e M) → r x y H Q
abbrev OU := D → List MO → R D
def OpU (K : PySem.W.Frag) (r : V → Hp → VK → Prop) (o : OU) : Prop := ∀ (H I : Hp) (as : List Addr) (M : List MO) (P : Hp) (x : V) (d : D) (Wf : Str → Hp → Prop) (Q : VK),
  Wr K H I as M P → Rep K I as x d → Sat K (Rep K) Wf I as P Q (o d M) → r x H Q
abbrev OC := List D → List MO → R D
def OpC (K : PySem.W.Frag) (r : List V → Hp → VK → Prop) (o : OC) : Prop := ∀ (H I : Hp) (as : List Addr) (M : List MO) (P : Hp) (xs : List V) (ds : List D) (Wf : Str → Hp → Prop) (Q : VK),
  Wr K H I as M P → Reps K I as xs ds → Sat K (Rep K) Wf I as P Q (o ds M) → r xs H Q
section
variable {K : PySem.W.Frag} {H I P : Hp} {as : List Addr} {M : List MO} {Q : VK} {Wf : Str → Hp → Prop}
/-- a value that changes nothing -/
theorem Sat.now {d : D} {v : V} (h : Sat K (Rep K) Wf I as P Q (.ok d M)) (w : Wr K H I as M P) (r : Rep K I as v d) : Q v H := h v H I as (Gr.refl I as) w r
/-- a new tuple -/
theorem Sat.newTup {ds : List D} {vs : List V} (h : Sat K (Rep K) Wf I as P Q (.ok (.tup ds) M)) (w : Wr K H I as M P) (r : Reps K I as vs ds) {p : Addr} (hp : H p = none) : Q (.ref p) (upd H p (.tup vs)) := by
  obtain ⟨w', g⟩ := w.newI hp (.tup vs)
  exact h _ _ _ _ g w' (.tup (.of upd_same) (r.mono g))
/-- a new list that never changes -/
theorem Sat.newLst {ds : List D} {vs : List V} (h : Sat K (Rep K) Wf I as P Q (.ok (.lst ds) M)) (w : Wr K H I as M P) (r : Reps K I as vs ds) {p : Addr} (hp : H p = none) : Q (.ref p) (upd H p (.lst vs)) := by
  obtain ⟨w', g⟩ := w.newI hp (.lst vs)
  exact h _ _ _ _ g w' (.lst upd_same (r.mono g))
/-- a new list that may change -/
theorem Sat.newRef {ds : List D} {vs : List V} (h : Sat K (Rep K) Wf I as P Q (.ok (.ref M.length) (M ++ [.lst ds]))) (w : Wr K H I as M P) (r : Reps K I as vs ds) {p : Addr} (hp : H p = none) : Q (.ref p) (upd H p (.lst vs)) := by
  have w' := w.newM hp (.lst vs) (.lst ds) ⟨vs, upd_same, r⟩
  refine h _ _ _ _ (Gr.more I as [p]) w' (.ref ?_)
  rw [← w.len, List.getElem?_append_right (Nat.le_refl _), Nat.sub_self]
  rfl
end

def oI2 (f : Int → Int → D) : OD := fun x y M => match x, y with
  | .int i, .int j => .ok (f i j) M
  | _, _ => .bad
open Classical in
noncomputable def oI2c (C : Int → Int → Prop) (f : Int → Int → D) : OD := fun x y M => match x, y with
  | .int i, .int j => if C i j then .ok (f i j) M else .bad
  | _, _ => .bad
def V2D : V → D
  | .int i => .int i
  | .bl b => .bl b
  | _ => .non
theorem opd_I0 {K : PySem.W.Frag} {f : Int → Int → V} {g : Int → Int → D} (h : ∀ i j (I : Hp) (as : List Addr), Rep K I as (f i j) (g i j)) : OpD K (rI0 f) (oI2 g) := by
  intro H I as M P x y d e Wf Q w rx ry s
  unfold oI2 at s
  split at s
  · cases rx; cases ry
    exact ⟨_, _, rfl, rfl, s.now w (h _ _ _ _)⟩
  · exact s.elim
theorem opd_I {K : PySem.W.Frag} {C : Int → Int → Prop} {Cb : Int → Int → Prop} {f : Int → Int → V} {g : Int → Int → D} (hc : ∀ i j, Cb i j → C i j) (h : ∀ i j (I : Hp) (as : List Addr), Rep K I as (f i j) (g i j)) : OpD K (rI C f) (oI2c Cb g) := by
  intro H I as M P x y d e Wf Q w rx ry s
  unfold oI2c at s
  split at s
  · split at s
    · rename_i c
      cases rx; cases ry
      exact ⟨_, _, rfl, rfl, hc _ _ c, s.now w (h _ _ _ _)⟩
    · exact s.elim
  · exact s.elim
def CMulB (i j : Int) : Prop := ((-(2 ^ 64) < i ∧ i < 2 ^ 64) ∨ (-(2 ^ 64) < j ∧ j < 2 ^ 64)) ∨ i.natAbs.log2 + j.natAbs.log2 < 1000000
def CDivB (_ j : Int) : Prop := 0 < j ∧ j.natAbs.log2 < 9000
def CModB (_ j : Int) : Prop := 0 < j
def CPowB (i j : Int) : Prop := (0 ≤ j ∧ j ≤ 1000000) ∧ i.natAbs < 2 ^ 64
theorem op_mulG {X : Cx} : OpR X (binaryOp .Mult) (rI CMulB fun i j => .int (i * j)) := by
  intro pins s σ H x y v u Q I rx ry h
  obtain ⟨i, j, rfl, rfl, c, q⟩ := h
  unfold CMulB at c
  rcases c with (c | c) | c
  · exact op_mul pins s σ H _ _ v u Q I rx ry ⟨i, j, rfl, rfl, .inl c, q⟩
  · exact op_mul pins s σ H _ _ v u Q I rx ry ⟨i, j, rfl, rfl, .inr c, q⟩
  · exact op_mulW pins s σ H _ _ v u Q I rx ry ⟨i, j, rfl, rfl, c, q⟩

/-- + -/
def bigN (n : Nat) : Prop := n ≤ 100000
open Classical in
noncomputable def oAdd : OD := fun x y M => match x, y with
  | .int i, .int j => .ok (.int (i + j)) M
  | .tup xs, .tup ys => if bigN (xs.length + ys.length) then .ok (.tup (xs ++ ys)) M else .bad
  | x, y => match listOfT M x, listOfT M y with
    | some xs, some ys => if bigN (xs.length + ys.length) then .ok (.lst (xs ++ ys)) M else .bad
    | _, _ => .bad
def rAddG (K : PySem.W.Frag) : R2 := fun x y H Q => rI0 (fun i j => .int (i + j)) x y H Q ∨ rCatA K x y H Q ∨ rCat x y H Q
theorem op_addG {X : Cx} : OpR X (binaryOp .Add) (rAddG X.K) := op_add.or (op_catA.or op_cat)
theorem big_le {n : Nat} (h : bigN n) : n ≤ sizeLine := Evl.sz_of h
theorem opd_add {K : PySem.W.Frag} : OpD K (rAddG K) oAdd := by
  intro H I as M P x y d e Wf Q w rx ry s
  unfold oAdd at s
  split at s
  · cases rx; cases ry
    exact .inl ⟨_, _, rfl, rfl, s.now w (.int _)⟩
  · rename_i xs ys
    split at s
    · rename_i hb
      obtain ⟨a, vs, rfl, h1, r1⟩ := rx.tupl w rfl
      obtain ⟨b, us, rfl, h2, r2⟩ := ry.tupl w rfl
      refine .inr (.inl ⟨a, b, vs, us, rfl, rfl, h1, h2, by rw [r1.len, r2.len]; exact big_le hb, fun e => ?_, fun _ e => ?_, fun _ _ p hp => ?_⟩)
      · subst e
        cases r1
        exact s.now w ry
      · subst e
        cases r2
        rw [List.append_nil] at s
        exact s.now w rx
      · exact s.newTup w (r1.append r2) hp
    · exact s.elim
  · split at s
    · rename_i xs ys e1 e2
      split at s
      · rename_i hb
        obtain ⟨a, vs, rfl, h1, r1⟩ := rx.listT w e1
        obtain ⟨b, us, rfl, h2, r2⟩ := ry.listT w e2
        exact .inr (.inr ⟨a, b, vs, us, rfl, rfl, h1, h2, by rw [r1.len, r2.len]; exact big_le hb, fun p hp => s.newLst w (r1.append r2) hp⟩)
      · exact s.elim
    · exact s.elim

/-! ### == over data -/
mutual
def D.py : D → Option PyData
  | .non => some .none
  | .bl b => some (.bool b)
  | .int i => some (.int i)
  | .str s => some (.str s)
  | .tup xs => (D.pys xs).map .tuple
  | .lst xs => (D.pys xs).map .list
  | .rol xs => (D.pys xs).map .list
  | .ref _ => none
  | .obj _ => none
  | .fn _ => none
  | .dct => none
def D.pys : List D → Option (List PyData)
  | [] => some []
  | x :: xs => match D.py x, D.pys xs with
    | some p, some ps => some (p :: ps)
    | _, _ => none
end
def pyM (M : List MO) : D → Option PyData
  | .ref k => match M[k]? with
    | some (.lst xs) => (D.pys xs).map .list
    | _ => none
  | d => d.py
mutual
theorem Rep.dp {K : PySem.W.Frag} {H I P : Hp} {as : List Addr} {M : List MO} (w : Wr K H I as M P) : ∀ {v : V} {d : D} {p : PyData}, Rep K I as v d → d.py = some p → Dp K H v p
  | _, _, _, .non, h => by cases h; exact .non
  | _, _, _, .bl b, h => by cases h; exact .bl b
  | _, _, _, .int i, h => by cases h; exact .int i
  | _, _, _, .str s, h => by cases h; exact .str s
  | _, _, p, .tup (ds := ds) hs r, h => by
    unfold D.py at h
    cases e : D.pys ds with
    | none => rw [e] at h; cases h
    | some ps =>
      rw [e] at h
      cases h
      exact .tup (w.seqT hs) (Reps.dp w r e)
  | _, _, p, .lst (ds := ds) hs r, h => by
    unfold D.py at h
    cases e : D.pys ds with
    | none => rw [e] at h; cases h
    | some ps =>
      rw [e] at h
      cases h
      exact .lst (.of (w.sub _ _ hs)) (Reps.dp w r e)
  | _, _, p, .rol (ds := ds) hs r, h => by
    unfold D.py at h
    cases e : D.pys ds with
    | none => rw [e] at h; cases h
    | some ps =>
      rw [e] at h
      cases h
      exact .lst (w.seqL hs) (Reps.dp w r e)
  | _, _, _, .ref _, h => by cases h
  | _, _, _, .obj _, h => by cases h
  | _, _, _, .fn _, h => by cases h
  | _, _, _, .dct _, h => by cases h
theorem Reps.dp {K : PySem.W.Frag} {H I P : Hp} {as : List Addr} {M : List MO} (w : Wr K H I as M P) : ∀ {vs : List V} {ds : List D} {ps : List PyData}, Reps K I as vs ds → D.pys ds = some ps → DpAll K H vs ps
  | _, _, _, .nil, h => by cases h; exact .nil
  | _, _, ps, .cons (d := d) (ds := ds) h1 h2, h => by
    unfold D.pys at h
    cases e : d.py with
    | none => rw [e] at h; cases h
    | some p =>
      cases e2 : D.pys ds with
      | none => rw [e, e2] at h; cases h
      | some qs =>
        rw [e, e2] at h
        cases h
        exact .cons (Rep.dp w h1 e) (Reps.dp w h2 e2)
end
theorem Rep.dpM {K : PySem.W.Frag} {H I P : Hp} {as : List Addr} {M : List MO} (w : Wr K H I as M P) {v : V} {d : D} {p : PyData} (r : Rep K I as v d) (h : pyM M d = some p) : Dp K H v p := by
  by_cases hd : ∃ k, d = .ref k
  · obtain ⟨k, rfl⟩ := hd
    unfold pyM at h
    cases r with
    | @ref k a h1 =>
      obtain ⟨o, ho, _, _, m⟩ := w.at h1
      cases o with
      | dct kvs => simp [ho] at h
      | lst xs =>
        simp only [ho] at h
        cases e : D.pys xs with
        | none => rw [e] at h; cases h
        | some ps =>
          rw [e] at h
          cases h
          obtain ⟨vs, e1, r⟩ := m
          exact .lst (.of e1) (Reps.dp w r e)
  · refine r.dp w ?_
    unfold pyM at h
    split at h
    · exact absurd ⟨_, rfl⟩ hd
    · exact h
def eqPy (x y : D) (M : List MO) : Option Bool := match pyM M x, pyM M y with
  | some p, some q => if (SeqAt.shaped p && SeqAt.shaped q) = true then some (PyData.eqv p q) else none
  | _, _ => none
def oEq : OD := fun x y M => match eqPy x y M with
  | some b => .ok (.bl b) M
  | none => .bad
def oNe : OD := fun x y M => match eqPy x y M with
  | some b => .ok (.bl (!b)) M
  | none => .bad
theorem opd_eq {K : PySem.W.Frag} : OpD K (rEqD K) oEq := by
  intro H I as M P x y d e Wf Q w rx ry s
  unfold oEq eqPy at s
  split at s
  · rename_i b hb
    split at hb
    · rename_i p q h1 h2
      split at hb
      · rename_i hs
        cases hb
        rw [Bool.and_eq_true] at hs
        exact ⟨p, q, rx.dpM w h1, ry.dpM w h2, hs.1, hs.2, s.now w (.bl _)⟩
      · cases hb
    · cases hb
  · exact s.elim
theorem opd_ne {K : PySem.W.Frag} : OpD K (rNeD K) oNe := by
  intro H I as M P x y d e Wf Q w rx ry s
  unfold oNe eqPy at s
  split at s
  · rename_i b hb
    split at hb
    · rename_i p q h1 h2
      split at hb
      · rename_i hs
        cases hb
        rw [Bool.and_eq_true] at hs
        exact ⟨p, q, rx.dpM w h1, ry.dpM w h2, hs.1, hs.2, s.now w (.bl _)⟩
      · cases hb
    · cases hb
  · exact s.elim
/-! ### is None -/
def oIsN : OU := fun x M => match x with
  | .non => .ok (.bl true) M
  | .obj _ => .bad
  | _ => .ok (.bl false) M
def oNotN : OU := fun x M => match x with
  | .non => .ok (.bl false) M
  | .obj _ => .bad
  | _ => .ok (.bl true) M
/-! ### items -/
def ixD (xs : List D) (i : Int) : Option D := atI xs i
def oIx : OD := fun x y M => match y with
  | .int i => match tupOf x with
    | some xs => match atI xs i with
      | some d => .ok d M
      | none => .bad
    | none => match listOf M x with
      | some xs => match atI xs i with
        | some d => .ok d M
        | none => .bad
      | none => .bad
  | _ => .bad
theorem Reps.atI {K : PySem.W.Frag} {I : Hp} {as : List Addr} {vs : List V} {ds : List D} {i : Int} {d : D} (r : Reps K I as vs ds) (h : L2.atI ds i = some d) : ∃ v, L2.atI vs i = some v ∧ Rep K I as v d := by
  unfold L2.atI at h ⊢
  rw [r.len]
  cases e : ixN ds.length i with
  | none => rw [e] at h; cases h
  | some j =>
    rw [e] at h
    obtain ⟨v, h1, h2⟩ := r.get (show ds[j]? = some d from h)
    exact ⟨v, h1, h2⟩
theorem opd_ix {K : PySem.W.Frag} : OpD K (rIx K) oIx := by
  intro H I as M P x y d e Wf Q w rx ry s
  unfold oIx at s
  split at s
  · rename_i i
    cases ry
    split at s
    · rename_i xs hx
      split at s
      · rename_i z hz
        obtain ⟨a, vs, rfl, h1, r1⟩ := rx.tupl w hx
        obtain ⟨v, hv, rv⟩ := r1.atI hz
        exact .inr (.inl ⟨a, vs, i, v, rfl, rfl, h1, hv, s.now w rv⟩)
      · exact s.elim
    · split at s
      · rename_i xs hx
        split at s
        · rename_i z hz
          obtain ⟨a, vs, rfl, h1, r1⟩ := rx.list w hx
          obtain ⟨v, hv, rv⟩ := r1.atI hz
          exact .inl ⟨a, vs, i, v, rfl, rfl, h1, hv, s.now w rv⟩
        · exact s.elim
      · exact s.elim
  · exact s.elim
/-! ### slices -/
def cutD (xs : List D) (lo hi : Option Int) : List D := (xs.drop (HT.sIx xs.length 0 lo)).take (HT.sIx xs.length xs.length hi - HT.sIx xs.length 0 lo)
theorem Reps.cut {K : PySem.W.Frag} {I : Hp} {as : List Addr} {vs : List V} {ds : List D} (r : Reps K I as vs ds) (lo hi : Option Int) : Reps K I as (cutV vs lo hi) (cutD ds lo hi) := by
  unfold cutV cutD
  rw [r.len]
  exact (r.drop _).take _
def oSl (x : D) (lo hi : Option Int) (M : List MO) : R D := match tupOf x with
  | some xs => .ok (.tup (cutD xs lo hi)) M
  | none => match listOf M x with
    | some xs => .ok (.lst (cutD xs lo hi)) M
    | none => .bad
def rSlG (K : PySem.W.Frag) : V → Option Int → Option Int → Hp → VK → Prop := fun x lo hi H Q => rSlA K x lo hi H Q ∨ rSlL K x lo hi H Q
theorem sl_G {X : Cx} : SlR X (rSlG X.K) := SlR.or sl_tupA sl_list
theorem opd_sl {K : PySem.W.Frag} {H I : Hp} {as : List Addr} {M : List MO} {P : Hp} {x : V} {d : D} {lo hi : Option Int} {Wf : Str → Hp → Prop} {Q : VK}
    (w : Wr K H I as M P) (rx : Rep K I as x d) (s : Sat K (Rep K) Wf I as P Q (oSl d lo hi M)) : rSlG K x lo hi H Q := by
  unfold oSl at s
  split at s
  · rename_i xs hx
    obtain ⟨a, vs, rfl, h1, r1⟩ := rx.tupl w hx
    refine .inl ⟨a, vs, rfl, h1, fun ⟨e1, e2⟩ => ?_, fun _ p hp => s.newTup w (r1.cut lo hi) hp⟩
    have hd : d = .tup xs := by
      cases d <;> first | (cases hx; rfl) | cases hx
    subst hd
    refine s.now w ?_
    have e : cutD xs lo hi = xs := by
      unfold cutD
      rw [r1.len] at e1 e2
      rw [e1, e2, List.drop_zero, Nat.sub_zero, List.take_length]
    rw [e]
    exact rx
  · split at s
    · rename_i xs hx
      obtain ⟨a, vs, rfl, h1, r1⟩ := rx.list w hx
      exact .inr ⟨a, vs, rfl, h1, fun p hp => s.newLst w (r1.cut lo hi) hp⟩
    · exact s.elim
end KM
set_option Elab.async false
set_option linter.all false
set_option maxRecDepth 100000
set_option maxHeartbeats 2000000
namespace KM
open PySem L2 PySem.Spec PyProof.Rows

/-! ### what the pieces come to -/
def gVar (i : Nat) : GE := fun δ M => match δ[i]? with
  | some (some d) => .ok d M
  | _ => .bad
def gC (d : D) : GE := fun _ M => .ok d M
def gOp (o : OD) (ga gb : GE) : GE := fun δ M => (ga δ M).bind fun x M1 => (gb δ M1).bind fun y M2 => o x y M2
def gUn (o : OU) (ga : GE) : GE := fun δ M => (ga δ M).bind fun x M1 => o x M1
def gANil : GA := fun _ M => .ok [] M
def gACons (ga : GE) (gr : GA) : GA := fun δ M => (ga δ M).bind fun x M1 => (gr δ M1).bind fun xs M2 => .ok (x :: xs) M2
def gCall (m : OC) (ga : GA) : GE := fun δ M => (ga δ M).bind fun ds M1 => m ds M1
open Classical in
noncomputable def gETup (ga : GA) : GE := fun δ M => (ga δ M).bind fun ds M1 => if bigN ds.length then .ok (.tup ds) M1 else .bad
open Classical in
noncomputable def gLst (ga : GA) : GE := fun δ M => (ga δ M).bind fun ds M1 => if bigN ds.length then .ok (.lst ds) M1 else .bad
open Classical in
noncomputable def gLstM (ga : GA) : GE := fun δ M => (ga δ M).bind fun ds M1 => if bigN ds.length then .ok (.ref M1.length) (M1 ++ [.lst ds]) else .bad
def gTest (ga : GE) : GB := fun δ M => (ga δ M).bind fun x M1 => match x with
  | .bl b => .ok b M1
  | _ => .bad
def trD (M : List MO) : D → Option Bool
  | .non => some false
  | .bl b => some b
  | .int i => some (i != 0)
  | .tup xs => some (!xs.isEmpty)
  | d => match listOf M d with
    | some xs => some (!xs.isEmpty)
    | none => none
def gTru (ga : GE) : GB := fun δ M => (ga δ M).bind fun x M1 => match trD M1 x with
  | some b => .ok b M1
  | none => .bad
def gAnd (ga gb : GB) : GB := fun δ M => (ga δ M).bind fun x M1 => if x = true then gb δ M1 else .ok false M1
def gOr (ga gb : GB) : GB := fun δ M => (ga δ M).bind fun x M1 => if x = true then .ok true M1 else gb δ M1
def gNot (ga : GB) : GB := fun δ M => (ga δ M).bind fun x M1 => .ok (!x) M1
def gAndV (ga gb : GE) : GE := fun δ M => (ga δ M).bind fun x M1 => match x with
  | .bl true => gb δ M1
  | .bl false => .ok (.bl false) M1
  | _ => .bad
def gOrV (ga gb : GE) : GE := fun δ M => (ga δ M).bind fun x M1 => match x with
  | .bl true => .ok (.bl true) M1
  | .bl false => gb δ M1
  | _ => .bad
def gNotV (ga : GE) : GE := fun δ M => (ga δ M).bind fun x M1 => match x with
  | .bl b => .ok (.bl (!b)) M1
  | _ => .bad
def gIfE (gc : GB) (ga gb : GE) : GE := fun δ M => (gc δ M).bind fun x M1 => if x = true then ga δ M1 else gb δ M1
def gChain (o o' : OD) (ga gb gc : GE) : GE := fun δ M => (ga δ M).bind fun x M1 => (gb δ M1).bind fun y M2 => (o x y M2).bind fun z M3 => match z with
  | .bl true => (gc δ M3).bind fun u M4 => o' y u M4
  | .bl false => .ok (.bl false) M3
  | _ => .bad
abbrev GO := Ctx → List MO → R (Option Int)
def gNoP : GO := fun _ M => .ok none M
def gP (ga : GE) : GO := fun δ M => (ga δ M).bind fun x M1 => match x with
  | .int i => .ok (some i) M1
  | _ => .bad
def gSl (ga : GE) (gl gh : GO) : GE := fun δ M => (ga δ M).bind fun x M1 => (gl δ M1).bind fun lo M2 => (gh δ M2).bind fun hi M3 => oSl x lo hi M3

def ImpO (K : PySem.W.Frag) (mg : Str → Option Value) (W : WX) (t : TO) (g : GO) : Prop := ∀ (σ : L2.St) (H : Hp) (δ : Ctx) (I : Hp) (as : List Addr) (M : List MO) (P : Hp) (Q : Option Int → Hp → Prop),
  Wr K H I as M P → Envr K I as σ δ → Sat K (fun _ _ b b' => b = b') (fun c H' => lowW mg W c σ H') I as P Q (g δ M) → t σ H Q
structure XO (X : Cx) (W : WX) (e : Option Expr) (t : TO) (g : GO) : Prop where
  pe : PO X e t
  im : ImpO X.K X.mg W t g

section
variable {X : Cx} {W : WX} {a b c e : Expr} {es : List Expr} {pos p : Pos} {ta tb tc : TE} {ga gb gc : GE} {t : TA} {g : GA}
theorem xe_v (i : Nat) {x : Str} (hN : X.N[i]? = some x := by rfl) (hv : Vis X.env.scope x := by first | exact Or.inl rfl | exact Or.inr (Or.inl rfl) | exact Or.inr (Or.inr rfl)) (hd : (x == ("__debug__" : Str)) = false := by decide)
    (hcd : (x == ("__classdict__" : Str)) = false := by decide) : XE X W (.Name x pos) (tVar i) (gVar i) := by
  refine ⟨pe_var hN hv hd hcd, fun σ H δ I as M P Q w en s => ?_⟩
  unfold gVar at s
  split at s
  · rename_i d hd
    obtain ⟨v, h1, h2⟩ := en.at_ i d hd
    exact ⟨v, h1, s.now w h2⟩
  · exact s.elim
theorem impE_C {K : PySem.W.Frag} {mg : Str → Option Value} {v : V} {d : D} (h : ∀ (I : Hp) (as : List Addr), Rep K I as v d) : ImpE K mg W (tC v) (gC d) := fun σ H δ I as M P Q w en s => s.now w (h I as)
theorem xe_int {i : Int} {j} : XE X W (.Constant (.int i) j pos) (tC (.int i)) (gC (.int i)) := ⟨pe_int, impE_C fun _ _ => .int _⟩
theorem xe_bl {i : Bool} {j} : XE X W (.Constant (.bool i) j pos) (tC (.bl i)) (gC (.bl i)) := ⟨pe_bl, impE_C fun _ _ => .bl _⟩
theorem xe_non {j} : XE X W (.Constant .none j pos) (tC .non) (gC .non) := ⟨pe_non, impE_C fun _ _ => .non⟩
theorem xe_str {i : Str} {j} : XE X W (.Constant (.str i) j pos) (tC (.str i)) (gC (.str i)) := ⟨pe_str, impE_C fun _ _ => .str _⟩
/-- a module's constant -/
structure GlobC (K : PySem.W.Frag) (mg : Str → Option Value) (x : Str) (d : D) : Prop where
  ex : ∃ (v : V) (u : Value), mg x = some u ∧ RelV v u ∧ ∀ (I : Hp) (as : List Addr), Rep K I as v d
theorem xe_glob {x : Str} {d : D} {v : V} {u : Value} (hm : X.mg x = some u) (r : RelV v u) (h : ∀ (I : Hp) (as : List Addr), Rep X.K I as v d) (hg : Gl X x := by rfl) (hd : (x == ("__debug__" : Str)) = false := by decide) : XE X W (.Name x pos) (tC v) (gC d) :=
  ⟨pe_glob hg hm r hd, impE_C h⟩
theorem xe_op {op : Operator} {r : R2} {o : OD} (ho : OpR X (binaryOp op) r) (hd : OpD X.K r o) (ha : XE X W a ta ga) (hb : XE X W b tb gb) : XE X W (.BinOp a op b pos) (tOp r ta tb) (gOp o ga gb) := by
  refine ⟨pe_op ho ha.pe hb.pe, fun σ H δ I as M P Q w en s => ?_⟩
  refine ha.im σ H δ I as M P _ w en (Sat.bind s fun x M1 v H1 I1 as1 _ g1 w1 r1 s1 => ?_)
  refine hb.im σ H1 δ I1 as1 M1 P _ w1 (en.mono g1) (Sat.bind s1 fun y M2 u H2 I2 as2 _ g2 w2 r2 s2 => ?_)
  exact hd H2 I2 as2 M2 P v u x y _ Q w2 (r1.mono g2) r2 s2
theorem xe_cmp {op : CmpOp} {r : R2} {o : OD} (ho : OpR X (compareOp op) r) (hd : OpD X.K r o) (ha : XE X W a ta ga) (hb : XE X W b tb gb) (hm : behindInMarks op b = false := by first | exact nomark _ | rfl) : XE X W (.Compare a [op] [b] pos) (tOp r ta tb) (gOp o ga gb) := by
  refine ⟨pe_cmpR ho ha.pe hb.pe hm, fun σ H δ I as M P Q w en s => ?_⟩
  refine ha.im σ H δ I as M P _ w en (Sat.bind s fun x M1 v H1 I1 as1 _ g1 w1 r1 s1 => ?_)
  refine hb.im σ H1 δ I1 as1 M1 P _ w1 (en.mono g1) (Sat.bind s1 fun y M2 u H2 I2 as2 _ g2 w2 r2 s2 => ?_)
  exact hd H2 I2 as2 M2 P v u x y _ Q w2 (r1.mono g2) r2 s2
theorem xe_ix {r : R2} {o : OD} (ho : IxR X r) (hd : OpD X.K r o) (ha : XE X W a ta ga) (hb : XE X W b tb gb) (hs : PlainIx b := by exact fun _ _ => rfl) : XE X W (.Subscript a b pos) (tOp r ta tb) (gOp o ga gb) := by
  refine ⟨pe_ix ho ha.pe hb.pe hs, fun σ H δ I as M P Q w en s => ?_⟩
  refine ha.im σ H δ I as M P _ w en (Sat.bind s fun x M1 v H1 I1 as1 _ g1 w1 r1 s1 => ?_)
  refine hb.im σ H1 δ I1 as1 M1 P _ w1 (en.mono g1) (Sat.bind s1 fun y M2 u H2 I2 as2 _ g2 w2 r2 s2 => ?_)
  exact hd H2 I2 as2 M2 P v u x y _ Q w2 (r1.mono g2) r2 s2
theorem xe_un {op : UnaryOp} {r : V → Hp → VK → Prop} {o : OU} (ho : UnR X (unaryOp op) r) (hd : OpU X.K r o) (ha : XE X W a ta ga) : XE X W (.UnaryOp op a pos) (tUn r ta) (gUn o ga) := by
  refine ⟨pe_un ho ha.pe, fun σ H δ I as M P Q w en s => ?_⟩
  refine ha.im σ H δ I as M P _ w en (Sat.bind s fun x M1 v H1 I1 as1 _ g1 w1 r1 s1 => ?_)
  exact hd H1 I1 as1 M1 P v x _ Q w1 r1 s1
def oNeg : OU := fun x M => match x with
  | .int i => .ok (.int (-i)) M
  | _ => .bad
theorem opu_neg {K : PySem.W.Frag} : OpU K (rU fun i => .int (-i)) oNeg := by
  intro H I as M P x d Wf Q w rx s
  unfold oNeg at s
  split at s
  · cases rx
    exact ⟨_, rfl, s.now w (.int _)⟩
  · exact s.elim
/-- is None -/
theorem opd_isN {K : PySem.W.Frag} {H I : Hp} {as : List Addr} {M : List MO} {P : Hp} {x : V} {d : D} {Wf : Str → Hp → Prop} {Q : VK}
    (w : Wr K H I as M P) (rx : Rep K I as x d) (s : Sat K (Rep K) Wf I as P Q (oIsN d M)) : Q (.bl (decide (x = .non))) H := by
  unfold oIsN at s
  cases rx with
  | non => exact s.now w (.bl true)
  | obj a => exact s.elim
  | _ => exact s.now w (.bl false)
theorem xe_isN (ha : XE X W a ta ga) {j pos'} : XE X W (.Compare a [.Is] [.Constant .none j pos'] pos) (tOp (fun x y H Q => y = .non ∧ Q (.bl (decide (x = .non))) H) ta (tC .non)) (gUn oIsN ga) := by
  refine ⟨pe_cmpR op_isN ha.pe pe_non (nomark _), fun σ H δ I as M P Q w en s => ?_⟩
  refine ha.im σ H δ I as M P _ w en (Sat.bind s fun x M1 v H1 I1 as1 _ g1 w1 r1 s1 => ?_)
  exact ⟨rfl, opd_isN w1 r1 s1⟩
theorem opd_notN {K : PySem.W.Frag} {H I : Hp} {as : List Addr} {M : List MO} {P : Hp} {x : V} {d : D} {Wf : Str → Hp → Prop} {Q : VK}
    (w : Wr K H I as M P) (rx : Rep K I as x d) (s : Sat K (Rep K) Wf I as P Q (oNotN d M)) : Q (.bl (!decide (x = .non))) H := by
  unfold oNotN at s
  cases rx with
  | non => exact s.now w (.bl false)
  | obj a => exact s.elim
  | _ => exact s.now w (.bl true)
theorem xe_notN (ha : XE X W a ta ga) {j pos'} : XE X W (.Compare a [.IsNot] [.Constant .none j pos'] pos) (tOp (fun x y H Q => y = .non ∧ Q (.bl (!decide (x = .non))) H) ta (tC .non)) (gUn oNotN ga) := by
  refine ⟨pe_cmpR op_notN ha.pe pe_non (nomark _), fun σ H δ I as M P Q w en s => ?_⟩
  refine ha.im σ H δ I as M P _ w en (Sat.bind s fun x M1 v H1 I1 as1 _ g1 w1 r1 s1 => ?_)
  exact ⟨rfl, opd_notN w1 r1 s1⟩
theorem impE_chain {K : PySem.W.Frag} {mg : Str → Option Value} {r r' : R2} {o o' : OD} (hd : OpD K r o) (hd' : OpD K r' o') (ha : ImpE K mg W ta ga) (hb : ImpE K mg W tb gb) (hc : ImpE K mg W tc gc) : ImpE K mg W (tChain r r' ta tb tc) (gChain o o' ga gb gc) := by
  intro σ H δ I as M P Q w en s
  refine ha σ H δ I as M P _ w en (Sat.bind s fun x M1 v H1 I1 as1 _ g1 w1 r1 s1 => ?_)
  refine hb σ H1 δ I1 as1 M1 P _ w1 (en.mono g1) (Sat.bind s1 fun y M2 u H2 I2 as2 _ g2 w2 r2 s2 => ?_)
  refine hd H2 I2 as2 M2 P v u x y _ _ w2 (r1.mono g2) r2 (Sat.bind s2 fun z M3 q H3 I3 as3 _ g3 w3 r3 s3 => ?_)
  split at s3
  · cases r3
    refine ⟨true, rfl, ?_⟩
    rw [if_pos rfl]
    refine hc σ H3 δ I3 as3 M3 P _ w3 (en.mono (g1.trans (g2.trans g3))) (Sat.bind s3 fun y' M4 u' H4 I4 as4 _ g4 w4 r4 s4 => ?_)
    exact hd' H4 I4 as4 M4 P u u' y y' _ _ w4 (r2.mono (g3.trans g4)) r4 s4
  · cases r3
    refine ⟨false, rfl, ?_⟩
    rw [if_neg Bool.false_ne_true]
    exact s3.now w3 (.bl false)
  · exact s3.elim
theorem xe_chain {op op' : CmpOp} {r r' : R2} {o o' : OD} (ho : OpR X (compareOp op) r) (ho' : OpR X (compareOp op') r') (hd : OpD X.K r o) (hd' : OpD X.K r' o') (ha : XE X W a ta ga) (hb : XE X W b tb gb) (hc : XE X W c tc gc)
    (hm : lastMarks [op, op'] [b, c] = false := by with_unfolding_all rfl) : XE X W (.Compare a [op, op'] [b, c] pos) (tChain r r' ta tb tc) (gChain o o' ga gb gc) :=
  ⟨pe_chain ho ho' ha.pe hb.pe hc.pe hm, impE_chain hd hd' ha.im hb.im hc.im⟩
theorem impT_test {K : PySem.W.Frag} {mg : Str → Option Value} (ha : ImpE K mg W ta ga) : ImpT K mg W (tTest ta) (gTest ga) := by
  intro σ H δ I as M P Q w en s
  refine ha σ H δ I as M P _ w en (Sat.bind s fun x M1 v H1 I1 as1 _ g1 w1 r1 s1 => ?_)
  split at s1
  · cases r1
    exact ⟨_, rfl, s1 _ H1 I1 as1 (Gr.refl _ _) w1 rfl⟩
  · exact s1.elim
theorem xt_cmp {op : CmpOp} {r : R2} {o : OD} (ho : OpR X (compareOp op) r) (hd : OpD X.K r o) (ha : XE X W a ta ga) (hb : XE X W b tb gb) (hm : behindInMarks op b = false := by first | exact nomark _ | rfl) : XT X W (.Compare a [op] [b] pos) (tTest (tOp r ta tb)) (gTest (gOp o ga gb)) :=
  ⟨pt_cmpR ho ha.pe hb.pe hm, impT_test (xe_cmp (pos := pos) ho hd ha hb hm).im⟩
theorem xt_isN (ha : XE X W a ta ga) {j pos'} : XT X W (.Compare a [.Is] [.Constant .none j pos'] pos) (tTest (tOp (fun x y H Q => y = .non ∧ Q (.bl (decide (x = .non))) H) ta (tC .non))) (gTest (gUn oIsN ga)) :=
  ⟨pt_cmpR op_isN ha.pe pe_non (nomark _), impT_test (xe_isN (pos := pos) (j := j) (pos' := pos') ha).im⟩
theorem xt_notN (ha : XE X W a ta ga) {j pos'} : XT X W (.Compare a [.IsNot] [.Constant .none j pos'] pos) (tTest (tOp (fun x y H Q => y = .non ∧ Q (.bl (!decide (x = .non))) H) ta (tC .non))) (gTest (gUn oNotN ga)) :=
  ⟨pt_cmpR op_notN ha.pe pe_non (nomark _), impT_test (xe_notN (pos := pos) (j := j) (pos' := pos') ha).im⟩
theorem xt_chain {op op' : CmpOp} {r r' : R2} {o o' : OD} (ho : OpR X (compareOp op) r) (ho' : OpR X (compareOp op') r') (hd : OpD X.K r o) (hd' : OpD X.K r' o') (ha : XE X W a ta ga) (hb : XE X W b tb gb) (hc : XE X W c tc gc)
    (hm : lastMarks [op, op'] [b, c] = false := by with_unfolding_all rfl) : XT X W (.Compare a [op, op'] [b, c] pos) (tTest (tChain r r' ta tb tc)) (gTest (gChain o o' ga gb gc)) :=
  ⟨pt_chain ho ho' ha.pe hb.pe hc.pe hm, impT_test (impE_chain hd hd' ha.im hb.im hc.im)⟩
/-- an expression that is True or False, as a test -/
theorem xt_val (ha : XE X W a ta ga) (he : ∀ whole, isTrue a X.env whole = (do let v ← whole; standAt a.pos; holding [v] (truthy v)) := by intro _; rfl) : XT X W a (tB ta) (gTest ga) :=
  ⟨pt_val ha.pe he, impT_test ha.im⟩
theorem xt_tru (ha : XE X W a ta ga) (he : ∀ whole, isTrue a X.env whole = (do let v ← whole; standAt a.pos; holding [v] (truthy v)) := by intro _; rfl) : XT X W a (fun σ H Q => ta σ H fun x H' => ∃ k, TruV X.K x H' k ∧ Q k H') (gTru ga) := by
  refine ⟨pt_truth ha.pe he, fun σ H δ I as M P Q w en s => ?_⟩
  refine ha.im σ H δ I as M P _ w en (Sat.bind s fun x M1 v H1 I1 as1 _ g1 w1 r1 s1 => ?_)
  split at s1
  · rename_i k hk
    refine ⟨k, ?_, s1 _ H1 I1 as1 (Gr.refl _ _) w1 rfl⟩
    unfold trD at hk
    split at hk
    · cases hk; cases r1; rfl
    · cases hk; cases r1; rfl
    · cases hk; cases r1; rfl
    · cases hk
      obtain ⟨a, vs, rfl, h1, rr⟩ := r1.tupl w1 rfl
      refine .inr (.inl ⟨vs, h1, ?_⟩)
      cases rr <;> rfl
    · split at hk
      · rename_i xs hx
        cases hk
        obtain ⟨a, vs, rfl, h1, rr⟩ := r1.list w1 hx
        refine .inl ⟨vs, h1, ?_⟩
        cases rr <;> rfl
      · cases hk
  · exact s1.elim
variable {tA tB' : TT} {gA gB : GB} {rest : List Expr}
theorem xw_pt (h : XW X W e tA gA) : XT X W e tA gA := ⟨h.pe.pt, h.im⟩
theorem xw_and1 (ha : XT X W a tA gA) : XW X W (.BoolOp .And [a] pos) tA gA := ⟨pw_and1 ha.pe, ha.im⟩
theorem xw_or1 (ha : XT X W a tA gA) : XW X W (.BoolOp .Or [a] pos) tA gA := ⟨pw_or1 ha.pe, ha.im⟩
theorem xw_and (ha : XT X W a tA gA) (hb : XW X W (.BoolOp .And (b :: rest) pos) tB' gB) : XW X W (.BoolOp .And (a :: b :: rest) pos) (tAnd tA tB') (gAnd gA gB) := by
  refine ⟨pw_and ha.pe hb.pe, fun σ H δ I as M P Q w en s => ?_⟩
  refine ha.im σ H δ I as M P _ w en (Sat.bind s fun x M1 v H1 I1 as1 _ g1 w1 r1 s1 => ?_)
  subst r1
  cases v with
  | true => exact hb.im σ H1 δ I1 as1 M1 P Q w1 (en.mono g1) s1
  | false => exact s1 _ H1 I1 as1 (Gr.refl _ _) w1 rfl
theorem xw_or (ha : XT X W a tA gA) (hb : XW X W (.BoolOp .Or (b :: rest) pos) tB' gB) : XW X W (.BoolOp .Or (a :: b :: rest) pos) (tOr tA tB') (gOr gA gB) := by
  refine ⟨pw_or ha.pe hb.pe, fun σ H δ I as M P Q w en s => ?_⟩
  refine ha.im σ H δ I as M P _ w en (Sat.bind s fun x M1 v H1 I1 as1 _ g1 w1 r1 s1 => ?_)
  subst r1
  cases v with
  | false => exact hb.im σ H1 δ I1 as1 M1 P Q w1 (en.mono g1) s1
  | true => exact s1 _ H1 I1 as1 (Gr.refl _ _) w1 rfl
theorem xt_not (ha : XT X W a tA gA) : XT X W (.UnaryOp .Not a pos) (tNot tA) (gNot gA) := by
  refine ⟨pt_not ha.pe, fun σ H δ I as M P Q w en s => ?_⟩
  refine ha.im σ H δ I as M P _ w en (Sat.bind s fun x M1 v H1 I1 as1 _ g1 w1 r1 s1 => ?_)
  subst r1
  exact s1 _ H1 I1 as1 (Gr.refl _ _) w1 rfl
theorem xe_one {op} (h : XE X W a ta ga) : XE X W (.BoolOp op [a] pos) ta ga := ⟨pe_one h.pe, h.im⟩
theorem xe_and (ha : XE X W a ta ga) (hb : XE X W (.BoolOp .And (b :: rest) pos) tb gb) : XE X W (.BoolOp .And (a :: b :: rest) pos) (tAndV ta tb) (gAndV ga gb) := by
  refine ⟨pe_and ha.pe hb.pe, fun σ H δ I as M P Q w en s => ?_⟩
  refine ha.im σ H δ I as M P _ w en (Sat.bind s fun x M1 v H1 I1 as1 _ g1 w1 r1 s1 => ?_)
  split at s1
  · cases r1
    exact ⟨true, rfl, by rw [if_pos rfl]; exact hb.im σ H1 δ I1 as1 M1 P Q w1 (en.mono g1) s1⟩
  · cases r1
    exact ⟨false, rfl, by rw [if_neg Bool.false_ne_true]; exact s1.now w1 (.bl false)⟩
  · exact s1.elim
theorem xe_or (ha : XE X W a ta ga) (hb : XE X W (.BoolOp .Or (b :: rest) pos) tb gb) : XE X W (.BoolOp .Or (a :: b :: rest) pos) (tOrV ta tb) (gOrV ga gb) := by
  refine ⟨pe_or ha.pe hb.pe, fun σ H δ I as M P Q w en s => ?_⟩
  refine ha.im σ H δ I as M P _ w en (Sat.bind s fun x M1 v H1 I1 as1 _ g1 w1 r1 s1 => ?_)
  split at s1
  · cases r1
    exact ⟨true, rfl, by rw [if_pos rfl]; exact s1.now w1 (.bl true)⟩
  · cases r1
    exact ⟨false, rfl, by rw [if_neg Bool.false_ne_true]; exact hb.im σ H1 δ I1 as1 M1 P Q w1 (en.mono g1) s1⟩
  · exact s1.elim
theorem xe_not (ha : XE X W a ta ga) : XE X W (.UnaryOp .Not a pos) (tNotV ta) (gNotV ga) := by
  refine ⟨pe_not ha.pe, fun σ H δ I as M P Q w en s => ?_⟩
  refine ha.im σ H δ I as M P _ w en (Sat.bind s fun x M1 v H1 I1 as1 _ g1 w1 r1 s1 => ?_)
  split at s1
  · cases r1
    exact ⟨_, rfl, s1.now w1 (.bl _)⟩
  · exact s1.elim
theorem xe_if (hc : XT X W c tA gA) (ha : XE X W a ta ga) (hb : XE X W b tb gb) : XE X W (.IfExp c a b pos) (tIf tA ta tb) (gIfE gA ga gb) := by
  refine ⟨pe_ifExp hc.pe ha.pe hb.pe, fun σ H δ I as M P Q w en s => ?_⟩
  refine hc.im σ H δ I as M P _ w en (Sat.bind s fun x M1 v H1 I1 as1 _ g1 w1 r1 s1 => ?_)
  subst r1
  cases v with
  | true => exact ha.im σ H1 δ I1 as1 M1 P Q w1 (en.mono g1) s1
  | false => exact hb.im σ H1 δ I1 as1 M1 P Q w1 (en.mono g1) s1
theorem xa_nil : XA X W [] tNil gANil := ⟨pa_nil, fun σ H δ I as M P Q w en s => s _ H I as (Gr.refl _ _) w .nil⟩
theorem xa_cons (ha : XE X W e ta ga) (hr : XA X W es t g) (hs : starEach (e :: es) X.env = (false, eval e X.env) :: starEach es X.env := by rfl) : XA X W (e :: es) (tCons ta t) (gACons ga g) := by
  refine ⟨pa_cons ha.pe hr.pe hs, fun σ H δ I as M P Q w en s => ?_⟩
  refine ha.im σ H δ I as M P _ w en (Sat.bind s fun x M1 v H1 I1 as1 _ g1 w1 r1 s1 => ?_)
  refine hr.im σ H1 δ I1 as1 M1 P _ w1 (en.mono g1) (Sat.bind s1 fun xs M2 vs H2 I2 as2 _ g2 w2 r2 s2 => ?_)
  exact s2 _ H2 I2 as2 (Gr.refl _ _) w2 (.cons (r1.mono g2) r2)
theorem xe_tup {x1} (h : XA X W es t g) : XE X W (.Tuple es x1 pos) (tTup t) (gETup g) := by
  refine ⟨pe_tup h.pe, fun σ H δ I as M P Q w en s => ?_⟩
  refine h.im σ H δ I as M P _ w en (Sat.bind s fun xs M1 vs H1 I1 as1 _ g1 w1 r1 s1 => ?_)
  split at s1
  · rename_i hb
    exact ⟨by rw [r1.len]; exact big_le hb, fun p hp => s1.newTup w1 r1 hp⟩
  · exact s1.elim
theorem xe_lst (h : XA X W es t g) : XE X W (.List es pos) (tLst t) (gLst g) := by
  refine ⟨pe_lst h.pe, fun σ H δ I as M P Q w en s => ?_⟩
  refine h.im σ H δ I as M P _ w en (Sat.bind s fun xs M1 vs H1 I1 as1 _ g1 w1 r1 s1 => ?_)
  split at s1
  · rename_i hb
    exact ⟨by rw [r1.len]; exact big_le hb, fun p hp => s1.newLst w1 r1 hp⟩
  · exact s1.elim
theorem xe_lstM (h : XA X W es t g) : XE X W (.List es pos) (tLst t) (gLstM g) := by
  refine ⟨pe_lst h.pe, fun σ H δ I as M P Q w en s => ?_⟩
  refine h.im σ H δ I as M P _ w en (Sat.bind s fun xs M1 vs H1 I1 as1 _ g1 w1 r1 s1 => ?_)
  split at s1
  · rename_i hb
    exact ⟨by rw [r1.len]; exact big_le hb, fun p hp => s1.newRef w1 r1 hp⟩
  · exact s1.elim
theorem impE_CB {K : PySem.W.Frag} {mg : Str → Option Value} {r : List V → Hp → VK → Prop} {o : OC} (ho : OpC K r o) (h : ImpA K mg W t g) : ImpE K mg W (tCB r t) (gCall o g) := by
  intro σ H δ I as M P Q w en s
  refine h σ H δ I as M P _ w en (Sat.bind s fun xs M1 vs H1 I1 as1 _ g1 w1 r1 s1 => ?_)
  exact ho H1 I1 as1 M1 P vs xs _ Q w1 r1 s1
theorem xe_callB {x : Str} {id : String} {r : List V → Hp → VK → Prop} {o : OC} (hc : CallR X (.builtin id) r) (ho : OpC X.K r o) (hm : X.mg x = none) (hv : bootBuiltins x = some (.builtin id)) (ha : XA X W (e :: es) t g) (hg : Gl X x := by rfl) (hn : x ≠ "__name__" := by decide) (hdb : (x == ("__debug__" : Str)) = false := by decide)
    (he : starEach (e :: es) X.env = (false, eval e X.env) :: starEach es X.env := by rfl) (hpl : (backTo pos (starEach es X.env)).any (·.1) = false := by rfl) : XE X W (.Call (.Name x p) (e :: es) [] pos) (tCB r t) (gCall o g) :=
  ⟨pe_callB hc hg hm hv ha.pe hn hdb he hpl, impE_CB ho ha.im⟩
theorem xe_callTy {x : Str} {T : String} {r : List V → Hp → VK → Prop} {o : OC} (hc : CallR X (.type T) r) (ho : OpC X.K r o) (hm : X.mg x = none) (hv : bootBuiltins x = some (.type T)) (ha : XA X W (e :: es) t g) (hg : Gl X x := by rfl) (hn : x ≠ "__name__" := by decide) (hdb : (x == ("__debug__" : Str)) = false := by decide)
    (he : starEach (e :: es) X.env = (false, eval e X.env) :: starEach es X.env := by rfl) (hpl : (backTo pos (starEach es X.env)).any (·.1) = false := by rfl) : XE X W (.Call (.Name x p) (e :: es) [] pos) (tCB r t) (gCall o g) :=
  ⟨pe_callTy hc hg hm hv ha.pe hn hdb he hpl, impE_CB ho ha.im⟩
theorem xe_callBfun {x : Str} {id : String} {r : List V → Hp → VK → Prop} {o : OC} (hc : CallR X (.builtin id) r) (ho : OpC X.K r o) (hm : X.mg x = some (.builtin id)) (ha : XA X W (e :: es) t g) (hg : Gl X x := by rfl) (hdb : (x == ("__debug__" : Str)) = false := by decide)
    (he : starEach (e :: es) X.env = (false, eval e X.env) :: starEach es X.env := by rfl) (hpl : (backTo pos (starEach es X.env)).any (·.1) = false := by rfl) : XE X W (.Call (.Name x p) (e :: es) [] pos) (tCB r t) (gCall o g) :=
  ⟨pe_callBfun hc hg hm ha.pe hdb he hpl, impE_CB ho ha.im⟩
/-! slices -/
theorem xo_none : XO X W none tNoPart gNoP := ⟨po_none, fun σ H δ I as M P Q w en s => s _ H I as (Gr.refl _ _) w rfl⟩
theorem xo_some (h : XE X W a ta ga) : XO X W (some a) (tPart ta) (gP ga) := by
  refine ⟨po_some h.pe, fun σ H δ I as M P Q w en s => ?_⟩
  refine h.im σ H δ I as M P _ w en (Sat.bind s fun x M1 v H1 I1 as1 _ g1 w1 r1 s1 => ?_)
  split at s1
  · cases r1
    exact ⟨_, rfl, s1 _ H1 I1 as1 (Gr.refl _ _) w1 rfl⟩
  · exact s1.elim
theorem xe_slice {lo hi : Option Expr} {p2 : Pos} {tl th : TO} {gl gh : GO} (he : XE X W a ta ga) (hl : XO X W lo tl gl) (hh : XO X W hi th gh) : XE X W (.Subscript a (.Slice lo hi none p2) pos) (tSl (rSlG X.K) ta tl th) (gSl ga gl gh) := by
  refine ⟨pe_slice sl_G he.pe hl.pe hh.pe, fun σ H δ I as M P Q w en s => ?_⟩
  refine he.im σ H δ I as M P _ w en (Sat.bind s fun x M1 v H1 I1 as1 _ g1 w1 r1 s1 => ?_)
  refine hl.im σ H1 δ I1 as1 M1 P _ w1 (en.mono g1) (Sat.bind s1 fun lo M2 lo' H2 I2 as2 _ g2 w2 r2 s2 => ?_)
  subst r2
  refine hh.im σ H2 δ I2 as2 M2 P _ w2 (en.mono (g1.trans g2)) (Sat.bind s2 fun hi M3 hi' H3 I3 as3 _ g3 w3 r3 s3 => ?_)
  subst r3
  exact opd_sl w3 (r1.mono (g2.trans g3)) s3
end

/-! ### calls of defs -/
def spM (K : PySem.W.Frag) (mg : Str → Option Value) (n : Nat) (m : OC) : Sp := fun vs H Q E => vs.length = n ∧ ∃ (ds : List D) (I : Hp) (as : List Addr) (M : List MO) (P : Hp),
  Wr K H I as M P ∧ Reps K I as vs ds ∧ Sat K (Rep K) (fun c H' => ∀ cls, mg c = some cls → E cls none H') I as P Q (m ds M)
structure Callee (P : Program) (w : World) (K : PySem.W.Frag) (mg : Str → Option Value) (base : Heap) (x : Str) (k n : Nat) (m : OC) : Prop where
  ex : ∃ (f : Addr) (fd : FuncData) (ps : List Str), FnOk P w K mg base (L2.CX P w) k f fd ps (spM K mg n m) ∧ mg x = some (.ref f) ∧ PySem.W.keepIn K (.ref f) = true ∧ Binds K fd ps [] ∧ PySem.W.nsIn K mainGlobals x = some (some (.ref f))
section
variable {X : Cx} {W : WX} {e : Expr} {es : List Expr} {pos p : Pos} {t : TA} {g : GA}
theorem impE_call {K : PySem.W.Frag} {mg : Str → Option Value} {n : Nat} {m : OC} (hn : n = (e :: es).length) (hl : ∀ δ M ds M', g δ M = .ok ds M' → ds.length = n) (ha : ImpA K mg W t g) : ImpE K mg W (tCallS (spM K mg n m) (WE W) t) (gCall m g) := by
  intro σ H δ I as M P Q w en s
  refine ha σ H δ I as M P _ w en (Sat.bind s fun xs M1 vs H1 I1 as1 e1 g1 w1 r1 s1 => ?_)
  exact ⟨by rw [r1.len]; exact hl _ _ _ _ e1, xs, I1, as1, M1, P, w1, r1, s1⟩
theorem gNil_len {δ : Ctx} {M : List MO} {ds : List D} {M' : List MO} (h : gANil δ M = .ok ds M') : ds.length = 0 := by
  unfold gANil at h; cases h; rfl
theorem gCons_len {ga : GE} {gr : GA} {n : Nat} (hr : ∀ δ M ds M', gr δ M = .ok ds M' → ds.length = n) {δ : Ctx} {M : List MO} {ds : List D} {M' : List MO} (h : gACons ga gr δ M = .ok ds M') : ds.length = n + 1 := by
  unfold gACons at h
  cases e1 : ga δ M with
  | bad => rw [e1] at h; cases h
  | ex c M1 => rw [e1] at h; cases h
  | ok x M1 =>
    rw [e1] at h
    simp only [R.bind_ok] at h
    cases e2 : gr δ M1 with
    | bad => rw [e2] at h; cases h
    | ex c M2 => rw [e2] at h; cases h
    | ok xs M2 =>
      rw [e2] at h
      simp only [R.bind_ok, R.ok.injEq] at h
      rw [← h.1, List.length_cons, hr _ _ _ _ e2]
theorem xe_call {x : Str} {k n : Nat} {m : OC} (C : Callee X.prog X.w X.K X.mg X.base x k n m) (hr : Room k X.A) (tk : Takes X W) (ha : XA X W (e :: es) t g) (hl : ∀ δ M ds M', g δ M = .ok ds M' → ds.length = n := by first | exact fun _ _ _ _ h => gCons_len (fun _ _ _ _ h => gNil_len h) h | exact fun _ _ _ _ h => gCons_len (fun _ _ _ _ h => gCons_len (fun _ _ _ _ h => gNil_len h) h) h | exact fun _ _ _ _ h => gCons_len (fun _ _ _ _ h => gCons_len (fun _ _ _ _ h => gCons_len (fun _ _ _ _ h => gNil_len h) h) h) h | exact fun _ _ _ _ h => gCons_len (fun _ _ _ _ h => gCons_len (fun _ _ _ _ h => gCons_len (fun _ _ _ _ h => gCons_len (fun _ _ _ _ h => gNil_len h) h) h) h) h)
    (hg : Gl X x := by rfl) (hdb : (x == ("__debug__" : Str)) = false := by decide)
    (he : starEach (e :: es) X.env = (false, eval e X.env) :: starEach es X.env := by rfl) (hpl : (backTo pos (starEach es X.env)).any (·.1) = false := by rfl) :
    XE X W (.Call (.Name x p) (e :: es) [] pos) (tCallS (spM X.K X.mg n m) (WE W) t) (gCall m g) := by
  obtain ⟨f, fd, ps, F, h1, h2, h3, _⟩ := C.ex
  refine ⟨pe_callS F hr hg h1 h2 h3 (fun σ => passAt tk σ) ha.pe hdb he hpl, ?_⟩
  intro σ H δ I as M P Q w en s
  refine ha.im σ H δ I as M P _ w en (Sat.bind s fun xs M1 vs H1 I1 as1 e1 g1 w1 r1 s1 => ?_)
  exact ⟨by rw [r1.len]; exact hl _ _ _ _ e1, xs, I1, as1, M1, P, w1, r1, s1⟩
end
end KM
set_option Elab.async false
set_option linter.all false
set_option maxRecDepth 100000
set_option maxHeartbeats 2000000
namespace KM
open PySem L2 PySem.Spec PyProof.Rows

/-! ### statements -/
def R.toS {α : Type} (r : R α) (δ : Ctx) (f : α → List MO → SR) : SR := match r with
  | .bad => .bad
  | .ok a M => f a M
  | .ex c M => .ex c δ M
@[simp] theorem R.toS_bad {α : Type} (f : α → List MO → SR) (δ : Ctx) : (R.bad).toS δ f = .bad := rfl
@[simp] theorem R.toS_ok {α : Type} (f : α → List MO → SR) (δ : Ctx) (a : α) (M : List MO) : (R.ok a M).toS δ f = f a M := rfl
@[simp] theorem R.toS_ex {α : Type} (f : α → List MO → SR) (δ : Ctx) (c : Str) (M : List MO) : (R.ex c M).toS δ f = .ex c δ M := rfl
def SR.then (r : SR) (f : Ctx → List MO → SR) : SR := match r with
  | .nx δ M => f δ M
  | r => r
@[simp] theorem SR.then_nx (f : Ctx → List MO → SR) (δ : Ctx) (M : List MO) : (SR.nx δ M).then f = f δ M := rfl
@[simp] theorem SR.then_rt (f : Ctx → List MO → SR) (d : D) (M : List MO) : (SR.rt d M).then f = .rt d M := rfl
@[simp] theorem SR.then_bk (f : Ctx → List MO → SR) (δ : Ctx) (M : List MO) : (SR.bk δ M).then f = .bk δ M := rfl
@[simp] theorem SR.then_ct (f : Ctx → List MO → SR) (δ : Ctx) (M : List MO) : (SR.ct δ M).then f = .ct δ M := rfl
@[simp] theorem SR.then_ex (f : Ctx → List MO → SR) (c : Str) (δ : Ctx) (M : List MO) : (SR.ex c δ M).then f = .ex c δ M := rfl
@[simp] theorem SR.then_bad (f : Ctx → List MO → SR) : (SR.bad).then f = .bad := rfl
def gNext : GS := fun δ M => .nx δ M
def gSeq (g h : GS) : GS := fun δ M => (g δ M).then h
def gSet (i : Nat) (ge : GE) : GS := fun δ M => (ge δ M).toS δ fun d M1 => .nx (δ.set i (some d)) M1
def gDrop (ge : GE) : GS := fun δ M => (ge δ M).toS δ fun _ M1 => .nx δ M1
def gRet (ge : GE) : GS := fun δ M => (ge δ M).toS δ fun d M1 => .rt d M1
def gRetN : GS := fun δ M => .rt .non M
def gIf (gc : GB) (g h : GS) : GS := fun δ M => (gc δ M).toS δ fun b M1 => if b = true then g δ M1 else h δ M1
def gBreak : GS := fun δ M => .bk δ M
def gCont : GS := fun δ M => .ct δ M
def gNever : GS := fun _ _ => .bad
def gRaise (c : Str) : GS := fun δ M => .ex c δ M
abbrev GG := D → GS
def gtName (i : Nat) : GG := fun d δ M => .nx (δ.set i (some d)) M
def gtNil : List D → GS := fun ds δ M => match ds with
  | [] => .nx δ M
  | _ => .bad
def gtCons (g : GG) (r : List D → GS) : List D → GS := fun ds δ M => match ds with
  | d :: ds => match g d δ M with
    | .nx δ1 M1 => match r ds δ1 M1 with
      | .nx δ2 M2 => .nx δ2 M2
      | _ => .bad
    | _ => .bad
  | [] => .bad
def gtTup (n : Nat) (g : List D → GS) : GG := fun d δ M => match tupOf d with
  | some ds => if ds.length = n then g ds δ M else .bad
  | none => .bad
abbrev OSet := D → D → D → List MO → Option (List MO)
def gtSub (go gi : GE) (o : OSet) : GG := fun d δ M => (go δ M).toS δ fun x M1 => (gi δ M1).toS δ fun i M2 => match o x i d M2 with
  | some M3 => .nx δ M3
  | none => .bad
def gAsg (ge : GE) (gg : GG) : GS := fun δ M => (ge δ M).toS δ fun d M1 => match gg d δ M1 with
  | .nx δ2 M2 => .nx δ2 M2
  | .ex c _ M2 => .ex c δ M2
  | _ => .bad
def gPar (i j : Nat) (ga gb : GE) : GS := fun δ M => (ga δ M).toS δ fun x M1 => (gb δ M1).toS δ fun y M2 => .nx ((δ.set i (some x)).set j (some y)) M2

structure Kept (is : List Nat) (σ σ' : L2.St) : Prop where
  len : σ'.length = σ.length
  at_ : ∀ j : Nat, j ∉ is → σ'[j]? = σ[j]?
theorem Kept.refl (is : List Nat) (σ : L2.St) : Kept is σ σ := ⟨rfl, fun _ _ => rfl⟩
def SatG (K : PySem.W.Frag) (is : List Nat) (Wf : Str → Hp → Prop) (I : Hp) (as : List Addr) (P : Hp) (σ : L2.St) (Q : L2.St → Hp → Prop) : SR → Prop
  | .nx δ M => ∀ σ' H' I' as', Gr I as I' as' → Wr K H' I' as' M P → Envr K I' as' σ' δ → Kept is σ σ' → Q σ' H'
  | .ex c _ M => ∀ H' I' as', Gr I as I' as' → Wr K H' I' as' M P → Wf c H'
  | _ => False
def ImpG (K : PySem.W.Frag) (mg : Str → Option Value) (W : WX) (is : List Nat) (t : TG) (g : GG) : Prop := ∀ (v : V) (d : D) (σ : L2.St) (H : Hp) (δ : Ctx) (I : Hp) (as : List Addr) (M : List MO) (P : Hp) (Q : L2.St → Hp → Prop),
  Wr K H I as M P → Envr K I as σ δ → Rep K I as v d → SatG K is (fun c H' => lowW mg W c σ H') I as P σ Q (g d δ M) → t v σ H Q
def ImpGs (K : PySem.W.Frag) (mg : Str → Option Value) (W : WX) (is : List Nat) (t : TGs) (g : List D → GS) : Prop := ∀ (v : List V) (d : List D) (σ : L2.St) (H : Hp) (δ : Ctx) (I : Hp) (as : List Addr) (M : List MO) (P : Hp) (Q : L2.St → Hp → Prop),
  Wr K H I as M P → Envr K I as σ δ → Reps K I as v d → SatG K is (fun c H' => lowW mg W c σ H') I as P σ Q (g d δ M) → t v σ H Q
structure XG (X : Cx) (W : WX) (e : Expr) (is : List Nat) (t : TG) (g : GG) : Prop where
  pe : PG X e t
  im : ImpG X.K X.mg W is t g
structure XGs (X : Cx) (W : WX) (es : List Expr) (is : List Nat) (t : TGs) (g : List D → GS) : Prop where
  pe : PGs X es t
  im : ImpGs X.K X.mg W is t g
section
variable {X : Cx} {W : WX} {a b c e : Expr} {es : List Expr} {pos p : Pos} {ta tb tc te : TE} {ga gb gc ge : GE} {t : TA} {g : GA} {K : PySem.W.Frag}
theorem SatS.bindE {α β : Type} {rel : Hp → List Addr → β → α → Prop} {Wf : Str → L2.St → Hp → Prop} {I P : Hp} {as : List Addr} {E : Ends} {δ : Ctx} {σ : L2.St} {r : R α} {f : α → List MO → SR} (s : SatS K Wf I as P E (r.toS δ f)) (en : Envr K I as σ δ)
    {Q1 : β → Hp → Prop} (k : ∀ a M v H' I' as', r = .ok a M → Gr I as I' as' → Wr K H' I' as' M P → rel I' as' v a → SatS K Wf I' as' P E (f a M) → Q1 v H') : Sat K rel (fun c H' => Wf c σ H') I as P Q1 r := by
  cases r with
  | bad => exact s
  | ok d M => exact fun v H2 I2 as2 g2 w r => k d M v H2 I2 as2 rfl g2 w r (SatS.gr g2 s)
  | ex c M => exact fun H2 I2 as2 g2 w => s σ H2 I2 as2 g2 w (en.mono g2)
theorem xss_nil : XSs X W [] tNext gNext := ⟨pss_nil, fun σ H δ I as M P E w en s => s _ H I as (Gr.refl _ _) w en⟩
theorem impS_seq {mg : Str → Option Value} {t u : TS} {g h : GS} (h1 : ImpS K mg W t g) (h2 : ImpS K mg W u h) : ImpS K mg W (tSeq t u) (gSeq g h) := by
  intro σ H δ I as M P E w en s
  refine h1 σ H δ I as M P _ w en ?_
  unfold gSeq at s
  cases e : g δ M with
  | bad => rw [e] at s; exact s
  | nx δ1 M1 =>
    rw [e] at s
    exact fun σ' H' I' as' g' w' en' => h2 σ' H' δ1 I' as' M1 P E w' en' (SatS.gr g' s)
  | rt d M1 => rw [e] at s; exact s
  | bk d M1 => rw [e] at s; exact s
  | ct d M1 => rw [e] at s; exact s
  | ex c d M1 => rw [e] at s; exact s
theorem xss_cons {st : Stmt} {rest : List Stmt} {t u : TS} {g h : GS} (h1 : XS X W st t g) (h2 : XSs X W rest u h) : XSs X W (st :: rest) (tSeq t u) (gSeq g h) := ⟨pss_cons h1.pe h2.pe, impS_seq h1.im h2.im⟩
theorem xss_one {st : Stmt} {t : TS} {g : GS} (h1 : XS X W st t g) : XSs X W [st] t g := ⟨pss_one h1.pe, h1.im⟩
theorem impS_set {mg : Str → Option Value} {i : Nat} (he : ImpE K mg W te ge) : ImpS K mg W (tAsg te (L2.gName i)) (gSet i ge) := by
  intro σ H δ I as M P E w en s
  refine he σ H δ I as M P _ w en (SatS.bindE s en fun d M1 v H1 I1 as1 _ g1 w1 r1 s1 => ?_)
  exact s1 _ H1 I1 as1 (Gr.refl _ _) w1 ((en.mono g1).set r1 i)
theorem xs_set (i : Nat) {x : Str} {pos' : Pos} (hN : X.N.Nodup) (he : XE X W e te ge) (hi : X.N[i]? = some x := by rfl) (hx : Loc X.env.scope x := by first | exact .inl rfl | exact .inr rfl) (hs : swapsWith e (some (.Name x pos')) pos.line X.env = pure false := by rfl)
    (hf : X.fn x = true ∨ X.env.scope.names.lookup x = some .local := by first | exact .inl rfl | exact .inr rfl | assumption) : XS X W (.Assign [.Name x pos'] e pos) (tAsg te (L2.gName i)) (gSet i ge) :=
  ⟨ps_set hN hi hx he.pe hs hf, impS_set he.im⟩
theorem xs_expr (he : XE X W e te ge) (hs : swapsWith e none pos.line X.env = pure false := by rfl) : XS X W (.Expr e pos) (tDrop te) (gDrop ge) := by
  refine ⟨ps_expr he.pe hs, fun σ H δ I as M P E w en s => ?_⟩
  refine he.im σ H δ I as M P _ w en (SatS.bindE s en fun d M1 v H1 I1 as1 _ g1 w1 r1 s1 => ?_)
  exact s1 _ H1 I1 as1 (Gr.refl _ _) w1 (en.mono g1)
theorem xs_ret (he : XE X W e te ge) : XS X W (.Return (some e) pos) (tRet te) (gRet ge) := by
  refine ⟨ps_ret he.pe, fun σ H δ I as M P E w en s => ?_⟩
  refine he.im σ H δ I as M P _ w en (SatS.bindE s en fun d M1 v H1 I1 as1 _ g1 w1 r1 s1 => ?_)
  exact s1 _ H1 I1 as1 (Gr.refl _ _) w1 r1
theorem xs_retN : XS X W (.Return none pos) tRetN gRetN := ⟨ps_retN, fun σ H δ I as M P E w en s => s _ H I as (Gr.refl _ _) w .non⟩
theorem xs_pass : XS X W (.Pass pos) tNext gNext := ⟨ps_pass, fun σ H δ I as M P E w en s => s _ H I as (Gr.refl _ _) w en⟩
theorem xs_break : XS X W (.Break pos) tBreak gBreak := ⟨ps_break, fun σ H δ I as M P E w en s => s _ H I as (Gr.refl _ _) w en⟩
theorem xs_cont : XS X W (.Continue pos) tCont gCont := ⟨ps_continue, fun σ H δ I as M P E w en s => s _ H I as (Gr.refl _ _) w en⟩
theorem xs_never {st : Stmt} : XS X W st tNever gNever := ⟨ps_never, fun σ H δ I as M P E w en s => s.elim⟩
theorem xs_if {a b : List Stmt} {tA : TT} {gA : GB} {t u : TS} {g h : GS} (hc : XT X W c tA gA) (ha : XSs X W a t g) (hb : XSs X W b u h) : XS X W (.If c a b pos) (tIfS tA t u) (gIf gA g h) := by
  refine ⟨ps_if hc.pe ha.pe hb.pe, fun σ H δ I as M P E w en s => ?_⟩
  refine hc.im σ H δ I as M P _ w en (SatS.bindE s en fun d M1 v H1 I1 as1 _ g1 w1 r1 s1 => ?_)
  subst r1
  cases v with
  | true => exact ha.im σ H1 δ I1 as1 M1 P E w1 (en.mono g1) s1
  | false => exact hb.im σ H1 δ I1 as1 M1 P E w1 (en.mono g1) s1
/-! targets -/
theorem xg_name (i : Nat) {x : Str} (hN : X.N.Nodup) (hi : X.N[i]? = some x := by rfl) (hx : Loc X.env.scope x := by first | exact .inl rfl | exact .inr rfl) (hf : X.fn x = true ∨ X.env.scope.names.lookup x = some .local := by first | exact .inl rfl | exact .inr rfl | assumption) :
    XG X W (.Name x pos) [i] (L2.gName i) (gtName i) := by
  refine ⟨pg_name hN hi hx hf, fun v d σ H δ I as M P Q w en r s => ?_⟩
  exact s _ H I as (Gr.refl _ _) w (en.set r i) ⟨List.length_set, fun j hj => List.getElem?_set_ne (by simpa using fun e => hj (by simp [e]))⟩
theorem xgs_nil : XGs X W [] [] L2.gNil gtNil := by
  refine ⟨pgs_nil, fun vs ds σ H δ I as M P Q w en r s => ?_⟩
  unfold gtNil at s
  cases r with
  | nil => exact ⟨rfl, s _ H I as (Gr.refl _ _) w en (Kept.refl _ _)⟩
  | cons => exact s.elim
theorem xgs_cons {is js : List Nat} {t : TG} {u : TGs} {g : GG} {r : List D → GS} (h1 : XG X W e is t g) (h2 : XGs X W es js u r)
    (hs : (assignEach (e :: es) X.env).map (·.2) = assign e X.env :: (assignEach es X.env).map (·.2) := by rfl) : XGs X W (e :: es) (is ++ js) (L2.gCons t u) (gtCons g r) := by
  refine ⟨pgs_cons h1.pe h2.pe hs, fun vs ds σ H δ I as M P Q w en rr s => ?_⟩
  unfold gtCons at s
  cases rr with
  | nil => exact s.elim
  | @cons v vs d ds rd rds =>
    refine ⟨v, vs, rfl, ?_⟩
    refine h1.im v d σ H δ I as M P _ w en rd ?_
    simp only at s
    split at s
    · rename_i δ1 M1 e1
      rw [e1]
      intro σ1 H1 I1 as1 g1 w1 en1 k1
      refine h2.im vs ds σ1 H1 δ1 I1 as1 M1 P Q w1 en1 (rds.mono g1) ?_
      split at s
      · rename_i δ2 M2 e2
        rw [e2]
        exact fun σ2 H2 I2 as2 g2 w2 en2 k2 => s σ2 H2 I2 as2 (g1.trans g2) w2 en2 ⟨k2.len.trans k1.len, fun j hj => (k2.at_ j fun z => hj (List.mem_append_right _ z)).trans (k1.at_ j fun z => hj (List.mem_append_left _ z))⟩
      · exact s.elim
    · exact s.elim
theorem xg_tup {is : List Nat} {k n : Nat} {t : TGs} {g : List D → GS} (hc : X.calm = true) (h : XGs X W es is t g)
    (hn : (assignEach es X.env).length = n := by rfl) (hst : (assignEach es X.env).findIdx? (·.1) = none := by rfl) : XG X W (.Tuple es k pos) is (L2.gTup X.K n t) (gtTup n g) := by
  refine ⟨pg_tup hc h.pe hn hst, fun v d σ H δ I as M P Q w en r s => ?_⟩
  unfold gtTup at s
  split at s
  · rename_i ds hd
    split at s
    · rename_i hl
      obtain ⟨a, vs, rfl, h1, rr⟩ := r.tupl w hd
      exact ⟨a, vs, rfl, h1, by rw [rr.len]; exact hl, h.im vs ds σ H δ I as M P Q w en rr s⟩
    · exact s.elim
  · exact s.elim
def SetD (K : PySem.W.Frag) (t : TSet) (o : OSet) : Prop := ∀ (H I : Hp) (as : List Addr) (M M' : List MO) (P : Hp) (x i v : V) (dx di dv : D) (Q : Hp → Prop),
  Wr K H I as M P → Rep K I as x dx → Rep K I as i di → Rep K I as v dv → o dx di dv M = some M' → (∀ H', Wr K H' I as M' P → Q H') → t x i v H Q
theorem xg_sub {o i : Expr} {to ti : TE} {go gi : GE} {t : TSet} {os : OSet} (hs : PSet X t) (hd : SetD X.K t os) (ho : XE X W o to go) (hi : XE X W i ti gi)
    (ha : ∀ v, assign (.Subscript o i pos) X.env v = (do
      let ov ← holding [v] (eval o X.env)
      let iv ← holding [v, ov] (eval i X.env)
      standAt pos
      holding [v, ov, iv] (setItem ov iv v)
      release [v, ov, iv] []) := by intro _; rfl) : XG X W (.Subscript o i pos) [] (gSub to ti t) (gtSub go gi os) := by
  refine ⟨pg_sub ho.pe hi.pe hs ha, fun v d σ H δ I as M P Q w en r s => ?_⟩
  unfold gtSub at s
  have lift : ∀ {α β : Type} {rel : Hp → List Addr → β → α → Prop} {I : Hp} {as : List Addr} {r : R α} {f : α → List MO → SR}, SatG X.K [] (fun c H' => lowW X.mg W c σ H') I as P σ Q (r.toS δ f) → ∀ {Q1 : β → Hp → Prop},
      (∀ a M v H' I' as', r = .ok a M → Gr I as I' as' → Wr X.K H' I' as' M P → rel I' as' v a → SatG X.K [] (fun c H' => lowW X.mg W c σ H') I' as' P σ Q (f a M) → Q1 v H') → Sat X.K rel (fun c H' => lowW X.mg W c σ H') I as P Q1 r := by
    intro α β rel I as r f s Q1 k
    cases r with
    | bad => exact s
    | ok d M =>
      refine fun v H2 I2 as2 g2 w r => k d M v H2 I2 as2 rfl g2 w r ?_
      simp only [R.toS_ok] at s
      cases e : f d M with
      | nx δ' M' => rw [e] at s; exact fun σ' H' I' as' g' => s σ' H' I' as' (g2.trans g')
      | ex c δ' M' => rw [e] at s; exact fun H' I' as' g' => s H' I' as' (g2.trans g')
      | _ => rw [e] at s; exact s.elim
    | ex c M => exact s
  refine ho.im σ H δ I as M P _ w en (lift s fun x M1 xv H1 I1 as1 _ g1 w1 r1 s1 => ?_)
  refine hi.im σ H1 δ I1 as1 M1 P _ w1 (en.mono g1) (lift s1 fun iv M2 ivv H2 I2 as2 _ g2 w2 r2 s2 => ?_)
  split at s2
  · rename_i M3 e3
    exact hd H2 I2 as2 M2 M3 P _ _ _ _ _ _ _ w2 (r1.mono g2) r2 (r.mono (g1.trans g2)) e3 fun H' w' => s2 σ H' I2 as2 (Gr.refl _ _) w' (en.mono (g1.trans g2)) (Kept.refl _ _)
  · exact s2.elim
/-- o[i] = v of a list that may change -/
def oSetL : OSet := fun x i v M => match x, i with
  | .ref k, .int j => match M[k]? with
    | some (.lst xs) => match ixN xs.length j with
      | some n => some (M.set k (.lst (xs.set n v)))
      | none => none
    | _ => none
  | _, _ => none
theorem setd_list {K : PySem.W.Frag} : SetD K rSetL oSetL := by
  intro H I as M M' P x i v dx di dv Q w rx ri rv h k
  unfold oSetL at h
  split at h
  · rename_i kk j
    cases ri
    split at h
    · rename_i xs hx
      split at h
      · rename_i n hn
        cases h
        cases rx with
        | @ref _ a h1 =>
          obtain ⟨o, ho, _, _, m⟩ := w.at h1
          rw [hx] at ho
          cases ho
          obtain ⟨vs, e1, rr⟩ := m
          refine ⟨a, vs, j, n, rfl, rfl, e1, by rw [rr.len]; exact hn, k _ (w.put h1 _ _ ⟨_, upd_same, rr.set rv⟩)⟩
      · cases h
    · cases h
  · cases h
theorem xs_asg {tg : Expr} {is : List Nat} {gt : TG} {gg : GG} (he : XE X W e te ge) (hg : XG X W tg is gt gg) (hs : swapsWithSole [tg] e pos.line X.env = pure false := by rfl) (hw : swappedStores [tg] e X.env = pure none := by rfl)
    (h1 : (assignEach [tg] X.env).map (·.2) = [assign tg X.env] := by rfl) : XS X W (.Assign [tg] e pos) (tAsg te gt) (gAsg ge gg) := by
  refine ⟨ps_asg he.pe hg.pe hs hw h1, fun σ H δ I as M P E w en s => ?_⟩
  refine he.im σ H δ I as M P _ w en (SatS.bindE s en fun d M1 v H1 I1 as1 _ g1 w1 r1 s1 => ?_)
  refine hg.im v d σ H1 δ I1 as1 M1 P _ w1 (en.mono g1) r1 ?_
  split at s1
  · rename_i e2
    rw [e2]
    exact fun σ' H' I' as' g' w' en' _ => s1 σ' H' I' as' g' w' en'
  · rename_i e2
    rw [e2]
    exact fun H' I' as' g' w' => s1 σ H' I' as' g' w' (en.mono (g1.trans g'))
  · exact s1.elim
theorem xs_par {i j : Nat} {x y : Str} {px py pt : Pos} {kt k2 pt2} (hc : X.calm = true) (hN : X.N.Nodup) (ha : XE X W a ta ga) (hb : XE X W b tb gb)
    (hi : X.N[i]? = some x := by rfl) (hj : X.N[j]? = some y := by rfl) (hij : i ≠ j := by decide) (hx : X.env.scope.names.lookup x = some .local := by rfl) (hy : X.env.scope.names.lookup y = some .local := by rfl)
    (hw : swappedStores [.Tuple [.Name x px, .Name y py] kt pt] (.Tuple [a, b] k2 pt2) X.env = pure (some [x, y]) := by rfl)
    (hs : swapsWithSole [.Tuple [.Name x px, .Name y py] kt pt] (.Tuple [a, b] k2 pt2) pos.line X.env = pure false := by rfl)
    (h1 : starEach [a, b] X.env = (false, eval a X.env) :: starEach [b] X.env := by rfl) (h2 : starEach [b] X.env = (false, eval b X.env) :: starEach [] X.env := by rfl) :
    XS X W (.Assign [.Tuple [.Name x px, .Name y py] kt pt] (.Tuple [a, b] k2 pt2) pos) (tPar i j (tCons ta (tCons tb tNil))) (gPar i j ga gb) := by
  refine ⟨ps_par hc hN hi hj hij hx hy (pa_cons ha.pe (pa_cons hb.pe pa_nil h2) h1) hw hs, fun σ H δ I as M P E w en s => ?_⟩
  refine ha.im σ H δ I as M P _ w en (SatS.bindE s en fun d M1 v H1 I1 as1 _ g1 w1 r1 s1 => ?_)
  refine hb.im σ H1 δ I1 as1 M1 P _ w1 (en.mono g1) (SatS.bindE s1 (en.mono g1) fun d2 M2 v2 H2 I2 as2 _ g2 w2 r2 s2 => ?_)
  exact ⟨v, v2, rfl, s2 _ H2 I2 as2 (Gr.refl _ _) w2 (((en.mono (g1.trans g2)).set (r1.mono g2) i).set r2 j)⟩
end

/-! ### what is walked -/
structure ITD where
  items : List D
  gd : List MO → Prop
def ItOk (K : PySem.W.Frag) (I : Hp) (as : List Addr) (J : It) (it : ITD) : Prop := ∃ (G : Hp → Prop) (Y : Nat → Hp → V → Hp → Prop), Walk J it.items.length G Y ∧
  (∀ H' I' as' M' P', Gr I as I' as' → Wr K H' I' as' M' P' → it.gd M' → G H') ∧
  (∀ i x H' H2 I' as' M' P', i < it.items.length → Gr I as I' as' → Wr K H' I' as' M' P' → it.gd M' → Y i H' x H2 → ∃ I2 d, Gr I' as' I2 as' ∧ Wr K H2 I2 as' M' P' ∧ it.items[i]? = some d ∧ Rep K I2 as' x d)
abbrev GI := Ctx → List MO → R ITD
def ImpI (K : PySem.W.Frag) (mg : Str → Option Value) (W : WX) (t : TI) (g : GI) : Prop := ∀ (σ : L2.St) (H : Hp) (δ : Ctx) (I : Hp) (as : List Addr) (M : List MO) (P : Hp) (Q : It → Hp → Prop),
  Wr K H I as M P → Envr K I as σ δ → Sat K (ItOk K) (fun c H' => lowW mg W c σ H') I as P Q (g δ M) → t σ H Q
structure XI (X : Cx) (W : WX) (tg e : Expr) (t : TI) (g : GI) : Prop where
  pe : PI X tg e t
  im : ImpI X.K X.mg W t g
open Classical in
noncomputable def forL (gd : List MO → Prop) (gg : GG) (gb : GS) : List D → GS
  | [], δ, M => if gd M then .nx δ M else .bad
  | x :: xs, δ, M => if gd M then (match gg x δ M with
      | .nx δ1 M1 => match gb δ1 M1 with
        | .nx δ2 M2 => forL gd gg gb xs δ2 M2
        | .ct δ2 M2 => forL gd gg gb xs δ2 M2
        | .bk δ2 M2 => .nx δ2 M2
        | .rt d M2 => .rt d M2
        | .ex c δ2 M2 => .ex c δ2 M2
        | .bad => .bad
      | _ => .bad) else .bad
noncomputable def gFor (gi : GI) (gg : GG) (gb : GS) : GS := fun δ M => (gi δ M).toS δ fun it M1 => forL it.gd gg gb it.items δ M1
section
variable {X : Cx} {W : WX} {tg iter e : Expr} {es : List Expr} {pos p : Pos} {te : TE} {ge : GE} {t : TA} {g : GA} {K : PySem.W.Frag} {wi : TI} {gi : GI}
theorem forL_gd {gd : List MO → Prop} {gg : GG} {gb : GS} {xs : List D} {δ : Ctx} {M : List MO} (h : forL gd gg gb xs δ M ≠ .bad) : gd M := by
  by_cases c : gd M
  · exact c
  · exfalso
    apply h
    cases xs with
    | nil => unfold forL; rw [if_neg c]
    | cons x xs => unfold forL; rw [if_neg c]
theorem SatS.ne {Wf : Str → L2.St → Hp → Prop} {I P : Hp} {as : List Addr} {E : Ends} {r : SR} (s : SatS K Wf I as P E r) : r ≠ .bad := fun e => by
  rw [e] at s
  exact s
theorem impS_for {mg : Str → Option Value} {is : List Nat} {gt : TG} {gg : GG} {tb : TS} {gb : GS} (hi : ImpI K mg W wi gi) (hg : ImpG K mg W is gt gg) (hb : ImpS K mg W tb gb) : ImpS K mg W (tFor wi gt tb) (gFor gi gg gb) := by
  intro σ H δ I as M P E w en s
  refine hi σ H δ I as M P _ w en (SatS.bindE s en fun it M1 J H1 I1 as1 _ g1 w1 ok s1 => ?_)
  obtain ⟨G, Y, wk, hG, hY⟩ := ok
  refine for_it wk (fun i σ' H' => ∃ δ' M' I' as', Gr I1 as1 I' as' ∧ Wr K H' I' as' M' P ∧ Envr K I' as' σ' δ' ∧ SatS K (lowW mg W) I' as' P E (forL it.gd gg gb (it.items.drop i) δ' M'))
    ⟨δ, M1, I1, as1, Gr.refl _ _, w1, en.mono g1, by rw [List.drop_zero]; exact s1⟩ ?_ ?_ ?_
  · rintro i σ' H' hi ⟨δ', M', I', as', g', w', en', s'⟩
    exact hG H' I' as' M' P g' w' (forL_gd s'.ne)
  · rintro i x σ' H' H2 hi ⟨δ', M', I', as', g', w', en', s'⟩ y
    obtain ⟨I2, d, g2, w2, hd, rd⟩ := hY i x H' H2 I' as' M' P hi g' w' (forL_gd s'.ne) y
    have hgd := forL_gd s'.ne
    have ed : it.items.drop i = d :: it.items.drop (i + 1) := by
      rw [List.drop_eq_getElem_cons hi]
      have := List.getElem?_eq_getElem hi
      rw [hd] at this
      rw [← Option.some.inj this]
    rw [ed] at s'
    unfold forL at s'
    rw [if_pos hgd] at s'
    refine hg x d σ' H2 δ' I2 as' M' P _ w2 (en'.mono g2) rd ?_
    have s2 := SatS.gr g2 s'
    cases e1 : gg d δ' M' with
    | nx δ1 M1 =>
      rw [e1] at s2
      intro σ3 H3 I3 as3 g3 w3 en3 _
      refine hb σ3 H3 δ1 I3 as3 M1 P _ w3 en3 ?_
      have s3 := SatS.gr g3 s2
      cases e2 : gb δ1 M1 with
      | nx δ2 M2 =>
        simp only [e2] at s3
        exact fun σ4 H4 I4 as4 g4 w4 en4 => ⟨δ2, M2, I4, as4, (g'.trans (g2.trans (g3.trans g4))), w4, en4, SatS.gr g4 s3⟩
      | ct δ2 M2 =>
        simp only [e2] at s3
        exact fun σ4 H4 I4 as4 g4 w4 en4 => ⟨δ2, M2, I4, as4, (g'.trans (g2.trans (g3.trans g4))), w4, en4, SatS.gr g4 s3⟩
      | bk δ2 M2 =>
        simp only [e2] at s3
        exact s3
      | rt d2 M2 =>
        simp only [e2] at s3
        exact s3
      | ex c δ2 M2 =>
        simp only [e2] at s3
        exact s3
      | bad =>
        simp only [e2] at s3
        exact s3
    | _ => rw [e1] at s2; exact s2.elim
  · rintro σ' H' ⟨δ', M', I', as', g', w', en', s'⟩
    have hgd := forL_gd s'.ne
    rw [List.drop_length] at s'
    unfold forL at s'
    rw [if_pos hgd] at s'
    exact s' σ' H' I' as' (Gr.refl _ _) w' en'
theorem xs_for {is : List Nat} {gt : TG} {gg : GG} {body : List Stmt} {tb : TS} {gb : GS} (hp : PassesOwn (model X.prog X.w) X.A X.env X.xe) (hc : X.calm = true) (hi : XI X W tg iter wi gi) (hg : XG X W tg is gt gg) (hb : XSs X W body tb gb)
    (hs : ∀ x, foldedSetIterable iter X.env x = pure x := by intro _; rfl) : XS X W (.For tg iter body [] pos) (tFor wi gt tb) (gFor gi gg gb) :=
  ⟨ps_for hp hc hi.pe hg.pe hb.pe hs, impS_for hi.im hg.im hb.im⟩
/-! iterables -/
def itT (xs : List D) : ITD := ⟨xs, fun _ => True⟩
def giTup (ge : GE) : GI := fun δ M => (ge δ M).bind fun x M1 => match tupOf x with
  | some xs => .ok (itT xs) M1
  | none => .bad
def gdOf (x : D) (xs : List D) : List MO → Prop := match x with
  | .ref k => fun M' => M'[k]? = some (.lst xs)
  | _ => fun _ => True
def giList (ge : GE) : GI := fun δ M => (ge δ M).bind fun x M1 => match listOf M1 x with
  | some xs => .ok ⟨xs, gdOf x xs⟩ M1
  | none => .bad
theorem itok_tup {I : Hp} {as : List Addr} {a : Addr} {vs : List V} {xs : List D} (h : SqT K I a vs) (r : Reps K I as vs xs) : ItOk K I as (Itt K a) (itT xs) := by
  refine ⟨fun H => SqT K H a vs, YAt vs, by rw [show (itT xs).items = xs from rfl, ← r.len]; exact walk_tup, fun H' I' as' M' P' g w _ => w.seqT (Evl.ex_t g.sub h), fun i x H' H2 I' as' M' P' hi g w _ y => ?_⟩
  obtain ⟨rfl, hx⟩ := y
  obtain ⟨d, h1, h2⟩ := r.get' hx
  exact ⟨I', d, Gr.refl _ _, w, h1, h2.mono g⟩
theorem itok_list {I : Hp} {as : List Addr} {a : Addr} {vs : List V} {xs : List D} (h : SqL K I a vs) (r : Reps K I as vs xs) : ItOk K I as (Itl K a) (itT xs) := by
  refine ⟨fun H => SqL K H a vs, YAt vs, by rw [show (itT xs).items = xs from rfl, ← r.len]; exact walk_list, fun H' I' as' M' P' g w _ => w.seqL (Evl.ex_l g.sub h), fun i x H' H2 I' as' M' P' hi g w _ y => ?_⟩
  obtain ⟨rfl, hx⟩ := y
  obtain ⟨d, h1, h2⟩ := r.get' hx
  exact ⟨I', d, Gr.refl _ _, w, h1, h2.mono g⟩
theorem Reps.inj {I : Hp} {as : List Addr} : True := trivial
theorem xi_tup (h : XE X W e te ge) : XI X W tg e (iTup X.K te) (giTup ge) := by
  refine ⟨pi_tup h.pe, fun σ H δ I as M P Q w en s => ?_⟩
  refine h.im σ H δ I as M P _ w en (Sat.bind s fun d M1 v H1 I1 as1 _ g1 w1 r1 s1 => ?_)
  split at s1
  · rename_i xs hx
    have e : d = .tup xs := by cases d <;> first | (cases hx; rfl) | cases hx
    subst e
    cases r1 with
    | @tup a vs _ h1 rr =>
      exact ⟨a, rfl, ⟨vs, w1.seqT h1⟩, s1 _ H1 I1 as1 (Gr.refl _ _) w1 (itok_tup h1 rr)⟩
  · exact s1.elim
theorem xi_list (h : XE X W e te ge) : XI X W tg e (iList X.K te) (giList ge) := by
  refine ⟨pi_list h.pe, fun σ H δ I as M P Q w en s => ?_⟩
  refine h.im σ H δ I as M P _ w en (Sat.bind s fun d M1 v H1 I1 as1 _ g1 w1 r1 s1 => ?_)
  cases hl : listOf M1 d with
  | none => rw [hl] at s1; exact s1.elim
  | some xs =>
    rw [hl] at s1
    cases r1 with
    | @lst a vs ds h1 rr =>
      cases hl
      exact ⟨a, rfl, ⟨vs, .of (w1.sub _ _ h1)⟩, s1 _ H1 I1 as1 (Gr.refl _ _) w1 (itok_list (.of h1) rr)⟩
    | @rol a vs ds h1 rr =>
      cases hl
      exact ⟨a, rfl, ⟨vs, w1.seqL h1⟩, s1 _ H1 I1 as1 (Gr.refl _ _) w1 (itok_list h1 rr)⟩
    | @ref k a h1 =>
        obtain ⟨o, ho, _, _, m⟩ := w1.at h1
        cases o with
        | dct kvs =>
          unfold listOf at hl
          simp [ho] at hl
        | lst ys =>
        unfold listOf at hl
        simp only [ho, Option.some.injEq] at hl
        subst hl
        obtain ⟨vs, e1, rr⟩ := m
        refine ⟨a, rfl, ⟨vs, .of e1⟩, s1 _ H1 I1 as1 (Gr.refl _ _) w1 ⟨fun H => ∃ vs', SqL X.K H a vs' ∧ vs'.length = ys.length, fun i H x H' => H' = H ∧ ∀ vs', SqL X.K H a vs' → vs'[i]? = some x, ?_, ?_, ?_⟩⟩
        · exact ⟨fun i H hi ⟨vs', h', e'⟩ => ⟨vs', vs'[i]'(by rw [e']; exact hi), h', by simp⟩, fun H ⟨vs', h', e'⟩ => ⟨vs', h', Nat.le_of_eq e'⟩, fun i H x H' _ _ y => y⟩
        · intro H' I' as' M' P' g w' hgd
          obtain ⟨o', ho', _, _, m'⟩ := w'.at (g.at h1)
          have hgd2 : M'[k]? = some (.lst ys) := hgd
          rw [hgd2] at ho'
          cases ho'
          obtain ⟨vs', e', r'⟩ := m'
          exact ⟨vs', .of e', r'.len⟩
        · intro i x H' H2 I' as' M' P' hi g w' hgd y
          obtain ⟨rfl, hy⟩ := y
          obtain ⟨o', ho', _, _, m'⟩ := w'.at (g.at h1)
          have hgd2 : M'[k]? = some (.lst ys) := hgd
          rw [hgd2] at ho'
          cases ho'
          obtain ⟨vs', e', r'⟩ := m'
          obtain ⟨d, hd, rd⟩ := r'.get' (hy vs' (.of e'))
          exact ⟨I', d, Gr.refl _ _, w', hd, rd⟩
    | _ => cases hl
def rngD (lo : Int) (n : Nat) : List D := (List.range n).map fun i => .int (lo + (i : Nat))
theorem itok_rng {I : Hp} {as : List Addr} {lo : Int} {n : Nat} : ItOk K I as (Itr lo n) (itT (rngD lo n)) := by
  refine ⟨fun _ => True, YFn fun i => .int (lo + i), by rw [show (itT (rngD lo n)).items.length = n by simp [itT, rngD]]; exact walk_range, fun _ _ _ _ _ _ _ _ => trivial, fun i x H' H2 I' as' M' P' hi g w _ y => ?_⟩
  obtain ⟨rfl, rfl⟩ := y
  have hn : i < n := by simpa [itT, rngD] using hi
  exact ⟨I', .int (lo + i), Gr.refl _ _, w, by simp [itT, rngD, hn], .int _⟩
def rngB (i : Int) : Prop := -(2 ^ 62) ≤ i ∧ i < 2 ^ 62
open Classical in
noncomputable def giRng1 (ga : GA) : GI := fun δ M => (ga δ M).bind fun xs M1 => match xs with
  | [.int j] => if rngB j then .ok (itT (rngD 0 j.toNat)) M1 else .bad
  | _ => .bad
open Classical in
noncomputable def giRng2 (ga : GA) : GI := fun δ M => (ga δ M).bind fun xs M1 => match xs with
  | [.int i, .int j] => if rngB i ∧ rngB j then .ok (itT (rngD i (j - i).toNat)) M1 else .bad
  | _ => .bad
theorem Reps.one_inv {I : Hp} {as : List Addr} {vs : List V} {d : D} (r : Reps K I as vs [d]) : ∃ v, vs = [v] ∧ Rep K I as v d := by
  cases r with
  | cons h r => cases r; exact ⟨_, rfl, h⟩
theorem Reps.two_inv {I : Hp} {as : List Addr} {vs : List V} {d d2 : D} (r : Reps K I as vs [d, d2]) : ∃ v v2, vs = [v, v2] ∧ Rep K I as v d ∧ Rep K I as v2 d2 := by
  cases r with
  | cons h r =>
    cases r with
    | cons h2 r => cases r; exact ⟨_, _, rfl, h, h2⟩
theorem xi_rng1 (hm : X.mg "range" = none) (ha : XA X W [e] t g) (hg : Gl X "range" := by rfl) (hs : starEach [e] X.env = [(false, eval e X.env)] := by rfl) : XI X W tg (.Call (.Name "range" p) [e] [] pos) (iRng1 t) (giRng1 g) := by
  refine ⟨pi_range1 hg hm ha.pe hs, fun σ H δ I as M P Q w en s => ?_⟩
  refine ha.im σ H δ I as M P _ w en (Sat.bind s fun d M1 v H1 I1 as1 _ g1 w1 r1 s1 => ?_)
  split at s1
  · split at s1
    · rename_i j _ hb
      obtain ⟨v, rfl, r⟩ := r1.one_inv
      cases r
      exact ⟨j, rfl, hb.1, hb.2, s1 _ H1 I1 as1 (Gr.refl _ _) w1 itok_rng⟩
    · exact s1.elim
  · exact s1.elim
theorem xi_rng2 {e2 : Expr} (hm : X.mg "range" = none) (ha : XA X W [e, e2] t g) (hg : Gl X "range" := by rfl) (hs : starEach [e, e2] X.env = [(false, eval e X.env), (false, eval e2 X.env)] := by rfl) (hs2 : starEach [e2] X.env = [(false, eval e2 X.env)] := by rfl) : XI X W tg (.Call (.Name "range" p) [e, e2] [] pos) (iRng2 t) (giRng2 g) := by
  refine ⟨pi_range2 hg hm ha.pe hs hs2, fun σ H δ I as M P Q w en s => ?_⟩
  refine ha.im σ H δ I as M P _ w en (Sat.bind s fun d M1 v H1 I1 as1 _ g1 w1 r1 s1 => ?_)
  split at s1
  · split at s1
    · rename_i i j _ hb
      obtain ⟨v, v2, rfl, r, r2⟩ := r1.two_inv
      cases r
      cases r2
      exact ⟨i, j, rfl, ⟨hb.1.1, hb.1.2, hb.2.1, hb.2.2⟩, s1 _ H1 I1 as1 (Gr.refl _ _) w1 itok_rng⟩
    · exact s1.elim
  · exact s1.elim
end
end KM
set_option Elab.async false
set_option linter.all false
set_option maxRecDepth 100000
set_option maxHeartbeats 2000000
namespace KM
open PySem L2 PySem.Spec PyProof.Rows

/-! ### comprehensions -/
theorem wipe_in {σ : L2.St} {j : Nat} : ∀ {vs : List Nat}, j ∈ vs → (wipe σ vs)[j]? = if j < σ.length then some none else none
  | [], h => by simp at h
  | v :: vs, h => by
    unfold wipe
    by_cases hv : v = j
    · subst hv
      by_cases hl : v < σ.length
      · rw [List.getElem?_set_self (by rw [wipe_length]; exact hl), if_pos hl]
      · rw [if_neg hl, List.getElem?_eq_none (by simpa [wipe_length] using hl)]
    · rw [List.getElem?_set_ne hv]
      exact wipe_in (by simpa [Ne.symm hv] using h)
theorem wipe_kept {is vs : List Nat} {σ σ2 : L2.St} (hs : ∀ j ∈ is, j ∈ vs) (k : Kept is (wipe σ vs) σ2) : wipe σ2 vs = wipe σ vs := by
  have hl : σ2.length = σ.length := by rw [k.len, wipe_length]
  apply List.ext_getElem?
  intro j
  by_cases hj : j ∈ vs
  · rw [wipe_in hj, wipe_in hj, hl]
  · rw [wipe_out hj, k.at_ j (fun z => hj (hs j z))]
def bigS (n : Nat) : Prop := n < 100000
structure XTs (X : Cx) (W : WX) (es : List Expr) (t : TT) (g : GB) : Prop where
  pe : PTs X es t
  im : ImpT X.K X.mg W t g
def gYes : GB := fun _ M => .ok true M
theorem xts_nil {X : Cx} {W : WX} : XTs X W [] tYes gYes := ⟨pts_nil, fun σ H δ I as M P Q w en s => s _ H I as (Gr.refl _ _) w rfl⟩
theorem xts_one {X : Cx} {W : WX} {c : Expr} {t : TT} {g : GB} (h : XT X W c t g) : XTs X W [c] t g := ⟨pts_one h.pe, h.im⟩
open Classical in
noncomputable def lcL (gd : List MO → Prop) (gg : GG) (gt : GB) (ge : GE) (δ : Ctx) : List D → List D → List MO → R (List D)
  | [], acc, M => if gd M then .ok acc M else .bad
  | x :: xs, acc, M => if gd M then (match gg x δ M with
      | .nx δ1 M1 => match gt δ1 M1 with
        | .ok b M2 => if b = true then (match ge δ1 M2 with
            | .ok d M3 => if bigS acc.length then lcL gd gg gt ge δ xs (acc ++ [d]) M3 else .bad
            | _ => .bad) else lcL gd gg gt ge δ xs acc M2
        | _ => .bad
      | _ => .bad) else .bad
theorem lcL_gd {gd : List MO → Prop} {gg : GG} {gt : GB} {ge : GE} {δ : Ctx} {xs acc : List D} {M : List MO} (h : lcL gd gg gt ge δ xs acc M ≠ .bad) : gd M := by
  by_cases c : gd M
  · exact c
  · exfalso
    apply h
    cases xs with
    | nil => unfold lcL; rw [if_neg c]
    | cons x xs => unfold lcL; rw [if_neg c]
noncomputable def gLcG (fin : List D → List MO → R D) (gi : GI) (gg : GG) (gt : GB) (ge : GE) (vs : List Nat) : GE := fun δ M => (gi δ M).bind fun it M1 => (lcL it.gd gg gt ge (wipeD δ vs) it.items [] M1).bind fin
/-- how the new list is told: as one that never changes, or as one that may -/
def finI : List D → List MO → R D := fun ds M => .ok (.lst ds) M
def finM : List D → List MO → R D := fun ds M => .ok (.ref M.length) (M ++ [.lst ds])
def FinOk (K : PySem.W.Frag) (fin : List D → List MO → R D) : Prop := ∀ (H I : Hp) (as : List Addr) (M : List MO) (P : Hp) (Dl : Addr) (vs : List V) (ds : List D) (Wf : Str → Hp → Prop) (Q : VK),
  P Dl = none → Wr K H I as M (upd P Dl (.lst vs)) → Reps K I as vs ds → Sat K (Rep K) Wf I as P Q (fin ds M) → Q (.ref Dl) H
theorem fin_I {K : PySem.W.Frag} : FinOk K finI := by
  intro H I as M P Dl vs ds Wf Q h0 w r s
  obtain ⟨w', g⟩ := w.giveI h0
  exact s _ _ _ _ g w' (.lst upd_same (r.mono g))
theorem fin_M {K : PySem.W.Frag} : FinOk K finM := by
  intro H I as M P Dl vs ds Wf Q h0 w r s
  have h1 := (w.prv Dl _ upd_same).1
  have w' := w.giveM (m := .lst ds) h0 ⟨vs, h1, r⟩
  refine s _ _ _ _ (Gr.more I as [Dl]) w' (.ref ?_)
  rw [← w.len, List.getElem?_append_right (Nat.le_refl _), Nat.sub_self]
  rfl
abbrev W0 : WX := fun _ _ _ _ => False
theorem SatT.ne {α β : Type} {K : PySem.W.Frag} {rel : Hp → List Addr → β → α → Prop} {Wf : Str → Hp → Prop} {I P : Hp} {as : List Addr} {Q : β → Hp → Prop} {r : R α} (s : Sat K rel Wf I as P Q r) : r ≠ .bad := fun e => by
  rw [e] at s
  exact s
theorem impE_lc {K : PySem.W.Frag} {mg : Str → Option Value} {W : WX} {wi : TI} {gi : GI} {is vs : List Nat} {gt : TG} {gg : GG} {tt : TT} {gb : GB} {te : TE} {ge : GE} {fin : List D → List MO → R D} (hf : FinOk K fin) (hs : ∀ j ∈ is, j ∈ vs)
    (hi : ImpI K mg W wi gi) (hg : ImpG K mg W0 is gt gg) (ht : ImpT K mg W0 tt gb) (he : ImpE K mg W0 te ge) : ImpE K mg W (tLc wi gt tt te vs) (gLcG fin gi gg gb ge vs) := by
  intro σ H δ I as M P Q w en s
  refine hi σ H δ I as M P _ w en (Sat.bind s fun it M1 J H1 I1 as1 _ g1 w1 ok s1 => ?_)
  intro Dl hD
  obtain ⟨G, Y, wk, hG, hY⟩ := ok
  obtain ⟨f1, f2, f3⟩ := w1.fresh hD
  have enw := (en.mono g1).wipe vs
  have nb : ∀ {i : Nat} {acc : List D} {M' : List MO} {I' : Hp} {as' : List Addr}, Sat K (Rep K) (fun c H' => lowW mg W c σ H') I' as' P Q ((lcL it.gd gg gb ge (wipeD δ vs) (it.items.drop i) acc M').bind fin) → it.gd M' := fun h => lcL_gd fun e => by
    rw [e] at h
    exact h
  refine lc_it wk (fun i H' => ∃ acc us M' I' as', Gr I1 as1 I' as' ∧ Wr K H' I' as' M' (upd P Dl (.lst us)) ∧ Reps K I' as' us acc ∧ Sat K (Rep K) (fun c H' => lowW mg W c σ H') I' as' P Q ((lcL it.gd gg gb ge (wipeD δ vs) (it.items.drop i) acc M').bind fin))
    ⟨[], [], M1, I1, as1, Gr.refl _ _, w1.newP hD _, .nil, by rw [List.drop_zero]; exact s1⟩ ?_ ?_ ?_
  · rintro i H' hi ⟨acc, us, M', I', as', g', w', r', s'⟩
    exact hG H' I' as' M' _ g' w' (nb s')
  · rintro i x H' H2 hi ⟨acc, us, M', I', as', g', w', r', s'⟩ y
    have hgd := nb s'
    obtain ⟨I2, d, g2, w2, hd, rd⟩ := hY i x H' H2 I' as' M' _ hi g' w' hgd y
    have ed : it.items.drop i = d :: it.items.drop (i + 1) := by
      rw [List.drop_eq_getElem_cons hi]
      have := List.getElem?_eq_getElem hi
      rw [hd] at this
      rw [← Option.some.inj this]
    rw [ed] at s'
    unfold lcL at s'
    rw [if_pos hgd] at s'
    refine hg x d (wipe σ vs) H2 (wipeD δ vs) I2 as' M' _ _ w2 (enw.mono (g'.trans g2)) rd ?_
    have s2 := Sat.gr g2 s'
    cases e1 : gg d (wipeD δ vs) M' with
    | nx δ1 M1 =>
      simp only [e1] at s2
      intro σ3 H3 I3 as3 g3 w3 en3 k3
      refine ⟨wipe_kept hs k3, ?_⟩
      refine ht σ3 H3 δ1 I3 as3 M1 _ _ w3 en3 ?_
      have s3 := Sat.gr g3 s2
      cases e2 : gb δ1 M1 with
      | ok b M2 =>
        simp only [e2] at s3
        intro b' H4 I4 as4 g4 w4 eb
        subst eb
        have s4 := Sat.gr g4 s3
        cases b' with
        | true =>
          simp only [if_true] at s4 ⊢
          refine he σ3 H4 δ1 I4 as4 M2 _ _ w4 (en3.mono g4) ?_
          cases e3 : ge δ1 M2 with
          | ok d5 M5 =>
            simp only [e3] at s4
            intro v5 H5 I5 as5 g5 w5 r5
            have s5 := Sat.gr g5 s4
            split at s5
            · rename_i hb
              have ga := (g2.trans (g3.trans (g4.trans g5)))
              have hP := (w5.prv Dl _ upd_same).1
              refine ⟨us, hP, ?_, acc ++ [d5], us ++ [v5], M5, I5, as5, g'.trans ga, ?_, (r'.mono ga).append (.cons r5 .nil), s5⟩
              · rw [r'.len]
                exact Evl.sz_lt hb
              · have z := w5.putP (p := Dl) upd_same (.lst (us ++ [v5]))
                rw [upd_upd] at z
                exact z
            · exact s5.elim
          | bad => simp only [e3] at s4; exact s4.elim
          | ex c M5 => simp only [e3] at s4; exact s4.elim
        | false =>
          simp only [if_neg Bool.false_ne_true] at s4 ⊢
          have ga := (g2.trans (g3.trans g4))
          exact ⟨acc, us, M2, I4, as4, g'.trans ga, w4, r'.mono ga, s4⟩
      | bad => simp only [e2] at s3; exact s3.elim
      | ex c M5 => simp only [e2] at s3; exact s3.elim
    | bad => simp only [e1] at s2; exact s2.elim
    | rt _ _ => simp only [e1] at s2; exact s2.elim
    | bk _ _ => simp only [e1] at s2; exact s2.elim
    | ct _ _ => simp only [e1] at s2; exact s2.elim
    | ex _ _ _ => simp only [e1] at s2; exact s2.elim
  · rintro H' ⟨acc, us, M', I', as', g', w', r', s'⟩
    have hgd := nb s'
    rw [List.drop_length] at s'
    unfold lcL at s'
    rw [if_pos hgd] at s'
    exact hf H' I' as' M' P Dl us acc _ Q f2 w' r' s'
section
variable {X : Cx} {W : WX} {tg iter elt : Expr} {ifs : List Expr} {scope : Scope} {own : List (Str × Nat)} {pos : Pos} {wi : TI} {gi : GI} {is : List Nat} {gt : TG} {gg : GG} {tt : TT} {gb : GB} {te : TE} {ge : GE}
theorem xe_lc (own : List (Str × Nat)) {fin : List D → List MO → R D} (hf : FinOk X.K fin) (hc : X.calm = true) (hN : X.N.Nodup) (hi : XI X W tg iter wi gi) (ok : BlkOk X.N X.env.scope scope own)
    (hg : ∀ (s : Shared) (H : Hp) (C : Addr) (cl : List (Str × Addr)) (fp : List Addr), XG (X.blk s H scope (compEnvC scope cl C X.env) fp) W0 tg is gt gg) (ht : ∀ (s : Shared) (H : Hp) (C : Addr) (cl : List (Str × Addr)) (fp : List Addr), XTs (X.blk s H scope (compEnvC scope cl C X.env) fp) W0 ifs tt gb)
    (he : ∀ (s : Shared) (H : Hp) (C : Addr) (cl : List (Str × Addr)) (fp : List Addr), XE (X.blk s H scope (compEnvC scope cl C X.env) fp) W0 elt te ge) (hsub : ∀ j ∈ is, j ∈ own.map (·.2) := by decide) (hs : ∀ x, foldedSetIterable iter X.env x = pure x := by intro _; rfl) :
    XE X W (.ListComp elt [⟨tg, iter, ifs, 0⟩] scope pos) (tLc wi gt tt te (own.map (·.2))) (gLcG fin gi gg gb ge (own.map (·.2))) :=
  ⟨pe_lc hc hN hi.pe ok (fun s H C cl fp => (hg s H C cl fp).pe) (fun s H C cl fp => (ht s H C cl fp).pe) (fun s H C cl fp => (he s H C cl fp).pe) hs,
    impE_lc hf hsub hi.im (hg X.s_0 X.H_0 0 [] []).im (ht X.s_0 X.H_0 0 [] []).im (he X.s_0 X.H_0 0 [] []).im⟩
/-- name = [..] on one line -/
theorem xs_setLc (i : Nat) {y : Str} {py spos : Pos} (own : List (Str × Nat)) {fin : List D → List MO → R D} (hf : FinOk X.K fin) (hc : X.calm = true) (hN : X.N.Nodup) (hi : XI X W tg iter wi gi) (ok : BlkOk X.N X.env.scope scope own)
    (hg : ∀ (s : Shared) (H : Hp) (C : Addr) (cl : List (Str × Addr)) (fp : List Addr), XG (X.blk s H scope (compEnvC scope cl C X.env) fp) W0 tg is gt gg) (ht : ∀ (s : Shared) (H : Hp) (C : Addr) (cl : List (Str × Addr)) (fp : List Addr), XTs (X.blk s H scope (compEnvC scope cl C X.env) fp) W0 ifs tt gb)
    (he : ∀ (s : Shared) (H : Hp) (C : Addr) (cl : List (Str × Addr)) (fp : List Addr), XE (X.blk s H scope (compEnvC scope cl C X.env) fp) W0 elt te ge)
    (hsw : swapsWith (.ListComp elt [⟨tg, iter, ifs, 0⟩] scope pos) (some (.Name y py)) spos.line X.env = pure true := by exact sw_true rfl rfl rfl (by decide +kernel)) (hy : X.N[i]? = some y := by rfl) (hyl : X.env.scope.names.lookup y = some .local := by rfl)
    (hsub : ∀ j ∈ is, j ∈ own.map (·.2) := by decide) (hs : ∀ x, foldedSetIterable iter X.env x = pure x := by intro _; rfl) :
    XS X W (.Assign [.Name y py] (.ListComp elt [⟨tg, iter, ifs, 0⟩] scope pos) spos) (tAsg (tLc wi gt tt te (own.map (·.2))) (L2.gName i)) (gSet i (gLcG fin gi gg gb ge (own.map (·.2)))) :=
  ⟨ps_setLc hc hN hy hyl hsw hi.pe ok (fun s H C cl fp => (hg s H C cl fp).pe) (fun s H C cl fp => (ht s H C cl fp).pe) (fun s H C cl fp => (he s H C cl fp).pe) hs,
    impS_set (impE_lc hf hsub hi.im (hg X.s_0 X.H_0 0 [] []).im (ht X.s_0 X.H_0 0 [] []).im (he X.s_0 X.H_0 0 [] []).im)⟩
end

/-! ### defs -/
def startD (N : Nat) (ds : List D) : Ctx := ds.map some ++ List.replicate (N - ds.length) none
def fnM (N : Nat) (g : GS) : OC := fun ds M => match g (startD N ds) M with
  | .nx _ M' => .ok .non M'
  | .rt d M' => .ok d M'
  | .ex c _ M' => .ex c M'
  | _ => .bad
theorem envr_start {K : PySem.W.Frag} {I : Hp} {as : List Addr} {N : List Str} {vs : List V} {ds : List D} (r : Reps K I as vs ds) : Envr K I as (L2.start N vs) (startD N.length ds) := by
  have hl := r.len
  refine ⟨by simp [L2.start, startD, hl], fun i d h => ?_⟩
  unfold startD at h
  by_cases hi : i < ds.length
  · rw [List.getElem?_append_left (by simpa using hi), List.getElem?_map] at h
    cases e : ds[i]? with
    | none => rw [e] at h; cases h
    | some d' =>
      rw [e] at h
      have e1 : d' = d := Option.some.inj (Option.some.inj h)
      subst e1
      obtain ⟨v, h1, h2⟩ := r.get e
      refine ⟨v, ?_, h2⟩
      unfold L2.start
      rw [List.getElem?_append_left (by simpa [hl] using hi), List.getElem?_map, h1]
      rfl
  · rw [List.getElem?_append_right (by simpa using hi)] at h
    rw [List.getElem?_replicate] at h
    split at h <;> cases h
section
variable {P : Program} {w : World} {K : PySem.W.Frag} {mg : Str → Option Value} {base : Heap}
theorem fn_okM {x qual : Str} {st : Stmt} {f : Addr} {fd : FuncData} {N ps : List Str} {k : Nat} {g : GS} (F : Fun K x qual st f fd) (S : FnScope N ps (defScope st))
    (hbody : ∀ (cdv : Value) (A : Around) (outer : List Env) (s : Shared) (H : Hp) (E : XK), Room k (A.deeper (envOfC qual (defScope st) s.heap.objs.size f cdv)) →
      Takes (cxOf (L2.CX P w) P w K mg base N qual (defScope st) f cdv A outer s H E) (fun cls d _ H => E cls d H) →
      PassesOwn (model P w) (cxOf (L2.CX P w) P w K mg base N qual (defScope st) f cdv A outer s H E).A (cxOf (L2.CX P w) P w K mg base N qual (defScope st) f cdv A outer s H E).env (cxOf (L2.CX P w) P w K mg base N qual (defScope st) f cdv A outer s H E).xe →
      ∃ t, XSs (cxOf (L2.CX P w) P w K mg base N qual (defScope st) f cdv A outer s H E) (fun cls d _ H => E cls d H) (defBody st) t g) :
    FnOk P w K mg base (L2.CX P w) (k + 1) f fd ps (spM K mg ps.length (fnM N.length g)) := by
  refine F.okX S (fun vs H Q E h => h.1) fun cdv A outer s H vs Q E hr h => ?_
  obtain ⟨hl, ds, I, as, M, P', wr, r, sat⟩ := h
  obtain ⟨t, ht⟩ := hbody cdv A outer s H E hr (takes_of rfl rfl rfl rfl) (passes_of rfl)
  refine ⟨t, ht.pe, ?_⟩
  refine ht.im (L2.start N vs) H (startD N.length ds) I as M P' _ wr (envr_start r) ?_
  unfold fnM at sat
  show SatS K (lowW mg _) I as P' _ _
  cases e : g (startD N.length ds) M with
  | bad => rw [e] at sat; exact sat.elim
  | nx δ1 M1 => rw [e] at sat; exact fun σ' H' I' as' g' w' en' => sat _ H' I' as' g' w' .non
  | rt d M1 => rw [e] at sat; exact fun v H' I' as' g' w' r' => sat _ H' I' as' g' w' r'
  | bk d M1 => rw [e] at sat; exact sat.elim
  | ct d M1 => rw [e] at sat; exact sat.elim
  | ex c d M1 => rw [e] at sat; exact fun σ' H' I' as' g' w' en' => sat H' I' as' g' w'
/-- a promise told otherwise -/
theorem FnOk.m {f : Addr} {fd : FuncData} {ps : List Str} {k n : Nat} {m m' : OC} (F : FnOk P w K mg base (L2.CX P w) k f fd ps (spM K mg n m))
    (h : ∀ (ds : List D) (M : List MO) (H I : Hp) (as : List Addr) (P' : Hp) (Q : VK) (Wf : Str → Hp → Prop), ds.length = n → as.length = M.length → Sat K (Rep K) Wf I as P' Q (m' ds M) → Sat K (Rep K) Wf I as P' Q (m ds M)) : FnOk P w K mg base (L2.CX P w) k f fd ps (spM K mg n m') :=
  F.imp fun vs H Q E ⟨hl, ds, I, as, M, P', wr, r, sat⟩ => ⟨hl, ds, I, as, M, P', wr, r, h ds M H I as P' Q _ (by rw [← r.len]; exact hl) wr.len sat⟩
/-- refined: where m' says something, m says the same -/
theorem Sat.of_eq {α β : Type} {rel : Hp → List Addr → β → α → Prop} {Wf : Str → Hp → Prop} {I P' : Hp} {as : List Addr} {Q : β → Hp → Prop} {r r' : R α} (h : r' ≠ .bad → r = r') (s : Sat K rel Wf I as P' Q r') : Sat K rel Wf I as P' Q r := by
  rw [h (SatT.ne s)]
  exact s
theorem FnOk.toC {x : Str} {f : Addr} {fd : FuncData} {ps : List Str} {k n : Nat} {m : OC} (F : FnOk P w K mg base (L2.CX P w) k f fd ps (spM K mg n m)) (h1 : mg x = some (.ref f)) (h2 : PySem.W.keepIn K (.ref f) = true) (h3 : Binds K fd ps []) (h4 : PySem.W.nsIn K mainGlobals x = some (some (.ref f))) : Callee P w K mg base x k n m :=
  ⟨⟨f, fd, ps, F, h1, h2, h3, h4⟩⟩
end
/-! what nobody can reach any more is dropped -/
mutual
def D.lo (n : Nat) : D → Bool
  | .tup xs => D.los n xs
  | .lst xs => D.los n xs
  | .rol xs => D.los n xs
  | .ref k => decide (k < n)
  | _ => true
def D.los (n : Nat) : List D → Bool
  | [] => true
  | x :: xs => D.lo n x && D.los n xs
end
def MO.lo (n : Nat) : MO → Bool
  | .lst xs => D.los n xs
  | .dct kvs => D.los n (kvs.map fun p => p.2)
mutual
theorem Rep.cut {K : PySem.W.Frag} {I : Hp} {as t : List Addr} : ∀ {v : V} {d : D}, Rep K I (as ++ t) v d → D.lo as.length d = true → Rep K I as v d
  | _, _, .non, _ => .non
  | _, _, .bl b, _ => .bl b
  | _, _, .int b, _ => .int b
  | _, _, .str b, _ => .str b
  | _, _, .tup h r, e => .tup h (Reps.cut' r e)
  | _, _, .lst h r, e => .lst h (Reps.cut' r e)
  | _, _, .rol h r, e => .rol h (Reps.cut' r e)
  | _, _, .ref h, e => .ref (by rw [List.getElem?_append_left (of_decide_eq_true e)] at h; exact h)
  | _, _, .obj a, _ => .obj a
  | _, _, .fn h, _ => .fn h
  | _, _, .dct h, _ => .dct h
theorem Reps.cut' {K : PySem.W.Frag} {I : Hp} {as t : List Addr} : ∀ {vs : List V} {ds : List D}, Reps K I (as ++ t) vs ds → D.los as.length ds = true → Reps K I as vs ds
  | _, _, .nil, _ => .nil
  | _, _, .cons h r, e => by
    unfold D.los at e
    rw [Bool.and_eq_true] at e
    exact .cons (Rep.cut h e.1) (Reps.cut' r e.2)
end
theorem Wr.cut {K : PySem.W.Frag} {H I P : Hp} {as t : List Addr} {M : List MO} (w : Wr K H I (as ++ t) M P) (h : (M.take as.length).all (MO.lo as.length) = true) : Wr K H I as (M.take as.length) P := by
  have hl := w.len
  rw [List.length_append] at hl
  refine ⟨w.sub, by rw [List.length_take]; omega, (List.nodup_append.mp w.nd).1, fun k a o ha ho => ?_, w.prv⟩
  have hk : k < as.length := (List.getElem?_eq_some_iff.mp ha).1
  have ho2 : M[k]? = some o := by
    rw [List.getElem?_take] at ho
    rw [if_pos hk] at ho
    exact ho
  obtain ⟨m1, m2, m3⟩ := w.mu k a o (by rw [List.getElem?_append_left hk]; exact ha) ho2
  refine ⟨m1, m2, ?_⟩
  have hb := List.all_eq_true.mp h o (List.mem_of_getElem? ho)
  cases o with
  | lst xs =>
    obtain ⟨vs, e, r⟩ := m3
    exact ⟨vs, e, r.cut' hb⟩
  | dct xs =>
    obtain ⟨vs, e, e2, r⟩ := m3
    exact ⟨vs, e, e2, r.cut' hb⟩
def cutR (n : Nat) : R D → R D
  | .ok d M => if (D.lo n d && (M.take n).all (MO.lo n)) = true then .ok d (M.take n) else .bad
  | .ex c M => if (M.take n).all (MO.lo n) = true then .ex c (M.take n) else .bad
  | .bad => .bad
def cutM (m : OC) : OC := fun ds M => cutR M.length (m ds M)
theorem Sat.cut {K : PySem.W.Frag} {Wf : Str → Hp → Prop} {I P : Hp} {as : List Addr} {Q : VK} {r : R D} {n : Nat} (hn : as.length = n) (s : Sat K (Rep K) Wf I as P Q (cutR n r)) : Sat K (Rep K) Wf I as P Q r := by
  subst hn
  cases r with
  | bad => exact s.elim
  | ok d M =>
    have s2 : Sat K (Rep K) Wf I as P Q (if (D.lo as.length d && (M.take as.length).all (MO.lo as.length)) = true then .ok d (M.take as.length) else .bad) := s
    by_cases hb : (D.lo as.length d && (M.take as.length).all (MO.lo as.length)) = true
    · rw [if_pos hb] at s2
      rw [Bool.and_eq_true] at hb
      rintro v H' I' as' ⟨g1, t, rfl⟩ w' r'
      exact s2 v H' I' as ⟨g1, [], by simp⟩ (w'.cut hb.2) (r'.cut hb.1)
    · rw [if_neg hb] at s2
      exact s2.elim
  | ex c M =>
    have s2 : Sat K (Rep K) Wf I as P Q (if (M.take as.length).all (MO.lo as.length) = true then .ex c (M.take as.length) else .bad) := s
    by_cases hb : (M.take as.length).all (MO.lo as.length) = true
    · rw [if_pos hb] at s2
      rintro H' I' as' ⟨g1, t, rfl⟩ w'
      exact s2 H' I' as ⟨g1, [], by simp⟩ (w'.cut hb)
    · rw [if_neg hb] at s2
      exact s2.elim
section
variable {P : Program} {w : World} {K : PySem.W.Frag} {mg : Str → Option Value} {base : Heap}
theorem FnOk.cut {f : Addr} {fd : FuncData} {ps : List Str} {k n : Nat} {m : OC} (F : FnOk P w K mg base (L2.CX P w) k f fd ps (spM K mg n m)) : FnOk P w K mg base (L2.CX P w) k f fd ps (spM K mg n (cutM m)) :=
  FnOk.m F fun ds M H I as P' Q Wf _ hl s => Sat.cut hl s
/-- .. and told by what it comes to -/
theorem FnOk.re {f : Addr} {fd : FuncData} {ps : List Str} {k n : Nat} {m m' : OC} (F : FnOk P w K mg base (L2.CX P w) k f fd ps (spM K mg n m)) (h : ∀ ds M, ds.length = n → m' ds M ≠ .bad → m ds M = m' ds M) : FnOk P w K mg base (L2.CX P w) k f fd ps (spM K mg n m') :=
  FnOk.m F fun ds M H I as P' Q Wf hd hl s => Sat.of_eq (h ds M hd) s
end
/-! the law's own end -/
theorem law_end {K : PySem.W.Frag} {mg : Str → Option Value} {m : OC} {H : Hp} {a : Addr} {ns : List Int} (hS : SqL K H a (ns.map V.int)) (h : ∃ M, m [.rol (ns.map D.int)] [] = .ok (.bl true) M) :
    spM K mg 1 m [.ref a] H (fun v _ => v = .bl true) fun _ _ _ => False := by
  obtain ⟨M, h⟩ := h
  refine ⟨rfl, [.rol (ns.map D.int)], H, [], [], fun _ => none, ⟨fun _ _ e => e, rfl, List.nodup_nil, fun k a o e => by simp at e, fun a o e => by cases e⟩, .cons (.rol hS (Reps.ints ns rfl)) .nil, ?_⟩
  rw [h]
  intro v H' I' as' g w r
  cases r
  rfl

/-! ### built-ins -/
section
variable {K : PySem.W.Frag} {X : Cx}
def oLen : OC := fun ds M => match ds with
  | [x] => match tupOf x with
    | some xs => .ok (.int (xs.length : Int)) M
    | none => match listOf M x with
      | some xs => .ok (.int (xs.length : Int)) M
      | none => .bad
  | _ => .bad
theorem opc_len : OpC K (fun xs H Q => ∃ p ys, xs = [.ref p] ∧ (SqL K H p ys ∨ SqT K H p ys) ∧ Q (.int ys.length) H) oLen := by
  intro H I as M P xs ds Wf Q w r s
  unfold oLen at s
  split at s
  · obtain ⟨v, rfl, rv⟩ := r.one_inv
    split at s
    · rename_i ys hy
      obtain ⟨a, vs, rfl, h1, r1⟩ := rv.tupl w hy
      exact ⟨a, vs, rfl, .inr h1, by rw [r1.len]; exact s.now w (.int _)⟩
    · split at s
      · rename_i ys hy
        obtain ⟨a, vs, rfl, h1, r1⟩ := rv.list w hy
        exact ⟨a, vs, rfl, .inl h1, by rw [r1.len]; exact s.now w (.int _)⟩
      · exact s.elim
  · exact s.elim
def oInt : OC := fun ds M => match ds with
  | [.int i] => .ok (.int i) M
  | [.bl b] => .ok (.int (if b then 1 else 0)) M
  | _ => .bad
theorem opc_int : OpC K (fun xs H Q => (∃ i, xs = [.int i] ∧ Q (.int i) H) ∨ ∃ k, xs = [.bl k] ∧ Q (.int (if k then 1 else 0)) H) oInt := by
  intro H I as M P xs ds Wf Q w r s
  unfold oInt at s
  split at s
  · obtain ⟨v, rfl, rv⟩ := r.one_inv
    cases rv
    exact .inl ⟨_, rfl, s.now w (.int _)⟩
  · obtain ⟨v, rfl, rv⟩ := r.one_inv
    cases rv
    exact .inr ⟨_, rfl, s.now w (.int _)⟩
  · exact s.elim
def oAbs : OC := fun ds M => match ds with
  | [.int i] => .ok (.int (if i < 0 then -i else i)) M
  | _ => .bad
theorem opc_abs : OpC K (fun xs H Q => ∃ i, xs = [.int i] ∧ Q (.int (if i < 0 then -i else i)) H) oAbs := by
  intro H I as M P xs ds Wf Q w r s
  unfold oAbs at s
  split at s
  · obtain ⟨v, rfl, rv⟩ := r.one_inv
    cases rv
    exact ⟨_, rfl, s.now w (.int _)⟩
  · exact s.elim
def oMin2 : OC := fun ds M => match ds with
  | [.int i, .int j] => .ok (.int (if j < i then j else i)) M
  | _ => .bad
theorem opc_min2 : OpC K (fun xs H Q => ∃ i j, xs = [.int i, .int j] ∧ Q (.int (if j < i then j else i)) H) oMin2 := by
  intro H I as M P xs ds Wf Q w r s
  unfold oMin2 at s
  split at s
  · obtain ⟨v, v2, rfl, rv, rv2⟩ := r.two_inv
    cases rv; cases rv2
    exact ⟨_, _, rfl, s.now w (.int _)⟩
  · exact s.elim
def oGcd : OC := fun ds M => match ds with
  | [.int i, .int j] => .ok (.int ((Nat.gcd i.natAbs j.natAbs : Nat) : Int)) M
  | _ => .bad
theorem opc_gcd : OpC K rGcd oGcd := by
  intro H I as M P xs ds Wf Q w r s
  unfold oGcd at s
  split at s
  · obtain ⟨v, v2, rfl, rv, rv2⟩ := r.two_inv
    cases rv; cases rv2
    exact ⟨_, _, rfl, s.now w (.int _)⟩
  · exact s.elim
/-- lcm of great numbers -/
def CLcm (i j : Int) : Prop := i.natAbs.log2 < 6000 ∧ j.natAbs.log2 < 6000
open Classical in
noncomputable def oLcm : OC := fun ds M => match ds with
  | [.int i, .int j] => if CLcm i j then .ok (.int ((Nat.lcm i.natAbs j.natAbs : Nat) : Int)) M else .bad
  | _ => .bad
def rLcm : List V → Hp → VK → Prop := fun vs H Q => ∃ a b : Int, vs = [.int a, .int b] ∧ CLcm a b ∧ Q (.int ((Nat.lcm a.natAbs b.natAbs : Nat) : Int)) H
theorem log2_lt {n k : Nat} (h : n.log2 < k) : n < 2 ^ k := by
  by_cases h0 : n = 0
  · subst h0; exact Nat.two_pow_pos k
  · exact (Nat.log2_lt h0).mp h
theorem cr_lcm : CallR X (.builtin "math.lcm") rLcm := by
  intro pins s σ H vs us Q I r h
  obtain ⟨a, b, rfl, c, q⟩ := h
  obtain ⟨t, u, rfl⟩ := Vals.int2 r
  unfold CLcm at c
  have ha := log2_lt c.1
  have hb := log2_lt c.2
  have e1 : Nat.lcm 1 a.natAbs = a.natAbs := Nat.lcm_one_left _
  have hz : (Nat.lcm a.natAbs b.natAbs) < 2 ^ 12000 := by
    have h1 : Nat.lcm a.natAbs b.natAbs ≤ a.natAbs * b.natAbs := by
      unfold Nat.lcm
      exact Nat.div_le_self _ _
    exact Nat.lt_of_le_of_lt h1 (Nat.lt_of_lt_of_le (Nat.mul_lt_mul'' ha hb) (by rw [← Nat.pow_add]; exact Nat.le_refl _))
  have hsz : ((((Nat.lcm 1 a.natAbs).lcm b.natAbs : Nat) : Int)).natAbs.log2 < PySem.bitsLine := by
    rw [e1, Int.natAbs_natCast]
    have : (Nat.lcm a.natAbs b.natAbs).log2 < 12000 := PySem.Flt.log2_lt_of (by decide) hz
    have e : PySem.bitsLine = 134217728 := by decide
    omega
  have m1 : (max 1 a.natAbs).log2 ≤ 6000 := by
    rcases Nat.le_total 1 a.natAbs with q | q
    · rw [Nat.max_eq_right q]; omega
    · rw [Nat.max_eq_left q]; decide
  have m2 : (max a.natAbs b.natAbs).log2 ≤ 6000 := by
    rcases Nat.le_total a.natAbs b.natAbs with q | q
    · rw [Nat.max_eq_right q]; omega
    · rw [Nat.max_eq_left q]; omega
  refine PySem.call_function_meets PySem.W.MGF.kind_lcm PySem.W.MGF.plain_lcm PySem.W.MGF.entry_lcm (PySem.W.MGF.args_lcm _ _) (PySem.W.mg_run_lcm a t b u (by omega) (by omega) hsz).meets ?_
  rw [e1]
  exact ⟨.int _, H, I.tok _, ⟨_, rfl⟩, q⟩
theorem opc_lcm : OpC K rLcm oLcm := by
  intro H I as M P xs ds Wf Q w r s
  unfold oLcm at s
  split at s
  · split at s
    · rename_i hc
      obtain ⟨v, v2, rfl, rv, rv2⟩ := r.two_inv
      cases rv; cases rv2
      exact ⟨_, _, rfl, hc, s.now w (.int _)⟩
    · exact s.elim
  · exact s.elim
/-- list(x), tuple(x) -/
def oList : OC := fun ds M => match ds with
  | [x] => match tupOf x with
    | some xs => .ok (.lst xs) M
    | none => match listOf M x with
      | some xs => .ok (.lst xs) M
      | none => .bad
  | _ => .bad
def oListM : OC := fun ds M => match ds with
  | [x] => match tupOf x with
    | some xs => .ok (.ref M.length) (M ++ [.lst xs])
    | none => match listOf M x with
      | some xs => .ok (.ref M.length) (M ++ [.lst xs])
      | none => .bad
  | _ => .bad
abbrev rListC (K : PySem.W.Frag) : List V → Hp → VK → Prop := fun xs H Q => ∃ p ys, xs = [.ref p] ∧ (SqL K H p ys ∨ SqT K H p ys) ∧ ∀ l, H l = none → Q (.ref l) (upd H l (.lst ys))
theorem opc_list : OpC K (rListC K) oList := by
  intro H I as M P xs ds Wf Q w r s
  unfold oList at s
  split at s
  · obtain ⟨v, rfl, rv⟩ := r.one_inv
    split at s
    · rename_i ys hy
      obtain ⟨a, vs, rfl, h1, r1⟩ := rv.tupl w hy
      exact ⟨a, vs, rfl, .inr h1, fun l hl => s.newLst w r1 hl⟩
    · split at s
      · rename_i ys hy
        obtain ⟨a, vs, rfl, h1, r1⟩ := rv.list w hy
        exact ⟨a, vs, rfl, .inl h1, fun l hl => s.newLst w r1 hl⟩
      · exact s.elim
  · exact s.elim
theorem opc_listM : OpC K (rListC K) oListM := by
  intro H I as M P xs ds Wf Q w r s
  unfold oListM at s
  split at s
  · obtain ⟨v, rfl, rv⟩ := r.one_inv
    split at s
    · rename_i ys hy
      obtain ⟨a, vs, rfl, h1, r1⟩ := rv.tupl w hy
      exact ⟨a, vs, rfl, .inr h1, fun l hl => s.newRef w r1 hl⟩
    · split at s
      · rename_i ys hy
        obtain ⟨a, vs, rfl, h1, r1⟩ := rv.list w hy
        exact ⟨a, vs, rfl, .inl h1, fun l hl => s.newRef w r1 hl⟩
      · exact s.elim
  · exact s.elim
def oTuple : OC := fun ds M => match ds with
  | [x] => match tupOf x with
    | some xs => .ok (.tup xs) M
    | none => match listOf M x with
      | some xs => .ok (.tup xs) M
      | none => .bad
  | _ => .bad
abbrev rTupleC (K : PySem.W.Frag) : List V → Hp → VK → Prop := fun xs H Q => ∃ p ys, xs = [.ref p] ∧ ((SqL K H p ys ∧ ∀ l, H l = none → Q (.ref l) (upd H l (.tup ys))) ∨ (SqT K H p ys ∧ Q (.ref p) H))
theorem tupOf_eq {x : D} {xs : List D} (h : tupOf x = some xs) : x = .tup xs := by
  cases x <;> first | (cases h; rfl) | cases h
theorem opc_tuple : OpC K (rTupleC K) oTuple := by
  intro H I as M P xs ds Wf Q w r s
  unfold oTuple at s
  split at s
  · obtain ⟨v, rfl, rv⟩ := r.one_inv
    split at s
    · rename_i ys hy
      have e := tupOf_eq hy
      subst e
      have rv' := rv
      obtain ⟨a, vs, rfl, h1, r1⟩ := rv.tupl w hy
      exact ⟨a, vs, rfl, .inr ⟨h1, s.now w rv'⟩⟩
    · split at s
      · rename_i ys hy
        obtain ⟨a, vs, rfl, h1, r1⟩ := rv.list w hy
        exact ⟨a, vs, rfl, .inl ⟨h1, fun l hl => s.newTup w r1 hl⟩⟩
      · exact s.elim
  · exact s.elim
/-- all, any of a list of flags -/
def bls : List D → Option (List Bool)
  | [] => some []
  | .bl b :: xs => (bls xs).map (b :: ·)
  | _ :: _ => none
theorem Reps.bls {I : Hp} {as : List Addr} : ∀ {vs : List V} {ds : List D} {bs : List Bool}, Reps K I as vs ds → KM.bls ds = some bs → vs = bs.map V.bl
  | _, _, bs, .nil, h => by cases h; rfl
  | _, _, bs, .cons (d := d) (ds := ds) r rr, h => by
    cases d with
    | bl b =>
      unfold KM.bls at h
      cases e : KM.bls ds with
      | none => rw [e] at h; cases h
      | some cs =>
        rw [e] at h
        cases h
        cases r
        rw [Reps.bls rr e]
        rfl
    | _ => cases h
def oAll : OC := fun ds M => match ds with
  | [x] => match listOf M x with
    | some xs => match bls xs with
      | some bs => .ok (.bl (bs.all id)) M
      | none => .bad
    | none => .bad
  | _ => .bad
def oAny : OC := fun ds M => match ds with
  | [x] => match listOf M x with
    | some xs => match bls xs with
      | some bs => .ok (.bl (bs.any id)) M
      | none => .bad
    | none => .bad
  | _ => .bad
theorem opc_all : OpC K (rAll K) oAll := by
  intro H I as M P xs ds Wf Q w r s
  unfold oAll at s
  split at s
  · obtain ⟨v, rfl, rv⟩ := r.one_inv
    split at s
    · rename_i ys hy
      split at s
      · rename_i bs hb
        obtain ⟨a, vs, rfl, h1, r1⟩ := rv.list w hy
        exact ⟨a, bs, rfl, by rw [← r1.bls hb]; exact h1, s.now w (.bl _)⟩
      · exact s.elim
    · exact s.elim
  · exact s.elim
theorem opc_any : OpC K (rAny K) oAny := by
  intro H I as M P xs ds Wf Q w r s
  unfold oAny at s
  split at s
  · obtain ⟨v, rfl, rv⟩ := r.one_inv
    split at s
    · rename_i ys hy
      split at s
      · rename_i bs hb
        obtain ⟨a, vs, rfl, h1, r1⟩ := rv.list w hy
        exact ⟨a, bs, rfl, by rw [← r1.bls hb]; exact h1, s.now w (.bl _)⟩
      · exact s.elim
    · exact s.elim
  · exact s.elim
end

end KM
set_option Elab.async false
set_option linter.all false
set_option maxRecDepth 100000
set_option maxHeartbeats 2000000
namespace KM
open PySem L2 PySem.Spec PyProof.Rows
theorem tuple_mul0 (l : Addr) (items : Array Value) (n : Nat) (dd : Option Addr) (sl : Array (Option Value)) (u : Tok) (hne : items.isEmpty = false) :
    Meets (Builtin.«tuple.__mul__» ⟨[.ref l, .int 0 u], []⟩) (fun _ R s => s.heap.get? l = some { cls := .type "tuple", dict := dd, data := .seq items n, slots := sl } ∧
      R (.ok (.ret (Value.ref s.heap.objs.size))) { s with heap := s.heap.push { cls := Value.type "tuple", data := Data.seq #[] }, toks := s.toks }) :=
  .of_wp fun prog w A R s h => by
    obtain ⟨hp, g, d, tk, os⟩ := s
    obtain ⟨hl, h⟩ := h
    have f1 := AutoSeq1.idx_int
    wp_walk using wpAny_loadPart' hl
    exact ⟨_, rfl, h⟩
theorem tuple_mul1 (l : Addr) (items : Array Value) (n : Nat) (dd : Option Addr) (sl : Array (Option Value)) (u : Tok) :
    Meets (Builtin.«tuple.__mul__» ⟨[.ref l, .int 1 u], []⟩) (fun _ R s => s.heap.get? l = some { cls := .type "tuple", dict := dd, data := .seq items n, slots := sl } ∧
      R (.ok (.ret (Value.ref l))) { s with heap := s.heap, toks := s.toks }) :=
  .of_wp fun prog w A R s h => by
    obtain ⟨hp, g, d, tk, os⟩ := s
    obtain ⟨hl, h⟩ := h
    have f1 := AutoSeq1.idx_int
    wp_walk using wpAny_loadPart' hl
    exact ⟨_, rfl, h⟩
section
variable {X : Cx}
def rRep0 (K : PySem.W.Frag) : R2 := fun x y H Q => ∃ l xs, x = .ref l ∧ y = .int 0 ∧ SqT K H l xs ∧ xs ≠ [] ∧ ∀ p, H p = none → Q (.ref p) (upd H p (.tup []))
def rRep1 (K : PySem.W.Frag) : R2 := fun x y H Q => ∃ l xs, x = .ref l ∧ y = .int 1 ∧ SqT K H l xs ∧ Q (.ref l) H
theorem op_rep0 : OpR X (binaryOp .Mult) (rRep0 X.K) := by
  intro pins s σ H x y v u Q I rx ry h
  obtain ⟨l, xs, rfl, rfl, hT, hne, q⟩ := h
  cases rx
  obtain ⟨t, rfl⟩ := ry
  obtain ⟨its, r, ⟨⟨cls, dd, data, sl⟩, ho, hc, n, hd⟩, hs⟩ := I.tuple hT
  simp only at hc hd
  subst hc hd
  have hle : its.length = xs.length := r.length.symm
  have hn : its ≠ [] := fun e => hne (by
    rw [e] at hle
    exact List.eq_nil_of_length_eq_zero hle.symm)
  have hi : its.toArray.isEmpty = false := by
    cases its with
    | nil => exact absurd rfl hn
    | cons a b => rfl
  refine wpAny_binaryOp_repeat_ref (T := "tuple") (U := "int") (by decide) ⟨_, ho, rfl⟩ (fun s' => typeIs_int s' 0 t) noFill_tuple_mul F.fills_int_mul F.slot_int_rmul repeat_tuple F.slot_int_index.lookup
    (call_meets F.slot_int_rmul (typeIs_int s 0 t) F.entry_int_rmul (F.args_int_rmul_2 _ _) (int_rmul_tuple 0 t l its.toArray n dd sl)
      ⟨ho, rfl, ⟨_, ho, rfl⟩, call_meets F.slot_tuple_mul ⟨_, ho, rfl⟩ F.entry_tuple_mul (F.args_tuple_mul_2 _ _) (tuple_mul0 l its.toArray n dd sl t hi) ⟨ho, ?_⟩⟩)
  refine ⟨.ref s.heap.objs.size, _, I.laid (t' := s.toks) (o := .tup []) (fun b ob q => Heap.get?_push_of_some _ q) (Nat.le_refl _) ?_, rfl, q _ (I.hok.fresh (Nat.le_refl _))⟩
  exact ⟨Nat.zero_le _, [], .nil, IsTup.new _ _⟩
theorem op_rep1 : OpR X (binaryOp .Mult) (rRep1 X.K) := by
  intro pins s σ H x y v u Q I rx ry h
  obtain ⟨l, xs, rfl, rfl, hT, q⟩ := h
  cases rx
  obtain ⟨t, rfl⟩ := ry
  obtain ⟨its, r, ⟨⟨cls, dd, data, sl⟩, ho, hc, n, hd⟩, hs⟩ := I.tuple hT
  simp only at hc hd
  subst hc hd
  refine wpAny_binaryOp_repeat_ref (T := "tuple") (U := "int") (by decide) ⟨_, ho, rfl⟩ (fun s' => typeIs_int s' 1 t) noFill_tuple_mul F.fills_int_mul F.slot_int_rmul repeat_tuple F.slot_int_index.lookup
    (call_meets F.slot_int_rmul (typeIs_int s 1 t) F.entry_int_rmul (F.args_int_rmul_2 _ _) (int_rmul_tuple 1 t l its.toArray n dd sl)
      ⟨ho, rfl, ⟨_, ho, rfl⟩, call_meets F.slot_tuple_mul ⟨_, ho, rfl⟩ F.entry_tuple_mul (F.args_tuple_mul_2 _ _) (tuple_mul1 l its.toArray n dd sl t) ⟨ho, ?_⟩⟩)
  exact ⟨.ref l, H, I, rfl, q⟩
def rMulA (K : PySem.W.Frag) : R2 := fun x y H Q => rI CMulB (fun i j => .int (i * j)) x y H Q ∨ rRepT K x y H Q ∨ rRep0 K x y H Q ∨ rRep1 K x y H Q ∨ rRep x y H Q
theorem op_mulA : OpR X (binaryOp .Mult) (rMulA X.K) := op_mulG.or (op_repT.or (op_rep0.or (op_rep1.or op_rep)))
end
open Classical in
noncomputable def oMul : OD := fun x y M => match x, y with
  | .int i, .int j => if CMulB i j then .ok (.int (i * j)) M else .bad
  | .tup xs, .int k => if xs ≠ [] ∧ 0 ≤ k ∧ k ≤ 1000 ∧ xs.length ≤ 1000 then .ok (.tup (List.replicate k.toNat xs).flatten) M else .bad
  | x, .int k => match listOfT M x with
    | some xs => if 0 ≤ k ∧ k ≤ 1000 ∧ xs.length ≤ 100 then .ok (.lst (List.replicate k.toNat xs).flatten) M else .bad
    | none => .bad
  | _, _ => .bad
/- the same, the new list one that may change -/
open Classical in
noncomputable def oMulM : OD := fun x y M => match y with
  | .int k => match listOfT M x with
    | some xs => if 0 ≤ k ∧ k ≤ 1000 ∧ xs.length ≤ 100 then .ok (.ref M.length) (M ++ [.lst (List.replicate k.toNat xs).flatten]) else .bad
    | none => .bad
  | _ => .bad
theorem opd_mul {K : PySem.W.Frag} : OpD K (rMulA K) oMul := by
  intro H I as M P x y d e Wf Q w rx ry s
  unfold oMul at s
  split at s
  · split at s
    · rename_i c
      cases rx; cases ry
      exact .inl ⟨_, _, rfl, rfl, c, s.now w (.int _)⟩
    · exact s.elim
  · rename_i xs k
    split at s
    · rename_i c
      obtain ⟨c1, c2, c3, c4⟩ := c
      cases ry
      have rx' := rx
      obtain ⟨a, vs, rfl, h1, r1⟩ := rx.tupl w rfl
      have hne : vs ≠ [] := fun e => by
        subst e
        cases r1
        exact c1 rfl
      by_cases h0 : k = 0
      · subst h0
        exact .inr (.inr (.inl ⟨a, vs, rfl, rfl, h1, hne, fun p hp => s.newTup w .nil hp⟩))
      · by_cases h2 : k = 1
        · subst h2
          refine .inr (.inr (.inr (.inl ⟨a, vs, rfl, rfl, h1, ?_⟩)))
          refine s.now w ?_
          rw [show ((1 : Int).toNat) = 1 from rfl, List.replicate_one, List.flatten_cons, List.flatten_nil, List.append_nil]
          exact rx'
        · refine .inr (.inl ⟨a, k, vs, rfl, rfl, h1, hne, by omega, c3, by rw [r1.len]; exact c4, fun p hp => s.newTup w (r1.rep _) hp⟩)
    · exact s.elim
  · split at s
    · rename_i xs hx
      split at s
      · rename_i c
        obtain ⟨c2, c3, c4⟩ := c
        cases ry
        obtain ⟨a, vs, rfl, h1, r1⟩ := rx.listT w hx
        refine .inr (.inr (.inr (.inr ⟨a, _, vs, rfl, rfl, h1, by omega, by omega, ?_, fun p hp => s.newLst w (r1.rep _) hp⟩)))
        rw [r1.len]
        exact Evl.sz_of (Nat.le_trans (Nat.mul_le_mul c4 (by omega : _ ≤ 1000)) (by decide))
      · exact s.elim
    · exact s.elim
  · exact s.elim
theorem opd_mulM {K : PySem.W.Frag} : OpD K (rMulA K) oMulM := by
  intro H I as M P x y d e Wf Q w rx ry s
  unfold oMulM at s
  split at s
  · split at s
    · rename_i xs hx
      split at s
      · rename_i c
        obtain ⟨c2, c3, c4⟩ := c
        cases ry
        obtain ⟨a, vs, rfl, h1, r1⟩ := rx.listT w hx
        refine .inr (.inr (.inr (.inr ⟨a, _, vs, rfl, rfl, h1, by omega, by omega, ?_, fun p hp => s.newRef w (r1.rep _) hp⟩)))
        rw [r1.len]
        exact Evl.sz_of (Nat.le_trans (Nat.mul_le_mul c4 (by omega : _ ≤ 1000)) (by decide))
      · exact s.elim
    · exact s.elim
  · exact s.elim
/-! the other operators -/
def oSub : OD := oI2 fun i j => .int (i - j)
noncomputable def oDiv : OD := oI2c CDivB fun i j => .int (i / j)
noncomputable def oMod : OD := oI2c CModB fun i j => .int (i % j)
noncomputable def oPow : OD := oI2c CPowB fun i j => .int (i ^ j.toNat)
def oLt : OD := oI2 fun i j => .bl (decide (i < j))
def oLe : OD := oI2 fun i j => .bl (decide (i ≤ j))
def oGt : OD := oI2 fun i j => .bl (decide (j < i))
def oGe : OD := oI2 fun i j => .bl (decide (j ≤ i))
section
variable {K : PySem.W.Frag}
theorem opd_sub : OpD K (rI0 fun i j => .int (i - j)) oSub := opd_I0 fun _ _ _ _ => .int _
theorem opd_lt : OpD K (rI0 fun i j => .bl (decide (i < j))) oLt := opd_I0 fun _ _ _ _ => .bl _
theorem opd_le : OpD K (rI0 fun i j => .bl (decide (i ≤ j))) oLe := opd_I0 fun _ _ _ _ => .bl _
theorem opd_gt : OpD K (rI0 fun i j => .bl (decide (j < i))) oGt := opd_I0 fun _ _ _ _ => .bl _
theorem opd_ge : OpD K (rI0 fun i j => .bl (decide (j ≤ i))) oGe := opd_I0 fun _ _ _ _ => .bl _
theorem opd_div : OpD K (rI CDivW fun i j => .int (i / j)) oDiv := opd_I (fun i j h => h) fun _ _ _ _ => .int _
theorem opd_mod : OpD K (rI (fun _ j => 0 < j) fun i j => .int (i % j)) oMod := opd_I (fun i j h => h) fun _ _ _ _ => .int _
theorem opd_pow : OpD K (rI CPow fun i j => .int (i ^ j.toNat)) oPow := opd_I (fun i j h => ⟨h.1.1, h.1.2, h.2⟩) fun _ _ _ _ => .int _
end
/-! in, over flat things -/
def flD : D → Option V
  | .non => some .non
  | .bl b => some (.bl b)
  | .int i => some (.int i)
  | .str s => some (.str s)
  | _ => none
def flDs : List D → Option (List V)
  | [] => some []
  | x :: xs => match flD x, flDs xs with
    | some v, some vs => some (v :: vs)
    | _, _ => none
def inD (x : D) (y : D) (M : List MO) : Option Bool := match flD x with
  | some v => match (match tupOf y with
      | some xs => flDs xs
      | none => match listOf M y with
        | some xs => flDs xs
        | none => none) with
    | some vs => if (flatV v && vs.all flatV) = true then some (inV v vs) else none
    | none => none
  | none => none
def oIn : OD := fun x y M => match inD x y M with
  | some b => .ok (.bl b) M
  | none => .bad
def oNotIn : OD := fun x y M => match inD x y M with
  | some b => .ok (.bl (!b)) M
  | none => .bad
section
variable {K : PySem.W.Frag} {H I P : Hp} {as : List Addr} {M : List MO}
theorem Rep.fl {v u : V} {d : D} (r : Rep K I as v d) (h : flD d = some u) : v = u := by
  cases r <;> first | (cases h; rfl) | cases h
theorem Reps.fl : ∀ {vs us : List V} {ds : List D}, Reps K I as vs ds → flDs ds = some us → vs = us
  | _, _, _, .nil, h => by cases h; rfl
  | _, us, _, .cons (d := d) (ds := ds) r rr, h => by
    unfold flDs at h
    cases e : flD d with
    | none => rw [e] at h; cases h
    | some v =>
      cases e2 : flDs ds with
      | none => rw [e, e2] at h; cases h
      | some ws =>
        rw [e, e2] at h
        cases h
        rw [r.fl e, Reps.fl rr e2]
theorem inD_ok (w : Wr K H I as M P) {x y : V} {d e : D} {b : Bool} (rx : Rep K I as x d) (ry : Rep K I as y e) (h : inD d e M = some b) : ∃ p xs, y = .ref p ∧ (SqL K H p xs ∨ SqT K H p xs) ∧ flatV x = true ∧ xs.all flatV = true ∧ inV x xs = b := by
  unfold inD at h
  split at h
  · rename_i v hv
    have e1 := rx.fl hv
    subst e1
    split at h
    · rename_i vs hvs
      split at h
      · rename_i c
        rw [Bool.and_eq_true] at c
        cases h
        split at hvs
        · rename_i xs hx
          obtain ⟨a, us, rfl, h1, r1⟩ := ry.tupl w hx
          rw [r1.fl hvs] at h1
          exact ⟨a, vs, rfl, .inr h1, c.1, c.2, rfl⟩
        · split at hvs
          · rename_i xs hx
            obtain ⟨a, us, rfl, h1, r1⟩ := ry.list w hx
            rw [r1.fl hvs] at h1
            exact ⟨a, vs, rfl, .inl h1, c.1, c.2, rfl⟩
          · cases hvs
      · cases h
    · cases h
  · cases h
theorem opd_in : OpD K (rIn K false) oIn := by
  intro H I as M P x y d e Wf Q w rx ry s
  unfold oIn at s
  split at s
  · rename_i b hb
    obtain ⟨p, xs, rfl, h1, h2, h3, rfl⟩ := inD_ok w rx ry hb
    exact ⟨p, xs, rfl, h1, h2, h3, by rw [if_neg Bool.false_ne_true]; exact s.now w (.bl _)⟩
  · exact s.elim
theorem opd_notIn : OpD K (rIn K true) oNotIn := by
  intro H I as M P x y d e Wf Q w rx ry s
  unfold oNotIn at s
  split at s
  · rename_i b hb
    obtain ⟨p, xs, rfl, h1, h2, h3, rfl⟩ := inD_ok w rx ry hb
    exact ⟨p, xs, rfl, h1, h2, h3, by rw [if_pos rfl]; exact s.now w (.bl _)⟩
  · exact s.elim
end
/-! isinstance(x, T) -/
def tyN : D → Option String
  | .non => some "NoneType"
  | .bl _ => some "bool"
  | .int _ => some "int"
  | .str _ => some "str"
  | .tup _ => some "tuple"
  | .lst _ => some "list"
  | .rol _ => some "list"
  | .ref _ => some "list"
  | .obj _ => none
  | .fn _ => none
  | .dct => some "dict"
def isiB (a T : String) : Bool := a == T || (a == "bool" && T == "int")
def tyOk (T : String) : Bool := ["NoneType", "bool", "int", "str", "tuple", "list", "dict"].all fun a => kitB a T == some (isiB a T)
def tyM (M : List MO) (d : D) : Option String := match d with
  | .ref k => match M[k]? with
    | some (.lst _) => some "list"
    | _ => none
  | d => tyN d
def oIsi (T : String) : OU := fun x M => match tyM M x with
  | some a => if tyOk T = true then .ok (.bl (isiB a T)) M else .bad
  | none => .bad
theorem Rep.ty {K : PySem.W.Frag} {H I P : Hp} {as : List Addr} {M : List MO} (w : Wr K H I as M P) {v : V} {d : D} {a : String} (r : Rep K I as v d) (h : tyM M d = some a) : TyX K H v (.type a) ∧ a ∈ ["NoneType", "bool", "int", "str", "tuple", "list", "dict"] := by
  have lst : ∀ {p : Addr} {xs : List V}, SqL K H p xs → TyX K H (.ref p) (.type "list") := fun {p xs} hl => by
    rcases hl with (h | ⟨o, h⟩) | ⟨o, its, n, h, c, _⟩
    · exact .base (.lst h)
    · exact .base (.frz h)
    · exact .kList h c
  cases r with
  | non => cases h; exact ⟨.base .non, by decide⟩
  | bl b => cases h; exact ⟨.base (.bl b), by decide⟩
  | int b => cases h; exact ⟨.base (.int b), by decide⟩
  | str b => cases h; exact ⟨.base (.str b), by decide⟩
  | tup h1 h2 =>
    cases h
    refine ⟨?_, by decide⟩
    rcases w.seqT h1 with (h | ⟨o, h⟩) | ⟨o, its, n, h, c, _⟩
    · exact .base (.tup h)
    · exact .fTuple h
    · exact .kTuple h c
  | lst h1 h2 => cases h; exact ⟨lst (.of (w.sub _ _ h1)), by decide⟩
  | rol h1 h2 => cases h; exact ⟨lst (w.seqL h1), by decide⟩
  | @ref k p h1 =>
    obtain ⟨o, ho, _, _, m⟩ := w.at h1
    unfold tyM at h
    cases o with
    | dct kvs => simp [ho] at h
    | lst xs =>
      simp only [ho] at h
      cases h
      exact ⟨lst (.of m.choose_spec.1), by decide⟩
  | obj a => cases h
  | fn _ => cases h
  | dct h1 => cases h; exact ⟨.base (.dK (w.sub _ _ h1)), by decide⟩
section
variable {X : Cx} {W : WX} {e : Expr} {pos p p2 : Pos} {te : TE} {ge : GE}
theorem xe_isi {T : String} {y : Str} (hm : X.mg "isinstance" = none) (hm2 : X.mg y = none) (hv2 : bootBuiltins y = some (.type T)) (he : XE X W e te ge) (hg : Gl X "isinstance" := by rfl) (hg2 : Gl X y := by rfl) (hn2 : y ≠ "__name__" := by decide) (hd2 : (y == ("__debug__" : Str)) = false := by decide)
    (h1 : starEach [e, .Name y p2] X.env = (false, eval e X.env) :: starEach [.Name y p2] X.env := by rfl) (h2 : starEach [.Name y p2] X.env = (false, eval (.Name y p2) X.env) :: starEach [] X.env := by rfl) (hpl : (backTo pos (starEach [.Name y p2] X.env)).any (·.1) = false := by rfl) :
    XE X W (.Call (.Name "isinstance" p) [e, .Name y p2] [] pos) (tCB (rIsi X.K) (tCons te (tCons (tC (.ty T)) tNil))) (gUn (oIsi T) ge) := by
  refine ⟨pe_callB call_isi hg hm PyProof.Rows.boot_isinstance (pa_cons he.pe (pa_cons (pe_bltn hg2 hm2 hv2 rfl hn2 hd2) pa_nil h2) h1) (by decide) (by decide) h1 hpl, fun σ H δ I as M P Q w en s => ?_⟩
  refine he.im σ H δ I as M P _ w en (Sat.bind s fun d M1 v H1 I1 as1 _ g1 w1 r1 s1 => ?_)
  unfold oIsi at s1
  split at s1
  · rename_i a ha
    split at s1
    · rename_i hT
      obtain ⟨t1, t2⟩ := r1.ty w1 ha
      have hk := List.all_eq_true.mp hT a t2
      exact ⟨v, .ty T, .type a, .type T, isiB a T, rfl, .ty T, t1, kit_ty (by simpa using hk), s1.now w1 (.bl _)⟩
    · exact s1.elim
  · exact s1.elim
end
/-! methods of lists -/
abbrev OM := D → List D → List MO → R D
def OpM (K : PySem.W.Frag) (r : V → List V → Hp → VK → Prop) (o : OM) : Prop := ∀ (H I : Hp) (as : List Addr) (M : List MO) (P : Hp) (x : V) (xs : List V) (d : D) (ds : List D) (Wf : Str → Hp → Prop) (Q : VK),
  Wr K H I as M P → Rep K I as x d → Reps K I as xs ds → Sat K (Rep K) Wf I as P Q (o d ds M) → r x xs H Q
def gBM (o : OM) (ga : GE) (g : GA) : GE := fun δ M => (ga δ M).bind fun x M1 => match listOf M1 x with
  | some _ => (g δ M1).bind fun ds M2 => o x ds M2
  | none => .bad
section
variable {K : PySem.W.Frag} {mg : Str → Option Value} {W : WX} {to : TE} {go : GE} {t : TA} {g : GA}
theorem impE_BM {r : V → List V → Hp → VK → Prop} {o : OM} (ho : OpM K r o) (h1 : ImpE K mg W to go) (h2 : ImpA K mg W t g) : ImpE K mg W (tBM K "list" r to t) (gBM o go g) := by
  intro σ H δ I as M P Q w en s
  refine h1 σ H δ I as M P _ w en (Sat.bind s fun d M1 v H1 I1 as1 _ g1 w1 r1 s1 => ?_)
  split at s1
  · rename_i xs hx
    have r1' := r1
    obtain ⟨a, vs, rfl, hl, rr⟩ := r1.list w1 hx
    refine ⟨.inl ⟨rfl, vs, hl⟩, ?_⟩
    refine h2 σ H1 δ I1 as1 M1 P _ w1 (en.mono g1) (Sat.bind s1 fun ds M2 us H2 I2 as2 _ g2 w2 r2 s2 => ?_)
    exact ho H2 I2 as2 M2 P _ us d ds _ Q w2 (r1'.mono g2) r2 s2
  · exact s1.elim
open Classical in
noncomputable def oAppend : OM := fun x ds M => match x, ds with
  | .ref k, [d] => match M[k]? with
    | some (.lst xs) => if bigS xs.length then .ok .non (M.set k (.lst (xs ++ [d]))) else .bad
    | _ => .bad
  | _, _ => .bad
theorem opm_append : OpM K rAppend oAppend := by
  intro H I as M P x xs d ds Wf Q w rx rs s
  unfold oAppend at s
  split at s
  · rename_i k d1
    cases rx with
    | @ref _ a h1 =>
      obtain ⟨o, ho, _, _, m⟩ := w.at h1
      cases o with
      | dct kvs => simp only [ho] at s; exact s.elim
      | lst ys =>
        simp only [ho] at s
        split at s
        · rename_i hb
          obtain ⟨v, rfl, rv⟩ := rs.one_inv
          obtain ⟨vs, e1, rr⟩ := m
          refine ⟨a, vs, v, rfl, rfl, e1, by rw [rr.len]; exact Evl.sz_lt hb, ?_⟩
          exact s _ _ I as (Gr.refl _ _) (w.put h1 _ _ ⟨_, upd_same, rr.append (.cons rv .nil)⟩) .non
        · exact s.elim
  · exact s.elim
/- xs.pop(i), 0 ≤ i -/
open Classical in
noncomputable def oPopAt : OM := fun x ds M => match x, ds with
  | .ref k, [.int i] => match M[k]? with
    | some (.lst xs) => if 0 ≤ i ∧ i < 1000 then (match xs[i.toNat]? with
      | some d => .ok d (M.set k (.lst (xs.eraseIdx i.toNat)))
      | none => .bad) else .bad
    | _ => .bad
  | _, _ => .bad
theorem opm_popAt : OpM K rPopAt oPopAt := by
  intro H I as M P x xs d ds Wf Q w rx rs s
  unfold oPopAt at s
  split at s
  · rename_i k i
    cases rx with
    | @ref _ a h1 =>
      obtain ⟨o, ho, _, _, m⟩ := w.at h1
      cases o with
      | dct kvs => simp only [ho] at s; exact s.elim
      | lst ys =>
        simp only [ho] at s
        split at s
        · rename_i hb
          split at s
          · rename_i d2 hd
            obtain ⟨v, rfl, rv⟩ := rs.one_inv
            cases rv
            obtain ⟨vs, e1, rr⟩ := m
            obtain ⟨y, hy, ry⟩ := rr.get hd
            have hlt : i.toNat < vs.length := (List.getElem?_eq_some_iff.mp hy).1
            refine ⟨a, vs, i, i.toNat, y, rfl, rfl, e1, by omega, by omega, ?_, hy, ?_⟩
            · unfold seqIndex?
              simp only [show ¬ i < 0 by omega, if_false]
              first
                | (rw [if_pos (by omega)])
                | (simp; omega)
            · exact s _ _ I as (Gr.refl _ _) (w.put h1 _ _ ⟨_, upd_same, rr.eraseIdx _⟩) (ry.mono (Gr.refl _ _))
          · exact s.elim
        · exact s.elim
  · exact s.elim
/-- xs.index(x), x one of the ints xs -/
def intsD : List D → Option (List Int)
  | [] => some []
  | .int i :: xs => (intsD xs).map (i :: ·)
  | _ :: _ => none
def oIndex : OM := fun x ds M => match ds with
  | [.int i] => match listOf M x with
    | some xs => match intsD xs with
      | some ns => match ns.findIdx? (· == i) with
        | some j => .ok (.int (j : Int)) M
        | none => .bad
      | none => .bad
    | none => .bad
  | _ => .bad
theorem Reps.intsD {I : Hp} {as : List Addr} : ∀ {vs : List V} {ds : List D} {ns : List Int}, Reps K I as vs ds → KM.intsD ds = some ns → vs = ns.map V.int
  | _, _, ns, .nil, h => by cases h; rfl
  | _, _, ns, .cons (d := d) (ds := ds) r rr, h => by
    cases d with
    | int b =>
      unfold KM.intsD at h
      cases e : KM.intsD ds with
      | none => rw [e] at h; cases h
      | some cs =>
        rw [e] at h
        cases h
        cases r
        rw [Reps.intsD rr e]
        rfl
    | _ => cases h
end
end KM
set_option Elab.async false
set_option linter.all false
set_option maxRecDepth 100000
set_option maxHeartbeats 2000000
namespace KM
open PySem L2 PySem.Spec PyProof.Rows
section
variable {X : Cx} {W : WX} {tg e : Expr} {te : TE} {ge : GE}
theorem pi_or {wi wj : TI} (h : PI X tg e wi) (k : PI X tg e wj) : PI X tg e (fun σ H R => wi σ H R ∨ wj σ H R) := ⟨fun pins s σ H R I x => x.elim (h.run pins s σ H R I) (k.run pins s σ H R I)⟩
/-- a list or a tuple -/
def giSeq (ge : GE) : GI := fun δ M => (ge δ M).bind fun x M1 => match tupOf x with
  | some xs => .ok (itT xs) M1
  | none => match listOf M1 x with
    | some xs => .ok ⟨xs, gdOf x xs⟩ M1
    | none => .bad
theorem xi_seq (h : XE X W e te ge) : XI X W tg e (fun σ H R => iTup X.K te σ H R ∨ iList X.K te σ H R) (giSeq ge) := by
  refine ⟨pi_or (pi_tup h.pe) (pi_list h.pe), fun σ H δ I as M P Q w en s => ?_⟩
  unfold giSeq at s
  cases e1 : ge δ M with
  | bad => rw [e1] at s; exact s.elim
  | ex c M1 =>
    refine .inl ((xi_tup (tg := tg) h).im σ H δ I as M P Q w en ?_)
    unfold giTup
    rw [e1] at s ⊢
    exact s
  | ok x M1 =>
    rw [e1] at s
    simp only [R.bind_ok] at s
    cases e2 : tupOf x with
    | some xs =>
      refine .inl ((xi_tup (tg := tg) h).im σ H δ I as M P Q w en ?_)
      unfold giTup
      rw [e1]
      simp only [R.bind_ok, e2] at s ⊢
      exact s
    | none =>
      refine .inr ((xi_list (tg := tg) h).im σ H δ I as M P Q w en ?_)
      unfold giList
      rw [e1]
      simp only [R.bind_ok, e2] at s ⊢
      exact s
variable {o : Expr} {es : List Expr} {to : TE} {t : TA} {go : GE} {g : GA} {cpos apos : Pos} {name : Str} {id : String} {r : V → List V → Hp → VK → Prop} {om : OM}
theorem xe_bm (slot : Slot "list" name id) (hty : typeOf (.builtin id) = pure (.type "method_descriptor")) (hm : MtR X id r) (hd : OpM X.K r om) (ho : XE X W o to go) (ha : XA X W (e :: es) t g)
    (hbase : attributeBase o name X.env (eval o X.env) = eval o X.env := by rfl)
    (hfew : ((backTo cpos (starEach (e :: es) X.env)).all (fun x => !x.1) && (backToKw cpos (keywordEach [] X.env)).all (fun x => x.1.isSome)
      && decide ((e :: es).length + ([] : List Keyword).length + (if ([] : List Keyword).isEmpty then 0 else 1) < 30)) = true := by rfl)
    (hline : (apos.endLine == cpos.line) = true := by rfl) (hs : starEach (e :: es) X.env = (false, eval e X.env) :: starEach es X.env := by rfl) (hplain : (backTo cpos (starEach es X.env)).any (·.1) = false := by rfl) :
    XE X W (.Call (.Attribute o name apos) (e :: es) [] cpos) (tBM X.K "list" r to t) (gBM om go g) :=
  ⟨pe_bm PySem.F.plainAttrs_list slot hty hm ho.pe ha.pe hbase hfew hline hs hplain, impE_BM hd ho.im ha.im⟩
theorem eqV_int (i j : Int) : eqV (.int i) (.int j) = (i == j) := by
  first
    | rfl
    | simp [eqV]
theorem opm_index {K : PySem.W.Frag} : OpM K (rIndex K) oIndex := by
  intro H I as M P x xs d ds Wf Q w rx rs s
  unfold oIndex at s
  split at s
  · rename_i i
    split at s
    · rename_i ys hy
      split at s
      · rename_i ns hn
        split at s
        · rename_i j hj
          obtain ⟨v, rfl, rv⟩ := rs.one_inv
          cases rv
          obtain ⟨a, vs, rfl, h1, r1⟩ := rx.list w hy
          have e := r1.intsD hn
          subst e
          obtain ⟨hlt, hp, hq⟩ := List.findIdx?_eq_some_iff_getElem.mp hj
          refine ⟨a, ns.map V.int, .int i, j, .int ns[j], rfl, rfl, h1, rfl, ?_, ?_, ?_, ?_, s.now w (.int _)⟩
          · rw [List.all_map]
            exact List.all_eq_true.mpr fun _ _ => rfl
          · rw [List.getElem?_map, List.getElem?_eq_getElem hlt]
            rfl
          · rw [eqV_int]
            exact hp
          · intro m z hm hz
            rw [List.getElem?_map, List.getElem?_eq_getElem (Nat.lt_trans hm hlt)] at hz
            have e := Option.some.inj hz
            rw [← e, eqV_int]
            simpa using hq m hm
        · exact s.elim
      · exact s.elim
    · exact s.elim
  · exact s.elim
/-- sum of ints -/
def oSum : OC := fun ds M => match ds with
  | [x] => match listOf M x with
    | some xs => match intsD xs with
      | some ns => .ok (.int ns.sum) M
      | none => .bad
    | none => .bad
  | _ => .bad
theorem opc_sum {K : PySem.W.Frag} : OpC K (rSum K) oSum := by
  intro H I as M P xs ds Wf Q w r s
  unfold oSum at s
  split at s
  · obtain ⟨v, rfl, rv⟩ := r.one_inv
    split at s
    · rename_i ys hy
      split at s
      · rename_i ns hn
        obtain ⟨a, vs, rfl, h1, r1⟩ := rv.list w hy
        have e := r1.intsD hn
        subst e
        exact ⟨a, ns, rfl, h1, s.now w (.int _)⟩
      · exact s.elim
    · exact s.elim
  · exact s.elim
end
end KM
set_option Elab.async false
set_option linter.all false
set_option maxRecDepth 100000
set_option maxHeartbeats 2000000
namespace KM
open PySem L2 PySem.Spec PyProof.Rows
section
variable {X : Cx} {W : WX} {a e : Expr} {es : List Expr} {pos p p2 : Pos} {ta te : TE} {ga ge : GE} {t : TA} {g : GA}
theorem ke_slice (K : PySem.W.Frag) {lo hi : Option Expr} {tl th : TO} {gl gh : GO} (he : XE X W a ta ga) (hl : XO X W lo tl gl) (hh : XO X W hi th gh) (hK : X.K = K := by rfl) : XE X W (.Subscript a (.Slice lo hi none p2) pos) (tSl (rSlG K) ta tl th) (gSl ga gl gh) := by
  subst hK; exact xe_slice he hl hh
theorem ki_seq (K : PySem.W.Frag) {tg : Expr} (h : XE X W e te ge) (hK : X.K = K := by rfl) : XI X W tg e (fun σ H R => iTup K te σ H R ∨ iList K te σ H R) (giSeq ge) := by
  subst hK; exact xi_seq h
theorem ke_isi (K : PySem.W.Frag) {T : String} {y : Str} (hm : X.mg "isinstance" = none) (hm2 : X.mg y = none) (hv2 : bootBuiltins y = some (.type T)) (he : XE X W e te ge) (hK : X.K = K := by rfl) (hg : Gl X "isinstance" := by rfl) (hg2 : Gl X y := by rfl) (hn2 : y ≠ "__name__" := by decide) (hd2 : (y == ("__debug__" : Str)) = false := by decide)
    (h1 : starEach [e, .Name y p2] X.env = (false, eval e X.env) :: starEach [.Name y p2] X.env := by rfl) (h2 : starEach [.Name y p2] X.env = (false, eval (.Name y p2) X.env) :: starEach [] X.env := by rfl) (hpl : (backTo pos (starEach [.Name y p2] X.env)).any (·.1) = false := by rfl) :
    XE X W (.Call (.Name "isinstance" p) [e, .Name y p2] [] pos) (tCB (rIsi K) (tCons te (tCons (tC (.ty T)) tNil))) (gUn (oIsi T) ge) := by
  subst hK; exact xe_isi hm hm2 hv2 he hg hg2 hn2 hd2 h1 h2 hpl
theorem kg_tup (K : PySem.W.Frag) {is : List Nat} {k n : Nat} {t : TGs} {g : List D → GS} (hc : X.calm = true) (h : XGs X W es is t g) (hK : X.K = K := by rfl)
    (hn : (assignEach es X.env).length = n := by rfl) (hst : (assignEach es X.env).findIdx? (·.1) = none := by rfl) : XG X W (.Tuple es k pos) is (L2.gTup K n t) (gtTup n g) := by
  subst hK; exact xg_tup hc h hn hst
theorem kt_tru (K : PySem.W.Frag) (ha : XE X W a ta ga) (hK : X.K = K := by rfl) (he : ∀ whole, isTrue a X.env whole = (do let v ← whole; standAt a.pos; holding [v] (truthy v)) := by intro _; rfl) : XT X W a (fun σ H Q => ta σ H fun x H' => ∃ k, TruV K x H' k ∧ Q k H') (gTru ga) := by
  subst hK; exact xt_tru ha he
theorem ke_call (K : PySem.W.Frag) (mg : Str → Option Value) {x : Str} {k n : Nat} {m : OC} (C : Callee X.prog X.w X.K X.mg X.base x k n m) (hr : Room k X.A) (tk : Takes X W) (ha : XA X W (e :: es) t g) (hK : X.K = K := by rfl) (hmg : X.mg = mg := by rfl) (hl : ∀ δ M ds M', g δ M = .ok ds M' → ds.length = n := by first | exact fun _ _ _ _ h => gCons_len (fun _ _ _ _ h => gNil_len h) h | exact fun _ _ _ _ h => gCons_len (fun _ _ _ _ h => gCons_len (fun _ _ _ _ h => gNil_len h) h) h | exact fun _ _ _ _ h => gCons_len (fun _ _ _ _ h => gCons_len (fun _ _ _ _ h => gCons_len (fun _ _ _ _ h => gNil_len h) h) h) h | exact fun _ _ _ _ h => gCons_len (fun _ _ _ _ h => gCons_len (fun _ _ _ _ h => gCons_len (fun _ _ _ _ h => gCons_len (fun _ _ _ _ h => gNil_len h) h) h) h) h)
    (hg : Gl X x := by rfl) (hdb : (x == ("__debug__" : Str)) = false := by decide)
    (he : starEach (e :: es) X.env = (false, eval e X.env) :: starEach es X.env := by rfl) (hpl : (backTo pos (starEach es X.env)).any (·.1) = false := by rfl) :
    XE X W (.Call (.Name x p) (e :: es) [] pos) (tCallS (spM K mg n m) (WE W) t) (gCall m g) := by
  subst hK hmg; exact xe_call C hr tk ha hl hg hdb he hpl
variable {o : Expr} {to : TE} {go : GE} {cpos apos : Pos} {name : Str} {id : String} {r : V → List V → Hp → VK → Prop} {om : OM}
theorem ke_bm (K : PySem.W.Frag) (slot : Slot "list" name id) (hty : typeOf (.builtin id) = pure (.type "method_descriptor")) (hm : MtR X id r) (hd : OpM X.K r om) (ho : XE X W o to go) (ha : XA X W (e :: es) t g) (hK : X.K = K := by rfl)
    (hbase : attributeBase o name X.env (eval o X.env) = eval o X.env := by rfl)
    (hfew : ((backTo cpos (starEach (e :: es) X.env)).all (fun x => !x.1) && (backToKw cpos (keywordEach [] X.env)).all (fun x => x.1.isSome)
      && decide ((e :: es).length + ([] : List Keyword).length + (if ([] : List Keyword).isEmpty then 0 else 1) < 30)) = true := by rfl)
    (hline : (apos.endLine == cpos.line) = true := by rfl) (hs : starEach (e :: es) X.env = (false, eval e X.env) :: starEach es X.env := by rfl) (hplain : (backTo cpos (starEach es X.env)).any (·.1) = false := by rfl) :
    XE X W (.Call (.Attribute o name apos) (e :: es) [] cpos) (tBM K "list" r to t) (gBM om go g) := by
  subst hK; exact xe_bm slot hty hm hd ho ha hbase hfew hline hs hplain
end
abbrev rLenC (K : PySem.W.Frag) : List V → Hp → VK → Prop := fun xs H Q => ∃ p ys, xs = [.ref p] ∧ (SqL K H p ys ∨ SqT K H p ys) ∧ Q (.int ys.length) H
end KM
set_option Elab.async false
set_option linter.all false
set_option maxRecDepth 100000
set_option maxHeartbeats 2000000
namespace KM
open PySem L2 PySem.Spec PyProof.Rows
/-! ### the end -/
def DefAt (K : PySem.W.Frag) (mg : Str → Option Value) (x : Str) (st : Stmt) : Prop := ∃ (f : Addr) (fd : FuncData), Fun K x x st f fd ∧ mg x = some (.ref f) ∧ PySem.W.keepIn K (.ref f) = true ∧ PySem.W.nsIn K mainGlobals x = some (some (.ref f))
theorem def_mk {K : PySem.W.Frag} {mg : Str → Option Value} {h : Heap} (X : K.In h) (G : h.Ns mainGlobals mg) {x : Str} {st : Stmt} {f : Addr} {oc : Value} {od an : Option Addr} {osl : Array (Option Value)} {kV doc pm cdv ct : Value}
    (a : PySem.W.nsIn K mainGlobals x = some (some (.ref f))) (l : K.lookup f = some ⟨oc, od, .func (PySem.W.fnOf x x (defArgs st) (defBody st) (defScope st) .none kV doc pm an cdv ct), osl⟩)
    (c : PySem.W.codeIn K cdv x = true) (k : PySem.W.keepIn K (.ref f) = true) : DefAt K mg x st := ⟨f, _, fun_mk (st := st) l c k, PySem.W.mg_of X G a, k, a⟩
theorem globI_mk {K : PySem.W.Frag} {mg : Str → Option Value} {h : Heap} (X : K.In h) (G : h.Ns mainGlobals mg) {x : Str} {i : Int} {t : Tok} (a : PySem.W.nsIn K mainGlobals x = some (some (.int i t))) : GlobC K mg x (.int i) :=
  ⟨⟨.int i, _, PySem.W.mg_of X G a, ⟨t, rfl⟩, fun _ _ => .int i⟩⟩
theorem globT_mk {K : PySem.W.Frag} {mg : Str → Option Value} {h : Heap} (X : K.In h) (G : h.Ns mainGlobals mg) {x : Str} {p : Addr} {i j : Int} {t u : Tok} {dd : Option Addr} {n : Nat} {sl : Array (Option Value)} (a : PySem.W.nsIn K mainGlobals x = some (some (.ref p)))
    (l : K.lookup p = some ⟨.type "tuple", dd, .seq #[.int i t, .int j u] n, sl⟩) : GlobC K mg x (.tup [.int i, .int j]) :=
  ⟨⟨.ref p, _, PySem.W.mg_of X G a, rfl, fun I as => .tup (xs := [.int i, .int j]) (.inr ⟨_, _, _, l, rfl, rfl, by show 2 ≤ sizeLine; decide, .cons ⟨t, rfl⟩ (.cons ⟨u, rfl⟩ .nil)⟩) (.cons (.int i) (.cons (.int j) .nil))⟩⟩
def spLaw (K : PySem.W.Frag) : Sp := fun vs H Q _ => ∃ (a : Addr) (ns : List Int), vs = [.ref a] ∧ SqL K H a (ns.map V.int) ∧ ns.length ≤ 63 ∧ (∀ z ∈ ns, Builtin.Int.intBits z ≤ 1048576) ∧ ∀ H', Q (.bl true) H'
def LawTrue (m : OC) : Prop := ∀ ns : List Int, ns.length ≤ 63 → (∀ z ∈ ns, Builtin.Int.intBits z ≤ 1048576) → ∃ M, m [.rol (ns.map D.int)] [] = .ok (.bl true) M
theorem law_imp {K : PySem.W.Frag} {mg : Str → Option Value} {m : OC} (hm : LawTrue m) : ∀ vs H Q E, spLaw K vs H Q E → spM K mg 1 m vs H Q E := by
  rintro vs H Q E ⟨a, ns, rfl, hS, hl, hb, q⟩
  obtain ⟨rfl', ds, I, as, M, P, w, r, s⟩ := law_end (mg := mg) hS (hm ns hl hb)
  refine ⟨rfl, [.rol (ns.map D.int)], H, [], [], fun _ => none, ⟨fun _ _ e => e, rfl, List.nodup_nil, fun k a o e => by simp at e, fun a o e => by cases e⟩, .cons (.rol hS (Reps.ints ns rfl)) .nil, ?_⟩
  obtain ⟨M, h⟩ := hm ns hl hb
  rw [h]
  intro v H' I' as' g w r
  cases r
  exact q H'
theorem law_walk {l : PySem.W.OpenLaw} {k : Nat} {q : Program} {loose : List Str} {XP : (Str → Option Value) → Heap → Prop} {YP : World → Heap → Prop} {d : DefRec} {K : Params → PySem.W.Frag} {x : Str}
    (hn : l.most = some 63) (hdf : d.params.defaults = []) (hr : Room k callerA)
    (hY : ∀ (w : World) (h : Heap), YP w h → (K w.params).In h)
    (F : ∀ (w : World) (mg : Str → Option Value) (fa : Addr) (h : Heap), (K w.params).In h → h.Ns mainGlobals mg → mg d.name = some (.ref fa) →
      ∃ fd : FuncData, (∀ (s : Shared) (u : Value), BindsTo s fd ⟨[u], []⟩ [(x, u)]) ∧
        ∀ base : Heap, (K w.params).In base → base.Ns mainGlobals mg → FnOk l.prog w (K w.params) mg base (L2.CX l.prog w) k fa fd [x] (spLaw (K w.params))) :
    PySem.W.WalkO q loose XP YP l.row.toRowW d [] (fun f vs => PySem.call f vs) :=
  walk_ofB (K := K) (CX := fun w => L2.CX l.prog w) (sp := fun w => spLaw (K w.params)) hn (by decide) hdf hr hY F (fun w H a ns hl hb _ hS => ⟨a, ns, rfl, hS, hl, hb, fun _ => rfl⟩) fun w H s e s' h => by
    obtain ⟨_, _, _, _, _, _, _, _, _, _, _, _, z⟩ := h
    exact z
theorem bind1 {K : PySem.W.Frag} : True := trivial
end KM
set_option Elab.async false
set_option linter.all false
set_option maxRecDepth 100000
set_option maxHeartbeats 2000000
namespace KM
open PySem L2 PySem.Spec PyProof.Rows
/-! ### while, x += e, sorted -/
noncomputable def whileL (gc : GB) (gb : GS) : Nat → GS
  | 0, _, _ => .bad
  | n + 1, δ, M => (gc δ M).toS δ fun b M1 => if b = true then (match gb δ M1 with
      | .nx δ2 M2 => whileL gc gb n δ2 M2
      | .ct δ2 M2 => whileL gc gb n δ2 M2
      | .bk δ2 M2 => .nx δ2 M2
      | .rt d M2 => .rt d M2
      | .ex c δ2 M2 => .ex c δ2 M2
      | .bad => .bad) else .nx δ M1
def fuel : Nat := 1000000
noncomputable def gWhile (gc : GB) (gb : GS) : GS := fun δ M => whileL gc gb fuel δ M
section
variable {X : Cx} {W : WX} {e : Expr} {pos : Pos} {te : TE} {ge : GE} {K : PySem.W.Frag}
theorem impS_while {mg : Str → Option Value} {tc : TT} {gc : GB} {tb : TS} {gb : GS} (hc : ImpT K mg W tc gc) (hb : ImpS K mg W tb gb) : ImpS K mg W (tWhile tc tb) (gWhile gc gb) := by
  intro σ H δ I as M P E w en s
  refine ⟨fun m σ' H' => ∃ δ' M' I' as', Gr I as I' as' ∧ Wr K H' I' as' M' P ∧ Envr K I' as' σ' δ' ∧ SatS K (lowW mg W) I' as' P E (whileL gc gb m δ' M'), ⟨fuel, δ, M, I, as, Gr.refl _ _, w, en, s⟩, ?_⟩
  rintro m σ1 H1 ⟨δ', M', I', as', g', w', en', s'⟩
  cases m with
  | zero => exact s'.elim
  | succ m =>
    unfold whileL at s'
    refine hc σ1 H1 δ' I' as' M' P _ w' en' (SatS.bindE s' en' fun b M1 v H2 I2 as2 _ g2 w2 r2 s2 => ?_)
    subst r2
    cases v with
    | false =>
      rw [if_neg Bool.false_ne_true]
      exact s2 _ H2 I2 as2 (Gr.refl _ _) w2 (en'.mono g2)
    | true =>
      rw [if_pos rfl]
      rw [if_pos rfl] at s2
      refine ⟨_, fun σ3 H3 n3 => ⟨m, Nat.lt_succ_self m, n3⟩, hb σ1 H2 δ' I2 as2 M1 P _ w2 (en'.mono g2) ?_⟩
      cases e2 : gb δ' M1 with
      | nx δ2 M2 =>
        simp only [e2] at s2
        exact fun σ4 H4 I4 as4 g4 w4 en4 => ⟨δ2, M2, I4, as4, g'.trans (g2.trans g4), w4, en4, SatS.gr g4 s2⟩
      | ct δ2 M2 =>
        simp only [e2] at s2
        exact fun σ4 H4 I4 as4 g4 w4 en4 => ⟨δ2, M2, I4, as4, g'.trans (g2.trans g4), w4, en4, SatS.gr g4 s2⟩
      | bk δ2 M2 =>
        simp only [e2] at s2
        exact s2
      | rt d2 M2 =>
        simp only [e2] at s2
        exact s2
      | ex c δ2 M2 =>
        simp only [e2] at s2
        exact s2
      | bad =>
        simp only [e2] at s2
        exact s2
theorem xs_while {c : Expr} {body : List Stmt} {tc : TT} {gc : GB} {tb : TS} {gb : GS} (hp : PassesOwn (model X.prog X.w) X.A X.env X.xe) (hc : XT X W c tc gc) (hb : XSs X W body tb gb) : XS X W (.While c body [] pos) (tWhile tc tb) (gWhile gc gb) :=
  ⟨ps_while hp hc.pe hb.pe, impS_while hc.im hb.im⟩
def oAddI : OD := fun x y M => match x, y with
  | .int i, .int j => .ok (.int (i + j)) M
  | _, _ => .bad
theorem opd_addI {K : PySem.W.Frag} : OpD K (ipI fun i j => i + j) oAddI := by
  intro H I as M P x y d e Wf Q w rx ry s
  unfold oAddI at s
  split at s
  · cases rx
    cases ry
    exact ⟨_, _, rfl, rfl, s.now w (.int _)⟩
  · exact s.elim
/-- name op= e -/
def gAug (i : Nat) (o : OD) (ge : GE) : GS := fun δ M => match δ[i]? with
  | some (some x) => (ge δ M).toS δ fun y M1 => (o x y M1).toS δ fun z M2 => .nx (δ.set i (some z)) M2
  | _ => .bad
theorem xs_aug (i : Nat) {x : Str} {op : Operator} {pos' : Pos} {ti : TIp} {o : OD} (hN : X.N.Nodup) (ho : PIp X op ti) (hd : OpD X.K ti o) (he : XE X W e te ge) (hi : X.N[i]? = some x := by rfl) (hx : Loc X.env.scope x := by first | exact .inl rfl | exact .inr rfl)
    (hf : X.fn x = true ∨ X.env.scope.names.lookup x = some .local := by first | exact .inl rfl | exact .inr rfl | assumption) : XS X W (.AugAssign (.Name x pos') op e pos) (tAug i te ti) (gAug i o ge) := by
  refine ⟨ps_aug hN hi hx he.pe ho hf, fun σ H δ I as M P E w en s => ?_⟩
  unfold gAug at s
  split at s
  · rename_i d hd1
    obtain ⟨v, h1, h2⟩ := en.at_ i d hd1
    refine ⟨v, h1, he.im σ H δ I as M P _ w en (SatS.bindE s en fun y M1 u H1 I1 as1 _ g1 w1 r1 s1 => ?_)⟩
    refine hd H1 I1 as1 M1 P v u d y _ _ w1 (h2.mono g1) r1 (SatS.bindE s1 (en.mono g1) fun z M2 u2 H2 I2 as2 _ g2 w2 r2 s2 => ?_)
    exact s2 _ H2 I2 as2 (Gr.refl _ _) w2 ((en.mono (g1.trans g2)).set r2 i)
  · exact s.elim
end
def srtI (ns : List Int) : List Int := ns.mergeSort (fun a b => decide (a ≤ b))
theorem srtI_perm (ns : List Int) : (srtI ns).Perm ns := List.mergeSort_perm ..
theorem srtI_sorted (ns : List Int) : (srtI ns).Pairwise (· ≤ ·) := by
  have h := List.pairwise_mergeSort (le := fun (a b : Int) => decide (a ≤ b)) (fun a b c h1 h2 => by simp at *; omega) (fun a b => by simp; omega) ns
  exact h.imp fun h => by simpa using h
def oSorted : OC := fun ds M => match ds with
  | [x] => match listOf M x with
    | some xs => match intsD xs with
      | some ns => .ok (.lst ((srtI ns).map D.int)) M
      | none => .bad
    | none => .bad
  | _ => .bad
theorem opc_sorted {K : PySem.W.Frag} : OpC K (rSortedI K) oSorted := by
  intro H I as M P xs ds Wf Q w r s
  unfold oSorted at s
  split at s
  · obtain ⟨v, rfl, rv⟩ := r.one_inv
    split at s
    · rename_i ys hy
      split at s
      · rename_i ns hn
        obtain ⟨a, vs, rfl, h1, r1⟩ := rv.list w hy
        have e := r1.intsD hn
        subst e
        refine ⟨a, ns, rfl, h1, fun ns' p hp hs hf => ?_⟩
        have e : ns' = srtI ns := List.Perm.eq_of_pairwise (le := (· ≤ ·)) (fun a b _ _ h1 h2 => Int.le_antisymm h1 h2) hs (srtI_sorted ns) (hp.trans (srtI_perm ns).symm)
        subst e
        exact s.newLst w (Reps.ints _ rfl) hf
      · exact s.elim
    · exact s.elim
  · exact s.elim
end KM
set_option Elab.async false
set_option linter.all false
set_option maxRecDepth 100000
set_option maxHeartbeats 2000000
namespace KM
open PySem L2 PySem.Spec PyProof.Rows
/-! ### raise -/
theorem pmk_own0 {X : Cx} {C : Addr} {bmB : List Value} {B newId initId : String} {x : Str} {p pos : Pos} (F : ExcBaseFacts B newId initId bmB) (q : PySem.W.excIn X.K C bmB newId = true) (gC : X.mg x = some (.ref C)) (kC : PySem.W.keepIn X.K (.ref C) = true) (r : Raises X (.ref C)) (hg : Gl X x)
    (hdb : (x == ("__debug__" : Str)) = false := by decide) : PMk X (.Call (.Name x p) [] [] pos) (fun _ H Q => Q (.ref C) none H) := by
  intro pins s σ H Q I h
  refine wpAny_Call_Name_kw (ld_glob I hg gC ?_ hdb)
  refine PySem.W.callWith_K0 I.kIn kC ?_
  show wpAny _ _ (call (.ref C) []) _ _ _
  obtain ⟨bm, N, nm, qn, bs, hdct, sn, sub, ab, col, dd, k0, k1, k2, k3, k5, mN, hC, hN, hni, T⟩ := exc_obj I.kIn q
  refine wpAny_call_exc_subT F T hC hN hni (fun h' e hm => ?_) (Nat.zero_le _)
  exact mk_of I hm r h (I.hok.gone hm.new)
abbrev VB : List Value := [.type "ValueError", .type "Exception", .type "BaseException", .type "object"]
/-- a class of errors of the program's own -/
structure ExcAt (K : PySem.W.Frag) (mg : Str → Option Value) (x : Str) : Prop where
  ex : ∃ C : Addr, mg x = some (.ref C) ∧ PySem.W.excIn K C VB "ValueError.__new__" = true ∧ PySem.W.keepIn K (.ref C) = true ∧ PySem.W.subIn K (.ref C) (.type "BaseException") = some true ∧ PySem.W.typeIn K (.ref C) = some (.type "type")
section
variable {X : Cx} {W : WX}
theorem xs_raise {x : Str} {C : Addr} {p pos pos' : Pos} (hc : X.calm = true) (tk : Takes X W) (gC : X.mg x = some (.ref C)) (q : PySem.W.excIn X.K C VB "ValueError.__new__" = true) (kC : PySem.W.keepIn X.K (.ref C) = true)
    (b : PySem.W.subIn X.K (.ref C) (.type "BaseException") = some true) (t : PySem.W.typeIn X.K (.ref C) = some (.type "type")) (hg : Gl X x := by rfl) (hdb : (x == ("__debug__" : Str)) = false := by decide) :
    XS X W (.Raise (some (.Call (.Name x p) [] [] pos)) none pos') (fun _ σ H => W (.ref C) none σ H) (gRaise x) := by
  refine ⟨ps_raise hc tk (pmk_own0 PySem.F.excBase_ValueError q gC kC (raises_own b t) hg hdb), fun σ H δ I as M P E w en s => ?_⟩
  exact s σ H I as (Gr.refl _ _) w en _ gC
end
/-! ### try -/
def exSub (c n : Str) : Bool := c == n || n == ("MissError" : Str)
def noEx : SR → SR
  | .ex _ _ _ => .bad
  | r => r
def handL : List (Str × GS) → Str → GS
  | [], c => fun δ M => .ex c δ M
  | (n, g) :: r, c => fun δ M => if exSub c n = true then noEx (g δ M) else handL r c δ M
def gTry (cs : List Str) (hs : List (Str × GS)) (gb : GS) : GS := fun δ M => match gb δ M with
  | .ex c δ1 M1 => if cs.contains c = true then handL hs c δ1 M1 else .bad
  | r => r
inductive XHs (X : Cx) (cs : List Str) : List ExceptHandler → List (Value × (Addr → Value → Option Addr → TS)) → List (Str × GS) → Prop
  | nil : XHs X cs [] [] []
  | cons {x : Str} {c : Value} {ts : TS} {g : GS} {b₀ : Stmt} {suite : List Stmt} {np pos' : Pos} {hds : List ExceptHandler} {l : List (Value × (Addr → Value → Option Addr → TS))} {hs : List (Str × GS)} (hc : Names X x c)
      (hsub : ∀ d ∈ cs, ∀ cls, X.mg d = some cls → PySem.W.exmOne X.K cls c = some (exSub d x))
      (hsu : ∀ (a : Addr) (oe : Obj) (pn : List (Addr × Obj)), XSs (X.suite a ((a, oe) :: pn)) W0 (b₀ :: suite) ts g) (r : XHs X cs hds l hs) :
      XHs X cs (.ExceptHandler (some (.Name x np)) none (b₀ :: suite) pos' :: hds) ((c, fun _ _ _ => ts) :: l) ((x, g) :: hs)
theorem XHs.ok {X : Cx} {cs : List Str} {hds : List ExceptHandler} {l : List (Value × (Addr → Value → Option Addr → TS))} {hs : List (Str × GS)} (h : XHs X cs hds l hs) : HdsOk X hds l := by
  induction h with
  | nil => exact .nil
  | cons hc hsub hsu r ih => exact .cons hc (fun a oe cls d pn _ _ => (hsu a oe pn).pe) ih
theorem XHs.im {X : Cx} {W : WX} {cs : List Str} {hds : List ExceptHandler} {l : List (Value × (Addr → Value → Option Addr → TS))} {hs : List (Str × GS)} (h : XHs X cs hds l hs) {c : Str} (hcs : c ∈ cs) {σ : L2.St} {H I P : Hp} {δ : Ctx} {as : List Addr} {M : List MO} {E : Ends}
    (w : Wr X.K H I as M P) (en : Envr X.K I as σ δ) (s : SatS X.K (lowW X.mg W) I as P E (handL hs c δ M)) (cls : Value) (hm : X.mg c = some cls) : wMany X.K W E l cls none σ H := by
  induction h with
  | nil => exact s σ H I as (Gr.refl _ _) w en cls hm
  | @cons x cv ts g b₀ suite np pos' hds l hs hc hsub hsu r ih =>
    refine ⟨exSub c x, hsub c hcs cls hm, fun hb a hn => ?_, fun hb => ?_⟩
    · unfold handL at s
      simp only [hb, if_true] at s
      refine (hsu 0 { cls := .none, data := .fields #[] } []).im σ H δ I as M P E w en ?_
      cases e : g δ M with
      | ex c2 d2 M2 => rw [e] at s; exact s.elim
      | _ => rw [e] at s; exact s
    · unfold handL at s
      rw [hb, if_neg Bool.false_ne_true] at s
      exact ih s
section
variable {X : Cx} {W : WX}
theorem takes_dummy (hs : X.stack = X.env :: X.outer) (hf : X.env.frame = some X.env.locals) (W' : WX) : ∃ (pn : List (Addr × Obj)) (xe : Value → Shared → Prop), Takes (X.tr pn xe) W' ∧ PassesOwn (model X.prog X.w) X.A X.env xe := by
  refine ⟨[], fun e s₁ => wpAny (model X.prog X.w) X.A (noteFrame e X.env) (fun _ s₂ => wpAny (model X.prog X.w) X.A (setFlight e none) (fun _ _ => True) (fun _ _ => True) s₂) (fun _ _ => True) s₁, fun u s' xx => ?_, PassesOwn.looking⟩
  obtain ⟨a, B, sI, pins', σ', H', cls, d, rfl, J', nb, up, sky, na, os, ag, w⟩ := xx
  have ok := J'.ok
  have hfr : X.A.frames = some (X.env :: X.outer) := by
    have := ok.frames
    rw [← hs]
    exact this
  have sky' : Sky B (X.env :: X.outer) a (Zc cls d) X.env.locals s'.heap := by rw [← hs]; exact sky
  show wpAny (model X.prog X.w) X.A (noteFrame (.ref a) X.env) _ _ _
  exact Sky.land Zc.steady hfr hf sky' fun h3 fl3 up3 => True.intro
theorem xs_try {cs : List Str} {hs : List (Str × GS)} {body : List Stmt} {h₀ : ExceptHandler} {hds : List ExceptHandler} {l : List (Value × (Addr → Value → Option Addr → TS))} {pos : Pos} {tb : WX → TS} {gb : GS}
    (hs1 : X.stack = X.env :: X.outer) (hf : X.env.frame = some X.env.locals) (tk : Takes X W)
    (hb : ∀ (W' : WX) (pn : List (Addr × Obj)) (xe : Value → Shared → Prop), Takes (X.tr pn xe) W' → PassesOwn (model X.prog X.w) X.A X.env xe → XSs (X.tr pn xe) W' body (tb W') gb)
    (hh : XHs X cs (h₀ :: hds) l hs) : XS X W (.Try body (h₀ :: hds) [] [] pos) (fun D σ H => tb (wMany X.K W D l) D σ H) (gTry cs hs gb) := by
  refine ⟨ps_try_many hs1 hf tk (fun W' pn xe tk' po => (hb W' pn xe tk' po).pe) hh.ok, fun σ H δ I as M P E w en s => ?_⟩
  obtain ⟨pn, xe, tk', po'⟩ := takes_dummy hs1 hf (wMany X.K W E l)
  refine (hb (wMany X.K W E l) pn xe tk' po').im σ H δ I as M P E w en ?_
  unfold gTry at s
  cases e : gb δ M with
  | bad => rw [e] at s; exact s
  | nx δ1 M1 => rw [e] at s; exact s
  | rt d M1 => rw [e] at s; exact s
  | bk δ1 M1 => rw [e] at s; exact s
  | ct δ1 M1 => rw [e] at s; exact s
  | ex c δ1 M1 =>
    rw [e] at s
    simp only at s
    split at s
    · rename_i hc
      have hc' : c ∈ cs := by simpa using hc
      exact fun σ' H' I' as' g' w' en' cls hm => hh.im hc' w' en' (SatS.gr g' s) cls hm
    · exact s.elim
end
/-- what an except clause may be asked -/
structure ExcH (K : PySem.W.Frag) (mg : Str → Option Value) (cs : List Str) (n : Str) : Prop where
  ex : ∃ v : Value, mg n = some v ∧ ∀ d ∈ cs, ∀ cls, mg d = some cls → PySem.W.exmOne K cls v = some (exSub d n)
/-! ### a def that a local name holds -/
def gCallL (i : Nat) (tb : List (Str × OC)) (ga : GA) : GE := fun δ M => match δ[i]? with
  | some (some (.fn x)) => match tb.lookup x with
    | some m => (ga δ M).bind fun ds M1 => m ds M1
    | none => .bad
  | _ => .bad
def tCallF (P : Program) (w : World) (K : PySem.W.Frag) (mg : Str → Option Value) (base : Heap) (W : WX) (k i : Nat) (t : TA) : TE := fun σ H Q => ∃ (f : Addr) (fd : FuncData) (ps : List Str) (sp : Sp), σ[i]? = some (some (.ref f)) ∧ FnOk P w K mg base (L2.CX P w) k f fd ps sp ∧ PySem.W.keepIn K (.ref f) = true ∧ Binds K fd ps [] ∧
  t σ H fun vs H1 => sp vs H1 Q (WE W σ)
section
variable {X : Cx} {W : WX} {e : Expr} {es : List Expr} {pos p : Pos} {t : TA} {g : GA}
theorem Callee.mono {P : Program} {w : World} {K : PySem.W.Frag} {mg : Str → Option Value} {base : Heap} {x : Str} {j k n : Nat} {m : OC} (C : Callee P w K mg base x j n m) (h : j ≤ k) : Callee P w K mg base x k n m := by
  obtain ⟨f, fd, ps, F, r⟩ := C.ex
  exact ⟨f, fd, ps, F.mono h, r⟩
theorem lookup_mem {x : Str} {m : OC} : ∀ {tb : List (Str × OC)}, tb.lookup x = some m → (x, m) ∈ tb
  | [], h => by simp at h
  | (y, n) :: tb, h => by
    rw [List.lookup_cons] at h
    split at h
    · rename_i e
      have e1 := eq_of_beq e
      subst e1
      cases h
      exact List.mem_cons_self ..
    · exact List.mem_cons_of_mem _ (lookup_mem h)
theorem xe_callF (i : Nat) {y : Str} {k n : Nat} {tb : List (Str × OC)} (hC : ∀ p ∈ tb, Callee X.prog X.w X.K X.mg X.base p.1 k n p.2) (hr : Room k X.A) (tk : Takes X W) (ha : XA X W (e :: es) t g)
    (hl : ∀ δ M ds M', g δ M = .ok ds M' → ds.length = n := by first | exact fun _ _ _ _ h => gCons_len (fun _ _ _ _ h => gNil_len h) h | exact fun _ _ _ _ h => gCons_len (fun _ _ _ _ h => gCons_len (fun _ _ _ _ h => gNil_len h) h) h | exact fun _ _ _ _ h => gCons_len (fun _ _ _ _ h => gCons_len (fun _ _ _ _ h => gCons_len (fun _ _ _ _ h => gNil_len h) h) h) h)
    (hN : X.N[i]? = some y := by rfl) (hv : Vis X.env.scope y := by first | exact Or.inl rfl | exact Or.inr (Or.inl rfl) | exact Or.inr (Or.inr rfl)) (hdb : (y == ("__debug__" : Str)) = false := by decide) (hcd : (y == ("__classdict__" : Str)) = false := by decide)
    (he : starEach (e :: es) X.env = (false, eval e X.env) :: starEach es X.env := by rfl) (hpl : (backTo pos (starEach es X.env)).any (·.1) = false := by rfl) :
    XE X W (.Call (.Name y p) (e :: es) [] pos) (tCallF X.prog X.w X.K X.mg X.base W k i t) (gCallL i tb g) := by
  refine ⟨⟨fun pins s σ H Q I h => ?_⟩, fun σ H δ I as M P Q w en s => ?_⟩
  · obtain ⟨f, fd, ps, sp, hs, F, hk, hb, ht⟩ := h
    refine wpAny_Call_Name_kw (thn ((pe_var (pos := p) hN hv hdb hcd).run pins s σ H (fun v H1 => v = .ref f ∧ H1 = H) I ⟨.ref f, hs, rfl, rfl⟩) fun u s1 ⟨v, H1, I1, r1, q1⟩ => ?_)
    obtain ⟨rfl, rfl⟩ := q1
    cases r1
    refine PySem.W.callWith_K (h₀ := X.base) I.ok.mod.kin hk (thn (ha.pe.run pos pins s1 σ _ _ I1 ht) fun us s2 ⟨vs, H2, I2, r, q⟩ => ⟨I2.kIn, ?_⟩) he hpl
    exact run_fnS F hr hb (passAt tk σ) I2 r q
  · unfold gCallL at s
    split at s
    · rename_i x hx
      split at s
      · rename_i m hm
        obtain ⟨v, hv1, rv⟩ := en.at_ i _ hx
        cases rv with
        | @fn a _ hn =>
          obtain ⟨f, fd, ps, F, h1, h2, h3, h4⟩ := (hC (x, m) (lookup_mem hm)).ex
          have ef : f = a := by
            rw [h4] at hn
            cases hn
            rfl
          subst ef
          refine ⟨f, fd, ps, _, hv1, F, h2, h3, ?_⟩
          refine ha.im σ H δ I as M P _ w en (Sat.bind s fun xs M1 vs H1 I1 as1 e1 g1 w1 r1 s1 => ?_)
          exact ⟨by rw [r1.len]; exact hl _ _ _ _ e1, xs, I1, as1, M1, P, w1, r1, s1⟩
      · exact s.elim
    · exact s.elim
/-- a def's name, as a value -/
theorem xe_fn {x : Str} {f : Addr} (h1 : X.mg x = some (.ref f)) (h4 : PySem.W.nsIn X.K mainGlobals x = some (some (.ref f))) (hg : Gl X x := by rfl) (hd : (x == ("__debug__" : Str)) = false := by decide) : XE X W (.Name x pos) (tC (.ref f)) (gC (.fn x)) :=
  xe_glob (v := .ref f) h1 rfl (fun _ _ => .fn h4) hg hd
end
/-! ### isinstance(x, (T, U)) -/
def oIsi2 (T U : String) : OU := fun x M => match tyM M x with
  | some a => if tyOk T = true ∧ tyOk U = true then .ok (.bl (isiB a T || isiB a U)) M else .bad
  | none => .bad
section
variable {X : Cx} {W : WX} {e : Expr} {pos p p2 p3 p4 : Pos} {te : TE} {ge : GE} {kk : Nat}
theorem xe_isi2 {T U : String} {y z : Str} (hm : X.mg "isinstance" = none) (hm2 : X.mg y = none) (hv2 : bootBuiltins y = some (.type T)) (hm3 : X.mg z = none) (hv3 : bootBuiltins z = some (.type U)) (he : XE X W e te ge) (hg : Gl X "isinstance" := by rfl)
    (hg2 : Gl X y := by rfl) (hn2 : y ≠ "__name__" := by decide) (hd2 : (y == ("__debug__" : Str)) = false := by decide) (hg3 : Gl X z := by rfl) (hn3 : z ≠ "__name__" := by decide) (hd3 : (z == ("__debug__" : Str)) = false := by decide)
    (h1 : starEach [e, .Tuple [.Name y p2, .Name z p3] kk p4] X.env = (false, eval e X.env) :: starEach [.Tuple [.Name y p2, .Name z p3] kk p4] X.env := by rfl)
    (h2 : starEach [.Tuple [.Name y p2, .Name z p3] kk p4] X.env = (false, eval (.Tuple [.Name y p2, .Name z p3] kk p4) X.env) :: starEach [] X.env := by rfl)
    (h3 : starEach [.Name y p2, .Name z p3] X.env = (false, eval (.Name y p2) X.env) :: starEach [.Name z p3] X.env := by rfl) (h4 : starEach [.Name z p3] X.env = (false, eval (.Name z p3) X.env) :: starEach [] X.env := by rfl)
    (hpl : (backTo pos (starEach [.Tuple [.Name y p2, .Name z p3] kk p4] X.env)).any (·.1) = false := by rfl) :
    XE X W (.Call (.Name "isinstance" p) [e, .Tuple [.Name y p2, .Name z p3] kk p4] [] pos) (tCB (rIsiT X.K) (tCons te (tCons (tTup (tCons (tC (.ty T)) (tCons (tC (.ty U)) tNil))) tNil))) (gUn (oIsi2 T U) ge) := by
  refine ⟨pe_callB call_isiT hg hm PyProof.Rows.boot_isinstance (pa_cons he.pe (pa_cons (pe_tup (pa_cons (pe_bltn hg2 hm2 hv2 rfl hn2 hd2) (pa_cons (pe_bltn hg3 hm3 hv3 rfl hn3 hd3) pa_nil h4) h3)) pa_nil h2) h1) (by decide) (by decide) h1 hpl, fun σ H δ I as M P Q w en s => ?_⟩
  refine he.im σ H δ I as M P _ w en (Sat.bind s fun d M1 v H1 I1 as1 _ g1 w1 r1 s1 => ?_)
  unfold oIsi2 at s1
  split at s1
  · rename_i a ha
    split at s1
    · rename_i hT
      refine ⟨by show 2 ≤ sizeLine; decide, fun tp htp => ?_⟩
      obtain ⟨w2, g2⟩ := w1.newI htp (.tup [.ty T, .ty U])
      obtain ⟨t1, t2⟩ := (r1.mono g2).ty w2 ha
      have hk1 := List.all_eq_true.mp hT.1 a t2
      have hk2 := List.all_eq_true.mp hT.2 a t2
      refine ⟨v, tp, [.ty T, .ty U], .type a, [.type T, .type U], isiB a T || isiB a U, rfl, upd_same, .cons (.ty T) (.cons (.ty U) .nil), t1, ?_, s1 _ _ _ _ g2 w2 (.bl _)⟩
      refine kitAny_cons (kit_ty (by simpa using hk1)) (fun e1 => ?_) (fun e1 => by rw [e1]; rfl)
      refine kitAny_cons (kit_ty (by simpa using hk2)) (fun e2 => ?_) (fun e2 => by rw [e1, e2]; rfl)
      rw [e1, e2]
      exact kitAny_nil
    · exact s1.elim
  · exact s1.elim
/-! ### a dict that is only carried about -/
def gDct2 (ga gb : GE) : GE := fun δ M => match ga δ M with
  | .ok _ M1 => match gb δ M1 with
    | .ok _ M2 => .ok .dct M2
    | _ => .bad
  | _ => .bad
theorem xe_dct2 {a b : Expr} {ta tb : TE} {ga gb : GE} {s1 : Str} {i2 : Int} {j1 j2} (ha : XE X W a ta ga) (hb : XE X W b tb gb) : XE X W (.Dict [some (.Constant (.str s1) j1 p), some (.Constant (.int i2) j2 p2)] [a, b] pos) (tDisp [(tC (.str s1), ta), (tC (.int i2), tb)]) (gDct2 ga gb) := by
  refine ⟨pe_disp (pps_cons pe_str ha.pe (pps_cons pe_int hb.pe pps_nil)) rfl rfl (by simp) (by show 2 ≤ 15; omega), fun σ H δ I as M P Q w en s => ?_⟩
  intro q hq
  obtain ⟨f1, f2, f3⟩ := w.fresh hq
  have w0 := w.newP hq (.dK [])
  unfold gDct2 at s
  cases e1 : ga δ M with
  | bad => rw [e1] at s; exact s.elim
  | ex c M1 => rw [e1] at s; exact s.elim
  | ok x1 M1 =>
    simp only [e1] at s
    cases e2 : gb δ M1 with
    | bad => rw [e2] at s; exact s.elim
    | ex c M2 => rw [e2] at s; exact s.elim
    | ok x2 M2 =>
      simp only [e2] at s
      refine ha.im σ _ δ I as M _ _ w0 en ?_
      rw [e1]
      intro y H1 I1 as1 g1 w1 r1
      refine hb.im σ H1 δ I1 as1 M1 _ _ w1 (en.mono g1) ?_
      rw [e2]
      intro y2 H2 I2 as2 g2 w2 r2
      refine ⟨(w2.prv q _ upd_same).1, [(.inr s1, y), (.inl i2, y2)], rfl, by show 2 ≤ 15; omega, ?_⟩
      have w3 := w2.putP upd_same (.dK (mergeK [] [(.inr s1, y), (.inl i2, y2)]))
      rw [upd_upd] at w3
      obtain ⟨w4, g4⟩ := w3.giveI f2
      exact s _ _ _ _ (g1.trans (g2.trans g4)) w4 (.dct upd_same)
end
/-! ### () * k -/
theorem tuple_mulE (l : Addr) (n : Nat) (dd : Option Addr) (sl : Array (Option Value)) (x : Int) (u : Tok) (c0 : (decide (x < -(2 ^ 63)) || decide (x ≥ 2 ^ 63)) = false) :
    Meets (Builtin.«tuple.__mul__» ⟨[.ref l, .int x u], []⟩) (fun _ R s => s.heap.get? l = some { cls := .type "tuple", dict := dd, data := .seq #[] n, slots := sl } ∧
      R (.ok (.ret (Value.ref l))) { s with heap := s.heap, toks := s.toks }) :=
  .of_wp fun prog w A R s h => by
    obtain ⟨hp, g, d, tk, os⟩ := s
    obtain ⟨hl, h⟩ := h
    have f1 := AutoSeq1.idx_int
    wp_walk using wpAny_loadPart' hl
    repeat (first
      | (refine wpAny_ite_false (decide_eq_false (by rw [c0]; exact Bool.false_ne_true)) ?_; wp_walk using wpAny_loadPart' hl))
    exact ⟨_, rfl, h⟩
def rRepE (K : PySem.W.Frag) : R2 := fun x y H Q => ∃ l k, x = .ref l ∧ y = .int k ∧ SqT K H l [] ∧ 0 ≤ k ∧ k ≤ 1000 ∧ Q (.ref l) H
theorem op_repE {X : Cx} : OpR X (binaryOp .Mult) (rRepE X.K) := by
  intro pins s σ H x y v u Q I rx ry h
  obtain ⟨l, k, rfl, rfl, hT, k0, k1, q⟩ := h
  cases rx
  obtain ⟨t, rfl⟩ := ry
  obtain ⟨its, r, ⟨⟨cls, dd, data, sl⟩, ho, hc, n, hd⟩, hs⟩ := I.tuple hT
  simp only at hc hd
  subst hc hd
  cases r
  have c0 : (decide (k < -(2 ^ 63)) || decide (k ≥ 2 ^ 63)) = false := by
    rw [decide_eq_false (by omega), decide_eq_false (by omega)] <;> rfl
  refine wpAny_binaryOp_repeat_ref (T := "tuple") (U := "int") (by decide) ⟨_, ho, rfl⟩ (fun s' => typeIs_int s' k t) noFill_tuple_mul F.fills_int_mul F.slot_int_rmul repeat_tuple F.slot_int_index.lookup
    (call_meets F.slot_int_rmul (typeIs_int s k t) F.entry_int_rmul (F.args_int_rmul_2 _ _) (int_rmul_tuple k t l [].toArray n dd sl)
      ⟨ho, rfl, ⟨_, ho, rfl⟩, call_meets F.slot_tuple_mul ⟨_, ho, rfl⟩ F.entry_tuple_mul (F.args_tuple_mul_2 _ _) (tuple_mulE l n dd sl k t c0) ⟨ho, ?_⟩⟩)
  exact ⟨.ref l, H, I, rfl, q⟩
def rMulE (K : PySem.W.Frag) : R2 := fun x y H Q => rMulA K x y H Q ∨ rRepE K x y H Q
theorem op_mulE {X : Cx} : OpR X (binaryOp .Mult) (rMulE X.K) := op_mulA.or op_repE
noncomputable def oMulE : OD := fun x y M => match x, y with
  | .tup [], .int k => if 0 ≤ k ∧ k ≤ 1000 then .ok (.tup []) M else .bad
  | x, y => oMul x y M
theorem opd_mulE {K : PySem.W.Frag} : OpD K (rMulE K) oMulE := by
  intro H I as M P x y d e Wf Q w rx ry s
  unfold oMulE at s
  split at s
  · split at s
    · rename_i hc
      cases ry
      have rx' := rx
      obtain ⟨a, vs, rfl, h1, r1⟩ := rx.tupl w rfl
      cases r1
      exact .inr ⟨a, _, rfl, rfl, h1, hc.1, hc.2, s.now w rx'⟩
    · exact s.elim
  · exact .inl (opd_mul H I as M P x y d e Wf Q w rx ry s)
/-! ### defs that call themselves -/
section
variable {P : Program} {w : World} {K : PySem.W.Frag} {mg : Str → Option Value} {base : Heap}
theorem fn_bad {f : Addr} {fd : FuncData} {ps : List Str} {k n : Nat} (hn : n = ps.length) : FnOk P w K mg base (L2.CX P w) k f fd ps (spM K mg n fun _ _ => .bad) :=
  ⟨fun vs H Q E h => h.1.trans hn, fun A outer s H args us vs Q E _ _ _ _ h => by
    obtain ⟨_, ds, I, as, M, P', wr, r, sat⟩ := h
    exact sat.elim⟩
end
/-! ### the facts of the classes -/
theorem excAt_mk {K : PySem.W.Frag} {mg : Str → Option Value} {h : Heap} (X : K.In h) (G : h.Ns mainGlobals mg) {x : Str} {C : Addr} (a : PySem.W.nsIn K mainGlobals x = some (some (.ref C))) (q : PySem.W.excIn K C VB "ValueError.__new__" = true)
    (k : PySem.W.keepIn K (.ref C) = true) (b : PySem.W.subIn K (.ref C) (.type "BaseException") = some true) (t : PySem.W.typeIn K (.ref C) = some (.type "type")) : ExcAt K mg x := ⟨C, PySem.W.mg_of X G a, q, k, b, t⟩
inductive ExcL (K : PySem.W.Frag) (mg : Str → Option Value) (D : Addr) (n : Str) : List Str → Prop
  | nil : ExcL K mg D n []
  | cons {d : Str} {C : Addr} {cs : List Str} (a : mg d = some (.ref C)) (b : PySem.W.exmOne K (.ref C) (.ref D) = some (exSub d n)) (r : ExcL K mg D n cs) : ExcL K mg D n (d :: cs)
theorem ExcL.at {K : PySem.W.Frag} {mg : Str → Option Value} {D : Addr} {n : Str} {cs : List Str} (h : ExcL K mg D n cs) : ∀ d ∈ cs, ∀ cls, mg d = some cls → PySem.W.exmOne K cls (.ref D) = some (exSub d n) := by
  induction h with
  | nil => intro d hd; cases hd
  | cons a b r ih =>
    intro d hd cls hm
    rcases List.mem_cons.mp hd with e | e
    · subst e
      rw [a] at hm
      cases hm
      exact b
    · exact ih d e cls hm
theorem excH_mk {K : PySem.W.Frag} {mg : Str → Option Value} {n : Str} {D : Addr} {cs : List Str} (a : mg n = some (.ref D)) (r : ExcL K mg D n cs) : ExcH K mg cs n := ⟨.ref D, a, r.at⟩
end KM
set_option Elab.async false
set_option linter.all false
set_option maxRecDepth 100000
set_option maxHeartbeats 2000000
namespace KM
open PySem L2 PySem.Spec PyProof.Rows
section
variable {X : Cx} {W : WX} {e : Expr} {pos p p2 p3 p4 : Pos} {te : TE} {ge : GE} {kk : Nat}
theorem ke_isi2 (K : PySem.W.Frag) {T U : String} {y z : Str} (hm : X.mg "isinstance" = none) (hm2 : X.mg y = none) (hv2 : bootBuiltins y = some (.type T)) (hm3 : X.mg z = none) (hv3 : bootBuiltins z = some (.type U)) (he : XE X W e te ge) (hK : X.K = K := by rfl) (hg : Gl X "isinstance" := by rfl)
    (hg2 : Gl X y := by rfl) (hn2 : y ≠ "__name__" := by decide) (hd2 : (y == ("__debug__" : Str)) = false := by decide) (hg3 : Gl X z := by rfl) (hn3 : z ≠ "__name__" := by decide) (hd3 : (z == ("__debug__" : Str)) = false := by decide)
    (h1 : starEach [e, .Tuple [.Name y p2, .Name z p3] kk p4] X.env = (false, eval e X.env) :: starEach [.Tuple [.Name y p2, .Name z p3] kk p4] X.env := by rfl)
    (h2 : starEach [.Tuple [.Name y p2, .Name z p3] kk p4] X.env = (false, eval (.Tuple [.Name y p2, .Name z p3] kk p4) X.env) :: starEach [] X.env := by rfl)
    (h3 : starEach [.Name y p2, .Name z p3] X.env = (false, eval (.Name y p2) X.env) :: starEach [.Name z p3] X.env := by rfl) (h4 : starEach [.Name z p3] X.env = (false, eval (.Name z p3) X.env) :: starEach [] X.env := by rfl)
    (hpl : (backTo pos (starEach [.Tuple [.Name y p2, .Name z p3] kk p4] X.env)).any (·.1) = false := by rfl) :
    XE X W (.Call (.Name "isinstance" p) [e, .Tuple [.Name y p2, .Name z p3] kk p4] [] pos) (tCB (rIsiT K) (tCons te (tCons (tTup (tCons (tC (.ty T)) (tCons (tC (.ty U)) tNil))) tNil))) (gUn (oIsi2 T U) ge) := by
  subst hK; exact xe_isi2 hm hm2 hv2 hm3 hv3 he hg hg2 hn2 hd2 hg3 hn3 hd3 h1 h2 h3 h4 hpl
end
section
variable {X : Cx} {W : WX} {e : Expr} {es : List Expr} {pos p : Pos} {t : TA} {g : GA}
theorem ke_callF (P : Program) (w : World) (K : PySem.W.Frag) (mg : Str → Option Value) (base : Heap) (i : Nat) {y : Str} {k n : Nat} {tb : List (Str × OC)} (hC : ∀ p ∈ tb, Callee P w K mg base p.1 k n p.2) (hr : Room k X.A) (tk : Takes X W) (ha : XA X W (e :: es) t g)
    (hP : X.prog = P := by rfl) (hw : X.w = w := by rfl) (hK : X.K = K := by rfl) (hmg : X.mg = mg := by rfl) (hba : X.base = base := by rfl)
    (hl : ∀ δ M ds M', g δ M = .ok ds M' → ds.length = n := by first | exact fun _ _ _ _ h => gCons_len (fun _ _ _ _ h => gNil_len h) h | exact fun _ _ _ _ h => gCons_len (fun _ _ _ _ h => gCons_len (fun _ _ _ _ h => gNil_len h) h) h | exact fun _ _ _ _ h => gCons_len (fun _ _ _ _ h => gCons_len (fun _ _ _ _ h => gCons_len (fun _ _ _ _ h => gNil_len h) h) h) h)
    (hN : X.N[i]? = some y := by rfl) (hv : Vis X.env.scope y := by first | exact Or.inl rfl | exact Or.inr (Or.inl rfl) | exact Or.inr (Or.inr rfl)) (hdb : (y == ("__debug__" : Str)) = false := by decide) (hcd : (y == ("__classdict__" : Str)) = false := by decide)
    (he : starEach (e :: es) X.env = (false, eval e X.env) :: starEach es X.env := by rfl) (hpl : (backTo pos (starEach es X.env)).any (·.1) = false := by rfl) :
    XE X W (.Call (.Name y p) (e :: es) [] pos) (tCallF P w K mg base W k i t) (gCallL i tb g) := by
  subst hP hw hK hmg hba; exact xe_callF i hC hr tk ha hl hN hv hdb hcd he hpl
end
end KM
namespace KM
open PySem L2 PySem.Spec PyProof.Rows
/-- what an except clause makes of a class, by the facts of both -/
theorem exm_two {K : PySem.W.Frag} {h : Heap} (X : K.In h) {C D : Addr} {b : Bool} (h1 : PySem.W.subIn K (.ref D) (.type "BaseException") = some true) (h2 : PySem.W.isClsIn K D = true) (h3 : PySem.W.typeIn K (.ref D) = some (.type "type")) (h4 : PySem.W.subIn K (.ref C) (.ref D) = some b) : PySem.W.exmOne K (.ref C) (.ref D) = some b := by
  unfold PySem.W.exmOne PySem.W.kitCls
  unfold PySem.W.isClsIn at h2
  simp [h1, h2, h3, h4]
end KM
set_option Elab.async false
set_option linter.all false
set_option maxRecDepth 100000
set_option maxHeartbeats 2000000
/-! max of a tuple of ints; zip -/
namespace SkE
open PySem PySem.Spec PyProof.Rows L2
section
variable {prog : Program} {w : World} {A : Around} {E : Value → Shared → Prop} {s : Shared} {l : Addr} {its : List Value} {ns : List Int}
theorem max_intTuple {xs : Array (Int × Tok)} {Q : Value → Shared → Prop} (hh : A.handled = none) (hl : s.heap.IsTuple l (intItems xs)) (hne : 0 < xs.size)
    (h : ∀ v h' tk, (intItems xs)[argBest (fun i j => decide (numAt xs i > numAt xs j)) (xs.size - 1)]? = some v → (∀ b o, s.heap.get? b = some o → h'.get? b = some o) → Q v { s with heap := h', toks := tk }) :
    wpAny (model prog w) A (call (.builtin "max") [.ref l]) Q E s := by
  have hlt : l < s.heap.objs.size := by obtain ⟨_, e, _⟩ := hl; exact Heap.lt_size e
  refine call_max_walk (wpAny_pyIter_tuple hl ?_)
  refine ⟨_, _, _, _, _, _, _, rfl, Walks.tuple (A := A.in1) hh _ l (Nat.ne_of_lt hlt) (intItems xs), ⟨⟨_, Heap.get?_push_size _ rfl, rfl, rfl⟩, hl.push _⟩, fun b hb => ?_, by simpa [intItems] using hne, CmpOf.ints_gt (numAt xs) (fun _ _ => intItems_at), fun v h' tk hP hk => ?_⟩
  · show b < (s.heap.push _).objs.size
    rw [Heap.size_push]
    rcases List.mem_cons.mp hb with rfl | hb
    · exact Nat.lt_succ_self _
    · rcases List.mem_cons.mp hb with rfl | hb
      · exact Nat.lt_succ_of_lt hlt
      · cases hb
  · exact h v h' tk (by simpa [intItems] using hP) (fun b o e => hk b o (fun hb => absurd (Heap.lt_size e) ((List.mem_singleton.mp hb) ▸ Nat.lt_irrefl _)) (Heap.get?_push_of_some _ e))
theorem max_rawT {Q : Value → Shared → Prop} (hh : A.handled = none) (hl : s.heap.IsTuple l its.toArray) (hi : IntsAre its ns) (hne : 0 < ns.length)
    (h : ∀ h' tk M t', (∀ b o, s.heap.get? b = some o → h'.get? b = some o) → M ∈ ns → (∀ a, a ∈ ns → a ≤ M) → Q (.int M t') { s with heap := h', toks := tk }) : wpAny (model prog w) A (call (.builtin "max") [.ref l]) Q E s := by
  obtain ⟨xs, e⟩ := hi.allInts.items
  have hn : numsOf (intItems xs).toList = ns := by rw [← e]; exact hi.numsOf
  rw [nums_intItems] at hn
  subst hn
  rw [e] at hl
  have hsz : 0 < xs.size := by simpa using hne
  refine max_intTuple hh hl hsz fun v h' tk hv hk => ?_
  obtain ⟨t, rfl⟩ := intItems_at hv
  obtain ⟨h1, h2⟩ := argBest_gt (numAt xs) (xs.size - 1)
  refine h h' tk _ t hk ?_ fun a ha => ?_
  · rw [numAt_eq]; exact PySem.getD_mem (by rw [List.length_map, Array.length_toList]; omega)
  · obtain ⟨j, hj, rfl⟩ := mem_getD ha
    rw [List.length_map, Array.length_toList] at hj
    rw [← numAt_eq]; exact h2 j (by omega)
end
end SkE
namespace KM
open PySem L2 PySem.Spec PyProof.Rows
def rMaxT (K : PySem.W.Frag) : List V → Hp → VK → Prop := fun vs H Q => ∃ (a : Addr) (ns : List Int), vs = [V.ref a] ∧ SqT K H a (ns.map V.int) ∧ 0 < ns.length ∧ ∀ m, m ∈ ns → (∀ y, y ∈ ns → y ≤ m) → Q (.int m) H
theorem cr_maxT {X : Cx} (hc : X.calm = true) : CallR X (.builtin "max") (rMaxT X.K) := by
  intro pins s σ H vs us Q I r h
  obtain ⟨a, ns, rfl, hs, hne, q⟩ := h
  obtain ⟨its, rv, pl, hz⟩ := I.tuple hs
  rw [Vals.ref1 r]
  exact SkE.max_rawT (I.ok.hd hc) pl rv.ints hne fun h' tk m t' hk h1 h2 => ⟨.int _, H, I.kept hk, ⟨_, rfl⟩, q m h1 h2⟩
def maxL (n : Int) (ns : List Int) : Int := ns.foldl (fun a b => if a < b then b else a) n
theorem maxL_spec : ∀ (ns : List Int) (n : Int), maxL n ns ∈ n :: ns ∧ ∀ y ∈ n :: ns, y ≤ maxL n ns
  | [], n => ⟨by simp [maxL], by simp [maxL]⟩
  | m :: ns, n => by
    have e : maxL n (m :: ns) = maxL (if n < m then m else n) ns := rfl
    obtain ⟨h1, h2⟩ := maxL_spec ns (if n < m then m else n)
    rw [e]
    constructor
    · rcases List.mem_cons.mp h1 with q | q
      · rw [q]
        split <;> simp
      · exact List.mem_cons_of_mem _ (List.mem_cons_of_mem _ q)
    · intro y hy
      have h0 := h2 _ (List.mem_cons_self ..)
      have h0' : n ≤ maxL (if n < m then m else n) ns ∧ m ≤ maxL (if n < m then m else n) ns := by
        by_cases c : n < m
        · rw [if_pos c] at h0 ⊢
          omega
        · rw [if_neg c] at h0 ⊢
          omega
      rcases List.mem_cons.mp hy with q | q
      · subst q
        exact h0'.1
      · rcases List.mem_cons.mp q with q | q
        · subst q
          exact h0'.2
        · exact h2 y (List.mem_cons_of_mem _ q)
def oMax : OC := fun ds M => match ds with
  | [x] => match tupOf x with
    | some xs => match intsD xs with
      | some (n :: ns) => .ok (.int (maxL n ns)) M
      | _ => .bad
    | none => .bad
  | _ => .bad
theorem opc_max {K : PySem.W.Frag} : OpC K (rMaxT K) oMax := by
  intro H I as M P xs ds Wf Q w r s
  unfold oMax at s
  split at s
  · obtain ⟨v, rfl, rv⟩ := r.one_inv
    split at s
    · rename_i ys hy
      split at s
      · rename_i n ns hn
        obtain ⟨a, vs, rfl, h1, r1⟩ := rv.tupl w hy
        have e := r1.intsD hn
        subst e
        refine ⟨a, n :: ns, rfl, h1, by simp, fun m hm hb => ?_⟩
        obtain ⟨q1, q2⟩ := maxL_spec ns n
        have em : m = maxL n ns := Int.le_antisymm (q2 m hm) (hb _ q1)
        subst em
        exact s.now w (.int _)
      · exact s.elim
    · exact s.elim
  · exact s.elim
/-! ### zip of two tuples -/
def zipD : List D → List D → List D
  | x :: xs, y :: ys => .tup [x, y] :: zipD xs ys
  | _, _ => []
theorem zipD_len : ∀ xs ys : List D, (zipD xs ys).length = min xs.length ys.length
  | [], _ => by simp [zipD]
  | _ :: _, [] => by simp [zipD]
  | x :: xs, y :: ys => by
    show (zipD xs ys).length + 1 = min (xs.length + 1) (ys.length + 1)
    rw [zipD_len xs ys]
    omega
theorem zipD_at : ∀ (xs ys : List D) (i : Nat) (x y : D), xs[i]? = some x → ys[i]? = some y → (zipD xs ys)[i]? = some (.tup [x, y])
  | [], _, i, x, y, h, _ => by simp at h
  | _ :: _, [], i, x, y, _, h => by simp at h
  | a :: xs, b :: ys, 0, x, y, h1, h2 => by
    cases h1
    cases h2
    rfl
  | a :: xs, b :: ys, i + 1, x, y, h1, h2 => zipD_at xs ys i x y h1 h2
def giZip (ga : GA) : GI := fun δ M => (ga δ M).bind fun ds M1 => match ds with
  | [x, y] => match tupOf x, tupOf y with
    | some xs, some ys => .ok (itT (zipD xs ys)) M1
    | _, _ => .bad
  | _ => .bad
theorem walk_zipT {K : PySem.W.Frag} {a b : Addr} {xs ys : List V} {n : Nat} (hn : n = min xs.length ys.length) : Walk (RZ.ItzT K a b) n (fun H => SqT K H a xs ∧ SqT K H b ys) (YPair (fun i => xs[i]?) (fun i => ys[i]?)) := by
  subst hn
  refine ⟨fun i _ hi q => ?_, fun _ q => ⟨xs, ys, q.1, q.2, by omega⟩, fun i H v H' _ q y => ?_⟩
  · have h1 : i < xs.length := by omega
    have h2 : i < ys.length := by omega
    exact ⟨xs, ys, xs[i], ys[i], q.1, q.2, by simp [h1], by simp [h2]⟩
  · obtain ⟨T, x, z, h1, h2, h3, h4, h5⟩ := y
    exact ⟨T, x, z, h1, h2, h3, h4 xs q.1, h5 ys q.2⟩
theorem itok_zip {K : PySem.W.Frag} {I : Hp} {as : List Addr} {a b : Addr} {us vs : List V} {xs ys : List D} (h : SqT K I a us) (h' : SqT K I b vs) (r : Reps K I as us xs) (r' : Reps K I as vs ys) : ItOk K I as (RZ.ItzT K a b) (itT (zipD xs ys)) := by
  have hl : (itT (zipD xs ys)).items.length = min us.length vs.length := by
    show (zipD xs ys).length = _
    rw [zipD_len, r.len, r'.len]
  refine ⟨fun H => SqT K H a us ∧ SqT K H b vs, YPair (fun i => us[i]?) (fun i => vs[i]?), by rw [hl]; exact walk_zipT (xs := us) (ys := vs) rfl, fun H' I' as' M' P' g w _ => ⟨w.seqT (Evl.ex_t g.sub h), w.seqT (Evl.ex_t g.sub h')⟩, fun i x H' H2 I' as' M' P' hi g w _ y => ?_⟩
  obtain ⟨T, x1, y1, rfl, hT, rfl, hx, hy⟩ := y
  obtain ⟨w2, g2⟩ := w.newI hT (.tup [x1, y1])
  obtain ⟨d, hd, rd⟩ := r.get' hx
  obtain ⟨e, he, re⟩ := r'.get' hy
  exact ⟨_, .tup [d, e], g2, w2, zipD_at _ _ _ _ _ hd he, .tup (.of upd_same) (.cons (rd.mono (g.trans g2)) (.cons (re.mono (g.trans g2)) .nil))⟩
section
variable {X : Cx} {W : WX} {e e2 : Expr} {p pos tpos : Pos} {elts : List Expr} {kk : Nat} {t : TA} {g : GA}
theorem xi_zip (hm : X.mg "zip" = none) (ha : XA X W [e, e2] t g) (hg : Gl X "zip" := by rfl)
    (hs : starEach [e, e2] X.env = (false, eval e X.env) :: starEach [e2] X.env := by rfl) (hpl : (backTo pos (starEach [e2] X.env)).any (·.1) = false := by rfl) : XI X W (.Tuple elts kk tpos) (.Call (.Name "zip" p) [e, e2] [] pos) (RZ.iZipA X.K t) (giZip g) := by
  refine ⟨RZ.pi_zipA hg hm ha.pe hs hpl, fun σ H δ I as M P Q w en s => ?_⟩
  refine ha.im σ H δ I as M P _ w en (Sat.bind s fun d M1 v H1 I1 as1 _ g1 w1 r1 s1 => ?_)
  split at s1
  · obtain ⟨v1, v2, rfl, q1, q2⟩ := r1.two_inv
    split at s1
    · rename_i xs ys h1 h2
      have e1 := tupOf_eq h1
      have e2 := tupOf_eq h2
      subst e1 e2
      cases q1 with
      | @tup a us _ k1 rr1 =>
        cases q2 with
        | @tup b vs _ k2 rr2 =>
          exact ⟨a, b, us, vs, rfl, .inr ⟨w1.seqT k1, w1.seqT k2, s1 _ H1 I1 as1 (Gr.refl _ _) w1 (itok_zip k1 k2 rr1 rr2)⟩⟩
    · exact s1.elim
  · exact s1.elim
theorem ki_zip (K : PySem.W.Frag) (hm : X.mg "zip" = none) (ha : XA X W [e, e2] t g) (hK : X.K = K := by rfl) (hg : Gl X "zip" := by rfl)
    (hs : starEach [e, e2] X.env = (false, eval e X.env) :: starEach [e2] X.env := by rfl) (hpl : (backTo pos (starEach [e2] X.env)).any (·.1) = false := by rfl) : XI X W (.Tuple elts kk tpos) (.Call (.Name "zip" p) [e, e2] [] pos) (RZ.iZipA K t) (giZip g) := by
  subst hK; exact xi_zip hm ha hg hs hpl
end
end KM
set_option Elab.async false
set_option linter.all false
set_option maxRecDepth 100000
set_option maxHeartbeats 2000000
/-! dicts with ints as keys -/
namespace KM
open PySem L2 PySem.Spec PyProof.Rows
theorem u1 {n c : Nat} (h : n + 64 < c) : n + 1 < c := by omega
def dget : List (Int × D) → Int → Option D
  | [], _ => none
  | p :: r, i => if p.1 = i then some p.2 else dget r i
section
variable {K : PySem.W.Frag} {H I P : Hp} {as : List Addr} {M : List MO}
theorem dval : ∀ {vs : List (L2.Key × V)} {kvs : List (Int × D)}, vs.map (fun p => p.1) = kvs.map (fun p => Sum.inl p.1) → Reps K I as (vs.map fun p => p.2) (kvs.map fun p => p.2) → ∀ i : Int,
    (dget kvs i = none → valV vs (Sum.inl i) = none) ∧ ∀ d, dget kvs i = some d → ∃ v, valV vs (Sum.inl i) = some v ∧ Rep K I as v d
  | [], [], _, _, i => ⟨fun _ => valV_nil, fun d h => by cases h⟩
  | [], _ :: _, h, _, _ => by cases h
  | _ :: _, [], h, _, _ => by cases h
  | q :: vs, p :: kvs, h, r, i => by
    rw [List.map_cons, List.map_cons] at h r
    injection h with h1 h2
    cases r with
    | cons r1 r2 =>
      obtain ⟨a1, a2⟩ := dval h2 r2 i
      unfold dget
      by_cases c : p.1 = i
      · rw [if_pos c]
        refine ⟨fun e => by (cases e), fun d e => ?_⟩
        cases e
        exact ⟨q.2, valV_pos (by rw [h1, c]), r1⟩
      · rw [if_neg c]
        have n : ¬ q.1 = Sum.inl i := by
          rw [h1]
          exact fun z => c (Sum.inl.inj z)
        rw [valV_neg n]
        exact ⟨a1, a2⟩
theorem Rep.dict (w : Wr K H I as M P) {v : V} {k : Nat} {kvs : List (Int × D)} (r : Rep K I as v (.ref k)) (h : M[k]? = some (.dct kvs)) : ∃ a, ∃ vs : List (L2.Key × V), v = .ref a ∧ as[k]? = some a ∧ H a = some (.dK vs) ∧ vs.map (fun p => p.1) = kvs.map (fun p => Sum.inl p.1) ∧ Reps K I as (vs.map fun p => p.2) (kvs.map fun p => p.2) := by
  cases r with
  | @ref _ a h1 =>
    obtain ⟨o, ho, _, _, m⟩ := w.at h1
    rw [h] at ho
    cases ho
    obtain ⟨vs, e1, e2, rr⟩ := m
    exact ⟨a, vs, rfl, h1, e1, e2, rr⟩
end
/-! x not in d -/
def oDNotIn : OD := fun x y M => match x, y with
  | .int i, .ref k => match M[k]? with
    | some (.dct kvs) => .ok (.bl (!(dget kvs i).isSome)) M
    | _ => .bad
  | _, _ => .bad
def rDNotIn : R2 := fun x y H Q => ∃ a o, y = .ref a ∧ DGet H a x o ∧ Q (.bl (!o.isSome)) H
theorem op_dnotin {X : Cx} (hu : X.A.units + 1 < cLine) : OpR X (compareOp .NotIn) rDNotIn := by
  intro pins s σ H x y v u Q I rx ry h
  obtain ⟨a, o, rfl, g, q⟩ := h
  cases (show u = Value.ref a from ry)
  exact d_notIn hu I g rx fun s' I' => ⟨.bl (!o.isSome), H, I', rfl, q⟩
theorem opd_dnotin {K : PySem.W.Frag} : OpD K rDNotIn oDNotIn := by
  intro H I as M P x y d e Wf Q w rx ry s
  unfold oDNotIn at s
  split at s
  · rename_i i k
    split at s
    · rename_i kvs hk
      cases rx
      obtain ⟨a, vs, rfl, _, h1, h2, h3⟩ := ry.dict w hk
      obtain ⟨a1, a2⟩ := dval h2 h3 i
      cases hg : dget kvs i with
      | none =>
        rw [hg] at s
        exact ⟨a, none, rfl, by rw [← a1 hg]; exact DGet.k (k := Sum.inl i) h1, s.now w (.bl _)⟩
      | some d =>
        rw [hg] at s
        obtain ⟨v, e1, e2⟩ := a2 d hg
        exact ⟨a, some v, rfl, by rw [← e1]; exact DGet.k (k := Sum.inl i) h1, s.now w (.bl _)⟩
    · exact s.elim
  · exact s.elim
/-! d[i] -/
def oDGet : OD := fun x y M => match x, y with
  | .ref k, .int i => match M[k]? with
    | some (.dct kvs) => match dget kvs i with
      | some d => .ok d M
      | none => .bad
    | _ => .bad
  | _, _ => .bad
def rDGet : R2 := fun x y H Q => ∃ a v, x = .ref a ∧ DGet H a y (some v) ∧ Q v H
theorem opd_dget {K : PySem.W.Frag} : OpD K rDGet oDGet := by
  intro H I as M P x y d e Wf Q w rx ry s
  unfold oDGet at s
  split at s
  · rename_i k i
    split at s
    · rename_i kvs hk
      split at s
      · rename_i dd hg
        cases ry
        obtain ⟨a, vs, rfl, _, h1, h2, h3⟩ := rx.dict w hk
        obtain ⟨v, e1, e2⟩ := (dval h2 h3 i).2 dd hg
        exact ⟨a, v, rfl, by rw [← e1]; exact DGet.k (k := Sum.inl i) h1, s.now w e2⟩
      · exact s.elim
    · exact s.elim
  · exact s.elim
section
variable {X : Cx} {W : WX} {a b e : Expr} {pos p p2 : Pos} {ta tb te : TE} {ga gb ge : GE}
theorem xe_dget (hu : X.A.units + 1 < cLine) (ha : XE X W a ta ga) (hb : XE X W b tb gb) (hs : NoSl b := by exact fun _ _ => rfl) : XE X W (.Subscript a b pos) (tDGet ta tb) (gOp oDGet ga gb) := by
  refine ⟨pe_dget hu ha.pe hb.pe hs, fun σ H δ I as M P Q w en s => ?_⟩
  refine ha.im σ H δ I as M P _ w en (Sat.bind s fun x M1 v H1 I1 as1 _ g1 w1 r1 s1 => ?_)
  refine hb.im σ H1 δ I1 as1 M1 P _ w1 (en.mono g1) (Sat.bind s1 fun y M2 u H2 I2 as2 _ g2 w2 r2 s2 => ?_)
  exact opd_dget (K := X.K) H2 I2 as2 M2 P v u x y _ Q w2 (r1.mono g2) r2 s2
/-! {i: x} -/
def gDct1 (i : Int) (gb : GE) : GE := fun δ M => match gb δ M with
  | .ok x M1 => .ok (.ref M1.length) (M1 ++ [.dct [(i, x)]])
  | _ => .bad
theorem xe_dct1 {i2 : Int} {j2} (hb : XE X W b tb gb) : XE X W (.Dict [some (.Constant (.int i2) j2 p2)] [b] pos) (tDisp [(tC (.int i2), tb)]) (gDct1 i2 gb) := by
  refine ⟨pe_disp (pps_cons pe_int hb.pe pps_nil) rfl rfl (by simp) (by show 1 ≤ 15; omega), fun σ H δ I as M P Q w en s => ?_⟩
  intro q hq
  obtain ⟨f1, f2, f3⟩ := w.fresh hq
  have w0 := w.newP hq (.dK [])
  unfold gDct1 at s
  cases e2 : gb δ M with
  | bad => rw [e2] at s; exact s.elim
  | ex c M2 => rw [e2] at s; exact s.elim
  | ok x2 M2 =>
    rw [e2] at s
    refine hb.im σ _ δ I as M _ _ w0 en ?_
    rw [e2]
    intro y2 H2 I2 as2 g2 w2 r2
    refine ⟨(w2.prv q _ upd_same).1, [(.inl i2, y2)], rfl, by show 1 ≤ 15; omega, ?_⟩
    have w3 := w2.putP upd_same (.dK (mergeK [] [(.inl i2, y2)]))
    rw [upd_upd] at w3
    have w4 := w3.giveM (m := .dct [(i2, x2)]) f2 ⟨[(.inl i2, y2)], upd_same, rfl, .cons r2 .nil⟩
    refine s _ _ _ _ (g2.trans (Gr.more I2 as2 [q])) w4 (.ref ?_)
    rw [← w2.len, List.getElem?_append_right (Nat.le_refl _), Nat.sub_self]
    rfl
end
/-! d[i] = x, i a new key -/
def oSetD : OSet := fun x i v M => match x, i with
  | .ref k, .int j => match M[k]? with
    | some (.dct kvs) => match dget kvs j with
      | none => if kvs.length < 1000 then some (M.set k (.dct (kvs ++ [(j, v)]))) else none
      | some _ => none
    | _ => none
  | _, _ => none
theorem setd_dict {K : PySem.W.Frag} : SetD K rSetD oSetD := by
  intro H I as M M' P x i v dx di dv Q w rx ri rv h k
  unfold oSetD at h
  split at h
  · rename_i kk j
    split at h
    · rename_i kvs hk
      split at h
      · rename_i hg
        split at h
        · rename_i hl
          cases h
          cases ri
          obtain ⟨a, vs, rfl, ha, h1, h2, h3⟩ := rx.dict w hk
          have hv := (dval h2 h3 j).1 hg
          have hlen : vs.length = kvs.length := by
            have := congrArg List.length h2
            simpa using this
          refine ⟨a, _, rfl, DPut.k (k := Sum.inl j) h1 (by rw [hlen, sizeLine_eq]; omega), k _ ?_⟩
          rw [putK_new _ hv]
          refine w.put ha _ _ ⟨_, upd_same, ?_, ?_⟩
          · simp [h2]
          · rw [List.map_append, List.map_append]
            exact h3.append (.cons rv .nil)
        · cases h
      · cases h
    · cases h
  · cases h
/-! sorted(d) -/
def oSortedD : OC := fun ds M => match ds with
  | [.ref k] => match M[k]? with
    | some (.dct kvs) => if kvs.length < 64 then .ok (.lst ((srtI (kvs.map fun p => p.1)).map D.int)) M else .bad
    | _ => .bad
  | _ => .bad
def rSortedD : List V → Hp → VK → Prop := fun xs H Q => ∃ (a : Addr) (kvs : List (L2.Key × V)) (ks : List Int), xs = [.ref a] ∧ Rd H a (.dK kvs) ∧ kvs.map (·.1) = ks.map Sum.inl ∧ ks.length < 64 ∧
    ∀ (ys : List Int) (p : Addr), ys.Perm ks → ys.Pairwise (· ≤ ·) → H p = none → Q (.ref p) (upd H p (.lst (ys.map V.int)))
theorem opc_sortedD {K : PySem.W.Frag} : OpC K rSortedD oSortedD := by
  intro H I as M P xs ds Wf Q w r s
  unfold oSortedD at s
  split at s
  · rename_i k
    obtain ⟨v, rfl, rv⟩ := r.one_inv
    split at s
    · rename_i kvs hk
      split at s
      · rename_i hl
        obtain ⟨a, vs, rfl, ha, h1, h2, h3⟩ := rv.dict w hk
        refine ⟨a, vs, kvs.map fun p => p.1, rfl, .inl h1, by rw [List.map_map]; exact h2, by rw [List.length_map]; exact hl, fun ns' p hp hs hf => ?_⟩
        have e : ns' = srtI (kvs.map fun p => p.1) := List.Perm.eq_of_pairwise (le := (· ≤ ·)) (fun a b _ _ h1 h2 => Int.le_antisymm h1 h2) hs (srtI_sorted _) (hp.trans (srtI_perm _).symm)
        subst e
        exact s.newLst w (Reps.ints _ rfl) hf
      · exact s.elim
    · exact s.elim
  · exact s.elim
/-! list(range(a, b)) -/
def gListRgM (ga gb : GE) : GE := fun δ M => (ga δ M).bind fun x M1 => (gb δ M1).bind fun y M2 => match x, y with
  | .int i, .int j => if -1000 ≤ i ∧ i ≤ 1000 ∧ -1000 ≤ j ∧ j ≤ 1000 then .ok (.ref M2.length) (M2 ++ [.lst (rngD i (j - i).toNat)]) else .bad
  | _, _ => .bad
theorem rg_ints (i : Int) (n : Nat) : rngD i n = ((List.range n).map fun (k : Nat) => i + (k : Int)).map D.int := by
  unfold rngD
  rw [List.map_map]
  rfl
section
variable {X : Cx} {W : WX} {a b : Expr} {pos p p2 pos2 : Pos} {ta tb : TE} {ga gb : GE}
theorem xe_listRgM (hc : X.calm = true) (hm : X.mg "list" = none) (hm2 : X.mg "range" = none) (ha : XE X W a ta ga) (hb : XE X W b tb gb) (hg : Gl X "list" := by rfl) (hg2 : Gl X "range" := by rfl)
    (na : starEach [a, b] X.env = (false, eval a X.env) :: starEach [b] X.env := by rfl) (nb : starEach [b] X.env = (false, eval b X.env) :: starEach [] X.env := by rfl) (hp : (backTo pos2 (starEach [b] X.env)).any (·.1) = false := by rfl)
    (nc : starEach [.Call (.Name "range" p2) [a, b] [] pos2] X.env = (false, eval (.Call (.Name "range" p2) [a, b] [] pos2) X.env) :: starEach [] X.env := by rfl) :
    XE X W (.Call (.Name "list" p) [.Call (.Name "range" p2) [a, b] [] pos2] [] pos) (tLstRg (tRg2 ta tb)) (gListRgM ga gb) := by
  refine ⟨pe_listRg hc hg hm (prg_2 hg2 hm2 ha.pe hb.pe na nb hp) nc, fun σ H δ I as M P Q w en s => ?_⟩
  refine ha.im σ H δ I as M P _ w en (Sat.bind s fun x M1 v H1 I1 as1 _ g1 w1 r1 s1 => ?_)
  refine hb.im σ H1 δ I1 as1 M1 P _ w1 (en.mono g1) (Sat.bind s1 fun y M2 u H2 I2 as2 _ g2 w2 r2 s2 => ?_)
  split at s2
  · rename_i i j
    split at s2
    · rename_i hc
      cases r1
      cases r2
      refine ⟨_, _, rfl, rfl, ⟨by omega, by omega, by omega, by omega, by omega⟩, fun q hq => ?_⟩
      refine s2.newRef w2 ?_ hq
      rw [rg_ints]
      refine Reps.ints _ ?_
      unfold rgV
      rw [List.map_map]
      rfl
    · exact s2.elim
  · exact s2.elim
end
end KM
set_option Elab.async false
set_option linter.all false
set_option maxRecDepth 100000
set_option maxHeartbeats 2000000
/-! sorted of pairs of ints; enumerate -/
namespace KM
open PySem L2 PySem.Spec PyProof.Rows
inductive PrA (K : PySem.W.Frag) (H : Hp) : List V → List (Int × Int) → Prop
  | nil : PrA K H [] []
  | cons {t : Addr} {p : Int × Int} {xs : List V} {ps : List (Int × Int)} : SqT K H t [.int p.1, .int p.2] → PrA K H xs ps → PrA K H (.ref t :: xs) (p :: ps)
def rSortedPT (K : PySem.W.Frag) : List V → Hp → VK → Prop := fun vs H Q => ∃ (a : Addr) (xs : List V) (ps : List (Int × Int)), vs = [V.ref a] ∧ SqL K H a xs ∧ PrA K H xs ps ∧
  ∀ (ys : List V) (qs : List (Int × Int)) (p : Addr), (ys.zip qs).Perm (xs.zip ps) → ys.length = qs.length → qs.Pairwise (fun x y => SrtO.lexB y x = false) → H p = none → Q (.ref p) (upd H p (.lst ys))
section
variable {X : Cx}
open Classical in
noncomputable def prK (K : PySem.W.Frag) (H : Hp) (x : V) : Int × Int := if h : ∃ (p : Int × Int) (t : Addr), x = .ref t ∧ SqT K H t [.int p.1, .int p.2] then h.choose else (0, 0)
theorem prK_at {pins : List (Addr × Obj)} {σ : L2.St} {H : Hp} {s : Shared} (I : Inv X pins σ H s) {t : Addr} {p : Int × Int} (h : SqT X.K H t [.int p.1, .int p.2]) : prK X.K H (.ref t) = p := by
  have ex : ∃ (p : Int × Int) (t' : Addr), V.ref t = .ref t' ∧ SqT X.K H t' [.int p.1, .int p.2] := ⟨p, t, rfl, h⟩
  unfold prK
  rw [dif_pos ex]
  obtain ⟨t', e, h2⟩ := ex.choose_spec
  cases e
  have q := I.tuple_inj h2 h
  simp only [List.cons.injEq, V.int.injEq, and_true] at q
  exact Prod.ext q.1 q.2
theorem PrA.keys {pins : List (Addr × Obj)} {σ : L2.St} {H : Hp} {s : Shared} (I : Inv X pins σ H s) : ∀ {xs : List V} {ps : List (Int × Int)}, PrA X.K H xs ps → xs.map (prK X.K H) = ps
  | _, _, .nil => rfl
  | _, _, .cons h r => by rw [List.map_cons, prK_at I h, PrA.keys I r]
theorem PrA.mem {K : PySem.W.Frag} {H : Hp} : ∀ {xs : List V} {ps : List (Int × Int)}, PrA K H xs ps → ∀ x ∈ xs, ∃ (t : Addr) (p : Int × Int), x = .ref t ∧ SqT K H t [.int p.1, .int p.2]
  | _, _, .nil, x, hx => by cases hx
  | _, _, .cons h r, x, hx => by
    rcases List.mem_cons.mp hx with e | e
    · exact ⟨_, _, e, h⟩
    · exact PrA.mem r x e
theorem zip_map_self (f : V → Int × Int) : ∀ xs : List V, xs.zip (xs.map f) = xs.map fun x => (x, f x)
  | [] => rfl
  | x :: xs => by rw [List.map_cons, List.map_cons, List.zip_cons_cons, zip_map_self f xs]
theorem cr_sortedPT : CallR X (.builtin "sorted") (rSortedPT X.K) := by
  intro pins s σ H vs us Q I r h
  obtain ⟨a, xs, ps, rfl, hs, hx, q⟩ := h
  obtain ⟨its, rv, hl, hz⟩ := I.list hs
  obtain ⟨u, rfl, ru⟩ := vals1 r
  obtain rfl : u = Value.ref a := ru
  obtain ⟨e1, e2⟩ := refs_back rv fun x m => by
    obtain ⟨t, _, e, _⟩ := hx.mem x m
    exact ⟨t, e⟩
  refine SrtO.sorted_pairsO (k := fun u => prK X.K H (backV u)) hl.isList (by rw [← rv.length]; exact hz) (fun v hv => ?_) fun h' d out h1 h2 kp hd hn => ?_
  · obtain ⟨t, rfl⟩ := e2 v hv
    have hm : V.ref t ∈ xs := by rw [e1]; exact List.mem_map.mpr ⟨_, hv, rfl⟩
    obtain ⟨t', p, e, ht⟩ := hx.mem _ hm
    cases e
    have ep : prK X.K H (backV (Value.ref t)) = p := prK_at I ht
    obtain ⟨its2, r2, ⟨o, ho, hc, n, hd⟩, _⟩ := I.tuple ht
    obtain ⟨u1, u2, rfl, ri, rj⟩ := vals2 r2
    obtain ⟨t1, rfl⟩ := ri
    obtain ⟨t2, rfl⟩ := rj
    refine ⟨t, o, t1, t2, n, rfl, ho, hc, ?_⟩
    show o.data = .seq #[.int (prK X.K H (backV (Value.ref t))).1 t1, .int (prK X.K H (backV (Value.ref t))).2 t2] n
    rw [ep]
    exact hd
  · have h3 : ∀ u ∈ out, ∃ a, u = Value.ref a := fun u hu => e2 u (h2.perm.mem_iff.mp hu)
    obtain ⟨n, hn⟩ := hn
    have hp : (out.map backV).Perm xs := by rw [e1]; exact h2.perm.map _
    refine ⟨.ref d, upd H d (.lst (out.map backV)), I.laid (t' := s.toks) kp hd ⟨?_, out, n, vals_back h3, hn⟩, rfl, q _ ((out.map backV).map (prK X.K H)) d ?_ (by simp) ?_ (I.hok.fresh hd)⟩
    · rw [hp.length_eq]
      exact hz
    · rw [← hx.keys I, zip_map_self, zip_map_self]
      exact hp.map _
    · rw [List.map_map]
      exact List.pairwise_map.mpr h1
end
def pD (p : Int × Int) : D := .tup [.int p.1, .int p.2]
def prsD : List D → Option (List (Int × Int))
  | [] => some []
  | .tup [.int i, .int j] :: xs => (prsD xs).map ((i, j) :: ·)
  | _ :: _ => none
def srtP (ps : List (Int × Int)) : List (Int × Int) := ps.mergeSort (fun x y => !SrtO.lexB y x)
theorem srtP_perm (ps : List (Int × Int)) : (srtP ps).Perm ps := List.mergeSort_perm ..
theorem lex_tot (x y : Int × Int) : SrtO.lexB y x = false ∨ SrtO.lexB x y = false := by
  rw [SrtO.lexB_no, SrtO.lexB_no]
  omega
theorem srtP_sorted (ps : List (Int × Int)) : (srtP ps).Pairwise (fun x y => SrtO.lexB y x = false) := by
  have h := List.pairwise_mergeSort (le := fun (x y : Int × Int) => !SrtO.lexB y x) (fun a b c h1 h2 => by
    simp only [Bool.not_eq_true'] at *
    rw [SrtO.lexB_no] at *
    omega) (fun a b => by
    simp only [Bool.or_eq_true, Bool.not_eq_true']
    exact lex_tot a b) ps
  exact h.imp fun h => by simpa using h
theorem lex_anti {x y : Int × Int} (h1 : SrtO.lexB y x = false) (h2 : SrtO.lexB x y = false) : x = y := by
  rw [SrtO.lexB_no] at h1 h2
  exact Prod.ext (by omega) (by omega)
theorem srtP_uniq {qs ps : List (Int × Int)} (h : qs.Perm ps) (hs : qs.Pairwise (fun x y => SrtO.lexB y x = false)) : qs = srtP ps :=
  List.Perm.eq_of_pairwise (le := fun x y => SrtO.lexB y x = false) (fun a b _ _ h1 h2 => lex_anti h1 h2) hs (srtP_sorted ps) (h.trans (srtP_perm ps).symm)
def oSortedP : OC := fun ds M => match ds with
  | [x] => match listOf M x with
    | some xs => match prsD xs with
      | some ps => .ok (.lst ((srtP ps).map pD)) M
      | none => .bad
    | none => .bad
  | _ => .bad
section
variable {K : PySem.W.Frag} {H I P : Hp} {as : List Addr} {M : List MO}
theorem Reps.prs (w : Wr K H I as M P) : ∀ {vs : List V} {ds : List D} {ps : List (Int × Int)}, Reps K I as vs ds → prsD ds = some ps → PrA K H vs ps ∧ ds = ps.map pD ∧ ∀ z ∈ vs.zip ps, Rep K I as z.1 (pD z.2)
  | _, _, ps, .nil, h => by
    cases h
    exact ⟨.nil, rfl, fun z hz => by cases hz⟩
  | _, _, ps, .cons (d := d) (ds := ds) r rr, h => by
    unfold prsD at h
    split at h
    · rename_i e
      cases e
    · rename_i i j xs e
      cases e
      cases e2 : prsD ds with
      | none => rw [e2] at h; cases h
      | some qs =>
        rw [e2] at h
        cases h
        obtain ⟨q1, q2, q3⟩ := Reps.prs w rr e2
        have r0 := r
        cases r with
        | @tup a vs _ h1 h2 =>
          obtain ⟨v1, v2, rfl, z1, z2⟩ := h2.two_inv
          cases z1
          cases z2
          refine ⟨.cons (p := (i, j)) (w.seqT h1) q1, by rw [q2]; rfl, fun z hz => ?_⟩
          rcases List.mem_cons.mp hz with e | e
          · subst e
            exact r0
          · exact q3 z e
    · cases h
theorem Reps.of_zip : ∀ {ys : List V} {qs : List (Int × Int)}, ys.length = qs.length → (∀ z ∈ ys.zip qs, Rep K I as z.1 (pD z.2)) → Reps K I as ys (qs.map pD)
  | [], [], _, _ => .nil
  | [], _ :: _, h, _ => by cases h
  | _ :: _, [], h, _ => by cases h
  | y :: ys, q :: qs, h, f => by
    rw [List.zip_cons_cons] at f
    exact .cons (f (y, q) (List.mem_cons_self ..)) (Reps.of_zip (by simpa using h) fun z hz => f z (List.mem_cons_of_mem _ hz))
end
theorem zip_snd : ∀ {ys : List V} {qs : List (Int × Int)}, ys.length = qs.length → (ys.zip qs).map (fun z => z.2) = qs
  | [], [], _ => rfl
  | [], _ :: _, h => by cases h
  | _ :: _, [], h => by cases h
  | y :: ys, q :: qs, h => by
    rw [List.zip_cons_cons, List.map_cons, zip_snd (by simpa using h)]
theorem PrA.len {K : PySem.W.Frag} {H : Hp} : ∀ {xs : List V} {ps : List (Int × Int)}, PrA K H xs ps → xs.length = ps.length
  | _, _, .nil => rfl
  | _, _, .cons h r => by rw [List.length_cons, List.length_cons, PrA.len r]
theorem opc_sortedP {K : PySem.W.Frag} : OpC K (rSortedPT K) oSortedP := by
  intro H I as M P xs ds Wf Q w r s
  unfold oSortedP at s
  split at s
  · obtain ⟨v, rfl, rv⟩ := r.one_inv
    split at s
    · rename_i zs hz
      split at s
      · rename_i ps hp
        obtain ⟨a, vs, rfl, h1, r1⟩ := rv.list w hz
        obtain ⟨q1, q2, q3⟩ := r1.prs w hp
        refine ⟨a, vs, ps, rfl, h1, q1, fun ys qs p hpm hl hs hf => ?_⟩
        have e : qs = srtP ps := srtP_uniq (by
          have := hpm.map fun z => z.2
          rwa [zip_snd hl, zip_snd q1.len] at this) hs
        subst e
        exact s.newLst w (Reps.of_zip hl fun z hz => q3 z (hpm.mem_iff.mp hz)) hf
      · exact s.elim
    · exact s.elim
  · exact s.elim
/-! ### enumerate -/
def enumD : Nat → List D → List D
  | _, [] => []
  | i, x :: xs => .tup [.int (i : Int), x] :: enumD (i + 1) xs
theorem enumD_len : ∀ (xs : List D) (i : Nat), (enumD i xs).length = xs.length
  | [], _ => rfl
  | x :: xs, i => by
    unfold enumD
    rw [List.length_cons, List.length_cons, enumD_len xs]
theorem enumD_at : ∀ (xs : List D) (i j : Nat) (x : D), xs[j]? = some x → (enumD i xs)[j]? = some (.tup [.int ((i + j : Nat) : Int), x])
  | [], _, _, _, h => by simp at h
  | y :: xs, i, 0, x, h => by
    cases h
    rfl
  | y :: xs, i, j + 1, x, h => by
    have := enumD_at xs (i + 1) j x h
    rw [show i + 1 + j = i + (j + 1) by omega] at this
    exact this
def giEnum (ga : GA) : GI := fun δ M => (ga δ M).bind fun ds M1 => match ds with
  | [.lst xs] => .ok (itT (enumD 0 xs)) M1
  | [.rol xs] => .ok (itT (enumD 0 xs)) M1
  | _ => .bad
theorem itok_enum {K : PySem.W.Frag} {I : Hp} {as : List Addr} {a : Addr} {us : List V} {xs : List D} (h : SqL K I a us) (r : Reps K I as us xs) : ItOk K I as (Ite K a) (itT (enumD 0 xs)) := by
  have hl : (itT (enumD 0 xs)).items.length = us.length := by
    show (enumD 0 xs).length = _
    rw [enumD_len, r.len]
  refine ⟨fun H => SqL K H a us, YPair (fun i => some (.int (i : Nat))) (fun i => us[i]?), by rw [hl]; exact walk_enum, fun H' I' as' M' P' g w _ => w.seqL (Evl.ex_l g.sub h), fun i x H' H2 I' as' M' P' hi g w _ y => ?_⟩
  obtain ⟨T, x1, y1, rfl, hT, rfl, hx, hy⟩ := y
  obtain ⟨w2, g2⟩ := w.newI hT (.tup [x1, y1])
  cases hx
  obtain ⟨d, hd, rd⟩ := r.get' hy
  refine ⟨_, .tup [.int (i : Int), d], g2, w2, ?_, .tup (.of upd_same) (.cons (.int _) (.cons (rd.mono (g.trans g2)) .nil))⟩
  have := enumD_at xs 0 i d hd
  rw [Nat.zero_add] at this
  exact this
section
variable {X : Cx} {W : WX} {e : Expr} {p pos tpos : Pos} {elts : List Expr} {kk : Nat} {t : TA} {g : GA}
theorem xi_enum (hm : X.mg "enumerate" = none) (ha : XA X W [e] t g) (hg : Gl X "enumerate" := by rfl) (hs : starEach [e] X.env = [(false, eval e X.env)] := by rfl) : XI X W (.Tuple elts kk tpos) (.Call (.Name "enumerate" p) [e] [] pos) (iEnum X.K t) (giEnum g) := by
  refine ⟨pi_enum hg hm ha.pe hs, fun σ H δ I as M P Q w en s => ?_⟩
  refine ha.im σ H δ I as M P _ w en (Sat.bind s fun d M1 v H1 I1 as1 _ g1 w1 r1 s1 => ?_)
  split at s1
  · obtain ⟨v, rfl, rv⟩ := r1.one_inv
    cases rv with
    | @lst a us _ h1 rr => exact ⟨a, us, rfl, .of (w1.sub _ _ h1), s1 _ H1 I1 as1 (Gr.refl _ _) w1 (itok_enum (.of h1) rr)⟩
  · obtain ⟨v, rfl, rv⟩ := r1.one_inv
    cases rv with
    | @rol a us _ h1 rr => exact ⟨a, us, rfl, w1.seqL h1, s1 _ H1 I1 as1 (Gr.refl _ _) w1 (itok_enum h1 rr)⟩
  · exact s1.elim
theorem ki_enum (K : PySem.W.Frag) (hm : X.mg "enumerate" = none) (ha : XA X W [e] t g) (hK : X.K = K := by rfl) (hg : Gl X "enumerate" := by rfl) (hs : starEach [e] X.env = [(false, eval e X.env)] := by rfl) : XI X W (.Tuple elts kk tpos) (.Call (.Name "enumerate" p) [e] [] pos) (iEnum K t) (giEnum g) := by
  subst hK; exact xi_enum hm ha hg hs
end
/-! a, b, c = x, y, z -/
def gPar3 (i j l : Nat) (ga gb gc : GE) : GS := fun δ M => (ga δ M).toS δ fun x M1 => (gb δ M1).toS δ fun y M2 => (gc δ M2).toS δ fun z M3 => .nx (((δ.set i (some x)).set j (some y)).set l (some z)) M3
section
variable {X : Cx} {W : WX} {a b c : Expr} {pos p p2 pos2 : Pos} {ta tb tc : TE} {ga gb gc : GE}
theorem xs_par3 {i j l : Nat} {x y z : Str} {px py pz pt : Pos} {kt k2 pt2} (hc : X.calm = true) (hN : X.N.Nodup) (ha : XE X W a ta ga) (hb : XE X W b tb gb) (hcc : XE X W c tc gc)
    (hi : X.N[i]? = some x := by rfl) (hj : X.N[j]? = some y := by rfl) (hl : X.N[l]? = some z := by rfl) (hij : i ≠ j := by decide) (hil : i ≠ l := by decide) (hjl : j ≠ l := by decide)
    (hx : X.env.scope.names.lookup x = some .local := by rfl) (hy : X.env.scope.names.lookup y = some .local := by rfl) (hz : X.env.scope.names.lookup z = some .local := by rfl)
    (hw : swappedStores [.Tuple [.Name x px, .Name y py, .Name z pz] kt pt] (.Tuple [a, b, c] k2 pt2) X.env = pure (some [x, y, z]) := by rfl)
    (hs : swapsWithSole [.Tuple [.Name x px, .Name y py, .Name z pz] kt pt] (.Tuple [a, b, c] k2 pt2) pos.line X.env = pure false := by rfl)
    (h1 : starEach [a, b, c] X.env = (false, eval a X.env) :: starEach [b, c] X.env := by rfl) (h2 : starEach [b, c] X.env = (false, eval b X.env) :: starEach [c] X.env := by rfl) (h3 : starEach [c] X.env = (false, eval c X.env) :: starEach [] X.env := by rfl) :
    XS X W (.Assign [.Tuple [.Name x px, .Name y py, .Name z pz] kt pt] (.Tuple [a, b, c] k2 pt2) pos) (tPar3 i j l (tCons ta (tCons tb (tCons tc tNil)))) (gPar3 i j l ga gb gc) := by
  refine ⟨ps_par3 hc hN hi hj hl hij hil hjl hx hy hz (pa_cons ha.pe (pa_cons hb.pe (pa_cons hcc.pe pa_nil h3) h2) h1) hw hs, fun σ H δ I as M P E w en s => ?_⟩
  refine ha.im σ H δ I as M P _ w en (SatS.bindE s en fun d M1 v H1 I1 as1 _ g1 w1 r1 s1 => ?_)
  refine hb.im σ H1 δ I1 as1 M1 P _ w1 (en.mono g1) (SatS.bindE s1 (en.mono g1) fun d2 M2 v2 H2 I2 as2 _ g2 w2 r2 s2 => ?_)
  refine hcc.im σ H2 δ I2 as2 M2 P _ w2 (en.mono (g1.trans g2)) (SatS.bindE s2 (en.mono (g1.trans g2)) fun d3 M3 v3 H3 I3 as3 _ g3 w3 r3 s3 => ?_)
  exact ⟨v, v2, v3, rfl, s3 _ H3 I3 as3 (Gr.refl _ _) w3 ((((en.mono (g1.trans (g2.trans g3))).set (r1.mono (g2.trans g3)) i).set (r2.mono g3) j).set r3 l)⟩
/-! list(range(b)) -/
def gListRg1M (gb : GE) : GE := fun δ M => (gb δ M).bind fun y M2 => match y with
  | .int j => if -1000 ≤ j ∧ j ≤ 1000 then .ok (.ref M2.length) (M2 ++ [.lst (rngD 0 j.toNat)]) else .bad
  | _ => .bad
theorem xe_listRg1M (hc : X.calm = true) (hm : X.mg "list" = none) (hm2 : X.mg "range" = none) (hb : XE X W b tb gb) (hg : Gl X "list" := by rfl) (hg2 : Gl X "range" := by rfl)
    (nb : starEach [b] X.env = (false, eval b X.env) :: starEach [] X.env := by rfl)
    (nc : starEach [.Call (.Name "range" p2) [b] [] pos2] X.env = (false, eval (.Call (.Name "range" p2) [b] [] pos2) X.env) :: starEach [] X.env := by rfl) :
    XE X W (.Call (.Name "list" p) [.Call (.Name "range" p2) [b] [] pos2] [] pos) (tLstRg (tRg1 tb)) (gListRg1M gb) := by
  refine ⟨pe_listRg hc hg hm (prg_1 hg2 hm2 hb.pe nb) nc, fun σ H δ I as M P Q w en s => ?_⟩
  refine hb.im σ H δ I as M P _ w en (Sat.bind s fun y M2 u H2 I2 as2 _ g2 w2 r2 s2 => ?_)
  split at s2
  · split at s2
    · rename_i hc
      cases r2
      refine ⟨_, rfl, ⟨by omega, by omega, by omega, by omega, by omega⟩, fun q hq => ?_⟩
      refine s2.newRef w2 ?_ hq
      rw [rg_ints]
      refine Reps.ints _ ?_
      unfold rgV
      rw [List.map_map, Int.sub_zero]
      rfl
    · exact s2.elim
  · exact s2.elim
end
end KM
set_option linter.all false
set_option maxRecDepth 100000
namespace K08
open PySem L2 KM
abbrev csR : List Str := ["NoSize", "NoMachine", "NoRow"]
noncomputable def g__law_well : GS := gRet (gLstM (gACons (gLcG finI (giSeq (gSl (gVar 0) (gNoP) (gP (gC (.int 63))))) (gtName 1) (gYes) (gCall oInt (gACons (gVar 1) (gANil))) [1]) (gACons (gC (.int 0)) (gACons (gC (.int 0)) (gACons (gC (.int 1)) (gANil))))))
noncomputable def m__law_well : OC := fnM 2 g__law_well
noncomputable def g__law_mixed : GS := gSeq (gSet 0 (gOp oMod (gCall oInt (gACons (gOp oAdd (gOp oMul (gVar 0) (gC (.int 48271))) (gC (.int 11))) (gANil))) (gC (.int 2147483647))))
    (gSeq (gSet 0 (gOp oMod (gCall oInt (gACons (gOp oAdd (gOp oMul (gVar 0) (gOp oAdd (gOp oDiv (gVar 0) (gC (.int 1009))) (gC (.int 69621)))) (gC (.int 7919))) (gANil))) (gC (.int 2147483647))))
    (gRet (gOp oAdd (gOp oMul (gVar 0) (gC (.int 2147483399))) (gOp oMod (gCall oInt (gACons (gOp oAdd (gOp oMul (gVar 0) (gOp oAdd (gOp oDiv (gVar 0) (gC (.int 2003))) (gC (.int 40692)))) (gC (.int 104729))) (gANil))) (gC (.int 2147483399))))))
noncomputable def m__law_mixed : OC := cutM (fnM 1 g__law_mixed)
noncomputable def g__law_filled : GS := gSeq (gAsg (gOp oAdd (gOp oIx (gVar 0) (gC (.int 1))) (gC (.int 1))) (gtSub (gVar 0) (gC (.int 1)) oSetL))
    (gSeq (gIf (gTest (gOp oLe (gOp oIx (gVar 0) (gC (.int 1))) (gCall oLen (gACons (gOp oIx (gVar 0) (gC (.int 0))) (gANil))))) (gSeq (gSet 1 (gOp oIx (gOp oIx (gVar 0) (gC (.int 0))) (gOp oSub (gOp oIx (gVar 0) (gC (.int 1))) (gC (.int 1)))))
    (gSeq (gAsg (gOp oMod (gCall oInt (gACons (gOp oAdd (gOp oAdd (gOp oMul (gOp oIx (gVar 0) (gC (.int 3))) (gC (.int 69069))) (gVar 1)) (gC (.int 1))) (gANil))) (gC (.int 2147483629))) (gtSub (gVar 0) (gC (.int 3)) oSetL))
    (gSeq (gIf (gTest (gOp oGe (gVar 1) (gOp oPow (gC (.int 10)) (gC (.int 18))))) (gRet (gVar 1)) (gNext))
    (gRet (gCall m__law_mixed (gACons (gOp oAdd (gVar 1) (gOp oMul (gC (.int 7919)) (gOp oIx (gVar 0) (gC (.int 1))))) (gANil))))))) (gNext))
    (gRet (gCall m__law_mixed (gACons (gOp oAdd (gOp oIx (gVar 0) (gC (.int 3))) (gOp oMul (gC (.int 7919)) (gOp oIx (gVar 0) (gC (.int 1))))) (gANil)))))
noncomputable def m__law_filled : OC := cutM (fnM 2 g__law_filled)
noncomputable def g__law_draw : GS := gSeq (gIf (gTest (gOp oEq (gOp oIx (gVar 0) (gC (.int 2))) (gC (.int 0)))) (gAsg (gCall m__law_filled (gACons (gVar 0) (gANil))) (gtSub (gVar 0) (gC (.int 2)) oSetL)) (gNext))
    (gSeq (gSet 2 (gOp oMod (gCall oInt (gACons (gOp oIx (gVar 0) (gC (.int 2))) (gANil))) (gVar 1)))
    (gSeq (gAsg (gOp oDiv (gCall oInt (gACons (gOp oIx (gVar 0) (gC (.int 2))) (gANil))) (gVar 1)) (gtSub (gVar 0) (gC (.int 2)) oSetL))
    (gRet (gVar 2))))
noncomputable def m__law_draw : OC := cutM (fnM 3 g__law_draw)
noncomputable def g__law_shared : GS := gSeq (gSet 0 (gCall oAbs (gACons (gVar 0) (gANil))))
    (gSeq (gFor (giRng1 (gACons (gC (.int 4000)) (gANil))) (gtName 2) (gSeq (gIf (gTest (gOp oEq (gVar 1) (gC (.int 0)))) (gRet (gVar 0)) (gNext))
    (gSeq (gSet 3 (gOp oMod (gCall oInt (gACons (gVar 0) (gANil))) (gVar 1)))
    (gSeq (gSet 0 (gVar 1))
    (gSet 1 (gVar 3))))))
    (gRet (gVar 0)))
noncomputable def m__law_shared : OC := cutM (fnM 4 g__law_shared)
noncomputable def g__law_part : GS := gSeq (gSet 2 (gCall m__law_shared (gACons (gVar 0) (gACons (gVar 1) (gANil)))))
    (gRet (gETup (gACons (gOp oDiv (gVar 0) (gVar 2)) (gACons (gOp oDiv (gVar 1) (gVar 2)) (gANil)))))
noncomputable def m__law_part : OC := cutM (fnM 3 g__law_part)
noncomputable def g__law_allowance : GS := gSeq (gSet 1 (gCall m__law_draw (gACons (gVar 0) (gACons (gC (.int 8)) (gANil)))))
    (gSeq (gIf (gTest (gOp oEq (gVar 1) (gC (.int 0)))) (gRet (gCall m__law_part (gACons (gOp oSub (gCall m__law_draw (gACons (gVar 0) (gACons (gC (.int 2000001)) (gANil)))) (gC (.int 1000000))) (gACons (gOp oAdd (gC (.int 1)) (gCall m__law_draw (gACons (gVar 0) (gACons (gC (.int 1000)) (gANil))))) (gANil))))) (gNext))
    (gSeq (gIf (gTest (gOp oEq (gVar 1) (gC (.int 1)))) (gRet (gOp oIx (gLst (gACons (gETup (gACons (gC (.int 1000000)) (gACons (gC (.int 1)) (gANil)))) (gACons (gETup (gACons (gUn oNeg (gC (.int 1000000))) (gACons (gC (.int 1)) (gANil)))) (gACons (gETup (gACons (gC (.int 1)) (gACons (gC (.int 1000)) (gANil)))) (gACons (gETup (gACons (gC (.int 999999)) (gACons (gC (.int 1000)) (gANil)))) (gACons (gETup (gACons (gC (.int 0)) (gACons (gC (.int 1)) (gANil)))) (gANil))))))) (gCall m__law_draw (gACons (gVar 0) (gACons (gC (.int 5)) (gANil)))))) (gNext))
    (gRet (gCall m__law_part (gACons (gOp oSub (gCall m__law_draw (gACons (gVar 0) (gACons (gC (.int 9)) (gANil)))) (gC (.int 2))) (gACons (gOp oAdd (gC (.int 1)) (gCall m__law_draw (gACons (gVar 0) (gACons (gC (.int 6)) (gANil))))) (gANil)))))))
noncomputable def m__law_allowance : OC := cutM (fnM 2 g__law_allowance)
noncomputable def g__law_machine : GS := gSeq (gSet 1 (gOp oAdd (gC (.int 2)) (gCall m__law_draw (gACons (gVar 0) (gACons (gC (.int 3)) (gANil))))))
    (gSeq (gSet 2 (gLst (gACons (gOp oAdd (gC (.int 1)) (gCall m__law_draw (gACons (gVar 0) (gACons (gC (.int 3)) (gANil))))) (gACons (gOp oAdd (gC (.int 1)) (gCall m__law_draw (gACons (gVar 0) (gACons (gC (.int 6)) (gANil))))) (gACons (gOp oSub (gC (.int 12)) (gCall m__law_draw (gACons (gVar 0) (gACons (gC (.int 2)) (gANil))))) (gANil))))))
    (gSeq (gSet 3 (gOp oIx (gVar 2) (gOp oIx (gLst (gACons (gC (.int 0)) (gACons (gC (.int 0)) (gACons (gC (.int 1)) (gACons (gC (.int 1)) (gACons (gC (.int 2)) (gANil))))))) (gCall m__law_draw (gACons (gVar 0) (gACons (gC (.int 5)) (gANil)))))))
    (gSeq (gSet 4 (gLstM (gANil)))
    (gSeq (gFor (giRng1 (gACons (gVar 3) (gANil))) (gtName 5) (gSeq (gSet 6 (gOp oAdd (gC (.int 1)) (gCall m__law_draw (gACons (gVar 0) (gACons (gVar 3) (gANil))))))
    (gDrop (gBM oAppend (gVar 4) (gACons (gCall oTuple (gACons (gLcG finI (giRng1 (gACons (gVar 1) (gANil))) (gtName 7) (gYes) (gETup (gACons (gCall m__law_allowance (gACons (gVar 0) (gANil))) (gACons (gCall m__law_draw (gACons (gVar 0) (gACons (gVar 6) (gANil)))) (gANil)))) [7]) (gANil))) (gANil))))))
    (gRet (gETup (gACons (gVar 1) (gACons (gCall oTuple (gACons (gVar 4) (gANil))) (gANil)))))))))
noncomputable def m__law_machine : OC := cutM (fnM 8 g__law_machine)
noncomputable def g__law_some : GS := gSeq (gAsg (gCall m__law_machine (gACons (gVar 0) (gANil))) (gtTup 2 (gtCons (gtName 1) (gtCons (gtName 2) (gtNil)))))
    (gSeq (gSet 3 (gCall oMin2 (gACons (gC (.int 6)) (gACons (gCall oLen (gACons (gVar 2) (gANil))) (gANil)))))
    (gSeq (gSet 4 (gLstM (gANil)))
    (gSeq (gFor (giRng1 (gACons (gVar 3) (gANil))) (gtName 5) (gDrop (gBM oAppend (gVar 4) (gACons (gCall oTuple (gACons (gLcG finI (giSeq (gOp oIx (gVar 2) (gVar 5))) (gtName 6) (gYes) (gETup (gACons (gOp oIx (gVar 6) (gC (.int 0))) (gACons (gCall oMin2 (gACons (gOp oIx (gVar 6) (gC (.int 1))) (gACons (gOp oSub (gVar 3) (gC (.int 1))) (gANil)))) (gANil)))) [6]) (gANil))) (gANil)))))
    (gRet (gETup (gACons (gVar 1) (gACons (gCall oTuple (gACons (gVar 4) (gANil))) (gANil))))))))
noncomputable def m__law_some : OC := cutM (fnM 7 g__law_some)
noncomputable def g__law_with_more : GS := gSeq (gAsg (gVar 1) (gtTup 2 (gtCons (gtName 2) (gtCons (gtName 3) (gtNil)))))
    (gSeq (gSet 4 (gOp oAdd (gC (.int 1)) (gCall m__law_draw (gACons (gVar 0) (gACons (gC (.int 6)) (gANil))))))
    (gSeq (gSet 5 (gCall oSorted (gACons (gLcG finI (giRng1 (gACons (gVar 4) (gANil))) (gtName 6) (gYes) (gOp oAdd (gC (.int 1)) (gCall m__law_draw (gACons (gVar 0) (gACons (gCall oLen (gACons (gVar 3) (gANil))) (gANil))))) [6]) (gANil))))
    (gSeq (gSet 7 (gLcG finI (giRng1 (gACons (gCall oLen (gACons (gVar 3) (gANil))) (gANil))) (gtName 9) (gYes) (gOp oAdd (gVar 9) (gCall oLen (gACons (gLcG finI (giSeq (gVar 5)) (gtName 8) (gTest (gOp oLe (gVar 8) (gVar 9))) (gVar 8) [8]) (gANil)))) [9]))
    (gSeq (gSet 10 (gOp oMulM (gLst (gACons (gC .non) (gANil))) (gOp oAdd (gCall oLen (gACons (gVar 3) (gANil))) (gVar 4))))
    (gSeq (gFor (giRng1 (gACons (gCall oLen (gACons (gVar 3) (gANil))) (gANil))) (gtName 9) (gAsg (gCall oTuple (gACons (gLcG finI (giSeq (gOp oIx (gVar 3) (gVar 9))) (gtName 11) (gYes) (gETup (gACons (gOp oIx (gVar 11) (gC (.int 0))) (gACons (gOp oIx (gVar 7) (gOp oIx (gVar 11) (gC (.int 1)))) (gANil)))) [11]) (gANil))) (gtSub (gVar 10) (gOp oIx (gVar 7) (gVar 9)) oSetL)))
    (gSeq (gFor (giRng1 (gACons (gCall oLen (gACons (gVar 10) (gANil))) (gANil))) (gtName 9) (gIf (gTest (gUn oIsN (gOp oIx (gVar 10) (gVar 9)))) (gAsg (gCall oTuple (gACons (gLcG finI (giRng1 (gACons (gVar 2) (gANil))) (gtName 12) (gYes) (gETup (gACons (gCall m__law_allowance (gACons (gVar 0) (gANil))) (gACons (gCall m__law_draw (gACons (gVar 0) (gACons (gCall oLen (gACons (gVar 10) (gANil))) (gANil)))) (gANil)))) [12]) (gANil))) (gtSub (gVar 10) (gVar 9) oSetL)) (gNext)))
    (gRet (gETup (gACons (gETup (gACons (gVar 2) (gACons (gCall oTuple (gACons (gVar 10) (gANil))) (gANil)))) (gACons (gVar 7) (gANil)))))))))))
noncomputable def m__law_with_more : OC := cutM (fnM 13 g__law_with_more)
noncomputable def g__law_twin : GS := gSeq (gAsg (gVar 1) (gtTup 2 (gtCons (gtName 2) (gtCons (gtName 3) (gtNil)))))
    (gSeq (gSet 4 (gCall m__law_draw (gACons (gVar 0) (gACons (gCall oLen (gACons (gVar 3) (gANil))) (gANil)))))
    (gSeq (gSet 5 (gCall oLen (gACons (gVar 3) (gANil))))
    (gSeq (gSet 6 (gLstM (gANil)))
    (gSeq (gFor (giSeq (gOp oAdd (gCall oList (gACons (gVar 3) (gANil))) (gLst (gACons (gOp oIx (gVar 3) (gVar 4)) (gANil))))) (gtName 7) (gSeq (gSet 8 (gLstM (gANil)))
    (gSeq (gFor (giSeq (gVar 7)) (gtName 9) (gSeq (gSet 10 (gOp oIx (gLst (gACons (gOp oIx (gVar 9) (gC (.int 1))) (gACons (gVar 5) (gANil)))) (gCall oInt (gACons (gAndV (gOp oEq (gOp oIx (gVar 9) (gC (.int 1))) (gVar 4)) (gOp oEq (gCall m__law_draw (gACons (gVar 0) (gACons (gC (.int 2)) (gANil)))) (gC (.int 0)))) (gANil)))))
    (gDrop (gBM oAppend (gVar 8) (gACons (gETup (gACons (gOp oIx (gVar 9) (gC (.int 0))) (gACons (gVar 10) (gANil)))) (gANil))))))
    (gDrop (gBM oAppend (gVar 6) (gACons (gCall oTuple (gACons (gVar 8) (gANil))) (gANil)))))))
    (gRet (gETup (gACons (gETup (gACons (gVar 2) (gACons (gCall oTuple (gACons (gVar 6) (gANil))) (gANil)))) (gACons (gVar 4) (gANil)))))))))
noncomputable def m__law_twin : OC := cutM (fnM 11 g__law_twin)
noncomputable def g__law_rows : GS := gSeq (gSet 2 (gLstM (gACons (gETup (gANil)) (gACons (gETup (gACons (gC (.int 0)) (gANil))) (gACons (gETup (gACons (gOp oSub (gVar 1) (gC (.int 1))) (gANil))) (gACons (gETup (gACons (gC (.int 0)) (gACons (gC (.int 1)) (gANil)))) (gACons (gETup (gACons (gC (.int 1)) (gACons (gC (.int 0)) (gACons (gC (.int 1)) (gANil))))) (gANil))))))))
    (gSeq (gFor (giRng1 (gACons (gC (.int 8)) (gANil))) (gtName 3) (gDrop (gBM oAppend (gVar 2) (gACons (gCall oTuple (gACons (gLcG finI (giRng1 (gACons (gCall m__law_draw (gACons (gVar 0) (gACons (gC (.int 40)) (gANil)))) (gANil))) (gtName 4) (gYes) (gCall m__law_draw (gACons (gVar 0) (gACons (gVar 1) (gANil)))) [4]) (gANil))) (gANil)))))
    (gRet (gVar 2)))
noncomputable def m__law_rows : OC := fnM 5 g__law_rows
noncomputable def g_reduced : GS := gSeq (gSet 2 (gCall oGcd (gACons (gVar 0) (gACons (gVar 1) (gANil)))))
    (gRet (gETup (gACons (gOp oDiv (gVar 0) (gVar 2)) (gACons (gOp oDiv (gVar 1) (gVar 2)) (gANil)))))
noncomputable def m_reduced : OC := cutM (fnM 3 g_reduced)
noncomputable def g_total : GS := gSeq (gSet 1 (gC (.int 0)))
    (gSeq (gSet 2 (gC (.int 1)))
    (gSeq (gFor (giSeq (gVar 0)) (gtTup 2 (gtCons (gtName 3) (gtCons (gtName 4) (gtNil)))) (gSeq (gSet 5 (gCall oLcm (gACons (gVar 2) (gACons (gVar 4) (gANil)))))
    (gSeq (gSet 1 (gOp oAdd (gOp oMul (gVar 1) (gOp oDiv (gVar 5) (gVar 2))) (gOp oMul (gVar 3) (gOp oDiv (gVar 5) (gVar 4)))))
    (gSet 2 (gVar 5)))))
    (gRet (gCall m_reduced (gACons (gVar 1) (gACons (gVar 2) (gANil)))))))
noncomputable def m_total : OC := cutM (fnM 6 g_total)
noncomputable def g_is_whole : GS := gRet (gAndV (gUn (oIsi "int") (gVar 0)) (gNotV (gUn (oIsi "bool") (gVar 0))))
noncomputable def m_is_whole : OC := cutM (fnM 1 g_is_whole)
noncomputable def g_is_size : GS := gRet (gAndV (gCall m_is_whole (gACons (gVar 0) (gANil))) (gChain oLe oLe (gC (.int 2)) (gVar 0) (gC (.int 4))))
noncomputable def m_is_size : OC := cutM (fnM 1 g_is_size)
noncomputable def g_is_fraction : GS := gSeq (gIf (gOr (gNot (gTru (gUn (oIsi "tuple") (gVar 0)))) (gTest (gOp oNe (gCall oLen (gACons (gVar 0) (gANil))) (gC (.int 2))))) (gRet (gC (.bl false))) (gNext))
    (gSeq (gAsg (gVar 0) (gtTup 2 (gtCons (gtName 1) (gtCons (gtName 2) (gtNil)))))
    (gSeq (gIf (gOr (gNot (gTru (gCall m_is_whole (gACons (gVar 1) (gANil))))) (gNot (gTru (gCall m_is_whole (gACons (gVar 2) (gANil)))))) (gRet (gC (.bl false))) (gNext))
    (gRet (gAndV (gOp oGe (gVar 2) (gC (.int 1))) (gOp oEq (gCall oGcd (gACons (gVar 1) (gACons (gVar 2) (gANil)))) (gC (.int 1)))))))
noncomputable def m_is_fraction : OC := cutM (fnM 3 g_is_fraction)
noncomputable def g_is_allowance : GS := gSeq (gIf (gNot (gTru (gCall m_is_fraction (gACons (gVar 0) (gANil))))) (gRet (gC (.bl false))) (gNext))
    (gSeq (gAsg (gVar 0) (gtTup 2 (gtCons (gtName 1) (gtCons (gtName 2) (gtNil)))))
    (gRet (gAndV (gChain oLe oLe (gUn oNeg (gC (.int 1000000))) (gVar 1) (gC (.int 1000000))) (gOp oLe (gVar 2) (gC (.int 1000))))))
noncomputable def m_is_allowance : OC := cutM (fnM 3 g_is_allowance)
noncomputable def g_is_below : GS := gRet (gAndV (gCall m_is_whole (gACons (gVar 0) (gANil))) (gChain oLe oLt (gC (.int 0)) (gVar 0) (gVar 1)))
noncomputable def m_is_below : OC := cutM (fnM 2 g_is_below)
noncomputable def g_is_step : GS := gSeq (gIf (gOr (gNot (gTru (gUn (oIsi "tuple") (gVar 0)))) (gTest (gOp oNe (gCall oLen (gACons (gVar 0) (gANil))) (gC (.int 2))))) (gRet (gC (.bl false))) (gNext))
    (gRet (gAndV (gCall m_is_allowance (gACons (gOp oIx (gVar 0) (gC (.int 0))) (gANil))) (gCall m_is_below (gACons (gOp oIx (gVar 0) (gC (.int 1))) (gACons (gVar 1) (gANil))))))
noncomputable def m_is_step : OC := cutM (fnM 2 g_is_step)
noncomputable def g_is_rule : GS := gSeq (gIf (gOr (gNot (gTru (gUn (oIsi "tuple") (gVar 0)))) (gTest (gOp oNe (gCall oLen (gACons (gVar 0) (gANil))) (gVar 1)))) (gRet (gC (.bl false))) (gNext))
    (gRet (gCall oAll (gACons (gLcG finI (giSeq (gVar 0)) (gtName 3) (gYes) (gCall m_is_step (gACons (gVar 3) (gACons (gVar 2) (gANil)))) [3]) (gANil))))
noncomputable def m_is_rule : OC := cutM (fnM 4 g_is_rule)
noncomputable def g_is_ruled : GS := gSeq (gIf (gOr (gNot (gTru (gUn (oIsi "tuple") (gVar 0)))) (gTest (gOp oNe (gCall oLen (gACons (gVar 0) (gANil))) (gC (.int 2))))) (gRet (gC (.bl false))) (gNext))
    (gSeq (gAsg (gVar 0) (gtTup 2 (gtCons (gtName 3) (gtCons (gtName 4) (gtNil)))))
    (gSeq (gIf (gOr (gNot (gTru (gCall m_is_size (gACons (gVar 3) (gANil))))) (gNot (gTru (gUn (oIsi "tuple") (gVar 4))))) (gRet (gC (.bl false))) (gNext))
    (gSeq (gSet 5 (gCall oLen (gACons (gVar 4) (gANil))))
    (gRet (gAndV (gChain oLe oLe (gC (.int 1)) (gVar 5) (gVar 1)) (gCall oAll (gACons (gLcG finI (giSeq (gVar 4)) (gtName 6) (gYes) (gCallL 2 [("is_rule", m_is_rule)] (gACons (gVar 6) (gACons (gVar 3) (gACons (gVar 5) (gANil))))) [6]) (gANil))))))))
noncomputable def m_is_ruled : OC := cutM (fnM 7 g_is_ruled)
noncomputable def g_is_machine : GS := gRet (gCall m_is_ruled (gACons (gVar 0) (gACons (gC (.int 12)) (gACons (gC (.fn "is_rule")) (gANil)))))
noncomputable def m_is_machine : OC := cutM (fnM 1 g_is_machine)
noncomputable def g_is_row : GS := gSeq (gIf (gNot (gTru (gCall m_is_size (gACons (gVar 0) (gANil))))) (gRaise "NoSize") (gNext))
    (gSeq (gIf (gOr (gNot (gTru (gUn (oIsi "tuple") (gVar 1)))) (gTest (gOp oGt (gCall oLen (gACons (gVar 1) (gANil))) (gC (.int 400))))) (gRet (gC (.bl false))) (gNext))
    (gRet (gCall oAll (gACons (gLcG finI (giSeq (gVar 1)) (gtName 2) (gYes) (gCall m_is_below (gACons (gVar 2) (gACons (gVar 0) (gANil)))) [2]) (gANil)))))
noncomputable def m_is_row : OC := cutM (fnM 3 g_is_row)
noncomputable def g_steps_of : GS := gSeq (gIf (gNot (gTru (gCall m_is_machine (gACons (gVar 0) (gANil))))) (gRaise "NoMachine") (gNext))
    (gSeq (gAsg (gVar 0) (gtTup 2 (gtCons (gtName 2) (gtCons (gtName 3) (gtNil)))))
    (gSeq (gIf (gNot (gTru (gCall m_is_row (gACons (gVar 2) (gACons (gVar 1) (gANil)))))) (gRaise "NoRow") (gNext))
    (gSeq (gSet 4 (gLstM (gANil)))
    (gSeq (gSet 5 (gC (.int 0)))
    (gSeq (gFor (giSeq (gVar 1)) (gtName 6) (gSeq (gSet 7 (gOp oIx (gOp oIx (gVar 3) (gVar 5)) (gVar 6)))
    (gSeq (gDrop (gBM oAppend (gVar 4) (gACons (gVar 7) (gANil))))
    (gSet 5 (gOp oIx (gVar 7) (gC (.int 1)))))))
    (gRet (gVar 4)))))))
noncomputable def m_steps_of : OC := fnM 8 g_steps_of
noncomputable def g_allowed : GS := gRet (gCall m_total (gACons (gLcG finI (giSeq (gCall m_steps_of (gACons (gVar 0) (gACons (gVar 1) (gANil))))) (gtTup 2 (gtCons (gtName 2) (gtCons (gtName 3) (gtNil)))) (gYes) (gVar 2) [2, 3]) (gANil)))
noncomputable def m_allowed : OC := cutM (fnM 4 g_allowed)
noncomputable def g_state_after : GS := gSeq (gSet 2 (gCall m_steps_of (gACons (gVar 0) (gACons (gVar 1) (gANil)))))
    (gRet (gIfE (gTru (gVar 2)) (gOp oIx (gOp oIx (gVar 2) (gUn oNeg (gC (.int 1)))) (gC (.int 1))) (gC (.int 0))))
noncomputable def m_state_after : OC := cutM (fnM 3 g_state_after)
noncomputable def g_come_to : GS := gSeq (gSet 2 (gLstM (gACons (gVar 1) (gANil))))
    (gSeq (gSet 3 (gC (.int 0)))
    (gSeq (gWhile (gTest (gOp oLt (gVar 3) (gCall oLen (gACons (gVar 2) (gANil))))) (gSeq (gSet 4 (gOp oIx (gVar 0) (gOp oIx (gVar 2) (gVar 3))))
    (gSeq (gFor (giSeq (gVar 4)) (gtName 5) (gIf (gTest (gOp oNotIn (gVar 5) (gVar 2))) (gDrop (gBM oAppend (gVar 2) (gACons (gVar 5) (gANil)))) (gNext)))
    (gAug 3 oAddI (gC (.int 1))))))
    (gRet (gCall oTuple (gACons (gCall oSorted (gACons (gVar 2) (gANil))) (gANil))))))
noncomputable def m_come_to : OC := cutM (fnM 6 g_come_to)
noncomputable def g_reached : GS := gSeq (gIf (gNot (gTru (gCall m_is_machine (gACons (gVar 0) (gANil))))) (gRaise "NoMachine") (gNext))
    (gRet (gCall m_come_to (gACons (gLcG finI (giSeq (gOp oIx (gVar 0) (gC (.int 1)))) (gtName 3) (gYes) (gLcG finI (giSeq (gVar 3)) (gtTup 2 (gtCons (gtName 1) (gtCons (gtName 2) (gtNil)))) (gYes) (gVar 2) [1, 2]) [3]) (gACons (gC (.int 0)) (gANil)))))
noncomputable def m_reached : OC := cutM (fnM 4 g_reached)
noncomputable def g_law : GS := gSeq (gSet 1 (gCall m__law_well (gACons (gVar 0) (gANil))))
    (gSeq (gSet 2 (gCall m__law_some (gACons (gVar 1) (gANil))))
    (gSeq (gAsg (gCall m__law_with_more (gACons (gVar 1) (gACons (gVar 2) (gANil)))) (gtTup 2 (gtCons (gtName 3) (gtCons (gtName 4) (gtNil)))))
    (gSeq (gAsg (gCall m__law_twin (gACons (gVar 1) (gACons (gVar 2) (gANil)))) (gtTup 2 (gtCons (gtName 5) (gtCons (gtName 6) (gtNil)))))
    (gSeq (gIf (gNot (gTru (gCall oAll (gACons (gLcG finI (giSeq (gCall m_reached (gACons (gVar 3) (gANil)))) (gtName 7) (gYes) (gOp oIn (gVar 7) (gVar 4)) [7]) (gANil))))) (gRet (gC (.bl false))) (gNext))
    (gSeq (gFor (giSeq (gCall m__law_rows (gACons (gVar 1) (gACons (gOp oIx (gVar 2) (gC (.int 0))) (gANil))))) (gtName 8) (gSeq (gSet 9 (gCall m_allowed (gACons (gVar 2) (gACons (gVar 8) (gANil)))))
    (gSeq (gSet 10 (gCall m_state_after (gACons (gVar 2) (gACons (gVar 8) (gANil)))))
    (gSeq (gIf (gOr (gTest (gOp oNe (gCall m_allowed (gACons (gVar 3) (gACons (gVar 8) (gANil)))) (gVar 9))) (gTest (gOp oNe (gCall m_state_after (gACons (gVar 3) (gACons (gVar 8) (gANil)))) (gOp oIx (gVar 4) (gVar 10))))) (gRet (gC (.bl false))) (gNext))
    (gSeq (gSet 11 (gCall m_state_after (gACons (gVar 5) (gACons (gVar 8) (gANil)))))
    (gIf (gOr (gTest (gOp oNe (gCall m_allowed (gACons (gVar 5) (gACons (gVar 8) (gANil)))) (gVar 9))) (gTest (gOp oNe (gOp oIx (gLst (gACons (gVar 11) (gACons (gVar 6) (gANil)))) (gCall oInt (gACons (gOp oEq (gVar 11) (gCall oLen (gACons (gOp oIx (gVar 2) (gC (.int 1))) (gANil)))) (gANil)))) (gVar 10)))) (gRet (gC (.bl false))) (gNext)))))))
    (gRet (gC (.bl true))))))))
noncomputable def m_law : OC := fnM 12 g_law
end K08
set_option Elab.async false
set_option linter.all false
set_option maxRecDepth 100000
set_option maxHeartbeats 4000000
namespace K08
open PySem PySem.Spec PyProof.Rows L2 KM
def topS (i : Nat) : Stmt := PySem.Challenge.pw_keptmisses_k08_whole_states_without_use.main.body.getD i (.Pass ⟨0, 0, 0, 0⟩)
structure Txt (K : PySem.W.Frag) (mg : Str → Option Value) : Prop where
  z_abs : mg "abs" = none
  z_all : mg "all" = none
  z_bool : mg "bool" = none
  z_int : mg "int" = none
  z_isinstance : mg "isinstance" = none
  z_len : mg "len" = none
  z_list : mg "list" = none
  z_min : mg "min" = none
  z_range : mg "range" = none
  z_sorted : mg "sorted" = none
  z_tuple : mg "tuple" = none
  z_gcd : mg "gcd" = some (.builtin "math.gcd")
  z_lcm : mg "lcm" = some (.builtin "math.lcm")
  c_LEAST_SIZE : GlobC K mg "LEAST_SIZE" (.int 2)
  c_MOST_BOTTOM : GlobC K mg "MOST_BOTTOM" (.int 1000)
  c_MOST_LETTERS : GlobC K mg "MOST_LETTERS" (.int 400)
  c_MOST_SIZE : GlobC K mg "MOST_SIZE" (.int 4)
  c_MOST_STATES : GlobC K mg "MOST_STATES" (.int 12)
  c_MOST_TOP : GlobC K mg "MOST_TOP" (.int 1000000)
  x_NoSize : ExcAt K mg "NoSize"
  x_NoMachine : ExcAt K mg "NoMachine"
  x_NoRow : ExcAt K mg "NoRow"
section
variable {P : Program} {w : World} {K : PySem.W.Frag} {mg : Str → Option Value} {base : Heap}
abbrev s__law_well : Stmt := topS 33
abbrev n__law_well : List Str := ["_law_script", "_law_cell"]
theorem sc__law_well : FnScope ["_law_script", "_law_cell"] ["_law_script"] (defScope s__law_well) := ⟨rfl, rfl, rfl, by decide +kernel, rfl, by decide +kernel, by decide +kernel⟩
theorem ok__law_well {f : Addr} {fd : FuncData} (F : Fun K "_law_well" "_law_well" s__law_well f fd) (T : Txt K mg)  :
    FnOk P w K mg base (L2.CX P w) 1 f fd ["_law_script"] (spM K mg 1 m__law_well) := by
  have z_int := T.z_int
  have nd := sc__law_well.nd
  refine (fn_okM F sc__law_well fun cdv A outer s H E hr tk po => ?_)
  exact ⟨_, xss_one (xs_ret (xe_lstM (xa_cons (xe_lc [("_law_cell", 1)] fin_I rfl nd (ki_seq K (ke_slice K (xe_v 0) (xo_none) (xo_some (xe_int)))) (blkOk_by (N := n__law_well) (sc := defScope s__law_well) (by decide +kernel)) (fun _ _ _ _ _ => xg_name 1 nd) (fun _ _ _ _ _ => xts_nil) (fun _ _ _ _ _ => xe_callTy call_int1 opc_int z_int (by decide +kernel) (xa_cons (xe_v 1) (xa_nil)))) (xa_cons (xe_int) (xa_cons (xe_int) (xa_cons (xe_int) (xa_nil)))))))⟩
abbrev s__law_mixed : Stmt := topS 32
abbrev n__law_mixed : List Str := ["_law_number"]
theorem sc__law_mixed : FnScope ["_law_number"] ["_law_number"] (defScope s__law_mixed) := ⟨rfl, rfl, rfl, by decide +kernel, rfl, by decide +kernel, by decide +kernel⟩
theorem ok__law_mixed {f : Addr} {fd : FuncData} (F : Fun K "_law_mixed" "_law_mixed" s__law_mixed f fd) (T : Txt K mg)  :
    FnOk P w K mg base (L2.CX P w) 1 f fd ["_law_number"] (spM K mg 1 m__law_mixed) := by
  have z_int := T.z_int
  have nd := sc__law_mixed.nd
  refine FnOk.cut (fn_okM F sc__law_mixed fun cdv A outer s H E hr tk po => ?_)
  exact ⟨_, xss_cons (xs_set 0 nd (xe_op op_mod opd_mod (xe_callTy call_int1 opc_int z_int (by decide +kernel) (xa_cons (xe_op (r := rAddG K) op_addG opd_add (xe_op (r := rMulA K) op_mulA opd_mul (xe_v 0) (xe_int)) (xe_int)) (xa_nil))) (xe_int)))
    (xss_cons (xs_set 0 nd (xe_op op_mod opd_mod (xe_callTy call_int1 opc_int z_int (by decide +kernel) (xa_cons (xe_op (r := rAddG K) op_addG opd_add (xe_op (r := rMulA K) op_mulA opd_mul (xe_v 0) (xe_op (r := rAddG K) op_addG opd_add (xe_op op_fdivW opd_div (xe_v 0) (xe_int)) (xe_int))) (xe_int)) (xa_nil))) (xe_int)))
    (xss_one (xs_ret (xe_op (r := rAddG K) op_addG opd_add (xe_op (r := rMulA K) op_mulA opd_mul (xe_v 0) (xe_int)) (xe_op op_mod opd_mod (xe_callTy call_int1 opc_int z_int (by decide +kernel) (xa_cons (xe_op (r := rAddG K) op_addG opd_add (xe_op (r := rMulA K) op_mulA opd_mul (xe_v 0) (xe_op (r := rAddG K) op_addG opd_add (xe_op op_fdivW opd_div (xe_v 0) (xe_int)) (xe_int))) (xe_int)) (xa_nil))) (xe_int))))))⟩
abbrev s__law_filled : Stmt := topS 34
abbrev n__law_filled : List Str := ["_law_well_here", "_law_cell"]
theorem sc__law_filled : FnScope ["_law_well_here", "_law_cell"] ["_law_well_here"] (defScope s__law_filled) := ⟨rfl, rfl, rfl, by decide +kernel, rfl, by decide +kernel, by decide +kernel⟩
theorem ok__law_filled {f : Addr} {fd : FuncData} (F : Fun K "_law_filled" "_law_filled" s__law_filled f fd) (T : Txt K mg) (C__law_mixed : Callee P w K mg base "_law_mixed" 1 1 m__law_mixed) :
    FnOk P w K mg base (L2.CX P w) 2 f fd ["_law_well_here"] (spM K mg 1 m__law_filled) := by
  have z_len := T.z_len
  have z_int := T.z_int
  have nd := sc__law_filled.nd
  refine FnOk.cut (fn_okM F sc__law_filled fun cdv A outer s H E hr tk po => ?_)
  exact ⟨_, xss_cons (xs_asg (xe_op (r := rAddG K) op_addG opd_add (xe_ix (r := rIx K) ix_seq opd_ix (xe_v 0) (xe_int)) (xe_int)) (xg_sub set_list setd_list (xe_v 0) (xe_int)))
    (xss_cons (xs_if (xt_cmp op_le opd_le (xe_ix (r := rIx K) ix_seq opd_ix (xe_v 0) (xe_int)) (xe_callB (r := rLenC K) call_len_seq opc_len z_len PySem.boot_len (xa_cons (xe_ix (r := rIx K) ix_seq opd_ix (xe_v 0) (xe_int)) (xa_nil)))) (xss_cons (xs_set 1 nd (xe_ix (r := rIx K) ix_seq opd_ix (xe_ix (r := rIx K) ix_seq opd_ix (xe_v 0) (xe_int)) (xe_op op_sub opd_sub (xe_ix (r := rIx K) ix_seq opd_ix (xe_v 0) (xe_int)) (xe_int))))
    (xss_cons (xs_asg (xe_op op_mod opd_mod (xe_callTy call_int1 opc_int z_int (by decide +kernel) (xa_cons (xe_op (r := rAddG K) op_addG opd_add (xe_op (r := rAddG K) op_addG opd_add (xe_op (r := rMulA K) op_mulA opd_mul (xe_ix (r := rIx K) ix_seq opd_ix (xe_v 0) (xe_int)) (xe_int)) (xe_v 1)) (xe_int)) (xa_nil))) (xe_int)) (xg_sub set_list setd_list (xe_v 0) (xe_int)))
    (xss_cons (xs_if (xt_cmp op_ge opd_ge (xe_v 1) (xe_op op_pow opd_pow (xe_int) (xe_int))) (xss_one (xs_ret (xe_v 1))) (xss_nil))
    (xss_one (xs_ret (ke_call K mg C__law_mixed (hr.mono (by decide)) tk (xa_cons (xe_op (r := rAddG K) op_addG opd_add (xe_v 1) (xe_op (r := rMulA K) op_mulA opd_mul (xe_int) (xe_ix (r := rIx K) ix_seq opd_ix (xe_v 0) (xe_int)))) (xa_nil)))))))) (xss_nil))
    (xss_one (xs_ret (ke_call K mg C__law_mixed (hr.mono (by decide)) tk (xa_cons (xe_op (r := rAddG K) op_addG opd_add (xe_ix (r := rIx K) ix_seq opd_ix (xe_v 0) (xe_int)) (xe_op (r := rMulA K) op_mulA opd_mul (xe_int) (xe_ix (r := rIx K) ix_seq opd_ix (xe_v 0) (xe_int)))) (xa_nil))))))⟩
abbrev s__law_draw : Stmt := topS 35
abbrev n__law_draw : List Str := ["_law_well_here", "_law_many", "_law_told"]
theorem sc__law_draw : FnScope ["_law_well_here", "_law_many", "_law_told"] ["_law_well_here", "_law_many"] (defScope s__law_draw) := ⟨rfl, rfl, rfl, by decide +kernel, rfl, by decide +kernel, by decide +kernel⟩
theorem ok__law_draw {f : Addr} {fd : FuncData} (F : Fun K "_law_draw" "_law_draw" s__law_draw f fd) (T : Txt K mg) (C__law_filled : Callee P w K mg base "_law_filled" 2 1 m__law_filled) :
    FnOk P w K mg base (L2.CX P w) 3 f fd ["_law_well_here", "_law_many"] (spM K mg 2 m__law_draw) := by
  have z_int := T.z_int
  have nd := sc__law_draw.nd
  refine FnOk.cut (fn_okM F sc__law_draw fun cdv A outer s H E hr tk po => ?_)
  exact ⟨_, xss_cons (xs_if (xt_cmp (r := rEqD K) (op_eqD hr.units) opd_eq (xe_ix (r := rIx K) ix_seq opd_ix (xe_v 0) (xe_int)) (xe_int)) (xss_one (xs_asg (ke_call K mg C__law_filled (hr.mono (by decide)) tk (xa_cons (xe_v 0) (xa_nil))) (xg_sub set_list setd_list (xe_v 0) (xe_int)))) (xss_nil))
    (xss_cons (xs_set 2 nd (xe_op op_mod opd_mod (xe_callTy call_int1 opc_int z_int (by decide +kernel) (xa_cons (xe_ix (r := rIx K) ix_seq opd_ix (xe_v 0) (xe_int)) (xa_nil))) (xe_v 1)))
    (xss_cons (xs_asg (xe_op op_fdivW opd_div (xe_callTy call_int1 opc_int z_int (by decide +kernel) (xa_cons (xe_ix (r := rIx K) ix_seq opd_ix (xe_v 0) (xe_int)) (xa_nil))) (xe_v 1)) (xg_sub set_list setd_list (xe_v 0) (xe_int)))
    (xss_one (xs_ret (xe_v 2)))))⟩
abbrev s__law_shared : Stmt := topS 36
abbrev n__law_shared : List Str := ["_law_one", "_law_other", "_law_turn", "_law_later"]
theorem sc__law_shared : FnScope ["_law_one", "_law_other", "_law_turn", "_law_later"] ["_law_one", "_law_other"] (defScope s__law_shared) := ⟨rfl, rfl, rfl, by decide +kernel, rfl, by decide +kernel, by decide +kernel⟩
theorem ok__law_shared {f : Addr} {fd : FuncData} (F : Fun K "_law_shared" "_law_shared" s__law_shared f fd) (T : Txt K mg)  :
    FnOk P w K mg base (L2.CX P w) 1 f fd ["_law_one", "_law_other"] (spM K mg 2 m__law_shared) := by
  have z_abs := T.z_abs
  have z_range := T.z_range
  have z_int := T.z_int
  have nd := sc__law_shared.nd
  refine FnOk.cut (fn_okM F sc__law_shared fun cdv A outer s H E hr tk po => ?_)
  exact ⟨_, xss_cons (xs_set 0 nd (xe_callB call_abs opc_abs z_abs (by decide +kernel) (xa_cons (xe_v 0) (xa_nil))))
    (xss_cons (xs_for po rfl (xi_rng1 z_range (xa_cons (xe_int) (xa_nil))) (xg_name 2 nd) (xss_cons (xs_if (xt_cmp (r := rEqD K) (op_eqD hr.units) opd_eq (xe_v 1) (xe_int)) (xss_one (xs_ret (xe_v 0))) (xss_nil))
    (xss_cons (xs_set 3 nd (xe_op op_mod opd_mod (xe_callTy call_int1 opc_int z_int (by decide +kernel) (xa_cons (xe_v 0) (xa_nil))) (xe_v 1)))
    (xss_cons (xs_set 0 nd (xe_v 1))
    (xss_one (xs_set 1 nd (xe_v 3)))))))
    (xss_one (xs_ret (xe_v 0))))⟩
abbrev s__law_part : Stmt := topS 37
abbrev n__law_part : List Str := ["_law_top", "_law_bottom", "_law_shared_here"]
theorem sc__law_part : FnScope ["_law_top", "_law_bottom", "_law_shared_here"] ["_law_top", "_law_bottom"] (defScope s__law_part) := ⟨rfl, rfl, rfl, by decide +kernel, rfl, by decide +kernel, by decide +kernel⟩
theorem ok__law_part {f : Addr} {fd : FuncData} (F : Fun K "_law_part" "_law_part" s__law_part f fd) (T : Txt K mg) (C__law_shared : Callee P w K mg base "_law_shared" 1 2 m__law_shared) :
    FnOk P w K mg base (L2.CX P w) 2 f fd ["_law_top", "_law_bottom"] (spM K mg 2 m__law_part) := by

  have nd := sc__law_part.nd
  refine FnOk.cut (fn_okM F sc__law_part fun cdv A outer s H E hr tk po => ?_)
  exact ⟨_, xss_cons (xs_set 2 nd (ke_call K mg C__law_shared (hr.mono (by decide)) tk (xa_cons (xe_v 0) (xa_cons (xe_v 1) (xa_nil)))))
    (xss_one (xs_ret (xe_tup (xa_cons (xe_op op_fdivW opd_div (xe_v 0) (xe_v 2)) (xa_cons (xe_op op_fdivW opd_div (xe_v 1) (xe_v 2)) (xa_nil))))))⟩
abbrev s__law_allowance : Stmt := topS 40
abbrev n__law_allowance : List Str := ["_law_well_here", "_law_kind"]
theorem sc__law_allowance : FnScope ["_law_well_here", "_law_kind"] ["_law_well_here"] (defScope s__law_allowance) := ⟨rfl, rfl, rfl, by decide +kernel, rfl, by decide +kernel, by decide +kernel⟩
theorem ok__law_allowance {f : Addr} {fd : FuncData} (F : Fun K "_law_allowance" "_law_allowance" s__law_allowance f fd) (T : Txt K mg) (C__law_draw : Callee P w K mg base "_law_draw" 3 2 m__law_draw) (C__law_part : Callee P w K mg base "_law_part" 2 2 m__law_part) :
    FnOk P w K mg base (L2.CX P w) 4 f fd ["_law_well_here"] (spM K mg 1 m__law_allowance) := by

  have nd := sc__law_allowance.nd
  refine FnOk.cut (fn_okM F sc__law_allowance fun cdv A outer s H E hr tk po => ?_)
  exact ⟨_, xss_cons (xs_set 1 nd (ke_call K mg C__law_draw (hr.mono (by decide)) tk (xa_cons (xe_v 0) (xa_cons (xe_int) (xa_nil)))))
    (xss_cons (xs_if (xt_cmp (r := rEqD K) (op_eqD hr.units) opd_eq (xe_v 1) (xe_int)) (xss_one (xs_ret (ke_call K mg C__law_part (hr.mono (by decide)) tk (xa_cons (xe_op op_sub opd_sub (ke_call K mg C__law_draw (hr.mono (by decide)) tk (xa_cons (xe_v 0) (xa_cons (xe_int) (xa_nil)))) (xe_int)) (xa_cons (xe_op (r := rAddG K) op_addG opd_add (xe_int) (ke_call K mg C__law_draw (hr.mono (by decide)) tk (xa_cons (xe_v 0) (xa_cons (xe_int) (xa_nil))))) (xa_nil)))))) (xss_nil))
    (xss_cons (xs_if (xt_cmp (r := rEqD K) (op_eqD hr.units) opd_eq (xe_v 1) (xe_int)) (xss_one (xs_ret (xe_ix (r := rIx K) ix_seq opd_ix (xe_lst (xa_cons (xe_tup (xa_cons (xe_int) (xa_cons (xe_int) (xa_nil)))) (xa_cons (xe_tup (xa_cons (xe_un un_neg opu_neg (xe_int)) (xa_cons (xe_int) (xa_nil)))) (xa_cons (xe_tup (xa_cons (xe_int) (xa_cons (xe_int) (xa_nil)))) (xa_cons (xe_tup (xa_cons (xe_int) (xa_cons (xe_int) (xa_nil)))) (xa_cons (xe_tup (xa_cons (xe_int) (xa_cons (xe_int) (xa_nil)))) (xa_nil))))))) (ke_call K mg C__law_draw (hr.mono (by decide)) tk (xa_cons (xe_v 0) (xa_cons (xe_int) (xa_nil))))))) (xss_nil))
    (xss_one (xs_ret (ke_call K mg C__law_part (hr.mono (by decide)) tk (xa_cons (xe_op op_sub opd_sub (ke_call K mg C__law_draw (hr.mono (by decide)) tk (xa_cons (xe_v 0) (xa_cons (xe_int) (xa_nil)))) (xe_int)) (xa_cons (xe_op (r := rAddG K) op_addG opd_add (xe_int) (ke_call K mg C__law_draw (hr.mono (by decide)) tk (xa_cons (xe_v 0) (xa_cons (xe_int) (xa_nil))))) (xa_nil))))))))⟩
abbrev s__law_machine : Stmt := topS 41
abbrev n__law_machine : List Str := ["_law_well_here", "_law_size", "_law_some_here", "_law_states", "_law_rules", "_law_state", "_law_few", "_law_letter"]
theorem sc__law_machine : FnScope ["_law_well_here", "_law_size", "_law_some_here", "_law_states", "_law_rules", "_law_state", "_law_few", "_law_letter"] ["_law_well_here"] (defScope s__law_machine) := ⟨rfl, rfl, rfl, by decide +kernel, rfl, by decide +kernel, by decide +kernel⟩
theorem ok__law_machine {f : Addr} {fd : FuncData} (F : Fun K "_law_machine" "_law_machine" s__law_machine f fd) (T : Txt K mg) (C__law_draw : Callee P w K mg base "_law_draw" 3 2 m__law_draw) (C__law_allowance : Callee P w K mg base "_law_allowance" 4 1 m__law_allowance) :
    FnOk P w K mg base (L2.CX P w) 5 f fd ["_law_well_here"] (spM K mg 1 m__law_machine) := by
  have z_range := T.z_range
  have z_tuple := T.z_tuple
  have nd := sc__law_machine.nd
  refine FnOk.cut (fn_okM F sc__law_machine fun cdv A outer s H E hr tk po => ?_)
  exact ⟨_, xss_cons (xs_set 1 nd (xe_op (r := rAddG K) op_addG opd_add (xe_int) (ke_call K mg C__law_draw (hr.mono (by decide)) tk (xa_cons (xe_v 0) (xa_cons (xe_int) (xa_nil))))))
    (xss_cons (xs_set 2 nd (xe_lst (xa_cons (xe_op (r := rAddG K) op_addG opd_add (xe_int) (ke_call K mg C__law_draw (hr.mono (by decide)) tk (xa_cons (xe_v 0) (xa_cons (xe_int) (xa_nil))))) (xa_cons (xe_op (r := rAddG K) op_addG opd_add (xe_int) (ke_call K mg C__law_draw (hr.mono (by decide)) tk (xa_cons (xe_v 0) (xa_cons (xe_int) (xa_nil))))) (xa_cons (xe_op op_sub opd_sub (xe_int) (ke_call K mg C__law_draw (hr.mono (by decide)) tk (xa_cons (xe_v 0) (xa_cons (xe_int) (xa_nil))))) (xa_nil))))))
    (xss_cons (xs_set 3 nd (xe_ix (r := rIx K) ix_seq opd_ix (xe_v 2) (xe_ix (r := rIx K) ix_seq opd_ix (xe_lst (xa_cons (xe_int) (xa_cons (xe_int) (xa_cons (xe_int) (xa_cons (xe_int) (xa_cons (xe_int) (xa_nil))))))) (ke_call K mg C__law_draw (hr.mono (by decide)) tk (xa_cons (xe_v 0) (xa_cons (xe_int) (xa_nil)))))))
    (xss_cons (xs_set 4 nd (xe_lstM (xa_nil)))
    (xss_cons (xs_for po rfl (xi_rng1 z_range (xa_cons (xe_v 3) (xa_nil))) (xg_name 5 nd) (xss_cons (xs_set 6 nd (xe_op (r := rAddG K) op_addG opd_add (xe_int) (ke_call K mg C__law_draw (hr.mono (by decide)) tk (xa_cons (xe_v 0) (xa_cons (xe_v 3) (xa_nil))))))
    (xss_one (xs_expr (ke_bm K PySem.F.slot_list_append PySem.F.type_list_append mt_append opm_append (xe_v 4) (xa_cons (xe_callTy (r := rTupleC K) call_tuple_of opc_tuple z_tuple (by decide +kernel) (xa_cons (xe_lc [("_law_letter", 7)] fin_I rfl nd (xi_rng1 z_range (xa_cons (xe_v 1) (xa_nil))) (blkOk_by (N := n__law_machine) (sc := defScope s__law_machine) (by decide +kernel)) (fun _ _ _ _ _ => xg_name 7 nd) (fun _ _ _ _ _ => xts_nil) (fun _ _ _ _ _ => xe_tup (xa_cons (ke_call K mg C__law_allowance (hr.mono (by decide)) takes0 (xa_cons (xe_v 0) (xa_nil))) (xa_cons (ke_call K mg C__law_draw (hr.mono (by decide)) takes0 (xa_cons (xe_v 0) (xa_cons (xe_v 6) (xa_nil)))) (xa_nil))))) (xa_nil))) (xa_nil)))))))
    (xss_one (xs_ret (xe_tup (xa_cons (xe_v 1) (xa_cons (xe_callTy (r := rTupleC K) call_tuple_of opc_tuple z_tuple (by decide +kernel) (xa_cons (xe_v 4) (xa_nil))) (xa_nil))))))))))⟩
abbrev s__law_some : Stmt := topS 43
abbrev n__law_some : List Str := ["_law_well_here", "_law_size", "_law_rules", "_law_many", "_law_found", "_law_state", "_law_step"]
theorem sc__law_some : FnScope ["_law_well_here", "_law_size", "_law_rules", "_law_many", "_law_found", "_law_state", "_law_step"] ["_law_well_here"] (defScope s__law_some) := ⟨rfl, rfl, rfl, by decide +kernel, rfl, by decide +kernel, by decide +kernel⟩
theorem ok__law_some {f : Addr} {fd : FuncData} (F : Fun K "_law_some" "_law_some" s__law_some f fd) (T : Txt K mg) (C__law_machine : Callee P w K mg base "_law_machine" 5 1 m__law_machine) :
    FnOk P w K mg base (L2.CX P w) 6 f fd ["_law_well_here"] (spM K mg 1 m__law_some) := by
  have z_min := T.z_min
  have z_range := T.z_range
  have z_len := T.z_len
  have z_tuple := T.z_tuple
  have nd := sc__law_some.nd
  refine FnOk.cut (fn_okM F sc__law_some fun cdv A outer s H E hr tk po => ?_)
  exact ⟨_, xss_cons (xs_asg (ke_call K mg C__law_machine (hr.mono (by decide)) tk (xa_cons (xe_v 0) (xa_nil))) (kg_tup K rfl (xgs_cons (xg_name 1 nd) (xgs_cons (xg_name 2 nd) (xgs_nil)))))
    (xss_cons (xs_set 3 nd (xe_callB (call_min2 rfl) opc_min2 z_min (by decide +kernel) (xa_cons (xe_int) (xa_cons (xe_callB (r := rLenC K) call_len_seq opc_len z_len PySem.boot_len (xa_cons (xe_v 2) (xa_nil))) (xa_nil)))))
    (xss_cons (xs_set 4 nd (xe_lstM (xa_nil)))
    (xss_cons (xs_for po rfl (xi_rng1 z_range (xa_cons (xe_v 3) (xa_nil))) (xg_name 5 nd) (xss_one (xs_expr (ke_bm K PySem.F.slot_list_append PySem.F.type_list_append mt_append opm_append (xe_v 4) (xa_cons (xe_callTy (r := rTupleC K) call_tuple_of opc_tuple z_tuple (by decide +kernel) (xa_cons (xe_lc [("_law_step", 6)] fin_I rfl nd (ki_seq K (xe_ix (r := rIx K) ix_seq opd_ix (xe_v 2) (xe_v 5))) (blkOk_by (N := n__law_some) (sc := defScope s__law_some) (by decide +kernel)) (fun _ _ _ _ _ => xg_name 6 nd) (fun _ _ _ _ _ => xts_nil) (fun _ _ _ _ _ => xe_tup (xa_cons (xe_ix (r := rIx K) ix_seq opd_ix (xe_v 6) (xe_int)) (xa_cons (xe_callB (call_min2 rfl) opc_min2 z_min (by decide +kernel) (xa_cons (xe_ix (r := rIx K) ix_seq opd_ix (xe_v 6) (xe_int)) (xa_cons (xe_op op_sub opd_sub (xe_v 3) (xe_int)) (xa_nil)))) (xa_nil))))) (xa_nil))) (xa_nil))))))
    (xss_one (xs_ret (xe_tup (xa_cons (xe_v 1) (xa_cons (xe_callTy (r := rTupleC K) call_tuple_of opc_tuple z_tuple (by decide +kernel) (xa_cons (xe_v 4) (xa_nil))) (xa_nil)))))))))⟩
abbrev s__law_with_more : Stmt := topS 44
abbrev n__law_with_more : List Str := ["_law_well_here", "_law_machine_here", "_law_size", "_law_rules", "_law_more", "_law_places", "_law_k", "_law_names", "_law_place", "_law_state", "_law_found", "_law_step", "_law_letter"]
theorem sc__law_with_more : FnScope ["_law_well_here", "_law_machine_here", "_law_size", "_law_rules", "_law_more", "_law_places", "_law_k", "_law_names", "_law_place", "_law_state", "_law_found", "_law_step", "_law_letter"] ["_law_well_here", "_law_machine_here"] (defScope s__law_with_more) := ⟨rfl, rfl, rfl, by decide +kernel, rfl, by decide +kernel, by decide +kernel⟩
theorem ok__law_with_more {f : Addr} {fd : FuncData} (F : Fun K "_law_with_more" "_law_with_more" s__law_with_more f fd) (T : Txt K mg) (C__law_draw : Callee P w K mg base "_law_draw" 3 2 m__law_draw) (C__law_allowance : Callee P w K mg base "_law_allowance" 4 1 m__law_allowance) :
    FnOk P w K mg base (L2.CX P w) 5 f fd ["_law_well_here", "_law_machine_here"] (spM K mg 2 m__law_with_more) := by
  have z_sorted := T.z_sorted
  have z_range := T.z_range
  have z_len := T.z_len
  have z_tuple := T.z_tuple
  have nd := sc__law_with_more.nd
  refine FnOk.cut (fn_okM F sc__law_with_more fun cdv A outer s H E hr tk po => ?_)
  exact ⟨_, xss_cons (xs_asg (xe_v 1) (kg_tup K rfl (xgs_cons (xg_name 2 nd) (xgs_cons (xg_name 3 nd) (xgs_nil)))))
    (xss_cons (xs_set 4 nd (xe_op (r := rAddG K) op_addG opd_add (xe_int) (ke_call K mg C__law_draw (hr.mono (by decide)) tk (xa_cons (xe_v 0) (xa_cons (xe_int) (xa_nil))))))
    (xss_cons (xs_set 5 nd (xe_callB (r := rSortedI K) cr_sortedI opc_sorted z_sorted (by decide +kernel) (xa_cons (xe_lc [("_law_k", 6)] fin_I rfl nd (xi_rng1 z_range (xa_cons (xe_v 4) (xa_nil))) (blkOk_by (N := n__law_with_more) (sc := defScope s__law_with_more) (by decide +kernel)) (fun _ _ _ _ _ => xg_name 6 nd) (fun _ _ _ _ _ => xts_nil) (fun _ _ _ _ _ => xe_op (r := rAddG K) op_addG opd_add (xe_int) (ke_call K mg C__law_draw (hr.mono (by decide)) takes0 (xa_cons (xe_v 0) (xa_cons (xe_callB (r := rLenC K) call_len_seq opc_len z_len PySem.boot_len (xa_cons (xe_v 3) (xa_nil))) (xa_nil)))))) (xa_nil))))
    (xss_cons (xs_set 7 nd (xe_lc [("_law_state", 9)] fin_I rfl nd (xi_rng1 z_range (xa_cons (xe_callB (r := rLenC K) call_len_seq opc_len z_len PySem.boot_len (xa_cons (xe_v 3) (xa_nil))) (xa_nil))) (blkOk_by (N := n__law_with_more) (sc := defScope s__law_with_more) (by decide +kernel)) (fun _ _ _ _ _ => xg_name 9 nd) (fun _ _ _ _ _ => xts_nil) (fun _ _ _ _ _ => xe_op (r := rAddG K) op_addG opd_add (xe_v 9) (xe_callB (r := rLenC K) call_len_seq opc_len z_len PySem.boot_len (xa_cons (xe_lc [("_law_place", 8)] fin_I rfl nd (ki_seq K (xe_v 5)) (blkOk_by (N := n__law_with_more) (sc := { kind := .function, names := [(".0", .local), ("_law_state", .cell), ("len", .globalImplicit), ("_law_places", .cell)], isGenerator := false, isCoroutine := false }) (by decide +kernel)) (fun _ _ _ _ _ => xg_name 8 nd) (fun _ _ _ _ _ => xts_one (xt_cmp op_le opd_le (xe_v 8) (xe_v 9))) (fun _ _ _ _ _ => xe_v 8)) (xa_nil))))))
    (xss_cons (xs_set 10 nd (xe_op (r := rMulA K) op_mulA opd_mulM (xe_lst (xa_cons (xe_non) (xa_nil))) (xe_op (r := rAddG K) op_addG opd_add (xe_callB (r := rLenC K) call_len_seq opc_len z_len PySem.boot_len (xa_cons (xe_v 3) (xa_nil))) (xe_v 4))))
    (xss_cons (xs_for po rfl (xi_rng1 z_range (xa_cons (xe_callB (r := rLenC K) call_len_seq opc_len z_len PySem.boot_len (xa_cons (xe_v 3) (xa_nil))) (xa_nil))) (xg_name 9 nd) (xss_one (xs_asg (xe_callTy (r := rTupleC K) call_tuple_of opc_tuple z_tuple (by decide +kernel) (xa_cons (xe_lc [("_law_step", 11)] fin_I rfl nd (ki_seq K (xe_ix (r := rIx K) ix_seq opd_ix (xe_v 3) (xe_v 9))) (blkOk_by (N := n__law_with_more) (sc := defScope s__law_with_more) (by decide +kernel)) (fun _ _ _ _ _ => xg_name 11 nd) (fun _ _ _ _ _ => xts_nil) (fun _ _ _ _ _ => xe_tup (xa_cons (xe_ix (r := rIx K) ix_seq opd_ix (xe_v 11) (xe_int)) (xa_cons (xe_ix (r := rIx K) ix_seq opd_ix (xe_v 7) (xe_ix (r := rIx K) ix_seq opd_ix (xe_v 11) (xe_int))) (xa_nil))))) (xa_nil))) (xg_sub set_list setd_list (xe_v 10) (xe_ix (r := rIx K) ix_seq opd_ix (xe_v 7) (xe_v 9))))))
    (xss_cons (xs_for po rfl (xi_rng1 z_range (xa_cons (xe_callB (r := rLenC K) call_len_seq opc_len z_len PySem.boot_len (xa_cons (xe_v 10) (xa_nil))) (xa_nil))) (xg_name 9 nd) (xss_one (xs_if (xt_isN (xe_ix (r := rIx K) ix_seq opd_ix (xe_v 10) (xe_v 9))) (xss_one (xs_asg (xe_callTy (r := rTupleC K) call_tuple_of opc_tuple z_tuple (by decide +kernel) (xa_cons (xe_lc [("_law_letter", 12)] fin_I rfl nd (xi_rng1 z_range (xa_cons (xe_v 2) (xa_nil))) (blkOk_by (N := n__law_with_more) (sc := defScope s__law_with_more) (by decide +kernel)) (fun _ _ _ _ _ => xg_name 12 nd) (fun _ _ _ _ _ => xts_nil) (fun _ _ _ _ _ => xe_tup (xa_cons (ke_call K mg C__law_allowance (hr.mono (by decide)) takes0 (xa_cons (xe_v 0) (xa_nil))) (xa_cons (ke_call K mg C__law_draw (hr.mono (by decide)) takes0 (xa_cons (xe_v 0) (xa_cons (xe_callB (r := rLenC K) call_len_seq opc_len z_len PySem.boot_len (xa_cons (xe_v 10) (xa_nil))) (xa_nil)))) (xa_nil))))) (xa_nil))) (xg_sub set_list setd_list (xe_v 10) (xe_v 9)))) (xss_nil))))
    (xss_one (xs_ret (xe_tup (xa_cons (xe_tup (xa_cons (xe_v 2) (xa_cons (xe_callTy (r := rTupleC K) call_tuple_of opc_tuple z_tuple (by decide +kernel) (xa_cons (xe_v 10) (xa_nil))) (xa_nil)))) (xa_cons (xe_v 7) (xa_nil))))))))))))⟩
abbrev s__law_twin : Stmt := topS 45
abbrev n__law_twin : List Str := ["_law_well_here", "_law_machine_here", "_law_size", "_law_rules", "_law_at", "_law_twin_here", "_law_found", "_law_rule", "_law_steps", "_law_step", "_law_later"]
theorem sc__law_twin : FnScope ["_law_well_here", "_law_machine_here", "_law_size", "_law_rules", "_law_at", "_law_twin_here", "_law_found", "_law_rule", "_law_steps", "_law_step", "_law_later"] ["_law_well_here", "_law_machine_here"] (defScope s__law_twin) := ⟨rfl, rfl, rfl, by decide +kernel, rfl, by decide +kernel, by decide +kernel⟩
theorem ok__law_twin {f : Addr} {fd : FuncData} (F : Fun K "_law_twin" "_law_twin" s__law_twin f fd) (T : Txt K mg) (C__law_draw : Callee P w K mg base "_law_draw" 3 2 m__law_draw) :
    FnOk P w K mg base (L2.CX P w) 4 f fd ["_law_well_here", "_law_machine_here"] (spM K mg 2 m__law_twin) := by
  have z_len := T.z_len
  have z_list := T.z_list
  have z_tuple := T.z_tuple
  have z_int := T.z_int
  have nd := sc__law_twin.nd
  refine FnOk.cut (fn_okM F sc__law_twin fun cdv A outer s H E hr tk po => ?_)
  exact ⟨_, xss_cons (xs_asg (xe_v 1) (kg_tup K rfl (xgs_cons (xg_name 2 nd) (xgs_cons (xg_name 3 nd) (xgs_nil)))))
    (xss_cons (xs_set 4 nd (ke_call K mg C__law_draw (hr.mono (by decide)) tk (xa_cons (xe_v 0) (xa_cons (xe_callB (r := rLenC K) call_len_seq opc_len z_len PySem.boot_len (xa_cons (xe_v 3) (xa_nil))) (xa_nil)))))
    (xss_cons (xs_set 5 nd (xe_callB (r := rLenC K) call_len_seq opc_len z_len PySem.boot_len (xa_cons (xe_v 3) (xa_nil))))
    (xss_cons (xs_set 6 nd (xe_lstM (xa_nil)))
    (xss_cons (xs_for po rfl (ki_seq K (xe_op (r := rAddG K) op_addG opd_add (xe_callTy (r := rListC K) call_list_of opc_list z_list (by decide +kernel) (xa_cons (xe_v 3) (xa_nil))) (xe_lst (xa_cons (xe_ix (r := rIx K) ix_seq opd_ix (xe_v 3) (xe_v 4)) (xa_nil))))) (xg_name 7 nd) (xss_cons (xs_set 8 nd (xe_lstM (xa_nil)))
    (xss_cons (xs_for po rfl (ki_seq K (xe_v 7)) (xg_name 9 nd) (xss_cons (xs_set 10 nd (xe_ix (r := rIx K) ix_seq opd_ix (xe_lst (xa_cons (xe_ix (r := rIx K) ix_seq opd_ix (xe_v 9) (xe_int)) (xa_cons (xe_v 5) (xa_nil)))) (xe_callTy call_int1 opc_int z_int (by decide +kernel) (xa_cons (xe_and (xe_cmp (r := rEqD K) (op_eqD hr.units) opd_eq (xe_ix (r := rIx K) ix_seq opd_ix (xe_v 9) (xe_int)) (xe_v 4)) (xe_one (xe_cmp (r := rEqD K) (op_eqD hr.units) opd_eq (ke_call K mg C__law_draw (hr.mono (by decide)) tk (xa_cons (xe_v 0) (xa_cons (xe_int) (xa_nil)))) (xe_int)))) (xa_nil)))))
    (xss_one (xs_expr (ke_bm K PySem.F.slot_list_append PySem.F.type_list_append mt_append opm_append (xe_v 8) (xa_cons (xe_tup (xa_cons (xe_ix (r := rIx K) ix_seq opd_ix (xe_v 9) (xe_int)) (xa_cons (xe_v 10) (xa_nil)))) (xa_nil)))))))
    (xss_one (xs_expr (ke_bm K PySem.F.slot_list_append PySem.F.type_list_append mt_append opm_append (xe_v 6) (xa_cons (xe_callTy (r := rTupleC K) call_tuple_of opc_tuple z_tuple (by decide +kernel) (xa_cons (xe_v 8) (xa_nil))) (xa_nil))))))))
    (xss_one (xs_ret (xe_tup (xa_cons (xe_tup (xa_cons (xe_v 2) (xa_cons (xe_callTy (r := rTupleC K) call_tuple_of opc_tuple z_tuple (by decide +kernel) (xa_cons (xe_v 6) (xa_nil))) (xa_nil)))) (xa_cons (xe_v 4) (xa_nil))))))))))⟩
abbrev s__law_rows : Stmt := topS 46
abbrev n__law_rows : List Str := ["_law_well_here", "_law_size", "_law_found", "_law_turn", "_law_k"]
theorem sc__law_rows : FnScope ["_law_well_here", "_law_size", "_law_found", "_law_turn", "_law_k"] ["_law_well_here", "_law_size"] (defScope s__law_rows) := ⟨rfl, rfl, rfl, by decide +kernel, rfl, by decide +kernel, by decide +kernel⟩
theorem ok__law_rows {f : Addr} {fd : FuncData} (F : Fun K "_law_rows" "_law_rows" s__law_rows f fd) (T : Txt K mg) (C__law_draw : Callee P w K mg base "_law_draw" 3 2 m__law_draw) :
    FnOk P w K mg base (L2.CX P w) 4 f fd ["_law_well_here", "_law_size"] (spM K mg 2 m__law_rows) := by
  have z_range := T.z_range
  have z_tuple := T.z_tuple
  have nd := sc__law_rows.nd
  refine (fn_okM F sc__law_rows fun cdv A outer s H E hr tk po => ?_)
  exact ⟨_, xss_cons (xs_set 2 nd (xe_lstM (xa_cons (xe_tup (xa_nil)) (xa_cons (xe_tup (xa_cons (xe_int) (xa_nil))) (xa_cons (xe_tup (xa_cons (xe_op op_sub opd_sub (xe_v 1) (xe_int)) (xa_nil))) (xa_cons (xe_tup (xa_cons (xe_int) (xa_cons (xe_int) (xa_nil)))) (xa_cons (xe_tup (xa_cons (xe_int) (xa_cons (xe_int) (xa_cons (xe_int) (xa_nil))))) (xa_nil))))))))
    (xss_cons (xs_for po rfl (xi_rng1 z_range (xa_cons (xe_int) (xa_nil))) (xg_name 3 nd) (xss_one (xs_expr (ke_bm K PySem.F.slot_list_append PySem.F.type_list_append mt_append opm_append (xe_v 2) (xa_cons (xe_callTy (r := rTupleC K) call_tuple_of opc_tuple z_tuple (by decide +kernel) (xa_cons (xe_lc [("_law_k", 4)] fin_I rfl nd (xi_rng1 z_range (xa_cons (ke_call K mg C__law_draw (hr.mono (by decide)) tk (xa_cons (xe_v 0) (xa_cons (xe_int) (xa_nil)))) (xa_nil))) (blkOk_by (N := n__law_rows) (sc := defScope s__law_rows) (by decide +kernel)) (fun _ _ _ _ _ => xg_name 4 nd) (fun _ _ _ _ _ => xts_nil) (fun _ _ _ _ _ => ke_call K mg C__law_draw (hr.mono (by decide)) takes0 (xa_cons (xe_v 0) (xa_cons (xe_v 1) (xa_nil))))) (xa_nil))) (xa_nil))))))
    (xss_one (xs_ret (xe_v 2))))⟩
abbrev s_reduced : Stmt := topS 9
abbrev n_reduced : List Str := ["top", "bottom", "divisor"]
theorem sc_reduced : FnScope ["top", "bottom", "divisor"] ["top", "bottom"] (defScope s_reduced) := ⟨rfl, rfl, rfl, by decide +kernel, rfl, by decide +kernel, by decide +kernel⟩
theorem ok_reduced {f : Addr} {fd : FuncData} (F : Fun K "reduced" "reduced" s_reduced f fd) (T : Txt K mg)  :
    FnOk P w K mg base (L2.CX P w) 1 f fd ["top", "bottom"] (spM K mg 2 m_reduced) := by
  have z_gcd := T.z_gcd
  have nd := sc_reduced.nd
  refine FnOk.cut (fn_okM F sc_reduced fun cdv A outer s H E hr tk po => ?_)
  exact ⟨_, xss_cons (xs_set 2 nd (xe_callBfun cr_gcd opc_gcd z_gcd (xa_cons (xe_v 0) (xa_cons (xe_v 1) (xa_nil)))))
    (xss_one (xs_ret (xe_tup (xa_cons (xe_op op_fdivW opd_div (xe_v 0) (xe_v 2)) (xa_cons (xe_op op_fdivW opd_div (xe_v 1) (xe_v 2)) (xa_nil))))))⟩
abbrev s_total : Stmt := topS 10
abbrev n_total : List Str := ["parts", "top", "bottom", "part_top", "part_bottom", "both"]
theorem sc_total : FnScope ["parts", "top", "bottom", "part_top", "part_bottom", "both"] ["parts"] (defScope s_total) := ⟨rfl, rfl, rfl, by decide +kernel, rfl, by decide +kernel, by decide +kernel⟩
theorem ok_total {f : Addr} {fd : FuncData} (F : Fun K "total" "total" s_total f fd) (T : Txt K mg) (C_reduced : Callee P w K mg base "reduced" 1 2 m_reduced) :
    FnOk P w K mg base (L2.CX P w) 2 f fd ["parts"] (spM K mg 1 m_total) := by
  have z_lcm := T.z_lcm
  have nd := sc_total.nd
  refine FnOk.cut (fn_okM F sc_total fun cdv A outer s H E hr tk po => ?_)
  exact ⟨_, xss_cons (xs_set 1 nd (xe_int))
    (xss_cons (xs_set 2 nd (xe_int))
    (xss_cons (xs_for po rfl (ki_seq K (xe_v 0)) (kg_tup K rfl (xgs_cons (xg_name 3 nd) (xgs_cons (xg_name 4 nd) (xgs_nil)))) (xss_cons (xs_set 5 nd (xe_callBfun cr_lcm opc_lcm z_lcm (xa_cons (xe_v 2) (xa_cons (xe_v 4) (xa_nil)))))
    (xss_cons (xs_set 1 nd (xe_op (r := rAddG K) op_addG opd_add (xe_op (r := rMulA K) op_mulA opd_mul (xe_v 1) (xe_op op_fdivW opd_div (xe_v 5) (xe_v 2))) (xe_op (r := rMulA K) op_mulA opd_mul (xe_v 3) (xe_op op_fdivW opd_div (xe_v 5) (xe_v 4)))))
    (xss_one (xs_set 2 nd (xe_v 5))))))
    (xss_one (xs_ret (ke_call K mg C_reduced (hr.mono (by decide)) tk (xa_cons (xe_v 1) (xa_cons (xe_v 2) (xa_nil))))))))⟩
abbrev s_is_whole : Stmt := topS 7
abbrev n_is_whole : List Str := ["thing"]
theorem sc_is_whole : FnScope ["thing"] ["thing"] (defScope s_is_whole) := ⟨rfl, rfl, rfl, by decide +kernel, rfl, by decide +kernel, by decide +kernel⟩
theorem ok_is_whole {f : Addr} {fd : FuncData} (F : Fun K "is_whole" "is_whole" s_is_whole f fd) (T : Txt K mg)  :
    FnOk P w K mg base (L2.CX P w) 1 f fd ["thing"] (spM K mg 1 m_is_whole) := by
  have z_isinstance := T.z_isinstance
  have z_int := T.z_int
  have z_bool := T.z_bool
  have nd := sc_is_whole.nd
  refine FnOk.cut (fn_okM F sc_is_whole fun cdv A outer s H E hr tk po => ?_)
  exact ⟨_, xss_one (xs_ret (xe_and (ke_isi K (T := "int") z_isinstance z_int (by decide +kernel) (xe_v 0)) (xe_one (xe_not (ke_isi K (T := "bool") z_isinstance z_bool (by decide +kernel) (xe_v 0))))))⟩
abbrev s_is_size : Stmt := topS 18
abbrev n_is_size : List Str := ["thing"]
theorem sc_is_size : FnScope ["thing"] ["thing"] (defScope s_is_size) := ⟨rfl, rfl, rfl, by decide +kernel, rfl, by decide +kernel, by decide +kernel⟩
theorem ok_is_size {f : Addr} {fd : FuncData} (F : Fun K "is_size" "is_size" s_is_size f fd) (T : Txt K mg) (C_is_whole : Callee P w K mg base "is_whole" 1 1 m_is_whole) :
    FnOk P w K mg base (L2.CX P w) 2 f fd ["thing"] (spM K mg 1 m_is_size) := by
  obtain ⟨v_LEAST_SIZE, u_LEAST_SIZE, c1_LEAST_SIZE, c2_LEAST_SIZE, c3_LEAST_SIZE⟩ := T.c_LEAST_SIZE.ex
  obtain ⟨v_MOST_SIZE, u_MOST_SIZE, c1_MOST_SIZE, c2_MOST_SIZE, c3_MOST_SIZE⟩ := T.c_MOST_SIZE.ex
  have nd := sc_is_size.nd
  refine FnOk.cut (fn_okM F sc_is_size fun cdv A outer s H E hr tk po => ?_)
  exact ⟨_, xss_one (xs_ret (xe_and (ke_call K mg C_is_whole (hr.mono (by decide)) tk (xa_cons (xe_v 0) (xa_nil))) (xe_one (xe_chain op_le op_le opd_le opd_le (xe_glob c1_LEAST_SIZE c2_LEAST_SIZE c3_LEAST_SIZE) (xe_v 0) (xe_glob c1_MOST_SIZE c2_MOST_SIZE c3_MOST_SIZE)))))⟩
abbrev s_is_fraction : Stmt := topS 8
abbrev n_is_fraction : List Str := ["thing", "top", "bottom"]
theorem sc_is_fraction : FnScope ["thing", "top", "bottom"] ["thing"] (defScope s_is_fraction) := ⟨rfl, rfl, rfl, by decide +kernel, rfl, by decide +kernel, by decide +kernel⟩
theorem ok_is_fraction {f : Addr} {fd : FuncData} (F : Fun K "is_fraction" "is_fraction" s_is_fraction f fd) (T : Txt K mg) (C_is_whole : Callee P w K mg base "is_whole" 1 1 m_is_whole) :
    FnOk P w K mg base (L2.CX P w) 2 f fd ["thing"] (spM K mg 1 m_is_fraction) := by
  have z_isinstance := T.z_isinstance
  have z_tuple := T.z_tuple
  have z_len := T.z_len
  have z_gcd := T.z_gcd
  have nd := sc_is_fraction.nd
  refine FnOk.cut (fn_okM F sc_is_fraction fun cdv A outer s H E hr tk po => ?_)
  exact ⟨_, xss_cons (xs_if (xw_pt (xw_or (xt_not (kt_tru K (ke_isi K (T := "tuple") z_isinstance z_tuple (by decide +kernel) (xe_v 0)))) (xw_or1 (xt_cmp (r := rNeD K) (op_neD hr.units) opd_ne (xe_callB (r := rLenC K) call_len_seq opc_len z_len PySem.boot_len (xa_cons (xe_v 0) (xa_nil))) (xe_int))))) (xss_one (xs_ret (xe_bl))) (xss_nil))
    (xss_cons (xs_asg (xe_v 0) (kg_tup K rfl (xgs_cons (xg_name 1 nd) (xgs_cons (xg_name 2 nd) (xgs_nil)))))
    (xss_cons (xs_if (xw_pt (xw_or (xt_not (kt_tru K (ke_call K mg C_is_whole (hr.mono (by decide)) tk (xa_cons (xe_v 1) (xa_nil))))) (xw_or1 (xt_not (kt_tru K (ke_call K mg C_is_whole (hr.mono (by decide)) tk (xa_cons (xe_v 2) (xa_nil)))))))) (xss_one (xs_ret (xe_bl))) (xss_nil))
    (xss_one (xs_ret (xe_and (xe_cmp op_ge opd_ge (xe_v 2) (xe_int)) (xe_one (xe_cmp (r := rEqD K) (op_eqD hr.units) opd_eq (xe_callBfun cr_gcd opc_gcd z_gcd (xa_cons (xe_v 1) (xa_cons (xe_v 2) (xa_nil)))) (xe_int))))))))⟩
abbrev s_is_allowance : Stmt := topS 20
abbrev n_is_allowance : List Str := ["thing", "top", "bottom"]
theorem sc_is_allowance : FnScope ["thing", "top", "bottom"] ["thing"] (defScope s_is_allowance) := ⟨rfl, rfl, rfl, by decide +kernel, rfl, by decide +kernel, by decide +kernel⟩
theorem ok_is_allowance {f : Addr} {fd : FuncData} (F : Fun K "is_allowance" "is_allowance" s_is_allowance f fd) (T : Txt K mg) (C_is_fraction : Callee P w K mg base "is_fraction" 2 1 m_is_fraction) :
    FnOk P w K mg base (L2.CX P w) 3 f fd ["thing"] (spM K mg 1 m_is_allowance) := by
  obtain ⟨v_MOST_TOP, u_MOST_TOP, c1_MOST_TOP, c2_MOST_TOP, c3_MOST_TOP⟩ := T.c_MOST_TOP.ex
  obtain ⟨v_MOST_BOTTOM, u_MOST_BOTTOM, c1_MOST_BOTTOM, c2_MOST_BOTTOM, c3_MOST_BOTTOM⟩ := T.c_MOST_BOTTOM.ex
  have nd := sc_is_allowance.nd
  refine FnOk.cut (fn_okM F sc_is_allowance fun cdv A outer s H E hr tk po => ?_)
  exact ⟨_, xss_cons (xs_if (xt_not (kt_tru K (ke_call K mg C_is_fraction (hr.mono (by decide)) tk (xa_cons (xe_v 0) (xa_nil))))) (xss_one (xs_ret (xe_bl))) (xss_nil))
    (xss_cons (xs_asg (xe_v 0) (kg_tup K rfl (xgs_cons (xg_name 1 nd) (xgs_cons (xg_name 2 nd) (xgs_nil)))))
    (xss_one (xs_ret (xe_and (xe_chain op_le op_le opd_le opd_le (xe_un un_neg opu_neg (xe_glob c1_MOST_TOP c2_MOST_TOP c3_MOST_TOP)) (xe_v 1) (xe_glob c1_MOST_TOP c2_MOST_TOP c3_MOST_TOP)) (xe_one (xe_cmp op_le opd_le (xe_v 2) (xe_glob c1_MOST_BOTTOM c2_MOST_BOTTOM c3_MOST_BOTTOM)))))))⟩
abbrev s_is_below : Stmt := topS 19
abbrev n_is_below : List Str := ["thing", "end"]
theorem sc_is_below : FnScope ["thing", "end"] ["thing", "end"] (defScope s_is_below) := ⟨rfl, rfl, rfl, by decide +kernel, rfl, by decide +kernel, by decide +kernel⟩
theorem ok_is_below {f : Addr} {fd : FuncData} (F : Fun K "is_below" "is_below" s_is_below f fd) (T : Txt K mg) (C_is_whole : Callee P w K mg base "is_whole" 1 1 m_is_whole) :
    FnOk P w K mg base (L2.CX P w) 2 f fd ["thing", "end"] (spM K mg 2 m_is_below) := by

  have nd := sc_is_below.nd
  refine FnOk.cut (fn_okM F sc_is_below fun cdv A outer s H E hr tk po => ?_)
  exact ⟨_, xss_one (xs_ret (xe_and (ke_call K mg C_is_whole (hr.mono (by decide)) tk (xa_cons (xe_v 0) (xa_nil))) (xe_one (xe_chain op_le op_lt opd_le opd_lt (xe_int) (xe_v 0) (xe_v 1)))))⟩
abbrev s_is_step : Stmt := topS 21
abbrev n_is_step : List Str := ["thing", "states"]
theorem sc_is_step : FnScope ["thing", "states"] ["thing", "states"] (defScope s_is_step) := ⟨rfl, rfl, rfl, by decide +kernel, rfl, by decide +kernel, by decide +kernel⟩
theorem ok_is_step {f : Addr} {fd : FuncData} (F : Fun K "is_step" "is_step" s_is_step f fd) (T : Txt K mg) (C_is_allowance : Callee P w K mg base "is_allowance" 3 1 m_is_allowance) (C_is_below : Callee P w K mg base "is_below" 2 2 m_is_below) :
    FnOk P w K mg base (L2.CX P w) 4 f fd ["thing", "states"] (spM K mg 2 m_is_step) := by
  have z_isinstance := T.z_isinstance
  have z_tuple := T.z_tuple
  have z_len := T.z_len
  have nd := sc_is_step.nd
  refine FnOk.cut (fn_okM F sc_is_step fun cdv A outer s H E hr tk po => ?_)
  exact ⟨_, xss_cons (xs_if (xw_pt (xw_or (xt_not (kt_tru K (ke_isi K (T := "tuple") z_isinstance z_tuple (by decide +kernel) (xe_v 0)))) (xw_or1 (xt_cmp (r := rNeD K) (op_neD hr.units) opd_ne (xe_callB (r := rLenC K) call_len_seq opc_len z_len PySem.boot_len (xa_cons (xe_v 0) (xa_nil))) (xe_int))))) (xss_one (xs_ret (xe_bl))) (xss_nil))
    (xss_one (xs_ret (xe_and (ke_call K mg C_is_allowance (hr.mono (by decide)) tk (xa_cons (xe_ix (r := rIx K) ix_seq opd_ix (xe_v 0) (xe_int)) (xa_nil))) (xe_one (ke_call K mg C_is_below (hr.mono (by decide)) tk (xa_cons (xe_ix (r := rIx K) ix_seq opd_ix (xe_v 0) (xe_int)) (xa_cons (xe_v 1) (xa_nil))))))))⟩
abbrev s_is_rule : Stmt := topS 22
abbrev n_is_rule : List Str := ["thing", "size", "states", "step"]
theorem sc_is_rule : FnScope ["thing", "size", "states", "step"] ["thing", "size", "states"] (defScope s_is_rule) := ⟨rfl, rfl, rfl, by decide +kernel, rfl, by decide +kernel, by decide +kernel⟩
theorem ok_is_rule {f : Addr} {fd : FuncData} (F : Fun K "is_rule" "is_rule" s_is_rule f fd) (T : Txt K mg) (C_is_step : Callee P w K mg base "is_step" 4 2 m_is_step) :
    FnOk P w K mg base (L2.CX P w) 5 f fd ["thing", "size", "states"] (spM K mg 3 m_is_rule) := by
  have z_all := T.z_all
  have z_isinstance := T.z_isinstance
  have z_tuple := T.z_tuple
  have z_len := T.z_len
  have nd := sc_is_rule.nd
  refine FnOk.cut (fn_okM F sc_is_rule fun cdv A outer s H E hr tk po => ?_)
  exact ⟨_, xss_cons (xs_if (xw_pt (xw_or (xt_not (kt_tru K (ke_isi K (T := "tuple") z_isinstance z_tuple (by decide +kernel) (xe_v 0)))) (xw_or1 (xt_cmp (r := rNeD K) (op_neD hr.units) opd_ne (xe_callB (r := rLenC K) call_len_seq opc_len z_len PySem.boot_len (xa_cons (xe_v 0) (xa_nil))) (xe_v 1))))) (xss_one (xs_ret (xe_bl))) (xss_nil))
    (xss_one (xs_ret (xe_callB (r := rAll K) (cr_all rfl) opc_all z_all (by decide +kernel) (xa_cons (xe_lc [("step", 3)] fin_I rfl nd (ki_seq K (xe_v 0)) (blkOk_by (N := n_is_rule) (sc := defScope s_is_rule) (by decide +kernel)) (fun _ _ _ _ _ => xg_name 3 nd) (fun _ _ _ _ _ => xts_nil) (fun _ _ _ _ _ => ke_call K mg C_is_step (hr.mono (by decide)) takes0 (xa_cons (xe_v 3) (xa_cons (xe_v 2) (xa_nil))))) (xa_nil)))))⟩
abbrev s_is_ruled : Stmt := topS 23
abbrev n_is_ruled : List Str := ["thing", "most", "judge", "size", "rules", "states", "rule"]
theorem sc_is_ruled : FnScope ["thing", "most", "judge", "size", "rules", "states", "rule"] ["thing", "most", "judge"] (defScope s_is_ruled) := ⟨rfl, rfl, rfl, by decide +kernel, rfl, by decide +kernel, by decide +kernel⟩
theorem ok_is_ruled {f : Addr} {fd : FuncData} (F : Fun K "is_ruled" "is_ruled" s_is_ruled f fd) (T : Txt K mg) (C_is_size : Callee P w K mg base "is_size" 2 1 m_is_size) (C_is_rule : Callee P w K mg base "is_rule" 5 3 m_is_rule) :
    FnOk P w K mg base (L2.CX P w) 6 f fd ["thing", "most", "judge"] (spM K mg 3 m_is_ruled) := by
  have z_len := T.z_len
  have z_all := T.z_all
  have z_isinstance := T.z_isinstance
  have z_tuple := T.z_tuple
  have nd := sc_is_ruled.nd
  refine FnOk.cut (fn_okM F sc_is_ruled fun cdv A outer s H E hr tk po => ?_)
  exact ⟨_, xss_cons (xs_if (xw_pt (xw_or (xt_not (kt_tru K (ke_isi K (T := "tuple") z_isinstance z_tuple (by decide +kernel) (xe_v 0)))) (xw_or1 (xt_cmp (r := rNeD K) (op_neD hr.units) opd_ne (xe_callB (r := rLenC K) call_len_seq opc_len z_len PySem.boot_len (xa_cons (xe_v 0) (xa_nil))) (xe_int))))) (xss_one (xs_ret (xe_bl))) (xss_nil))
    (xss_cons (xs_asg (xe_v 0) (kg_tup K rfl (xgs_cons (xg_name 3 nd) (xgs_cons (xg_name 4 nd) (xgs_nil)))))
    (xss_cons (xs_if (xw_pt (xw_or (xt_not (kt_tru K (ke_call K mg C_is_size (hr.mono (by decide)) tk (xa_cons (xe_v 3) (xa_nil))))) (xw_or1 (xt_not (kt_tru K (ke_isi K (T := "tuple") z_isinstance z_tuple (by decide +kernel) (xe_v 4))))))) (xss_one (xs_ret (xe_bl))) (xss_nil))
    (xss_cons (xs_set 5 nd (xe_callB (r := rLenC K) call_len_seq opc_len z_len PySem.boot_len (xa_cons (xe_v 4) (xa_nil))))
    (xss_one (xs_ret (xe_and (xe_chain op_le op_le opd_le opd_le (xe_int) (xe_v 5) (xe_v 1)) (xe_one (xe_callB (r := rAll K) (cr_all rfl) opc_all z_all (by decide +kernel) (xa_cons (xe_lc [("rule", 6)] fin_I rfl nd (ki_seq K (xe_v 4)) (blkOk_by (N := n_is_ruled) (sc := defScope s_is_ruled) (by decide +kernel)) (fun _ _ _ _ _ => xg_name 6 nd) (fun _ _ _ _ _ => xts_nil) (fun _ _ _ _ _ => ke_callF P w K mg base 2 (k := 5) (tb := [("is_rule", m_is_rule)]) (List.forall_mem_cons.mpr ⟨C_is_rule.mono (by decide), fun _ h => nomatch h⟩) (hr.mono (by decide)) takes0 (xa_cons (xe_v 6) (xa_cons (xe_v 3) (xa_cons (xe_v 5) (xa_nil)))))) (xa_nil))))))))))⟩
abbrev s_is_machine : Stmt := topS 24
abbrev n_is_machine : List Str := ["thing"]
theorem sc_is_machine : FnScope ["thing"] ["thing"] (defScope s_is_machine) := ⟨rfl, rfl, rfl, by decide +kernel, rfl, by decide +kernel, by decide +kernel⟩
theorem ok_is_machine {f : Addr} {fd : FuncData} (F : Fun K "is_machine" "is_machine" s_is_machine f fd) (T : Txt K mg) (C_is_ruled : Callee P w K mg base "is_ruled" 6 3 m_is_ruled) (C_is_rule : Callee P w K mg base "is_rule" 5 3 m_is_rule) :
    FnOk P w K mg base (L2.CX P w) 7 f fd ["thing"] (spM K mg 1 m_is_machine) := by
  obtain ⟨v_MOST_STATES, u_MOST_STATES, c1_MOST_STATES, c2_MOST_STATES, c3_MOST_STATES⟩ := T.c_MOST_STATES.ex
  obtain ⟨fv_is_rule, _, _, _, fm_is_rule, _, _, fn_is_rule⟩ := C_is_rule.ex
  have nd := sc_is_machine.nd
  refine FnOk.cut (fn_okM F sc_is_machine fun cdv A outer s H E hr tk po => ?_)
  exact ⟨_, xss_one (xs_ret (ke_call K mg C_is_ruled (hr.mono (by decide)) tk (xa_cons (xe_v 0) (xa_cons (xe_glob c1_MOST_STATES c2_MOST_STATES c3_MOST_STATES) (xa_cons (xe_fn fm_is_rule fn_is_rule) (xa_nil))))))⟩
abbrev s_is_row : Stmt := topS 25
abbrev n_is_row : List Str := ["size", "thing", "letter"]
theorem sc_is_row : FnScope ["size", "thing", "letter"] ["size", "thing"] (defScope s_is_row) := ⟨rfl, rfl, rfl, by decide +kernel, rfl, by decide +kernel, by decide +kernel⟩
theorem ok_is_row {f : Addr} {fd : FuncData} (F : Fun K "is_row" "is_row" s_is_row f fd) (T : Txt K mg) (C_is_size : Callee P w K mg base "is_size" 2 1 m_is_size) (C_is_below : Callee P w K mg base "is_below" 2 2 m_is_below) :
    FnOk P w K mg base (L2.CX P w) 3 f fd ["size", "thing"] (spM K mg 2 m_is_row) := by
  have z_all := T.z_all
  have z_isinstance := T.z_isinstance
  have z_tuple := T.z_tuple
  have z_len := T.z_len
  obtain ⟨v_MOST_LETTERS, u_MOST_LETTERS, c1_MOST_LETTERS, c2_MOST_LETTERS, c3_MOST_LETTERS⟩ := T.c_MOST_LETTERS.ex
  obtain ⟨xa_NoSize, gx_NoSize, qx_NoSize, kx_NoSize, bx_NoSize, tx_NoSize⟩ := T.x_NoSize.ex
  have nd := sc_is_row.nd
  refine FnOk.cut (fn_okM F sc_is_row fun cdv A outer s H E hr tk po => ?_)
  exact ⟨_, xss_cons (xs_if (xt_not (kt_tru K (ke_call K mg C_is_size (hr.mono (by decide)) tk (xa_cons (xe_v 0) (xa_nil))))) (xss_one (xs_raise rfl tk gx_NoSize qx_NoSize kx_NoSize bx_NoSize tx_NoSize)) (xss_nil))
    (xss_cons (xs_if (xw_pt (xw_or (xt_not (kt_tru K (ke_isi K (T := "tuple") z_isinstance z_tuple (by decide +kernel) (xe_v 1)))) (xw_or1 (xt_cmp op_gt opd_gt (xe_callB (r := rLenC K) call_len_seq opc_len z_len PySem.boot_len (xa_cons (xe_v 1) (xa_nil))) (xe_glob c1_MOST_LETTERS c2_MOST_LETTERS c3_MOST_LETTERS))))) (xss_one (xs_ret (xe_bl))) (xss_nil))
    (xss_one (xs_ret (xe_callB (r := rAll K) (cr_all rfl) opc_all z_all (by decide +kernel) (xa_cons (xe_lc [("letter", 2)] fin_I rfl nd (ki_seq K (xe_v 1)) (blkOk_by (N := n_is_row) (sc := defScope s_is_row) (by decide +kernel)) (fun _ _ _ _ _ => xg_name 2 nd) (fun _ _ _ _ _ => xts_nil) (fun _ _ _ _ _ => ke_call K mg C_is_below (hr.mono (by decide)) takes0 (xa_cons (xe_v 2) (xa_cons (xe_v 0) (xa_nil))))) (xa_nil))))))⟩
abbrev s_steps_of : Stmt := topS 28
abbrev n_steps_of : List Str := ["machine", "row", "size", "rules", "steps", "state", "letter", "step"]
theorem sc_steps_of : FnScope ["machine", "row", "size", "rules", "steps", "state", "letter", "step"] ["machine", "row"] (defScope s_steps_of) := ⟨rfl, rfl, rfl, by decide +kernel, rfl, by decide +kernel, by decide +kernel⟩
theorem ok_steps_of {f : Addr} {fd : FuncData} (F : Fun K "steps_of" "steps_of" s_steps_of f fd) (T : Txt K mg) (C_is_machine : Callee P w K mg base "is_machine" 7 1 m_is_machine) (C_is_row : Callee P w K mg base "is_row" 3 2 m_is_row) :
    FnOk P w K mg base (L2.CX P w) 8 f fd ["machine", "row"] (spM K mg 2 m_steps_of) := by
  obtain ⟨xa_NoMachine, gx_NoMachine, qx_NoMachine, kx_NoMachine, bx_NoMachine, tx_NoMachine⟩ := T.x_NoMachine.ex
  obtain ⟨xa_NoRow, gx_NoRow, qx_NoRow, kx_NoRow, bx_NoRow, tx_NoRow⟩ := T.x_NoRow.ex
  have nd := sc_steps_of.nd
  refine (fn_okM F sc_steps_of fun cdv A outer s H E hr tk po => ?_)
  exact ⟨_, xss_cons (xs_if (xt_not (kt_tru K (ke_call K mg C_is_machine (hr.mono (by decide)) tk (xa_cons (xe_v 0) (xa_nil))))) (xss_one (xs_raise rfl tk gx_NoMachine qx_NoMachine kx_NoMachine bx_NoMachine tx_NoMachine)) (xss_nil))
    (xss_cons (xs_asg (xe_v 0) (kg_tup K rfl (xgs_cons (xg_name 2 nd) (xgs_cons (xg_name 3 nd) (xgs_nil)))))
    (xss_cons (xs_if (xt_not (kt_tru K (ke_call K mg C_is_row (hr.mono (by decide)) tk (xa_cons (xe_v 2) (xa_cons (xe_v 1) (xa_nil)))))) (xss_one (xs_raise rfl tk gx_NoRow qx_NoRow kx_NoRow bx_NoRow tx_NoRow)) (xss_nil))
    (xss_cons (xs_set 4 nd (xe_lstM (xa_nil)))
    (xss_cons (xs_set 5 nd (xe_int))
    (xss_cons (xs_for po rfl (ki_seq K (xe_v 1)) (xg_name 6 nd) (xss_cons (xs_set 7 nd (xe_ix (r := rIx K) ix_seq opd_ix (xe_ix (r := rIx K) ix_seq opd_ix (xe_v 3) (xe_v 5)) (xe_v 6)))
    (xss_cons (xs_expr (ke_bm K PySem.F.slot_list_append PySem.F.type_list_append mt_append opm_append (xe_v 4) (xa_cons (xe_v 7) (xa_nil))))
    (xss_one (xs_set 5 nd (xe_ix (r := rIx K) ix_seq opd_ix (xe_v 7) (xe_int)))))))
    (xss_one (xs_ret (xe_v 4))))))))⟩
abbrev s_allowed : Stmt := topS 30
abbrev n_allowed : List Str := ["machine", "row", "allowance", "_"]
theorem sc_allowed : FnScope ["machine", "row", "allowance", "_"] ["machine", "row"] (defScope s_allowed) := ⟨rfl, rfl, rfl, by decide +kernel, rfl, by decide +kernel, by decide +kernel⟩
theorem ok_allowed {f : Addr} {fd : FuncData} (F : Fun K "allowed" "allowed" s_allowed f fd) (T : Txt K mg) (C_total : Callee P w K mg base "total" 2 1 m_total) (C_steps_of : Callee P w K mg base "steps_of" 8 2 m_steps_of) :
    FnOk P w K mg base (L2.CX P w) 9 f fd ["machine", "row"] (spM K mg 2 m_allowed) := by

  have nd := sc_allowed.nd
  refine FnOk.cut (fn_okM F sc_allowed fun cdv A outer s H E hr tk po => ?_)
  exact ⟨_, xss_one (xs_ret (ke_call K mg C_total (hr.mono (by decide)) tk (xa_cons (xe_lc [("allowance", 2), ("_", 3)] fin_I rfl nd (ki_seq K (ke_call K mg C_steps_of (hr.mono (by decide)) tk (xa_cons (xe_v 0) (xa_cons (xe_v 1) (xa_nil))))) (blkOk_by (N := n_allowed) (sc := defScope s_allowed) (by decide +kernel)) (fun _ _ _ _ _ => kg_tup K rfl (xgs_cons (xg_name 2 nd) (xgs_cons (xg_name 3 nd) (xgs_nil)))) (fun _ _ _ _ _ => xts_nil) (fun _ _ _ _ _ => xe_v 2)) (xa_nil))))⟩
abbrev s_state_after : Stmt := topS 29
abbrev n_state_after : List Str := ["machine", "row", "steps"]
theorem sc_state_after : FnScope ["machine", "row", "steps"] ["machine", "row"] (defScope s_state_after) := ⟨rfl, rfl, rfl, by decide +kernel, rfl, by decide +kernel, by decide +kernel⟩
theorem ok_state_after {f : Addr} {fd : FuncData} (F : Fun K "state_after" "state_after" s_state_after f fd) (T : Txt K mg) (C_steps_of : Callee P w K mg base "steps_of" 8 2 m_steps_of) :
    FnOk P w K mg base (L2.CX P w) 9 f fd ["machine", "row"] (spM K mg 2 m_state_after) := by

  have nd := sc_state_after.nd
  refine FnOk.cut (fn_okM F sc_state_after fun cdv A outer s H E hr tk po => ?_)
  exact ⟨_, xss_cons (xs_set 2 nd (ke_call K mg C_steps_of (hr.mono (by decide)) tk (xa_cons (xe_v 0) (xa_cons (xe_v 1) (xa_nil)))))
    (xss_one (xs_ret (xe_if (kt_tru K (xe_v 2)) (xe_ix (r := rIx K) ix_seq opd_ix (xe_ix (r := rIx K) ix_seq opd_ix (xe_v 2) (xe_un un_neg opu_neg (xe_int))) (xe_int)) (xe_int))))⟩
abbrev s_come_to : Stmt := topS 26
abbrev n_come_to : List Str := ["nexts", "begin", "found", "done", "behind", "state"]
theorem sc_come_to : FnScope ["nexts", "begin", "found", "done", "behind", "state"] ["nexts", "begin"] (defScope s_come_to) := ⟨rfl, rfl, rfl, by decide +kernel, rfl, by decide +kernel, by decide +kernel⟩
theorem ok_come_to {f : Addr} {fd : FuncData} (F : Fun K "come_to" "come_to" s_come_to f fd) (T : Txt K mg)  :
    FnOk P w K mg base (L2.CX P w) 1 f fd ["nexts", "begin"] (spM K mg 2 m_come_to) := by
  have z_tuple := T.z_tuple
  have z_len := T.z_len
  have z_sorted := T.z_sorted
  have nd := sc_come_to.nd
  refine FnOk.cut (fn_okM F sc_come_to fun cdv A outer s H E hr tk po => ?_)
  exact ⟨_, xss_cons (xs_set 2 nd (xe_lstM (xa_cons (xe_v 1) (xa_nil))))
    (xss_cons (xs_set 3 nd (xe_int))
    (xss_cons (xs_while po (xt_cmp op_lt opd_lt (xe_v 3) (xe_callB (r := rLenC K) call_len_seq opc_len z_len PySem.boot_len (xa_cons (xe_v 2) (xa_nil)))) (xss_cons (xs_set 4 nd (xe_ix (r := rIx K) ix_seq opd_ix (xe_v 0) (xe_ix (r := rIx K) ix_seq opd_ix (xe_v 2) (xe_v 3))))
    (xss_cons (xs_for po rfl (ki_seq K (xe_v 4)) (xg_name 5 nd) (xss_one (xs_if (xt_cmp (r := rIn K true) op_notIn_seq opd_notIn (xe_v 5) (xe_v 2)) (xss_one (xs_expr (ke_bm K PySem.F.slot_list_append PySem.F.type_list_append mt_append opm_append (xe_v 2) (xa_cons (xe_v 5) (xa_nil))))) (xss_nil))))
    (xss_one (xs_aug 3 nd ip_add opd_addI (xe_int))))))
    (xss_one (xs_ret (xe_callTy (r := rTupleC K) call_tuple_of opc_tuple z_tuple (by decide +kernel) (xa_cons (xe_callB (r := rSortedI K) cr_sortedI opc_sorted z_sorted (by decide +kernel) (xa_cons (xe_v 2) (xa_nil))) (xa_nil)))))))⟩
abbrev s_reached : Stmt := topS 27
abbrev n_reached : List Str := ["machine", "_", "state", "rule"]
theorem sc_reached : FnScope ["machine", "_", "state", "rule"] ["machine"] (defScope s_reached) := ⟨rfl, rfl, rfl, by decide +kernel, rfl, by decide +kernel, by decide +kernel⟩
theorem ok_reached {f : Addr} {fd : FuncData} (F : Fun K "reached" "reached" s_reached f fd) (T : Txt K mg) (C_come_to : Callee P w K mg base "come_to" 1 2 m_come_to) (C_is_machine : Callee P w K mg base "is_machine" 7 1 m_is_machine) :
    FnOk P w K mg base (L2.CX P w) 8 f fd ["machine"] (spM K mg 1 m_reached) := by
  obtain ⟨xa_NoMachine, gx_NoMachine, qx_NoMachine, kx_NoMachine, bx_NoMachine, tx_NoMachine⟩ := T.x_NoMachine.ex
  have nd := sc_reached.nd
  refine FnOk.cut (fn_okM F sc_reached fun cdv A outer s H E hr tk po => ?_)
  exact ⟨_, xss_cons (xs_if (xt_not (kt_tru K (ke_call K mg C_is_machine (hr.mono (by decide)) tk (xa_cons (xe_v 0) (xa_nil))))) (xss_one (xs_raise rfl tk gx_NoMachine qx_NoMachine kx_NoMachine bx_NoMachine tx_NoMachine)) (xss_nil))
    (xss_one (xs_ret (ke_call K mg C_come_to (hr.mono (by decide)) tk (xa_cons (xe_lc [("rule", 3)] fin_I rfl nd (ki_seq K (xe_ix (r := rIx K) ix_seq opd_ix (xe_v 0) (xe_int))) (blkOk_by (N := n_reached) (sc := defScope s_reached) (by decide +kernel)) (fun _ _ _ _ _ => xg_name 3 nd) (fun _ _ _ _ _ => xts_nil) (fun _ _ _ _ _ => xe_lc [("_", 1), ("state", 2)] fin_I rfl nd (ki_seq K (xe_v 3)) (blkOk_by (N := n_reached) (sc := { kind := .function, names := [(".0", .local), ("rule", .local)], isGenerator := false, isCoroutine := false }) (by decide +kernel)) (fun _ _ _ _ _ => kg_tup K rfl (xgs_cons (xg_name 1 nd) (xgs_cons (xg_name 2 nd) (xgs_nil)))) (fun _ _ _ _ _ => xts_nil) (fun _ _ _ _ _ => xe_v 2))) (xa_cons (xe_int) (xa_nil))))))⟩
abbrev s_law : Stmt := topS 47
abbrev n_law : List Str := ["_law_script", "_law_well_here", "_law_machine_here", "_law_other", "_law_names", "_law_third", "_law_at", "_law_state", "_law_row_here", "_law_due", "_law_here", "_law_there"]
theorem sc_law : FnScope ["_law_script", "_law_well_here", "_law_machine_here", "_law_other", "_law_names", "_law_third", "_law_at", "_law_state", "_law_row_here", "_law_due", "_law_here", "_law_there"] ["_law_script"] (defScope s_law) := ⟨rfl, rfl, rfl, by decide +kernel, rfl, by decide +kernel, by decide +kernel⟩
theorem ok_law {f : Addr} {fd : FuncData} (F : Fun K "law" "law" s_law f fd) (T : Txt K mg) (C__law_well : Callee P w K mg base "_law_well" 1 1 m__law_well) (C__law_some : Callee P w K mg base "_law_some" 6 1 m__law_some) (C__law_with_more : Callee P w K mg base "_law_with_more" 5 2 m__law_with_more) (C__law_twin : Callee P w K mg base "_law_twin" 4 2 m__law_twin) (C__law_rows : Callee P w K mg base "_law_rows" 4 2 m__law_rows) (C_allowed : Callee P w K mg base "allowed" 9 2 m_allowed) (C_state_after : Callee P w K mg base "state_after" 9 2 m_state_after) (C_reached : Callee P w K mg base "reached" 8 1 m_reached) :
    FnOk P w K mg base (L2.CX P w) 10 f fd ["_law_script"] (spM K mg 1 m_law) := by
  have z_all := T.z_all
  have z_int := T.z_int
  have z_len := T.z_len
  have nd := sc_law.nd
  refine (fn_okM F sc_law fun cdv A outer s H E hr tk po => ?_)
  exact ⟨_, xss_cons (xs_set 1 nd (ke_call K mg C__law_well (hr.mono (by decide)) tk (xa_cons (xe_v 0) (xa_nil))))
    (xss_cons (xs_set 2 nd (ke_call K mg C__law_some (hr.mono (by decide)) tk (xa_cons (xe_v 1) (xa_nil))))
    (xss_cons (xs_asg (ke_call K mg C__law_with_more (hr.mono (by decide)) tk (xa_cons (xe_v 1) (xa_cons (xe_v 2) (xa_nil)))) (kg_tup K rfl (xgs_cons (xg_name 3 nd) (xgs_cons (xg_name 4 nd) (xgs_nil)))))
    (xss_cons (xs_asg (ke_call K mg C__law_twin (hr.mono (by decide)) tk (xa_cons (xe_v 1) (xa_cons (xe_v 2) (xa_nil)))) (kg_tup K rfl (xgs_cons (xg_name 5 nd) (xgs_cons (xg_name 6 nd) (xgs_nil)))))
    (xss_cons (xs_if (xt_not (kt_tru K (xe_callB (r := rAll K) (cr_all rfl) opc_all z_all (by decide +kernel) (xa_cons (xe_lc [("_law_state", 7)] fin_I rfl nd (ki_seq K (ke_call K mg C_reached (hr.mono (by decide)) tk (xa_cons (xe_v 3) (xa_nil)))) (blkOk_by (N := n_law) (sc := defScope s_law) (by decide +kernel)) (fun _ _ _ _ _ => xg_name 7 nd) (fun _ _ _ _ _ => xts_nil) (fun _ _ _ _ _ => xe_cmp (r := rIn K false) op_in_seq opd_in (xe_v 7) (xe_v 4))) (xa_nil))))) (xss_one (xs_ret (xe_bl))) (xss_nil))
    (xss_cons (xs_for po rfl (ki_seq K (ke_call K mg C__law_rows (hr.mono (by decide)) tk (xa_cons (xe_v 1) (xa_cons (xe_ix (r := rIx K) ix_seq opd_ix (xe_v 2) (xe_int)) (xa_nil))))) (xg_name 8 nd) (xss_cons (xs_set 9 nd (ke_call K mg C_allowed (hr.mono (by decide)) tk (xa_cons (xe_v 2) (xa_cons (xe_v 8) (xa_nil)))))
    (xss_cons (xs_set 10 nd (ke_call K mg C_state_after (hr.mono (by decide)) tk (xa_cons (xe_v 2) (xa_cons (xe_v 8) (xa_nil)))))
    (xss_cons (xs_if (xw_pt (xw_or (xt_cmp (r := rNeD K) (op_neD hr.units) opd_ne (ke_call K mg C_allowed (hr.mono (by decide)) tk (xa_cons (xe_v 3) (xa_cons (xe_v 8) (xa_nil)))) (xe_v 9)) (xw_or1 (xt_cmp (r := rNeD K) (op_neD hr.units) opd_ne (ke_call K mg C_state_after (hr.mono (by decide)) tk (xa_cons (xe_v 3) (xa_cons (xe_v 8) (xa_nil)))) (xe_ix (r := rIx K) ix_seq opd_ix (xe_v 4) (xe_v 10)))))) (xss_one (xs_ret (xe_bl))) (xss_nil))
    (xss_cons (xs_set 11 nd (ke_call K mg C_state_after (hr.mono (by decide)) tk (xa_cons (xe_v 5) (xa_cons (xe_v 8) (xa_nil)))))
    (xss_one (xs_if (xw_pt (xw_or (xt_cmp (r := rNeD K) (op_neD hr.units) opd_ne (ke_call K mg C_allowed (hr.mono (by decide)) tk (xa_cons (xe_v 5) (xa_cons (xe_v 8) (xa_nil)))) (xe_v 9)) (xw_or1 (xt_cmp (r := rNeD K) (op_neD hr.units) opd_ne (xe_ix (r := rIx K) ix_seq opd_ix (xe_lst (xa_cons (xe_v 11) (xa_cons (xe_v 6) (xa_nil)))) (xe_callTy call_int1 opc_int z_int (by decide +kernel) (xa_cons (xe_cmp (r := rEqD K) (op_eqD hr.units) opd_eq (xe_v 11) (xe_callB (r := rLenC K) call_len_seq opc_len z_len PySem.boot_len (xa_cons (xe_ix (r := rIx K) ix_seq opd_ix (xe_v 2) (xe_int)) (xa_nil)))) (xa_nil)))) (xe_v 10))))) (xss_one (xs_ret (xe_bl))) (xss_nil))))))))
    (xss_one (xs_ret (xe_bl))))))))⟩
end
end K08
set_option Elab.async false
set_option linter.all false
set_option maxRecDepth 100000
set_option maxHeartbeats 2000000
/-! What the pieces come to, in words of plain mathematics. -/
namespace KM
open PySem L2
def WF (M : List MO) : Prop := M.all (MO.lo M.length) = true
theorem WF.nil : WF [] := rfl
theorem cut_same {M : List MO} (h : WF M) {d : D} (hd : D.lo M.length d = true) : cutR M.length (.ok d M) = .ok d M := by
  unfold cutR
  simp only [List.take_length]
  rw [if_pos]
  rw [Bool.and_eq_true]
  exact ⟨hd, h⟩
/-- the objects that came to be are dropped -/
theorem cut_to {M M' : List MO} {n : Nat} (hn : M.length = n) (h : WF M) {d : D} (hd : D.lo n d = true) (hM : M'.take n = M) : cutR n (.ok d M') = .ok d M := by
  subst hn
  unfold cutR
  simp only [hM]
  rw [if_pos]
  rw [Bool.and_eq_true]
  exact ⟨hd, h⟩
mutual
theorem D.lo_mono {n m : Nat} (h : n ≤ m) : ∀ d : D, D.lo n d = true → D.lo m d = true
  | .non, _ => rfl
  | .bl _, _ => rfl
  | .int _, _ => rfl
  | .str _, _ => rfl
  | .obj _, _ => rfl
  | .fn _, _ => rfl
  | .dct, _ => rfl
  | .ref k, e => decide_eq_true (Nat.lt_of_lt_of_le (of_decide_eq_true e) h)
  | .tup xs, e => D.los_mono h xs e
  | .lst xs, e => D.los_mono h xs e
  | .rol xs, e => D.los_mono h xs e
theorem D.los_mono {n m : Nat} (h : n ≤ m) : ∀ ds : List D, D.los n ds = true → D.los m ds = true
  | [], _ => rfl
  | d :: ds, e => by
    unfold D.los at e ⊢
    rw [Bool.and_eq_true] at e ⊢
    exact ⟨D.lo_mono h d e.1, D.los_mono h ds e.2⟩
end
theorem D.los_all {n : Nat} : ∀ {ds : List D}, D.los n ds = true ↔ ∀ d ∈ ds, D.lo n d = true
  | [] => by simp [D.los]
  | d :: ds => by
    unfold D.los
    rw [Bool.and_eq_true, D.los_all]
    simp
theorem MO.lo_mono {n m : Nat} (h : n ≤ m) (o : MO) (e : MO.lo n o = true) : MO.lo m o = true := by
  cases o with
  | lst xs => exact D.los_mono h xs e
  | dct xs => exact D.los_mono h _ e
theorem WF.app {M : List MO} (h : WF M) {o : MO} (ho : MO.lo (M.length + 1) o = true) : WF (M ++ [o]) := by
  unfold WF at h ⊢
  rw [List.all_append, Bool.and_eq_true, List.length_append]
  refine ⟨List.all_eq_true.mpr fun x hx => MO.lo_mono (Nat.le_succ _) x (List.all_eq_true.mp h x hx), ?_⟩
  simpa using ho
theorem WF.set {M : List MO} (h : WF M) {o : MO} {k : Nat} (ho : MO.lo M.length o = true) : WF (M.set k o) := by
  unfold WF at h ⊢
  rw [List.length_set]
  refine List.all_eq_true.mpr fun x hx => ?_
  rcases List.mem_or_eq_of_mem_set hx with hm | e
  · exact List.all_eq_true.mp h x hm
  · subst e; exact ho
theorem WF.at {M : List MO} (h : WF M) {o : MO} {k : Nat} (ho : M[k]? = some o) : MO.lo M.length o = true := List.all_eq_true.mp h o (List.mem_of_getElem? ho)

/-! ### loops -/
/-- I: what holds ahead of the items that are left; a turn may go on, leave with a value, or break -/
theorem forL_ind {gd : List MO → Prop} {gg : GG} {gb : GS} (I : List D → Ctx → List MO → Prop) (B : Ctx → List MO → Prop) (Rt : D → List MO → Prop)
    (hd : ∀ δ M, I [] δ M → gd M)
    (hs : ∀ x xs δ M, I (x :: xs) δ M → gd M ∧ ∃ δ1 M1, gg x δ M = .nx δ1 M1 ∧
      ((∃ δ2 M2, (gb δ1 M1 = .nx δ2 M2 ∨ gb δ1 M1 = .ct δ2 M2) ∧ I xs δ2 M2) ∨ (∃ d M2, gb δ1 M1 = .rt d M2 ∧ Rt d M2) ∨ (∃ δ2 M2, gb δ1 M1 = .bk δ2 M2 ∧ B δ2 M2))) :
    ∀ xs δ M, I xs δ M → (∃ δ' M', forL gd gg gb xs δ M = .nx δ' M' ∧ (I [] δ' M' ∨ B δ' M')) ∨ (∃ d M', forL gd gg gb xs δ M = .rt d M' ∧ Rt d M')
  | [], δ, M, h => .inl ⟨δ, M, by unfold forL; rw [if_pos (hd δ M h)], .inl h⟩
  | x :: xs, δ, M, h => by
    obtain ⟨g, δ1, M1, e1, q⟩ := hs x xs δ M h
    unfold forL
    rw [if_pos g, e1]
    rcases q with ⟨δ2, M2, e2, h2⟩ | ⟨d, M2, e2, h2⟩ | ⟨δ2, M2, e2, h2⟩
    · rcases e2 with e2 | e2
      · simp only [e2]
        exact forL_ind I B Rt hd hs xs δ2 M2 h2
      · simp only [e2]
        exact forL_ind I B Rt hd hs xs δ2 M2 h2
    · simp only [e2]
      exact .inr ⟨d, M2, rfl, h2⟩
    · simp only [e2]
      exact .inl ⟨δ2, M2, rfl, .inr h2⟩
/-- a loop that always runs through -/
theorem forL_thru {gd : List MO → Prop} {gg : GG} {gb : GS} (I : List D → Ctx → List MO → Prop)
    (hd : ∀ δ M, I [] δ M → gd M)
    (hs : ∀ x xs δ M, I (x :: xs) δ M → gd M ∧ ∃ δ1 M1, gg x δ M = .nx δ1 M1 ∧ ∃ δ2 M2, (gb δ1 M1 = .nx δ2 M2 ∨ gb δ1 M1 = .ct δ2 M2) ∧ I xs δ2 M2) (xs : List D) (δ : Ctx) (M : List MO) (h : I xs δ M) :
    ∃ δ' M', forL gd gg gb xs δ M = .nx δ' M' ∧ I [] δ' M' := by
  rcases forL_ind (gd := gd) (gg := gg) (gb := gb) I (fun _ _ => False) (fun _ _ => False) hd (fun x xs δ M h => by
    obtain ⟨g, δ1, M1, e1, δ2, M2, e2, h2⟩ := hs x xs δ M h
    exact ⟨g, δ1, M1, e1, .inl ⟨δ2, M2, e2, h2⟩⟩) xs δ M h with ⟨δ', M', e, q | q⟩ | ⟨d, M', e, q⟩
  · exact ⟨δ', M', e, q⟩
  · exact q.elim
  · exact q.elim
/-- a comprehension without ifs: I left acc M -/
theorem lcL_ind {gd : List MO → Prop} {gg : GG} {ge : GE} {δ : Ctx} (I : List D → List D → List MO → Prop)
    (hd : ∀ acc M, I [] acc M → gd M)
    (hs : ∀ x xs acc M, I (x :: xs) acc M → gd M ∧ acc.length < 100000 ∧ ∃ δ1 M1 d M2, gg x δ M = .nx δ1 M1 ∧ ge δ1 M1 = .ok d M2 ∧ I xs (acc ++ [d]) M2) :
    ∀ xs acc M, I xs acc M → ∃ acc' M', lcL gd gg gYes ge δ xs acc M = .ok acc' M' ∧ I [] acc' M'
  | [], acc, M, h => ⟨acc, M, by unfold lcL; rw [if_pos (hd acc M h)], h⟩
  | x :: xs, acc, M, h => by
    obtain ⟨g, hl, δ1, M1, d, M2, e1, e2, h2⟩ := hs x xs acc M h
    unfold lcL
    rw [if_pos g, e1]
    simp only [gYes, if_true, e2]
    rw [if_pos (show bigS acc.length from hl)]
    exact lcL_ind I hd hs xs (acc ++ [d]) M2 h2
/-- .. that changes nothing: a map -/
theorem lcL_map {α : Type} {gd : List MO → Prop} {gg : GG} {ge : GE} {δ : Ctx} {M : List MO} {em : α → D} {f : α → D} (hgd : gd M := by trivial) : ∀ (xs : List α) (acc : List D), acc.length + xs.length ≤ 100000 →
    (∀ x ∈ xs, ∃ δ1, gg (em x) δ M = .nx δ1 M ∧ ge δ1 M = .ok (f x) M) → lcL gd gg gYes ge δ (xs.map em) acc M = .ok (acc ++ xs.map f) M
  | [], acc, _, _ => by simp [lcL, hgd]
  | x :: xs, acc, hl, h => by
    obtain ⟨δ1, e1, e2⟩ := h x (List.mem_cons_self ..)
    rw [List.length_cons] at hl
    rw [List.map_cons]
    unfold lcL
    rw [if_pos hgd, e1]
    simp only [gYes, if_true, e2]
    rw [if_pos (show bigS acc.length from (by unfold bigS; omega))]
    rw [lcL_map hgd xs (acc ++ [f x]) (by simp; omega) (fun y hy => h y (List.mem_cons_of_mem _ hy))]
    simp
/-! ### fractions -/
def fD (q : Rat) : D := .tup [.int q.num, .int q.den]
theorem fD_inj {p q : Rat} (h : fD p = fD q) : p = q := by
  unfold fD at h
  simp only [D.tup.injEq, List.cons.injEq, D.int.injEq, and_true] at h
  exact Rat.ext h.1 (by exact_mod_cast h.2)
@[simp] theorem fD_lo (n : Nat) (q : Rat) : D.lo n (fD q) = true := rfl
theorem eqPy_int (i j : Int) (M : List MO) : eqPy (.int i) (.int j) M = some (i == j) := rfl
theorem oEq_int (i j : Int) (M : List MO) : oEq (.int i) (.int j) M = .ok (.bl (i == j)) M := rfl
theorem oNe_int (i j : Int) (M : List MO) : oNe (.int i) (.int j) M = .ok (.bl (!(i == j))) M := rfl
theorem eqPy_fr (p q : Rat) (M : List MO) : eqPy (fD p) (fD q) M = some (decide (p = q)) := by
  have h1 : eqPy (fD p) (fD q) M = some ((p.num == q.num) && ((p.den : Int) == (q.den : Int)) && true) := by
    unfold fD
    simp [eqPy, pyM, D.py, D.pys, SeqAt.shaped, PyData.canLay0, PyData.canLayAll0, PyData.depth, PyData.depthAll, PyData.eqv, PyData.eqvAll]
  rw [h1]
  congr 1
  by_cases e : p = q
  · subst e; simp
  · rw [decide_eq_false e]
    by_cases e1 : p.num = q.num
    · by_cases e2 : p.den = q.den
      · exact absurd (Rat.ext e1 e2) e
      · simp [e1]
        omega
    · simp [e1]
theorem oEq_fr (p q : Rat) (M : List MO) : oEq (fD p) (fD q) M = .ok (.bl (decide (p = q))) M := by unfold oEq; rw [eqPy_fr]
theorem oNe_fr (p q : Rat) (M : List MO) : oNe (fD p) (fD q) M = .ok (.bl (!decide (p = q))) M := by unfold oNe; rw [eqPy_fr]
/-- top by bottom, reduced -/
theorem norm_fr (t : Int) (b : Nat) (hb : b ≠ 0) : fD (Rat.normalize t b hb) = .tup [.int (t / ((t.natAbs.gcd b : Nat) : Int)), .int ((b : Int) / ((t.natAbs.gcd b : Nat) : Int))] := by
  rw [Rat.normalize_eq]
  unfold fD
  simp
theorem tyOk_int : tyOk "int" = true := by decide +kernel
theorem tyOk_bool : tyOk "bool" = true := by decide +kernel
theorem tyOk_tuple : tyOk "tuple" = true := by decide +kernel
theorem tyOk_list : tyOk "list" = true := by decide +kernel
theorem tyOk_str : tyOk "str" = true := by decide +kernel
end KM
namespace KM
open PySem L2
open Classical
section
variable (δ : Ctx) (M : List MO) (ga gb gc : GE) (gA gB : GB) (g h : GS) (o o' : OD) (u : OU) (m : OC) (a : GA) (gi : GI) (gg : GG) (os : OSet) (om : OM)
@[simp] theorem s_gVar (i : Nat) : gVar i δ M = match δ[i]? with | some (some d) => .ok d M | _ => .bad := rfl
@[simp] theorem s_gC (d : D) : gC d δ M = .ok d M := rfl
@[simp] theorem s_gOp : gOp o ga gb δ M = (ga δ M).bind fun x M1 => (gb δ M1).bind fun y M2 => o x y M2 := rfl
@[simp] theorem s_gUn : gUn u ga δ M = (ga δ M).bind fun x M1 => u x M1 := rfl
@[simp] theorem s_gANil : gANil δ M = .ok [] M := rfl
@[simp] theorem s_gACons : gACons ga a δ M = (ga δ M).bind fun x M1 => (a δ M1).bind fun xs M2 => .ok (x :: xs) M2 := rfl
@[simp] theorem s_gCall : gCall m a δ M = (a δ M).bind fun ds M1 => m ds M1 := rfl
@[simp] theorem s_gETup : gETup a δ M = (a δ M).bind fun ds M1 => if bigN ds.length then .ok (.tup ds) M1 else .bad := rfl
@[simp] theorem s_gLst : gLst a δ M = (a δ M).bind fun ds M1 => if bigN ds.length then .ok (.lst ds) M1 else .bad := rfl
@[simp] theorem s_gLstM : gLstM a δ M = (a δ M).bind fun ds M1 => if bigN ds.length then .ok (.ref M1.length) (M1 ++ [.lst ds]) else .bad := rfl
@[simp] theorem s_gTest : gTest ga δ M = (ga δ M).bind fun x M1 => match x with | .bl b => .ok b M1 | _ => .bad := rfl
@[simp] theorem s_gTru : gTru ga δ M = (ga δ M).bind fun x M1 => match trD M1 x with | some b => .ok b M1 | none => .bad := rfl
@[simp] theorem s_gAnd : gAnd gA gB δ M = (gA δ M).bind fun x M1 => if x = true then gB δ M1 else .ok false M1 := rfl
@[simp] theorem s_gOr : gOr gA gB δ M = (gA δ M).bind fun x M1 => if x = true then .ok true M1 else gB δ M1 := rfl
@[simp] theorem s_gNot : gNot gA δ M = (gA δ M).bind fun x M1 => .ok (!x) M1 := rfl
@[simp] theorem s_gAndV : gAndV ga gb δ M = (ga δ M).bind fun x M1 => match x with | .bl true => gb δ M1 | .bl false => .ok (.bl false) M1 | _ => .bad := rfl
@[simp] theorem s_gOrV : gOrV ga gb δ M = (ga δ M).bind fun x M1 => match x with | .bl true => .ok (.bl true) M1 | .bl false => gb δ M1 | _ => .bad := rfl
@[simp] theorem s_gNotV : gNotV ga δ M = (ga δ M).bind fun x M1 => match x with | .bl b => .ok (.bl (!b)) M1 | _ => .bad := rfl
@[simp] theorem s_gIfE : gIfE gA ga gb δ M = (gA δ M).bind fun x M1 => if x = true then ga δ M1 else gb δ M1 := rfl
@[simp] theorem s_gChain : gChain o o' ga gb gc δ M = (ga δ M).bind fun x M1 => (gb δ M1).bind fun y M2 => (o x y M2).bind fun z M3 => match z with
  | .bl true => (gc δ M3).bind fun u M4 => o' y u M4
  | .bl false => .ok (.bl false) M3
  | _ => .bad := rfl
@[simp] theorem s_gNoP : gNoP δ M = .ok none M := rfl
@[simp] theorem s_gP : gP ga δ M = (ga δ M).bind fun x M1 => match x with | .int i => .ok (some i) M1 | _ => .bad := rfl
@[simp] theorem s_gSl (gl gh : GO) : gSl ga gl gh δ M = (ga δ M).bind fun x M1 => (gl δ M1).bind fun lo M2 => (gh δ M2).bind fun hi M3 => oSl x lo hi M3 := rfl
@[simp] theorem s_gNext : gNext δ M = .nx δ M := rfl
@[simp] theorem s_gSeq : gSeq g h δ M = (g δ M).then h := rfl
@[simp] theorem s_gSet (i : Nat) : gSet i ga δ M = (ga δ M).toS δ fun d M1 => .nx (δ.set i (some d)) M1 := rfl
@[simp] theorem s_gDrop : gDrop ga δ M = (ga δ M).toS δ fun _ M1 => .nx δ M1 := rfl
@[simp] theorem s_gRet : gRet ga δ M = (ga δ M).toS δ fun d M1 => .rt d M1 := rfl
@[simp] theorem s_gRetN : gRetN δ M = .rt .non M := rfl
@[simp] theorem s_gIf : gIf gA g h δ M = (gA δ M).toS δ fun b M1 => if b = true then g δ M1 else h δ M1 := rfl
@[simp] theorem s_gBreak : gBreak δ M = .bk δ M := rfl
@[simp] theorem s_gCont : gCont δ M = .ct δ M := rfl
@[simp] theorem s_gNever : gNever δ M = .bad := rfl
@[simp] theorem s_gtName (i : Nat) (d : D) : gtName i d δ M = .nx (δ.set i (some d)) M := rfl
@[simp] theorem s_gtNil : gtNil [] δ M = .nx δ M := rfl
@[simp] theorem s_gtCons (r : List D → GS) (d : D) (ds : List D) : gtCons gg r (d :: ds) δ M = match gg d δ M with
    | .nx δ1 M1 => match r ds δ1 M1 with
      | .nx δ2 M2 => .nx δ2 M2
      | _ => .bad
    | _ => .bad := rfl
@[simp] theorem s_gtTup (n : Nat) (r : List D → GS) (ds : List D) : gtTup n r (.tup ds) δ M = if ds.length = n then r ds δ M else .bad := rfl
@[simp] theorem s_gtSub (d : D) : gtSub ga gb os d δ M = (ga δ M).toS δ fun x M1 => (gb δ M1).toS δ fun i M2 => match os x i d M2 with
  | some M3 => .nx δ M3
  | none => .bad := rfl
@[simp] theorem s_gAsg : gAsg ga gg δ M = (ga δ M).toS δ fun d M1 => match gg d δ M1 with
  | .nx δ2 M2 => .nx δ2 M2
  | .ex c _ M2 => .ex c δ M2
  | _ => .bad := rfl
@[simp] theorem s_gPar (i j : Nat) : gPar i j ga gb δ M = (ga δ M).toS δ fun x M1 => (gb δ M1).toS δ fun y M2 => .nx ((δ.set i (some x)).set j (some y)) M2 := rfl
@[simp] theorem s_gFor : gFor gi gg g δ M = (gi δ M).toS δ fun it M1 => forL it.gd gg g it.items δ M1 := rfl
@[simp] theorem s_gLcG (fin : List D → List MO → R D) (vs : List Nat) : gLcG fin gi gg gA ga vs δ M = (gi δ M).bind fun it M1 => (lcL it.gd gg gA ga (wipeD δ vs) it.items [] M1).bind fin := rfl
@[simp] theorem s_giRng1 : giRng1 a δ M = (a δ M).bind fun xs M1 => match xs with
  | [.int j] => if rngB j then .ok (itT (rngD 0 j.toNat)) M1 else .bad
  | _ => .bad := rfl
@[simp] theorem s_giRng2 : giRng2 a δ M = (a δ M).bind fun xs M1 => match xs with
  | [.int i, .int j] => if rngB i ∧ rngB j then .ok (itT (rngD i (j - i).toNat)) M1 else .bad
  | _ => .bad := rfl
@[simp] theorem s_giSeq : giSeq ga δ M = (ga δ M).bind fun x M1 => match tupOf x with
  | some xs => .ok (itT xs) M1
  | none => match listOf M1 x with
    | some xs => .ok ⟨xs, gdOf x xs⟩ M1
    | none => .bad := rfl
@[simp] theorem s_gBM : gBM om ga a δ M = (ga δ M).bind fun x M1 => match listOf M1 x with
  | some _ => (a δ M1).bind fun ds M2 => om x ds M2
  | none => .bad := rfl
@[simp] theorem s_itT (xs : List D) : (itT xs).items = xs := rfl
@[simp] theorem s_itTg (xs : List D) : (itT xs).gd = fun _ => True := rfl
@[simp] theorem s_tupOf (xs : List D) : tupOf (.tup xs) = some xs := rfl
@[simp] theorem s_tupOf_int (i : Int) : tupOf (.int i) = none := rfl
@[simp] theorem s_tupOf_lst (xs : List D) : tupOf (.lst xs) = none := rfl
@[simp] theorem s_tupOf_rol (xs : List D) : tupOf (.rol xs) = none := rfl
@[simp] theorem s_tupOf_ref (k : Nat) : tupOf (.ref k) = none := rfl
@[simp] theorem s_listOf_lst (xs : List D) : listOf M (.lst xs) = some xs := rfl
@[simp] theorem s_listOf_rol (xs : List D) : listOf M (.rol xs) = some xs := rfl
theorem s_listOf_ref {k : Nat} {xs : List D} (h : M[k]? = some (.lst xs)) : listOf M (.ref k) = some xs := by unfold listOf; simp only [h]
@[simp] theorem s_oLen_tup (xs : List D) : oLen [.tup xs] M = .ok (.int (xs.length : Int)) M := rfl
@[simp] theorem s_oLen_lst (xs : List D) : oLen [.lst xs] M = .ok (.int (xs.length : Int)) M := rfl
@[simp] theorem s_oLen_rol (xs : List D) : oLen [.rol xs] M = .ok (.int (xs.length : Int)) M := rfl
@[simp] theorem s_oTuple_lst (xs : List D) : oTuple [.lst xs] M = .ok (.tup xs) M := rfl
@[simp] theorem s_oInt (i : Int) : oInt [.int i] M = .ok (.int i) M := rfl
@[simp] theorem s_oIntB (b : Bool) : oInt [.bl b] M = .ok (.int (if b then 1 else 0)) M := rfl
@[simp] theorem s_oAbs (i : Int) : oAbs [.int i] M = .ok (.int (if i < 0 then -i else i)) M := rfl
@[simp] theorem s_oGcd (i j : Int) : oGcd [.int i, .int j] M = .ok (.int ((Nat.gcd i.natAbs j.natAbs : Nat) : Int)) M := rfl
@[simp] theorem s_trB (b : Bool) : trD M (.bl b) = some b := rfl
@[simp] theorem s_addI (i j : Int) : oAdd (.int i) (.int j) M = .ok (.int (i + j)) M := rfl
@[simp] theorem s_subI (i j : Int) : oSub (.int i) (.int j) M = .ok (.int (i - j)) M := rfl
@[simp] theorem s_mulI (i j : Int) : oMul (.int i) (.int j) M = if CMulB i j then .ok (.int (i * j)) M else .bad := rfl
@[simp] theorem s_divI (i j : Int) : oDiv (.int i) (.int j) M = if CDivB i j then .ok (.int (i / j)) M else .bad := rfl
@[simp] theorem s_modI (i j : Int) : oMod (.int i) (.int j) M = if CModB i j then .ok (.int (i % j)) M else .bad := rfl
@[simp] theorem s_powI (i j : Int) : oPow (.int i) (.int j) M = if CPowB i j then .ok (.int (i ^ j.toNat)) M else .bad := rfl
@[simp] theorem s_ltI (i j : Int) : oLt (.int i) (.int j) M = .ok (.bl (decide (i < j))) M := rfl
@[simp] theorem s_leI (i j : Int) : oLe (.int i) (.int j) M = .ok (.bl (decide (i ≤ j))) M := rfl
@[simp] theorem s_gtI (i j : Int) : oGt (.int i) (.int j) M = .ok (.bl (decide (j < i))) M := rfl
@[simp] theorem s_geI (i j : Int) : oGe (.int i) (.int j) M = .ok (.bl (decide (j ≤ i))) M := rfl
@[simp] theorem s_eqI (i j : Int) : oEq (.int i) (.int j) M = .ok (.bl (i == j)) M := rfl
@[simp] theorem s_neI (i j : Int) : oNe (.int i) (.int j) M = .ok (.bl (!(i == j))) M := rfl
@[simp] theorem s_negI (i : Int) : oNeg (.int i) M = .ok (.int (-i)) M := rfl
@[simp] theorem s_isi_tup (xs : List D) : oIsi "tuple" (.tup xs) M = .ok (.bl true) M := by simp [oIsi, tyM, tyN, isiB, tyOk_tuple]
@[simp] theorem s_isi_int (i : Int) : oIsi "int" (.int i) M = .ok (.bl true) M := by simp [oIsi, tyM, tyN, isiB, tyOk_int]
@[simp] theorem s_isi_intb (i : Int) : oIsi "bool" (.int i) M = .ok (.bl false) M := by simp [oIsi, tyM, tyN, isiB, tyOk_bool]
theorem s_ixT {xs : List D} {n : Nat} {d : D} (h : xs[n]? = some d) : oIx (.tup xs) (.int (n : Int)) M = .ok d M := by
  unfold oIx
  simp only [s_tupOf]
  rw [atI_nat h]
theorem s_ixL {x : D} {xs : List D} {n : Nat} {d : D} (ht : tupOf x = none) (hl : listOf M x = some xs) (h : xs[n]? = some d) : oIx x (.int (n : Int)) M = .ok d M := by
  unfold oIx
  simp only [ht, hl]
  rw [atI_nat h]
theorem s_fnM {N : Nat} {ds : List D} {d : D} {M' : List MO} (h : g (startD N ds) M = .rt d M') : fnM N g ds M = .ok d M' := by unfold fnM; rw [h]
end

theorem ixT_map {α : Type} {f : α → D} {xs : List α} {n : Nat} {x : α} (h : xs[n]? = some x) (M : List MO) : oIx (.tup (xs.map f)) (.int (n : Int)) M = .ok (f x) M := s_ixT M (by rw [List.getElem?_map, h]; rfl)
theorem put_last (M : List MO) (a b : MO) : (M ++ [a]).set M.length b = M ++ [b] := by simp
theorem get_last (M : List MO) (a : MO) : (M ++ [a])[M.length]? = some a := by simp
theorem oAppend_eq {M : List MO} {k : Nat} {xs : List D} (h : M[k]? = some (.lst xs)) (hl : xs.length < 100000) (d : D) : oAppend (.ref k) [d] M = .ok .non (M.set k (.lst (xs ++ [d]))) := by
  unfold oAppend
  simp only [h]
  rw [if_pos (show bigS xs.length from hl)]
theorem cmul_ok {i j : Int} {a b : Nat} (ha : i.natAbs < 2 ^ a) (hb : j.natAbs < 2 ^ b) (h : a + b < 999998) : CMulB i j := by
  have h1 : i.natAbs.log2 ≤ a := by
    by_cases h0 : i.natAbs = 0
    · rw [h0, Nat.log2_zero]; omega
    · exact Nat.le_of_lt ((Nat.log2_lt h0).mpr ha)
  have h2 : j.natAbs.log2 ≤ b := by
    by_cases h0 : j.natAbs = 0
    · rw [h0, Nat.log2_zero]; omega
    · exact Nat.le_of_lt ((Nat.log2_lt h0).mpr hb)
  exact .inr (by omega)
theorem cmul_l {i j : Int} (h1 : -1000000000000000000 ≤ i) (h2 : i ≤ 1000000000000000000) : CMulB i j := .inl (.inl ⟨by omega, by omega⟩)
theorem cmul_r {i j : Int} (h1 : -1000000000000000000 ≤ j) (h2 : j ≤ 1000000000000000000) : CMulB i j := .inl (.inr ⟨by omega, by omega⟩)
theorem cdiv_ok {i j : Int} (h0 : 0 < j) (h : j.natAbs < 2 ^ 8999) : CDivB i j := by
  refine ⟨h0, ?_⟩
  have : j.natAbs.log2 < 8999 := (Nat.log2_lt (by omega)).mpr h
  omega
theorem cdiv_s {i j : Int} (h0 : 0 < j) (h : j ≤ 1000000000000000000) : CDivB i j := cdiv_ok h0 (Nat.lt_of_lt_of_le (show j.natAbs < 2 ^ 64 by omega) (Nat.pow_le_pow_right (by decide) (by decide)))
theorem cmod_ok {i j : Int} (h0 : 0 < j) : CModB i j := h0
theorem bigN_ok {n : Nat} (h : n ≤ 100000) : bigN n := h
theorem rngB_ok {i : Int} (h1 : -1000000000000000000 ≤ i) (h2 : i ≤ 1000000000000000000) : rngB i := ⟨by omega, by omega⟩
/-- sums of fractions -/
def sq : List Rat → Rat
  | [] => 0
  | q :: qs => q + sq qs
theorem sq_append (xs ys : List Rat) : sq (xs ++ ys) = sq xs + sq ys := by
  induction xs with
  | nil => simp [sq, Rat.zero_add]
  | cons x xs ih => simp [sq, ih, Rat.add_assoc]
theorem divInt_same {a b c : Int} (hc : c ≠ 0) : Rat.divInt a c + Rat.divInt b c = Rat.divInt (a + b) c := by
  rw [Rat.divInt_add_divInt _ _ hc hc, ← Int.add_mul, Rat.divInt_mul_right hc]
theorem norm_div {t : Int} {b : Nat} (hb : b ≠ 0) : Rat.normalize t b hb = Rat.divInt t b := by
  first
    | rw [Rat.normalize_eq_mkRat, Rat.mkRat_eq_divInt]
    | (rw [← Rat.mkRat_eq_normalize]; rfl)
    | (unfold Rat.divInt; simp [mkRat, hb])
end KM
set_option Elab.async false
set_option linter.all false
set_option maxRecDepth 100000
set_option maxHeartbeats 2000000
namespace KM
open PySem L2
section
variable (δ : Ctx) (M : List MO) (ga gb gc : GE) (g : GS) (a : GA)
@[simp] theorem s_gRaise (c : Str) : gRaise c δ M = .ex c δ M := rfl
@[simp] theorem s_gTry (cs : List Str) (hs : List (Str × GS)) : gTry cs hs g δ M = match g δ M with
  | .ex c δ1 M1 => if cs.contains c = true then handL hs c δ1 M1 else .bad
  | r => r := rfl
@[simp] theorem s_gCallL (i : Nat) (tb : List (Str × OC)) : gCallL i tb a δ M = match δ[i]? with
  | some (some (.fn x)) => match tb.lookup x with
    | some m => (a δ M).bind fun ds M1 => m ds M1
    | none => .bad
  | _ => .bad := rfl
@[simp] theorem s_gDct2 : gDct2 ga gb δ M = match ga δ M with
  | .ok _ M1 => match gb δ M1 with
    | .ok _ M2 => .ok .dct M2
    | _ => .bad
  | _ => .bad := rfl
end
theorem tyOk_dict : tyOk "dict" = true := by decide +kernel
end KM
set_option linter.all false
set_option maxRecDepth 100000
set_option maxHeartbeats 2000000
namespace K08
open PySem L2 KM
def isWh : D → Bool
  | .int _ => true
  | _ => false
def notObj : D → Bool
  | .obj _ => false
  | .ref _ => false
  | .fn _ => false
  | _ => true
theorem is_whole_eq {d : D} {M : List MO} (h : WF M) (hd : notObj d = true) : m_is_whole [d] M = .ok (.bl (isWh d)) M := by
  unfold m_is_whole cutM
  have e : fnM 1 g_is_whole [d] M = .ok (.bl (isWh d)) M := by
    cases d <;> first
      | (simp [fnM, g_is_whole, startD, oIsi, tyM, tyN, isiB, tyOk_int, tyOk_bool, isWh]; done)
      | (simp [notObj] at hd)
  rw [e, cut_same h rfl]
theorem is_whole_int {i : Int} {M : List MO} (h : WF M) : m_is_whole [.int i] M = .ok (.bl true) M := is_whole_eq h rfl
theorem is_fraction_fr {q : Rat} {M : List MO} (h : WF M) : m_is_fraction [fD q] M = .ok (.bl true) M := by
  unfold m_is_fraction cutM
  have h1 : (1 : Int) ≤ q.den := by have := q.den_pos; omega
  have h2 : q.num.natAbs.gcd q.den = 1 := q.reduced
  have e : fnM 3 g_is_fraction [fD q] M = .ok (.bl true) M := by
    simp [fnM, g_is_fraction, startD, fD, is_whole_int h, h1, h2]
  rw [e, cut_same h rfl]
theorem reduced_eq {t : Int} {b : Nat} (hb : b ≠ 0) (hz : b.log2 < 9000) {M : List MO} (h : WF M) : m_reduced [.int t, .int b] M = .ok (fD (Rat.normalize t b hb)) M := by
  unfold m_reduced cutM
  have hg : 0 < t.natAbs.gcd b := Nat.gcd_pos_of_pos_right _ (Nat.pos_of_ne_zero hb)
  have hle : t.natAbs.gcd b ≤ b := Nat.gcd_le_right _ (Nat.pos_of_ne_zero hb)
  have hc : ∀ i : Int, CDivB i ((t.natAbs.gcd b : Nat) : Int) := fun i => by
    refine ⟨by omega, ?_⟩
    rw [Int.natAbs_natCast]
    have : (t.natAbs.gcd b).log2 ≤ b.log2 := by
      rw [Nat.le_log2 hb]
      exact Nat.le_trans (Nat.log2_self_le (by omega)) hle
    omega
  have e : fnM 3 g_reduced [.int t, .int b] M = .ok (fD (Rat.normalize t b hb)) M := by
    rw [norm_fr]
    simp [fnM, g_reduced, startD, hc, bigN]
  rw [e, cut_same h rfl]
theorem is_size_int {i : Int} {M : List MO} (h : WF M) : m_is_size [.int i] M = .ok (.bl (decide (2 ≤ i) && decide (i ≤ 4))) M := by
  unfold m_is_size cutM
  have e : fnM 1 g_is_size [.int i] M = .ok (.bl (decide (2 ≤ i) && decide (i ≤ 4))) M := by
    by_cases c : (2 : Int) ≤ i <;> simp [fnM, g_is_size, startD, is_whole_int h, c]
  rw [e, cut_same h rfl]
theorem is_below_int {i n : Int} {M : List MO} (h : WF M) : m_is_below [.int i, .int n] M = .ok (.bl (decide (0 ≤ i) && decide (i < n))) M := by
  unfold m_is_below cutM
  have e : fnM 2 g_is_below [.int i, .int n] M = .ok (.bl (decide (0 ≤ i) && decide (i < n))) M := by
    by_cases c : (0 : Int) ≤ i <;> simp [fnM, g_is_below, startD, is_whole_int h, c]
  rw [e, cut_same h rfl]
def AllOk (q : Rat) : Prop := -1000000 ≤ q.num ∧ q.num ≤ 1000000 ∧ (q.den : Int) ≤ 1000
theorem is_allowance_fr {q : Rat} {M : List MO} (h : WF M) (a : AllOk q) : m_is_allowance [fD q] M = .ok (.bl true) M := by
  unfold m_is_allowance cutM
  have e : fnM 3 g_is_allowance [fD q] M = .ok (.bl true) M := by
    simp [fnM, g_is_allowance, startD, is_fraction_fr h, fD, a.1, a.2.1, a.2.2]
    have := is_fraction_fr (q := q) h
    unfold fD at this
    simp [this, a.1, a.2.1, a.2.2]
  rw [e, cut_same h rfl]
abbrev Stp := Rat × Nat
def stD (s : Stp) : D := .tup [fD s.1, .int s.2]
theorem is_step_ok {s : Stp} {n : Nat} {M : List MO} (h : WF M) (a : AllOk s.1) (hs : s.2 < n) : m_is_step [stD s, .int n] M = .ok (.bl true) M := by
  unfold m_is_step cutM
  have e : fnM 2 g_is_step [stD s, .int n] M = .ok (.bl true) M := by
    have i0 : oIx (.tup [fD s.1, .int s.2]) (.int 0) M = .ok (fD s.1) M := s_ixT M (n := 0) rfl
    have i1 : oIx (.tup [fD s.1, .int s.2]) (.int 1) M = .ok (.int s.2) M := s_ixT M (n := 1) rfl
    simp [fnM, g_is_step, startD, stD, i0, i1, is_allowance_fr h a, is_below_int h]
    omega
  rw [e, cut_same h rfl]
def ruD (r : List Stp) : D := .tup (r.map stD)
def RuleOk (n k : Nat) (r : List Stp) : Prop := r.length = k ∧ ∀ s ∈ r, AllOk s.1 ∧ s.2 < n
theorem bls_map {α : Type} (f : α → Bool) : ∀ xs : List α, bls (xs.map fun x => D.bl (f x)) = some (xs.map f)
  | [] => rfl
  | x :: xs => by
    rw [List.map_cons, List.map_cons]
    unfold bls
    rw [bls_map f xs]
    rfl
theorem oAll_map {α : Type} (f : α → Bool) (xs : List α) (M : List MO) : oAll [.lst (xs.map fun x => D.bl (f x))] M = .ok (.bl ((xs.map f).all id)) M := by
  unfold oAll
  simp only [s_listOf_lst, bls_map]
theorem is_rule_ok {r : List Stp} {n k : Nat} {M : List MO} (h : WF M) (a : RuleOk n k r) (hk : r.length ≤ 1000) : m_is_rule [ruD r, .int k, .int n] M = .ok (.bl true) M := by
  unfold m_is_rule cutM
  have e : fnM 4 g_is_rule [ruD r, .int k, .int n] M = .ok (.bl true) M := by
    have hl : lcL (fun _ => True) (gtName 3) gYes (gCall m_is_step (gACons (gVar 3) (gACons (gVar 2) gANil))) [some (D.tup (r.map stD)), some (.int k), some (.int n), none] (r.map stD) [] M = .ok ([] ++ r.map fun _ => D.bl true) M := by
      refine lcL_map trivial r [] (by simp; omega) fun s hs => ⟨_, rfl, ?_⟩
      simp [is_step_ok h (a.2 s hs).1 (a.2 s hs).2]
    rw [List.nil_append] at hl
    have ha := oAll_map (fun _ : Stp => true) r M
    simp [fnM, g_is_rule, startD, ruD, wipeD, hl, finI, ha, a.1]
  rw [e, cut_same h rfl]
abbrev Mch := Nat × List (List Stp)
def mcD (m : Mch) : D := .tup [.int m.1, .tup (m.2.map ruD)]
structure MachOk (m : Mch) : Prop where
  s2 : 2 ≤ m.1
  s4 : m.1 ≤ 4
  l1 : 1 ≤ m.2.length
  l12 : m.2.length ≤ 12
  ru : ∀ r ∈ m.2, RuleOk m.2.length m.1 r
theorem is_ruled_ok {m : Mch} {M : List MO} (h : WF M) (a : MachOk m) : m_is_ruled [mcD m, .int 12, .fn "is_rule"] M = .ok (.bl true) M := by
  unfold m_is_ruled cutM
  have e : fnM 7 g_is_ruled [mcD m, .int 12, .fn "is_rule"] M = .ok (.bl true) M := by
    have hl : lcL (fun _ => True) (gtName 6) gYes (gCallL 2 [("is_rule", m_is_rule)] (gACons (gVar 6) (gACons (gVar 3) (gACons (gVar 5) gANil)))) [some (mcD m), some (.int 12), some (.fn "is_rule"), some (.int m.1), some (.tup (m.2.map ruD)), some (.int m.2.length), none] (m.2.map ruD) [] M = .ok ([] ++ m.2.map fun _ => D.bl true) M := by
      refine lcL_map trivial m.2 [] (by simp; have := a.l12; omega) fun s hs => ⟨_, rfl, ?_⟩
      have q := a.ru s hs
      have q2 := is_rule_ok h q (by rw [q.1]; have := a.s4; omega)
      simp [gCallL, q2]
    rw [List.nil_append] at hl
    have ha := oAll_map (fun _ : List Stp => true) m.2 M
    have h1 := a.s2
    have h2 := a.s4
    have h3 := a.l1
    have h4 := a.l12
    have c1 : (2 : Int) ≤ m.1 := by omega
    have c2 : (m.1 : Int) ≤ 4 := by omega
    have c3 : (1 : Int) ≤ m.2.length := by omega
    have c4 : (m.2.length : Int) ≤ 12 := by omega
    unfold mcD at hl ⊢
    simp [fnM, g_is_ruled, startD, wipeD, is_size_int h, c1, c2, c3, c4, hl, finI, ha]
  rw [e, cut_same h rfl]
theorem is_machine_ok {m : Mch} {M : List MO} (h : WF M) (a : MachOk m) : m_is_machine [mcD m] M = .ok (.bl true) M := by
  unfold m_is_machine cutM
  have e : fnM 1 g_is_machine [mcD m] M = .ok (.bl true) M := by
    simp [fnM, g_is_machine, startD, is_ruled_ok h a]
  rw [e, cut_same h rfl]
def rwD (r : List Nat) : D := .tup (r.map fun (l : Nat) => D.int l)
theorem is_row_ok {k : Nat} {r : List Nat} {M : List MO} (h : WF M) (h2 : 2 ≤ k) (h4 : k ≤ 4) (hl : r.length ≤ 400) (hr : ∀ l ∈ r, l < k) : m_is_row [.int k, rwD r] M = .ok (.bl true) M := by
  unfold m_is_row cutM
  have e : fnM 3 g_is_row [.int k, rwD r] M = .ok (.bl true) M := by
    have hq : lcL (fun _ => True) (gtName 2) gYes (gCall m_is_below (gACons (gVar 2) (gACons (gVar 0) gANil))) [some (.int k), some (rwD r), none] (r.map fun (l : Nat) => D.int l) [] M = .ok ([] ++ r.map fun _ => D.bl true) M := by
      refine lcL_map trivial r [] (by simp; omega) fun s hs => ⟨_, rfl, ?_⟩
      simp [is_below_int h]
      have := hr s hs
      omega
    rw [List.nil_append] at hq
    have ha := oAll_map (fun _ : Nat => true) r M
    have c1 : (2 : Int) ≤ k := by omega
    have c2 : (k : Int) ≤ 4 := by omega
    have c3 : ¬ (400 : Int) < r.length := by omega
    unfold rwD at hq ⊢
    simp [fnM, g_is_row, startD, wipeD, is_size_int h, c1, c2, c3, hq, finI, ha]
  rw [e, cut_same h rfl]
end K08
set_option linter.all false
set_option maxRecDepth 100000
set_option maxHeartbeats 2000000
namespace K08
open PySem L2 KM
/-! ### total -/
structure Bnd (L : Nat) (A : Nat) (q : Rat) : Prop where
  den : q.den ∣ L
  num : q.num.natAbs ≤ A * q.den
theorem total_loop {L A : Nat} (hL : L ≠ 0) (hL2 : L < 2 ^ 5000) (hA : A < 2 ^ 1000) {M : List MO} (parts : D) : ∀ (qs : List Rat) (n : Nat) (t : Int) (b : Nat) (x3 x4 x5 : Option D), n + qs.length ≤ 100000 → (∀ q ∈ qs, Bnd L A q) → b ≠ 0 → b ∣ L → t.natAbs ≤ n * A * b →
    ∃ (t' : Int) (b' : Nat) (y3 y4 y5 : Option D), forL (fun _ => True) (gtTup 2 (gtCons (gtName 3) (gtCons (gtName 4) gtNil)))
      (gSeq (gSet 5 (gCall oLcm (gACons (gVar 2) (gACons (gVar 4) gANil)))) (gSeq (gSet 1 (gOp oAdd (gOp oMul (gVar 1) (gOp oDiv (gVar 5) (gVar 2))) (gOp oMul (gVar 3) (gOp oDiv (gVar 5) (gVar 4))))) (gSet 2 (gVar 5))))
      (qs.map fD) [some parts, some (.int t), some (.int b), x3, x4, x5] M = .nx [some parts, some (.int t'), some (.int b'), y3, y4, y5] M ∧ b' ≠ 0 ∧ b' ∣ L ∧ Rat.divInt t' b' = Rat.divInt t b + sq qs
  | [], n, t, b, x3, x4, x5, hn, hq, hb, hbl, ht => ⟨t, b, x3, x4, x5, by simp [forL], hb, hbl, by simp [sq, Rat.add_zero]⟩
  | q :: qs, n, t, b, x3, x4, x5, hn, hq, hb, hbl, ht => by
    have Q := hq q (List.mem_cons_self ..)
    have hd : q.den ≠ 0 := q.den_nz
    have lp : ∀ {x : Nat}, x ∣ L → x < 2 ^ 5000 := fun h => Nat.lt_of_le_of_lt (Nat.le_of_dvd (Nat.pos_of_ne_zero hL) h) hL2
    have lg : ∀ {x : Nat}, x ≠ 0 → x ∣ L → x.log2 < 6000 := fun h0 h => Nat.lt_of_lt_of_le ((Nat.log2_lt h0).mpr (lp h)) (by decide)
    have hc : b.lcm q.den ∣ L := Nat.lcm_dvd hbl Q.den
    have hc0 : b.lcm q.den ≠ 0 := Nat.lcm_ne_zero hb hd
    obtain ⟨k1, e1⟩ := Nat.dvd_lcm_left b q.den
    obtain ⟨k2, e2⟩ := Nat.dvd_lcm_right b q.den
    have hk1 : k1 ≠ 0 := fun e => hc0 (by rw [e1, e, Nat.mul_zero])
    have hk2 : k2 ≠ 0 := fun e => hc0 (by rw [e2, e, Nat.mul_zero])
    have d1 : ((b.lcm q.den : Nat) : Int) / (b : Int) = k1 := by
      rw [e1, Int.natCast_mul]
      exact Int.mul_ediv_cancel_left _ (by omega)
    have d2 : ((b.lcm q.den : Nat) : Int) / (q.den : Int) = k2 := by
      rw [e2, Int.natCast_mul]
      exact Int.mul_ediv_cancel_left _ (by omega)
    have k1L : k1 < 2 ^ 5000 := Nat.lt_of_le_of_lt (by rw [e1]; exact Nat.le_mul_of_pos_left _ (Nat.pos_of_ne_zero hb)) (lp hc)
    have k2L : k2 < 2 ^ 5000 := Nat.lt_of_le_of_lt (by rw [e2]; exact Nat.le_mul_of_pos_left _ (Nat.pos_of_ne_zero hd)) (lp hc)
    have n17 : n < 2 ^ 17 := by rw [List.length_cons] at hn; omega
    have tb : t.natAbs < 2 ^ 7000 := Nat.lt_of_le_of_lt ht (Nat.lt_of_lt_of_le (Nat.mul_lt_mul'' (Nat.mul_lt_mul'' n17 hA) (lp hbl)) (by rw [← Nat.pow_add, ← Nat.pow_add]; exact Nat.pow_le_pow_right (by decide) (by decide)))
    have nb : q.num.natAbs < 2 ^ 7000 := Nat.lt_of_le_of_lt Q.num (Nat.lt_of_lt_of_le (Nat.mul_lt_mul'' hA (lp Q.den)) (by rw [← Nat.pow_add]; exact Nat.pow_le_pow_right (by decide) (by decide)))
    have c1 : CMulB t (k1 : Int) := cmul_ok tb (show (k1 : Int).natAbs < 2 ^ 5000 by rw [Int.natAbs_natCast]; exact k1L) (by decide)
    have c2 : CMulB q.num (k2 : Int) := cmul_ok nb (show (k2 : Int).natAbs < 2 ^ 5000 by rw [Int.natAbs_natCast]; exact k2L) (by decide)
    have v1 : CDivB ((b.lcm q.den : Nat) : Int) (b : Int) := cdiv_ok (by omega) (by rw [Int.natAbs_natCast]; exact Nat.lt_of_lt_of_le (lp hbl) (Nat.pow_le_pow_right (by decide) (by decide)))
    have v2 : CDivB ((b.lcm q.den : Nat) : Int) (q.den : Int) := cdiv_ok (by omega) (by rw [Int.natAbs_natCast]; exact Nat.lt_of_lt_of_le (lp Q.den) (Nat.pow_le_pow_right (by decide) (by decide)))
    have cl : CLcm (b : Int) (q.den : Int) := by
      exact ⟨by rw [Int.natAbs_natCast]; exact lg hb hbl, by rw [Int.natAbs_natCast]; exact lg hd Q.den⟩
    have ht2 : (t * k1 + q.num * k2).natAbs ≤ (n + 1) * A * (b.lcm q.den) := by
      have a1 : (t * k1).natAbs ≤ n * A * (b.lcm q.den) := by
        rw [Int.natAbs_mul, Int.natAbs_natCast, e1, ← Nat.mul_assoc]
        exact Nat.mul_le_mul_right _ ht
      have a2 : (q.num * k2).natAbs ≤ A * (b.lcm q.den) := by
        rw [Int.natAbs_mul, Int.natAbs_natCast, e2, ← Nat.mul_assoc]
        exact Nat.mul_le_mul_right _ Q.num
      have a3 := Int.natAbs_add_le (t * k1) (q.num * k2)
      have a4 : (n + 1) * A * (b.lcm q.den) = n * A * (b.lcm q.den) + A * (b.lcm q.den) := by
        rw [Nat.add_mul, Nat.add_mul, Nat.one_mul]
      omega
    obtain ⟨t', b', y3, y4, y5, e, h1, h2, h3⟩ := total_loop hL hL2 hA (M := M) parts qs (n + 1) (t * k1 + q.num * k2) (b.lcm q.den) (some (.int q.num)) (some (.int q.den)) (some (.int (b.lcm q.den : Nat))) (by rw [List.length_cons] at hn; omega) (fun p hp => hq p (List.mem_cons_of_mem _ hp)) hc0 hc ht2
    refine ⟨t', b', y3, y4, y5, ?_, h1, h2, ?_⟩
    · rw [List.map_cons]
      unfold forL
      rw [if_pos trivial]
      unfold fD
      simp [oLcm, cl, v1, v2, d1, d2, c1, c2]
      exact e
    · rw [h3]
      show _ = Rat.divInt t b + (q + sq qs)
      rw [← Rat.add_assoc]
      congr 1
      have b0 : (b : Int) ≠ 0 := by omega
      have dd0 : (q.den : Int) ≠ 0 := by omega
      have x1 : Rat.divInt t b = Rat.divInt (t * k1) ((b.lcm q.den : Nat) : Int) := by
        rw [e1, Int.natCast_mul, Rat.divInt_mul_right (by omega)]
      have x2 : q = Rat.divInt (q.num * k2) ((b.lcm q.den : Nat) : Int) := by
        rw [e2, Int.natCast_mul, Rat.divInt_mul_right (by omega)]
        exact (Rat.num_divInt_den q).symm
      rw [x1]
      refine Eq.trans (divInt_same (c := ((b.lcm q.den : Nat) : Int)) (by omega)).symm ?_
      rw [← x2]
theorem total_eq {L A : Nat} (hL : L ≠ 0) (hL2 : L < 2 ^ 5000) (hA : A < 2 ^ 1000) {M : List MO} (h : WF M) {qs : List Rat} (hn : qs.length ≤ 100000) (hq : ∀ q ∈ qs, Bnd L A q) : m_total [.lst (qs.map fD)] M = .ok (fD (sq qs)) M := by
  unfold m_total cutM
  obtain ⟨t', b', y3, y4, y5, e, h1, h2, h3⟩ := total_loop hL hL2 hA (M := M) (.lst (qs.map fD)) qs 0 0 1 none none none (by omega) hq (by decide) (Nat.one_dvd _) (by simp)
  have hz : b'.log2 < 9000 := Nat.lt_of_lt_of_le ((Nat.log2_lt h1).mpr (Nat.lt_of_le_of_lt (Nat.le_of_dvd (Nat.pos_of_ne_zero hL) h2) hL2)) (by decide)
  have e2 : fnM 6 g_total [.lst (qs.map fD)] M = .ok (fD (sq qs)) M := by
    have hs : Rat.normalize t' b' h1 = sq qs := by
      rw [norm_div, h3]
      simp [Rat.zero_add]
    have hr := reduced_eq (t := t') h1 hz h
    rw [hs] at hr
    have e' : forL (fun _ => True) (gtTup 2 (gtCons (gtName 3) (gtCons (gtName 4) gtNil)))
      (gSeq (gSet 5 (gCall oLcm (gACons (gVar 2) (gACons (gVar 4) gANil)))) (gSeq (gSet 1 (gOp oAdd (gOp oMul (gVar 1) (gOp oDiv (gVar 5) (gVar 2))) (gOp oMul (gVar 3) (gOp oDiv (gVar 5) (gVar 4))))) (gSet 2 (gVar 5))))
      (qs.map fD) [some (.lst (qs.map fD)), some (.int 0), some (.int 1), none, none, none] M = .nx [some (.lst (qs.map fD)), some (.int t'), some (.int b'), y3, y4, y5] M := e
    have gdl : gdOf (.lst (qs.map fD)) (qs.map fD) = fun _ => True := rfl
    simp [fnM, g_total, startD, gdl, e', hr]
  rw [e2, cut_same h rfl]
end K08
set_option linter.all false
set_option maxRecDepth 100000
set_option maxHeartbeats 2000000
namespace K08
open PySem L2 KM
@[simp] theorem gdOf_lst (xs ys : List D) : gdOf (.lst xs) ys = fun _ => True := rfl
@[simp] theorem gdOf_rol (xs ys : List D) : gdOf (.rol xs) ys = fun _ => True := rfl
/-! ### how a machine reads -/
def stp (rs : List (List Stp)) (s l : Nat) : Stp := (rs.getD s []).getD l (0, 0)
def path (rs : List (List Stp)) : Nat → List Nat → List Stp
  | _, [] => []
  | s, l :: ls => stp rs s l :: path rs (stp rs s l).2 ls
def endOf (rs : List (List Stp)) : Nat → List Nat → Nat
  | s, [] => s
  | s, l :: ls => endOf rs (stp rs s l).2 ls
def alw (rs : List (List Stp)) (s : Nat) (row : List Nat) : Rat := sq ((path rs s row).map (·.1))
theorem endOf_append (rs : List (List Stp)) : ∀ (xs ys : List Nat) (s : Nat), endOf rs s (xs ++ ys) = endOf rs (endOf rs s xs) ys
  | [], _, _ => rfl
  | _ :: xs, ys, _ => endOf_append rs xs ys _
theorem path_append (rs : List (List Stp)) : ∀ (xs ys : List Nat) (s : Nat), path rs s (xs ++ ys) = path rs s xs ++ path rs (endOf rs s xs) ys
  | [], _, _ => rfl
  | x :: xs, ys, s => by
    show stp rs s x :: path rs _ (xs ++ ys) = stp rs s x :: (path rs _ xs ++ _)
    rw [path_append rs xs ys]
    rfl
theorem alw_append (rs : List (List Stp)) (xs ys : List Nat) (s : Nat) : alw rs s (xs ++ ys) = alw rs s xs + alw rs (endOf rs s xs) ys := by
  unfold alw
  rw [path_append, List.map_append, sq_append]
theorem path_length (rs : List (List Stp)) : ∀ (xs : List Nat) (s : Nat), (path rs s xs).length = xs.length
  | [], _ => rfl
  | _ :: xs, _ => by
    show (path rs _ xs).length + 1 = xs.length + 1
    rw [path_length rs xs]
theorem stp_at {m : Mch} (a : MachOk m) {s l : Nat} (hs : s < m.2.length) (hl : l < m.1) : ∃ r, m.2[s]? = some r ∧ r[l]? = some (stp m.2 s l) ∧ AllOk (stp m.2 s l).1 ∧ (stp m.2 s l).2 < m.2.length := by
  have h1 : m.2[s]? = some m.2[s] := List.getElem?_eq_getElem hs
  have q := a.ru m.2[s] (List.getElem_mem hs)
  have hl2 : l < m.2[s].length := by rw [q.1]; exact hl
  have h2 : m.2[s][l]? = some m.2[s][l] := List.getElem?_eq_getElem hl2
  have e : stp m.2 s l = m.2[s][l] := by
    unfold stp
    simp only [List.getD_eq_getElem?_getD, h1, Option.getD_some, h2]
  refine ⟨_, h1, by rw [e]; exact h2, ?_⟩
  rw [e]
  exact q.2 _ (List.getElem_mem hl2)
theorem endOf_lt {m : Mch} (a : MachOk m) : ∀ (row : List Nat) (s : Nat), s < m.2.length → (∀ l ∈ row, l < m.1) → endOf m.2 s row < m.2.length
  | [], _, hs, _ => hs
  | l :: ls, s, hs, hr => by
    obtain ⟨r, _, _, _, h4⟩ := stp_at a hs (hr l (List.mem_cons_self ..))
    exact endOf_lt a ls _ h4 fun x hx => hr x (List.mem_cons_of_mem _ hx)
theorem path_ok {m : Mch} (a : MachOk m) : ∀ (row : List Nat) (s : Nat), s < m.2.length → (∀ l ∈ row, l < m.1) → ∀ x ∈ path m.2 s row, AllOk x.1 ∧ x.2 < m.2.length
  | [], _, _, _, x, hx => by cases hx
  | l :: ls, s, hs, hr, x, hx => by
    obtain ⟨r, _, _, h3, h4⟩ := stp_at a hs (hr l (List.mem_cons_self ..))
    rcases List.mem_cons.mp hx with e | hx
    · subst e; exact ⟨h3, h4⟩
    · exact path_ok a ls _ h4 (fun x hx => hr x (List.mem_cons_of_mem _ hx)) x hx
theorem steps_loop {m : Mch} (a : MachOk m) (row : D) {M : List MO} : ∀ (ls : List Nat) (s : Nat) (done : List Stp) (x6 x7 : Option D), s < m.2.length → (∀ l ∈ ls, l < m.1) → done.length + ls.length ≤ 400 →
    ∃ (y5 : Option D) (y6 y7 : Option D), forL (fun _ => True) (gtName 6) (gSeq (gSet 7 (gOp oIx (gOp oIx (gVar 3) (gVar 5)) (gVar 6))) (gSeq (gDrop (gBM oAppend (gVar 4) (gACons (gVar 7) gANil))) (gSet 5 (gOp oIx (gVar 7) (gC (.int 1))))))
      (ls.map fun (l : Nat) => D.int l) [some (mcD m), some row, some (.int m.1), some (.tup (m.2.map ruD)), some (.ref M.length), some (.int s), x6, x7] (M ++ [.lst (done.map stD)]) =
      .nx [some (mcD m), some row, some (.int m.1), some (.tup (m.2.map ruD)), some (.ref M.length), y5, y6, y7] (M ++ [.lst ((done ++ path m.2 s ls).map stD)])
  | [], s, done, x6, x7, hs, hr, hl => ⟨some (.int s), x6, x7, by simp [forL, path]⟩
  | l :: ls, s, done, x6, x7, hs, hr, hl => by
    obtain ⟨r, h1, h2, h3, h4⟩ := stp_at a hs (hr l (List.mem_cons_self ..))
    rw [List.length_cons] at hl
    obtain ⟨y5, y6, y7, e⟩ := steps_loop a row (M := M) ls (stp m.2 s l).2 (done ++ [stp m.2 s l]) (some (.int l)) (some (stD (stp m.2 s l))) h4 (fun x hx => hr x (List.mem_cons_of_mem _ hx)) (by simp; omega)
    refine ⟨y5, y6, y7, ?_⟩
    rw [List.map_cons]
    unfold forL
    rw [if_pos trivial]
    have i1 := ixT_map (f := ruD) h1
    have i2 : ∀ M', oIx (ruD r) (.int l) M' = .ok (stD (stp m.2 s l)) M' := fun M' => ixT_map (f := stD) h2 M'
    have i3 : ∀ M', oIx (stD (stp m.2 s l)) (.int 1) M' = .ok (.int (stp m.2 s l).2) M' := fun M' => s_ixT M' (n := 1) rfl
    have ap := oAppend_eq (M := M ++ [.lst (done.map stD)]) (k := M.length) (get_last M _) (by simp; omega) (stD (stp m.2 s l))
    rw [put_last] at ap
    have lo := s_listOf_ref (M ++ [.lst (done.map stD)]) (get_last M _)
    simp [i1, i2, i3, ap, lo]
    simpa [path] using e
theorem steps_eq {m : Mch} (a : MachOk m) {row : List Nat} (hl : row.length ≤ 400) (hr : ∀ l ∈ row, l < m.1) {M : List MO} (h : WF M) : m_steps_of [mcD m, rwD row] M = .ok (.ref M.length) (M ++ [.lst ((path m.2 0 row).map stD)]) := by
  unfold m_steps_of
  obtain ⟨y5, y6, y7, e⟩ := steps_loop a (rwD row) (M := M) row 0 [] none none a.l1 hr (by simpa using hl)
  have e1 := is_machine_ok h a
  have e2 := is_row_ok h a.s2 a.s4 hl hr
  unfold mcD rwD at *
  simp at e
  simp [fnM, g_steps_of, startD, e1, e2, bigN, e]
theorem allOk_bnd {q : Rat} {L : Nat} (a : AllOk q) (hL : ∀ d : Nat, 1 ≤ d → d ≤ 1000 → d ∣ L) : Bnd L 1000000 q := by
  obtain ⟨h1, h2, h3⟩ := a
  have := q.den_pos
  refine ⟨hL q.den (by omega) (by omega), ?_⟩
  have : 1000000 * 1 ≤ 1000000 * q.den := Nat.mul_le_mul_left _ q.den_pos
  omega
def lcms : Nat → Nat
  | 0 => 1
  | n + 1 => Nat.lcm (lcms n) (n + 1)
theorem lcms_dvd : ∀ (n d : Nat), 1 ≤ d → d ≤ n → d ∣ lcms n
  | 0, d, h1, h2 => by omega
  | n + 1, d, h1, h2 => by
    by_cases e : d = n + 1
    · subst e; exact Nat.dvd_lcm_right _ _
    · exact Nat.dvd_trans (lcms_dvd n d h1 (by omega)) (Nat.dvd_lcm_left _ _)
def LL : Nat := lcms 1000
theorem LL_lt : LL < 2 ^ 1500 := by decide +kernel
theorem LL_ne : LL ≠ 0 := by decide +kernel
theorem LL_dvd (d : Nat) (h1 : 1 ≤ d) (h2 : d ≤ 1000) : d ∣ LL := lcms_dvd 1000 d h1 h2
theorem allowed_eq {m : Mch} (a : MachOk m) {row : List Nat} (hl : row.length ≤ 400) (hr : ∀ l ∈ row, l < m.1) {M : List MO} (h : WF M) : m_allowed [mcD m, rwD row] M = .ok (fD (alw m.2 0 row)) M := by
  unfold m_allowed cutM
  have e1 := steps_eq a hl hr h
  have wf2 : WF (M ++ [.lst ((path m.2 0 row).map stD)]) := h.app (by
    unfold MO.lo
    rw [D.los_all]
    intro d hd
    obtain ⟨x, _, rfl⟩ := List.mem_map.mp hd
    rfl)
  have hq : ∀ q ∈ (path m.2 0 row).map (·.1), Bnd LL 1000000 q := fun q hq => by
    obtain ⟨x, hx, rfl⟩ := List.mem_map.mp hq
    exact allOk_bnd (path_ok a row 0 a.l1 hr x hx).1 LL_dvd
  have e2 := total_eq LL_ne (Nat.lt_trans LL_lt (Nat.pow_lt_pow_right (by decide) (by decide))) (A := 1000000) (Nat.lt_trans (by decide : 1000000 < 2 ^ 20) (Nat.pow_lt_pow_right (by decide) (by decide))) wf2 (qs := (path m.2 0 row).map (·.1)) (by rw [List.length_map, path_length]; omega) hq
  have e : fnM 4 g_allowed [mcD m, rwD row] M = .ok (fD (alw m.2 0 row)) (M ++ [.lst ((path m.2 0 row).map stD)]) := by
    have hlc : lcL (fun M' => M'[M.length]? = some (.lst ((path m.2 0 row).map stD))) (gtTup 2 (gtCons (gtName 2) (gtCons (gtName 3) gtNil))) gYes (gVar 2) [some (mcD m), some (rwD row), none, none] ((path m.2 0 row).map stD) [] (M ++ [.lst ((path m.2 0 row).map stD)]) = .ok ([] ++ (path m.2 0 row).map fun x => fD x.1) (M ++ [.lst ((path m.2 0 row).map stD)]) := by
      refine lcL_map (get_last M _) (path m.2 0 row) [] (by simp [path_length]; omega) fun s hs => ⟨_, by simp [stD]; rfl, ?_⟩
      simp
    rw [List.nil_append] at hlc
    have lo := s_listOf_ref (M ++ [.lst ((path m.2 0 row).map stD)]) (get_last M _)
    have gde : gdOf (.ref M.length) ((path m.2 0 row).map stD) = fun M' => M'[M.length]? = some (.lst ((path m.2 0 row).map stD)) := rfl
    rw [List.map_map] at e2
    have e3 : (fD ∘ fun x : Stp => x.1) = fun x => fD x.1 := rfl
    rw [e3] at e2
    simp [fnM, g_allowed, startD, e1, lo, gde, wipeD, hlc, finI, e2]
    rfl
  rw [e]
  exact cut_to rfl h rfl (by simp)
theorem path_last (rs : List (List Stp)) : ∀ (row : List Nat) (s : Nat), row ≠ [] → ∃ x, (path rs s row).getLast? = some x ∧ x.2 = endOf rs s row
  | [l], s, _ => ⟨stp rs s l, rfl, rfl⟩
  | l :: l2 :: ls, s, _ => by
    obtain ⟨x, h1, h2⟩ := path_last rs (l2 :: ls) (stp rs s l).2 (by simp)
    refine ⟨x, ?_, h2⟩
    show (stp rs s l :: path rs (stp rs s l).2 (l2 :: ls)).getLast? = some x
    have : path rs (stp rs s l).2 (l2 :: ls) = stp rs (stp rs s l).2 l2 :: path rs (stp rs (stp rs s l).2 l2).2 ls := rfl
    rw [this, List.getLast?_cons_cons, ← this]
    exact h1
  | [], s, h => absurd rfl h
theorem atI_m1 {α : Type} {xs : List α} {x : α} (h : xs.getLast? = some x) : atI xs (-1) = some x := by
  rw [List.getLast?_eq_some_iff] at h
  obtain ⟨ys, rfl⟩ := h
  exact atI_last ys x
theorem state_after_eq {m : Mch} (a : MachOk m) {row : List Nat} (hl : row.length ≤ 400) (hr : ∀ l ∈ row, l < m.1) {M : List MO} (h : WF M) : m_state_after [mcD m, rwD row] M = .ok (.int (endOf m.2 0 row)) M := by
  unfold m_state_after cutM
  have e1 := steps_eq a hl hr h
  have lo := s_listOf_ref (M ++ [.lst ((path m.2 0 row).map stD)]) (get_last M _)
  have e : fnM 3 g_state_after [mcD m, rwD row] M = .ok (.int (endOf m.2 0 row)) (M ++ [.lst ((path m.2 0 row).map stD)]) := by
    have tr : trD (M ++ [.lst ((path m.2 0 row).map stD)]) (.ref M.length) = some (!((path m.2 0 row).map stD).isEmpty) := by
      unfold trD
      simp only [lo]
    by_cases hn : row = []
    · subst hn
      simp [path] at tr e1 lo
      simp [fnM, g_state_after, startD, e1, tr, path, endOf]
    · obtain ⟨x, h1, h2⟩ := path_last m.2 row 0 hn
      have ne : ((path m.2 0 row).map stD).isEmpty = false := by
        cases hp : path m.2 0 row with
        | nil => rw [hp] at h1; cases h1
        | cons => rfl
      rw [ne] at tr
      have i1 : oIx (.ref M.length) (.int (-1)) (M ++ [.lst ((path m.2 0 row).map stD)]) = .ok (stD x) (M ++ [.lst ((path m.2 0 row).map stD)]) := by
        unfold oIx
        simp only [s_tupOf_ref, lo]
        rw [atI_m1 (x := stD x) (by rw [List.getLast?_map, h1]; rfl)]
      have i2 : ∀ M', oIx (stD x) (.int 1) M' = .ok (.int x.2) M' := fun M' => s_ixT M' (n := 1) rfl
      simp [fnM, g_state_after, startD, e1, tr, i1, i2, h2]
  rw [e]
  exact cut_to rfl h rfl (by simp)
end K08
set_option linter.all false
set_option maxRecDepth 100000
set_option maxHeartbeats 2000000
namespace K08
open PySem L2 KM
/-! ### the greatest common divisor, step by step -/
theorem rngD_succ (lo : Int) (n : Nat) : rngD lo (n + 1) = .int lo :: rngD (lo + 1) n := by
  unfold rngD
  rw [List.range_succ_eq_map, List.map_cons, List.map_map]
  congr 1
  · simp
  · apply List.map_congr_left
    intro i _
    simp only [Function.comp]
    congr 1
    omega
theorem shared_loop {M : List MO} : ∀ (k a b n : Nat) (lo : Int) (x2 x3 : Option D), b < 2 ^ k → 2 * k + 1 ≤ n →
    forL (fun _ => True) (gtName 2) (gSeq (gIf (gTest (gOp oEq (gVar 1) (gC (.int 0)))) (gRet (gVar 0)) gNext) (gSeq (gSet 3 (gOp oMod (gCall oInt (gACons (gVar 0) gANil)) (gVar 1))) (gSeq (gSet 0 (gVar 1)) (gSet 1 (gVar 3)))))
      (rngD lo n) [some (.int a), some (.int b), x2, x3] M = .rt (.int (a.gcd b : Nat)) M := by
  have one : ∀ (a : Nat) (n : Nat) (lo : Int) (x2 x3 : Option D), 1 ≤ n → forL (fun _ => True) (gtName 2) (gSeq (gIf (gTest (gOp oEq (gVar 1) (gC (.int 0)))) (gRet (gVar 0)) gNext) (gSeq (gSet 3 (gOp oMod (gCall oInt (gACons (gVar 0) gANil)) (gVar 1))) (gSeq (gSet 0 (gVar 1)) (gSet 1 (gVar 3)))))
      (rngD lo n) [some (.int a), some (.int ((0 : Nat) : Int)), x2, x3] M = .rt (.int (a : Int)) M := by
    intro a n lo x2 x3 hn
    obtain ⟨m, rfl⟩ : ∃ m, n = m + 1 := ⟨n - 1, by omega⟩
    rw [rngD_succ]
    unfold forL
    rw [if_pos trivial]
    simp
  have step : ∀ (a b n : Nat) (lo : Int) (x2 x3 : Option D), b ≠ 0 → forL (fun _ => True) (gtName 2) (gSeq (gIf (gTest (gOp oEq (gVar 1) (gC (.int 0)))) (gRet (gVar 0)) gNext) (gSeq (gSet 3 (gOp oMod (gCall oInt (gACons (gVar 0) gANil)) (gVar 1))) (gSeq (gSet 0 (gVar 1)) (gSet 1 (gVar 3)))))
      (rngD lo (n + 1)) [some (.int a), some (.int b), x2, x3] M = forL (fun _ => True) (gtName 2) (gSeq (gIf (gTest (gOp oEq (gVar 1) (gC (.int 0)))) (gRet (gVar 0)) gNext) (gSeq (gSet 3 (gOp oMod (gCall oInt (gACons (gVar 0) gANil)) (gVar 1))) (gSeq (gSet 0 (gVar 1)) (gSet 1 (gVar 3)))))
      (rngD (lo + 1) n) [some (.int b), some (.int (a % b : Nat)), some (.int lo), some (.int (a % b : Nat))] M := by
    intro a b n lo x2 x3 hb
    rw [rngD_succ]
    conv => lhs; unfold forL
    rw [if_pos trivial]
    have c : CModB (a : Int) (b : Int) := cmod_ok (by omega)
    have hb2 : ((b : Int) == 0) = false := by simpa using hb
    simp [c, hb, hb2]
  intro k
  induction k with
  | zero =>
    intro a b n lo x2 x3 hb hn
    have : b = 0 := by simpa using hb
    subst this
    rw [one a n lo x2 x3 (by omega)]
    simp
  | succ k ih =>
    intro a b n lo x2 x3 hb hn
    by_cases h0 : b = 0
    · subst h0
      rw [one a n lo x2 x3 (by omega)]
      simp
    · obtain ⟨m, rfl⟩ : ∃ m, n = m + 1 := ⟨n - 1, by omega⟩
      rw [step a b m lo x2 x3 h0]
      by_cases h1 : a % b = 0
      · rw [h1]
        have := one b m (lo + 1) (some (.int lo)) (some (.int ((0 : Nat) : Int))) (by omega)
        rw [this, Nat.gcd_comm a b, Nat.gcd_rec, h1]
        simp
      · obtain ⟨m2, rfl⟩ : ∃ m2, m = m2 + 1 := ⟨m - 1, by omega⟩
        rw [step b (a % b) m2 (lo + 1) _ _ h1]
        have hr : a % b < b := Nat.mod_lt _ (Nat.pos_of_ne_zero h0)
        have hr2 : b % (a % b) < a % b := Nat.mod_lt _ (Nat.pos_of_ne_zero h1)
        have hsum : b % (a % b) + (a % b) ≤ b := by
          have := Nat.div_add_mod b (a % b)
          have hq : 1 ≤ b / (a % b) := Nat.div_pos (Nat.le_of_lt hr) (Nat.pos_of_ne_zero h1)
          have : (a % b) * 1 ≤ (a % b) * (b / (a % b)) := Nat.mul_le_mul_left _ hq
          omega
        have hlt : b % (a % b) < 2 ^ k := by
          rw [Nat.pow_succ] at hb
          omega
        rw [ih (a % b) (b % (a % b)) m2 (lo + 1 + 1) _ _ hlt (by omega)]
        congr 3
        rw [Nat.gcd_comm (a % b) (b % (a % b)), ← Nat.gcd_rec, Nat.gcd_comm a b, Nat.gcd_rec b a]
theorem shared_eq {t : Int} {b : Nat} (hb : b < 2 ^ 1990) {M : List MO} (h : WF M) : m__law_shared [.int t, .int b] M = .ok (.int (t.natAbs.gcd b : Nat)) M := by
  unfold m__law_shared cutM
  have e : fnM 4 g__law_shared [.int t, .int b] M = .ok (.int (t.natAbs.gcd b : Nat)) M := by
    have ha : (if t < 0 then -t else t) = ((t.natAbs : Nat) : Int) := by split <;> omega
    have l := shared_loop (M := M) 1990 t.natAbs b 4000 0 none none hb (by decide)
    simp [fnM, g__law_shared, startD, ha, rngB, l]
  rw [e, cut_same h rfl]
theorem part_eq {t : Int} {b : Nat} (hb0 : b ≠ 0) (hb : b < 2 ^ 1990) {M : List MO} (h : WF M) : m__law_part [.int t, .int b] M = .ok (fD (Rat.divInt t b)) M := by
  unfold m__law_part cutM
  have hg : 0 < t.natAbs.gcd b := Nat.gcd_pos_of_pos_right _ (Nat.pos_of_ne_zero hb0)
  have hle : t.natAbs.gcd b ≤ b := Nat.gcd_le_right _ (Nat.pos_of_ne_zero hb0)
  have hc : ∀ i : Int, CDivB i ((t.natAbs.gcd b : Nat) : Int) := fun i => cdiv_ok (by omega) (by
    rw [Int.natAbs_natCast]
    exact Nat.lt_of_le_of_lt hle (Nat.lt_of_lt_of_le hb (Nat.pow_le_pow_right (by decide) (by decide))))
  have e : fnM 3 g__law_part [.int t, .int b] M = .ok (fD (Rat.divInt t b)) M := by
    rw [← norm_div hb0, norm_fr]
    simp [fnM, g__law_part, startD, shared_eq hb h, hc, bigN]
  rw [e, cut_same h rfl]
/-! ### sizes -/
structure Sz (a b : Nat) (q : Rat) : Prop where
  num : q.num.natAbs < 2 ^ a
  den : q.den < 2 ^ b
theorem divInt_sz {t : Int} {b : Nat} (hb : b ≠ 0) : (Rat.divInt t b).num.natAbs ≤ t.natAbs ∧ (Rat.divInt t b).den ≤ b := by
  rw [← norm_div hb, Rat.normalize_eq]
  constructor
  · simp only [Int.natAbs_ediv_of_dvd (show ((t.natAbs.gcd b : Nat) : Int) ∣ t from Int.natAbs_dvd_natAbs.mp (Nat.gcd_dvd_left _ _))]
    exact Nat.div_le_self _ _
  · exact Nat.div_le_self _ _
theorem add_eq (p q : Rat) : p + q = Rat.divInt (p.num * q.den + q.num * p.den) ((p.den * q.den : Nat) : Int) := by
  have h1 : (p.den : Int) ≠ 0 := by have := p.den_pos; omega
  have h2 : (q.den : Int) ≠ 0 := by have := q.den_pos; omega
  have := Rat.divInt_add_divInt p.num q.num h1 h2
  rw [Rat.num_divInt_den, Rat.num_divInt_den] at this
  rw [this, Int.natCast_mul]
theorem sub_eq (p q : Rat) : p - q = Rat.divInt (p.num * q.den - q.num * p.den) ((p.den * q.den : Nat) : Int) := by
  rw [Rat.sub_eq_add_neg, add_eq]
  simp only [Rat.neg_num, Rat.neg_den]
  congr 1
  rw [Int.neg_mul, Int.sub_eq_add_neg]
theorem dd_ne (p q : Rat) : p.den * q.den ≠ 0 := Nat.mul_ne_zero p.den_nz q.den_nz
theorem Sz.mul_lt {a b a' b' : Nat} {p q : Rat} (hp : Sz a b p) (hq : Sz a' b' q) : (p.num * q.den).natAbs < 2 ^ (a + b') ∧ p.den * q.den < 2 ^ (b + b') := by
  rw [Int.natAbs_mul, Int.natAbs_natCast, Nat.pow_add, Nat.pow_add]
  exact ⟨Nat.mul_lt_mul'' hp.num hq.den, Nat.mul_lt_mul'' hp.den hq.den⟩
theorem pow_mono {a b : Nat} (h : a ≤ b) : 2 ^ a ≤ 2 ^ b := Nat.pow_le_pow_right (by decide) h
theorem Sz.mono {a b a' b' : Nat} {p : Rat} (hp : Sz a b p) (h1 : a ≤ a') (h2 : b ≤ b') : Sz a' b' p := ⟨Nat.lt_of_lt_of_le hp.num (pow_mono h1), Nat.lt_of_lt_of_le hp.den (pow_mono h2)⟩
theorem Sz.add {a b a' b' : Nat} {p q : Rat} (hp : Sz a b p) (hq : Sz a' b' q) : Sz (a + a' + b + b' + 1) (b + b') (p + q) := by
  have h := divInt_sz (t := p.num * q.den + q.num * p.den) (dd_ne p q)
  rw [← add_eq] at h
  have m1 := (hp.mul_lt hq).1
  have m2 := (hq.mul_lt hp).1
  have m3 := (hp.mul_lt hq).2
  have a1 := Int.natAbs_add_le (p.num * q.den) (q.num * p.den)
  have p1 := pow_mono (show a + b' ≤ a + a' + b + b' by omega)
  have p2 := pow_mono (show a' + b ≤ a + a' + b + b' by omega)
  have p3 : 2 ^ (a + a' + b + b' + 1) = 2 * 2 ^ (a + a' + b + b') := by rw [Nat.pow_succ, Nat.mul_comm]
  exact ⟨by omega, by omega⟩
theorem oIx_f0 (q : Rat) (M : List MO) : oIx (fD q) (.int 0) M = .ok (.int q.num) M := s_ixT M (n := 0) rfl
theorem oIx_f1 (q : Rat) (M : List MO) : oIx (fD q) (.int 1) M = .ok (.int q.den) M := s_ixT M (n := 1) rfl
theorem allOk_sz {q : Rat} (a : AllOk q) : Sz 20 10 q := by
  obtain ⟨h1, h2, h3⟩ := a
  refine ⟨?_, ?_⟩
  · have : (2 : Nat) ^ 20 = 1048576 := by decide
    omega
  · have : (2 : Nat) ^ 10 = 1024 := by decide
    omega
theorem sq_sz : ∀ (qs : List Rat), (∀ q ∈ qs, AllOk q) → Sz (qs.length * (10 * qs.length + 40)) (10 * qs.length + 1) (sq qs)
  | [], _ => ⟨by decide, by decide⟩
  | q :: qs, h => by
    have h1 := allOk_sz (h q (List.mem_cons_self ..))
    have h2 := sq_sz qs fun x hx => h x (List.mem_cons_of_mem _ hx)
    refine (h1.add h2).mono ?_ ?_
    · rw [List.length_cons, Nat.add_mul, Nat.mul_add, Nat.mul_add, Nat.mul_add, Nat.mul_add]
      omega
    · rw [List.length_cons]
      omega
theorem alw_sz {m : Mch} (a : MachOk m) {s : Nat} (hs : s < m.2.length) {row : List Nat} (hr : ∀ l ∈ row, l < m.1) {n : Nat} (hn : row.length ≤ n) : Sz (n * (10 * n + 40)) (10 * n + 1) (alw m.2 s row) := by
  have h := sq_sz ((path m.2 s row).map (·.1)) fun q hq => by
    obtain ⟨x, hx, rfl⟩ := List.mem_map.mp hq
    exact (path_ok a row s hs hr x hx).1
  rw [List.length_map, path_length] at h
  exact h.mono (Nat.mul_le_mul hn (by omega)) (by omega)
end K08
set_option linter.all false
set_option maxRecDepth 100000
set_option maxHeartbeats 2000000
namespace K08
open PySem L2 KM
/-! ### the well of draws -/
def wl (c : List Int) (n p h : Int) : MO := .lst [.lst (c.map D.int), .int n, .int p, .int h]
def W (k : Nat) (c : List Int) (M : List MO) : Prop := ∃ n p h, 0 ≤ n ∧ M[k]? = some (wl c n p h)
theorem los_ints (n : Nat) : ∀ c : List Int, D.los n (c.map D.int) = true
  | [] => rfl
  | _ :: c => by
    rw [List.map_cons]
    unfold D.los
    rw [los_ints n c]
    rfl
theorem wl_lo (m : Nat) (c : List Int) (n p h : Int) : MO.lo m (wl c n p h) = true := by
  show (D.los m (c.map D.int) && true) = true
  rw [los_ints]
  rfl
structure Nx (k : Nat) (c : List Int) (M M' : List MO) : Prop where
  len : M'.length = M.length
  oth : ∀ j, j ≠ k → M'[j]? = M[j]?
  w : W k c M'
  wf : WF M'
theorem Nx.refl {k : Nat} {c : List Int} {M : List MO} (h : WF M) (w : W k c M) : Nx k c M M := ⟨rfl, fun _ _ => rfl, w, h⟩
theorem Nx.trans {k : Nat} {c : List Int} {M M1 M2 : List MO} (a : Nx k c M M1) (b : Nx k c M1 M2) : Nx k c M M2 := ⟨b.len.trans a.len, fun j hj => (b.oth j hj).trans (a.oth j hj), b.w, b.wf⟩
theorem Nx.set {k : Nat} {c : List Int} {M : List MO} {n p h n' p' h' : Int} (wf : WF M) (e : M[k]? = some (wl c n p h)) (h0 : 0 ≤ n') : Nx k c M (M.set k (wl c n' p' h')) := by
  have hk := (List.getElem?_eq_some_iff.mp e).1
  exact ⟨List.length_set, fun j hj => List.getElem?_set_ne (Ne.symm hj), ⟨n', p', h', h0, List.getElem?_set_self hk⟩, wf.set (wl_lo _ _ _ _ _)⟩
theorem cut_wf {M M' : List MO} (hl : M'.length = M.length) (h : WF M') {d : D} (hd : D.lo M.length d = true) : cutR M.length (.ok d M') = .ok d M' := by
  rw [← hl] at hd ⊢
  exact cut_same h hd
section
variable {k : Nat} {c : List Int} {M : List MO} {n p h : Int}
theorem ixW {j : Nat} {d : D} (e : M[k]? = some (wl c n p h)) (hj : [D.lst (c.map D.int), .int n, .int p, .int h][j]? = some d) : oIx (.ref k) (.int (j : Int)) M = .ok d M := s_ixL M rfl (s_listOf_ref M e) hj
theorem ixW0 (e : M[k]? = some (wl c n p h)) : oIx (.ref k) (.int 0) M = .ok (.lst (c.map D.int)) M := ixW (j := 0) e rfl
theorem ixW1 (e : M[k]? = some (wl c n p h)) : oIx (.ref k) (.int 1) M = .ok (.int n) M := ixW (j := 1) e rfl
theorem ixW2 (e : M[k]? = some (wl c n p h)) : oIx (.ref k) (.int 2) M = .ok (.int p) M := ixW (j := 2) e rfl
theorem ixW3 (e : M[k]? = some (wl c n p h)) : oIx (.ref k) (.int 3) M = .ok (.int h) M := ixW (j := 3) e rfl
theorem setW1 (e : M[k]? = some (wl c n p h)) (x : Int) : oSetL (.ref k) (.int 1) (.int x) M = some (M.set k (wl c x p h)) := by
  unfold oSetL
  simp only [e]
  rfl
theorem setW2 (e : M[k]? = some (wl c n p h)) (x : Int) : oSetL (.ref k) (.int 2) (.int x) M = some (M.set k (wl c n x h)) := by
  unfold oSetL
  simp only [e]
  rfl
theorem setW3 (e : M[k]? = some (wl c n p h)) (x : Int) : oSetL (.ref k) (.int 3) (.int x) M = some (M.set k (wl c n p x)) := by
  unfold oSetL
  simp only [e]
  rfl
theorem getW (e : M[k]? = some (wl c n p h)) (o : MO) : (M.set k o)[k]? = some o := List.getElem?_set_self (List.getElem?_eq_some_iff.mp e).1
end
theorem oIx_L {x : D} {xs : List D} {i : Int} {d : D} {M : List MO} (ht : tupOf x = none) (hl : listOf M x = some xs) (h0 : 0 ≤ i) (h : xs[i.toNat]? = some d) : oIx x (.int i) M = .ok d M := by
  have e : i = ((i.toNat : Nat) : Int) := by omega
  rw [e]
  exact s_ixL M ht hl h
theorem mixed_eq (x : Int) {M : List MO} (h : WF M) : ∃ v, m__law_mixed [.int x] M = .ok (.int v) M := by
  have c1 : CMulB x 48271 := cmul_r (by decide) (by decide)
  have m1 : ∀ i : Int, CModB i 2147483647 := fun _ => cmod_ok (by decide)
  have m2 : ∀ i : Int, CModB i 2147483399 := fun _ => cmod_ok (by decide)
  have v1 : ∀ i : Int, CDivB i 1009 := fun _ => cdiv_s (by decide) (by decide)
  have v2 : ∀ i : Int, CDivB i 2003 := fun _ => cdiv_s (by decide) (by decide)
  have c2 : ∀ i j : Int, CMulB (i % 2147483647) j := fun i j => cmul_l (by omega) (by omega)
  have e : fnM 1 g__law_mixed [.int x] M = .ok (.int (((x * 48271 + 11) % 2147483647 * ((x * 48271 + 11) % 2147483647 / 1009 + 69621) + 7919) % 2147483647 * 2147483399 + (((x * 48271 + 11) % 2147483647 * ((x * 48271 + 11) % 2147483647 / 1009 + 69621) + 7919) % 2147483647 * ((((x * 48271 + 11) % 2147483647 * ((x * 48271 + 11) % 2147483647 / 1009 + 69621) + 7919) % 2147483647) / 2003 + 40692) + 104729) % 2147483399)) M := by
    simp [fnM, g__law_mixed, startD, c1, c2, m1, m2, v1, v2]
  exact ⟨_, (congrArg (cutR M.length) e).trans (cut_same h rfl)⟩
theorem filled_eq {k : Nat} {c : List Int} {M : List MO} {n p h : Int} (wf : WF M) (h0 : 0 ≤ n) (e : M[k]? = some (wl c n p h)) : ∃ v n' h', m__law_filled [.ref k] M = .ok (.int v) (M.set k (wl c n' p h')) ∧ 0 ≤ n' := by
  have g1 := getW e (wl c (n + 1) p h)
  have cm : ∀ i : Int, CMulB i 69069 := fun _ => cmul_r (by decide) (by decide)
  have cm2 : ∀ i : Int, CMulB 7919 i := fun _ => cmul_l (by decide) (by decide)
  have md : ∀ i : Int, CModB i 2147483629 := fun _ => cmod_ok (by decide)
  have cp : CPowB 10 18 := ⟨⟨by decide, by decide⟩, by decide⟩
  have t1 := ixW1 e
  have t2 := setW1 e (n + 1)
  have t3 := ixW1 g1
  have t4 := ixW0 g1
  have t5 := ixW3 g1
  have len_same : ∀ o : MO, (M.set k o).length = M.length := fun o => List.length_set
  by_cases hc : n + 1 ≤ (c.length : Int)
  · have hn : n.toNat < c.length := by omega
    have i0 : ∀ M', oIx (.lst (c.map D.int)) (.int n) M' = .ok (.int c[n.toNat]) M' := fun M' => oIx_L rfl rfl h0 (by rw [List.getElem?_map, List.getElem?_eq_getElem hn]; rfl)
    have hs : n + 1 - 1 = n := by omega
    generalize hcell : c[n.toNat] = cell at i0
    have t6 := setW3 g1 ((h * 69069 + cell + 1) % 2147483629)
    rw [List.set_set] at t6
    have g2 := getW e (wl c (n + 1) p ((h * 69069 + cell + 1) % 2147483629))
    have t7 := ixW1 g2
    have nx := Nx.set (p' := p) (h' := (h * 69069 + cell + 1) % 2147483629) wf e (show 0 ≤ n + 1 by omega)
    obtain ⟨v, hv⟩ := mixed_eq (cell + 7919 * (n + 1)) nx.wf
    by_cases hb : (10 : Int) ^ 18 ≤ cell
    · have hb2 : (1000000000000000000 : Int) ≤ cell := hb
      refine ⟨cell, n + 1, (h * 69069 + cell + 1) % 2147483629, ?_, by omega⟩
      unfold m__law_filled cutM
      have q : fnM 2 g__law_filled [.ref k] M = .ok (.int cell) (M.set k (wl c (n + 1) p ((h * 69069 + cell + 1) % 2147483629))) := by
        simp [fnM, g__law_filled, startD, t1, t2, t3, t4, t5, t6, hc, hs, i0, cm, md, cp, hb2]
      rw [q]
      exact cut_wf (len_same _) nx.wf rfl
    · have hb2 : ¬ (1000000000000000000 : Int) ≤ cell := hb
      refine ⟨v, n + 1, (h * 69069 + cell + 1) % 2147483629, ?_, by omega⟩
      unfold m__law_filled cutM
      have q : fnM 2 g__law_filled [.ref k] M = .ok (.int v) (M.set k (wl c (n + 1) p ((h * 69069 + cell + 1) % 2147483629))) := by
        simp [fnM, g__law_filled, startD, t1, t2, t3, t4, t5, t6, t7, hc, hs, i0, cm, cm2, md, cp, hb2, hv]
      rw [q]
      exact cut_wf (len_same _) nx.wf rfl
  · have nx := Nx.set (p' := p) (h' := h) wf e (show 0 ≤ n + 1 by omega)
    obtain ⟨v, hv⟩ := mixed_eq (h + 7919 * (n + 1)) nx.wf
    refine ⟨v, n + 1, h, ?_, by omega⟩
    unfold m__law_filled cutM
    have q : fnM 2 g__law_filled [.ref k] M = .ok (.int v) (M.set k (wl c (n + 1) p h)) := by
      simp [fnM, g__law_filled, startD, t1, t2, t3, t4, t5, hc, cm2, hv]
    rw [q]
    exact cut_wf (len_same _) nx.wf rfl
theorem draw_eq {k : Nat} {c : List Int} {M : List MO} (wf : WF M) (w : W k c M) {many : Int} (m0 : 0 < many) (m1 : many ≤ 1000000000000000000) :
    ∃ t M', m__law_draw [.ref k, .int many] M = .ok (.int t) M' ∧ 0 ≤ t ∧ t < many ∧ Nx k c M M' := by
  obtain ⟨n, p, h, h0, e⟩ := w
  have md : ∀ i : Int, CModB i many := fun _ => cmod_ok m0
  have dv : ∀ i : Int, CDivB i many := fun _ => cdiv_s m0 m1
  have t2 := ixW2 e
  have len_same : ∀ o : MO, (M.set k o).length = M.length := fun o => List.length_set
  by_cases hp : p = 0
  · subst hp
    obtain ⟨v, n', h', hf, hn'⟩ := filled_eq wf h0 e
    have g1 := getW e (wl c n' 0 h')
    have s1 := setW2 g1 v
    rw [List.set_set] at s1
    have g2 := getW e (wl c n' v h')
    have t3 := ixW2 g2
    have s2 := setW2 g2 (v / many)
    rw [List.set_set] at s2
    have nx := Nx.set (p' := v / many) (h' := h') wf e hn'
    refine ⟨v % many, M.set k (wl c n' (v / many) h'), ?_, Int.emod_nonneg _ (by omega), Int.emod_lt_of_pos _ m0, nx⟩
    unfold m__law_draw cutM
    have q : fnM 3 g__law_draw [.ref k, .int many] M = .ok (.int (v % many)) (M.set k (wl c n' (v / many) h')) := by
      simp [fnM, g__law_draw, startD, t2, hf, s1, t3, s2, md, dv]
    rw [q]
    exact cut_wf (len_same _) nx.wf rfl
  · have s2 := setW2 e (p / many)
    have nx := Nx.set (p' := p / many) (h' := h) wf e h0
    refine ⟨p % many, M.set k (wl c n (p / many) h), ?_, Int.emod_nonneg _ (by omega), Int.emod_lt_of_pos _ m0, nx⟩
    unfold m__law_draw cutM
    have q : fnM 3 g__law_draw [.ref k, .int many] M = .ok (.int (p % many)) (M.set k (wl c n (p / many) h)) := by
      simp [fnM, g__law_draw, startD, t2, hp, s2, md, dv]
    rw [q]
    exact cut_wf (len_same _) nx.wf rfl
theorem part_all {t : Int} {b : Int} (h1 : 1 ≤ b) (h2 : b ≤ 1000) (h3 : -1000000 ≤ t) (h4 : t ≤ 1000000) {M : List MO} (h : WF M) : ∃ q, m__law_part [.int t, .int b] M = .ok (fD q) M ∧ AllOk q := by
  have e : b = ((b.toNat : Nat) : Int) := by omega
  have hb0 : b.toNat ≠ 0 := by omega
  refine ⟨Rat.divInt t ((b.toNat : Nat) : Int), ?_, ?_⟩
  · conv => lhs; rw [e]
    exact part_eq hb0 (Nat.lt_of_lt_of_le (show b.toNat < 2 ^ 64 by omega) (Nat.pow_le_pow_right (by decide) (by decide))) h
  · have := divInt_sz (t := t) hb0
    refine ⟨by omega, by omega, by omega⟩
theorem lst5 : ∀ i : Int, 0 ≤ i → i < 5 → ∃ q : Rat, AllOk q ∧ ([D.tup [.int 1000000, .int 1], .tup [.int (-1000000), .int 1], .tup [.int 1, .int 1000], .tup [.int 999999, .int 1000], .tup [.int 0, .int 1]])[i.toNat]? = some (fD q) := by
  intro i h0 h5
  have h : i = 0 ∨ i = 1 ∨ i = 2 ∨ i = 3 ∨ i = 4 := by omega
  rcases h with rfl | rfl | rfl | rfl | rfl
  · exact ⟨⟨1000000, 1, by decide, by decide⟩, ⟨by decide, by decide, by decide⟩, rfl⟩
  · exact ⟨⟨-1000000, 1, by decide, by decide⟩, ⟨by decide, by decide, by decide⟩, rfl⟩
  · exact ⟨⟨1, 1000, by decide, by decide⟩, ⟨by decide, by decide, by decide⟩, rfl⟩
  · exact ⟨⟨999999, 1000, by decide, by decide⟩, ⟨by decide, by decide, by decide⟩, rfl⟩
  · exact ⟨⟨0, 1, by decide, by decide⟩, ⟨by decide, by decide, by decide⟩, rfl⟩
theorem allowance_eq {k : Nat} {c : List Int} {M : List MO} (wf : WF M) (w : W k c M) : ∃ q M', m__law_allowance [.ref k] M = .ok (fD q) M' ∧ AllOk q ∧ Nx k c M M' := by
  obtain ⟨t, M1, e1, a1, b1, n1⟩ := draw_eq wf w (many := 8) (by decide) (by decide)
  have fin : ∀ {q : Rat} {M' : List MO}, fnM 2 g__law_allowance [.ref k] M = .ok (fD q) M' → AllOk q → Nx k c M M' → ∃ q M', m__law_allowance [.ref k] M = .ok (fD q) M' ∧ AllOk q ∧ Nx k c M M' := fun {q M'} e a nx => by
    refine ⟨q, M', ?_, a, nx⟩
    unfold m__law_allowance cutM
    rw [e]
    exact cut_wf nx.len nx.wf rfl
  by_cases h0 : t = 0
  · subst h0
    obtain ⟨t2, M2, e2, a2, b2, n2⟩ := draw_eq n1.wf n1.w (many := 2000001) (by decide) (by decide)
    obtain ⟨t3, M3, e3, a3, b3, n3⟩ := draw_eq n2.wf n2.w (many := 1000) (by decide) (by decide)
    obtain ⟨q, eq, aq⟩ := part_all (t := t2 - 1000000) (b := 1 + t3) (by omega) (by omega) (by omega) (by omega) n3.wf
    exact fin (by simp [fnM, g__law_allowance, startD, e1, e2, e3, eq]) aq (n1.trans (n2.trans n3))
  · by_cases h1 : t = 1
    · subst h1
      obtain ⟨t2, M2, e2, a2, b2, n2⟩ := draw_eq n1.wf n1.w (many := 5) (by decide) (by decide)
      obtain ⟨q, aq, eq⟩ := lst5 t2 a2 b2
      have ix := oIx_L (x := .lst [D.tup [.int 1000000, .int 1], .tup [.int (-1000000), .int 1], .tup [.int 1, .int 1000], .tup [.int 999999, .int 1000], .tup [.int 0, .int 1]]) (M := M2) rfl rfl a2 eq
      exact fin (by simp [fnM, g__law_allowance, startD, e1, bigN, e2, ix]) aq (n1.trans n2)
    · obtain ⟨t2, M2, e2, a2, b2, n2⟩ := draw_eq n1.wf n1.w (many := 9) (by decide) (by decide)
      obtain ⟨t3, M3, e3, a3, b3, n3⟩ := draw_eq n2.wf n2.w (many := 6) (by decide) (by decide)
      obtain ⟨q, eq, aq⟩ := part_all (t := t2 - 2) (b := 1 + t3) (by omega) (by omega) (by omega) (by omega) n3.wf
      exact fin (by simp [fnM, g__law_allowance, startD, e1, h0, h1, e2, e3, eq]) aq (n1.trans (n2.trans n3))
end K08
set_option linter.all false
set_option maxRecDepth 100000
set_option maxHeartbeats 2000000
namespace K08
open PySem L2 KM
/-! ### the drawn machine -/
theorem los_mapD {α : Type} {f : α → D} {n : Nat} (h : ∀ x, D.lo n (f x) = true) (xs : List α) : D.los n (xs.map f) = true := by
  rw [D.los_all]
  intro d hd
  obtain ⟨x, _, rfl⟩ := List.mem_map.mp hd
  exact h x
theorem stD_lo (n : Nat) (s : Stp) : D.lo n (stD s) = true := rfl
theorem ruD_lo (n : Nat) (r : List Stp) : D.lo n (ruD r) = true := los_mapD (stD_lo n) r
theorem mcD_lo (n : Nat) (m : Mch) : D.lo n (mcD m) = true := by
  show (true && (D.los n (m.2.map ruD) && true)) = true
  rw [los_mapD (ruD_lo n)]
  rfl
/-- what a block leaves of the world below n, and its own list behind -/
structure Lv (k : Nat) (c : List Int) (M0 M : List MO) (own : List D) : Prop where
  len : M.length = M0.length + 1
  oth : ∀ j, j ≠ k → j < M0.length → M[j]? = M0[j]?
  own : M[M0.length]? = some (.lst own)
  w : W k c M
  wf : WF M
theorem Lv.nx {k : Nat} {c : List Int} {M0 M M' : List MO} {own : List D} (l : Lv k c M0 M own) (hk : k < M0.length) (n : Nx k c M M') : Lv k c M0 M' own :=
  ⟨n.len.trans l.len, fun j hj hl => (n.oth j hj).trans (l.oth j hj hl), (n.oth _ (by omega)).trans l.own, n.w, n.wf⟩
theorem Lv.app {k : Nat} {c : List Int} {M0 M : List MO} {own : List D} (l : Lv k c M0 M own) (hk : k < M0.length) {d : D} (hd : ∀ n, D.lo n d = true) (ho : ∀ x ∈ own, ∀ n, D.lo n x = true) : Lv k c M0 (M.set M0.length (.lst (own ++ [d]))) (own ++ [d]) := by
  obtain ⟨n, p, h, h0, e⟩ := l.w
  refine ⟨by rw [List.length_set]; exact l.len, fun j hj hl => by rw [List.getElem?_set_ne (by omega)]; exact l.oth j hj hl, List.getElem?_set_self (by rw [l.len]; omega), ⟨n, p, h, h0, by rw [List.getElem?_set_ne (by omega)]; exact e⟩, l.wf.set ?_⟩
  unfold MO.lo
  rw [D.los_all]
  intro x hx
  rcases List.mem_append.mp hx with hx | hx
  · exact ho x hx _
  · have : x = d := by simpa using hx
    subst this
    exact hd _
theorem Lv.cut {k : Nat} {c : List Int} {M0 M : List MO} {own : List D} (wf0 : WF M0) (l : Lv k c M0 M own) (hk : k < M0.length) : Nx k c M0 (M.take M0.length) := by
  have hl : (M.take M0.length).length = M0.length := by rw [List.length_take, l.len]; omega
  have ho : ∀ j, j ≠ k → (M.take M0.length)[j]? = M0[j]? := fun j hj => by
    rw [List.getElem?_take]
    split
    · rename_i hlt
      exact l.oth j hj hlt
    · rw [List.getElem?_eq_none (by omega)]
  obtain ⟨n, p, h, h0, e⟩ := l.w
  have hw : (M.take M0.length)[k]? = some (wl c n p h) := by rw [List.getElem?_take, if_pos hk]; exact e
  refine ⟨hl, ho, ⟨n, p, h, h0, hw⟩, ?_⟩
  unfold WF
  rw [hl]
  refine List.all_eq_true.mpr fun o hm => ?_
  obtain ⟨j, hj⟩ := List.getElem?_of_mem hm
  by_cases hjk : j = k
  · subst hjk
    rw [hw] at hj
    cases hj
    exact wl_lo _ _ _ _ _
  · rw [ho j hjk] at hj
    exact List.all_eq_true.mp wf0 o (List.mem_of_getElem? hj)
theorem cut_lv {k : Nat} {c : List Int} {M0 M : List MO} {own : List D} (wf0 : WF M0) (l : Lv k c M0 M own) (hk : k < M0.length) {d : D} (hd : D.lo M0.length d = true) : cutR M0.length (.ok d M) = .ok d (M.take M0.length) := by
  have q := l.cut wf0 hk
  have hb : (D.lo M0.length d && (M.take M0.length).all (MO.lo M0.length)) = true := by
    rw [Bool.and_eq_true]
    refine ⟨hd, ?_⟩
    have := q.wf
    unfold WF at this
    rw [q.len] at this
    exact this
  show (if (D.lo M0.length d && (M.take M0.length).all (MO.lo M0.length)) = true then R.ok d (M.take M0.length) else R.bad) = _
  rw [if_pos hb]
/-- one rule is drawn -/
theorem rule_comp {k : Nat} {c : List Int} {few : Nat} (hf : 1 ≤ few) (hf2 : few ≤ 1000) {δ : KM.Ctx} (d0 : δ[0]? = some (some (.ref k))) (d6 : δ[6]? = some (some (.int few))) (d7 : 7 < δ.length) : ∀ (n : Nat) (lo : Int) (acc : List Stp) (M : List MO), WF M → W k c M → acc.length + n ≤ 1000 → (∀ s ∈ acc, AllOk s.1 ∧ s.2 < few) →
    ∃ (r : List Stp) (M' : List MO), lcL (fun _ => True) (gtName 7) gYes (gETup (gACons (gCall m__law_allowance (gACons (gVar 0) gANil)) (gACons (gCall m__law_draw (gACons (gVar 0) (gACons (gVar 6) gANil))) gANil))) δ (rngD lo n) (acc.map stD) M = .ok (r.map stD) M' ∧ Nx k c M M' ∧ r.length = acc.length + n ∧ ∀ s ∈ r, AllOk s.1 ∧ s.2 < few
  | 0, lo, acc, M, wf, w, hl, ha => ⟨acc, M, by simp [rngD, lcL], Nx.refl wf w, rfl, ha⟩
  | n + 1, lo, acc, M, wf, w, hl, ha => by
    obtain ⟨q, M1, e1, aq, n1⟩ := allowance_eq wf w
    obtain ⟨t, M2, e2, a2, b2, n2⟩ := draw_eq n1.wf n1.w (many := (few : Int)) (by omega) (by omega)
    have et : t = ((t.toNat : Nat) : Int) := by omega
    obtain ⟨r, M', e, nx, hr, hq⟩ := rule_comp hf hf2 d0 d6 d7 n (lo + 1) (acc ++ [(q, t.toNat)]) M2 n2.wf n2.w (by simp; omega) (fun s hs => by
      rcases List.mem_append.mp hs with hs | hs
      · exact ha s hs
      · have : s = (q, t.toNat) := by simpa using hs
        subst this
        exact ⟨aq, by show t.toNat < few; omega⟩)
    refine ⟨r, M', ?_, n1.trans (n2.trans nx), by rw [hr]; simp; omega, hq⟩
    rw [rngD_succ]
    unfold lcL
    rw [if_pos trivial]
    have g0 : (δ.set 7 (some (.int lo)))[0]? = some (some (.ref k)) := by rw [List.getElem?_set_ne (by decide)]; exact d0
    have g6 : (δ.set 7 (some (.int lo)))[6]? = some (some (.int few)) := by rw [List.getElem?_set_ne (by decide)]; exact d6
    have bs : bigS (acc.map stD).length := by rw [List.length_map]; unfold bigS; omega
    have em : stD (q, t.toNat) = .tup [fD q, .int t] := by unfold stD; rw [← et]
    rw [List.map_append, List.map_cons, List.map_nil, em] at e
    simp only [s_gtName, gYes, if_true, s_gETup, s_gACons, s_gCall, s_gVar, g0, g6, s_gANil, R.bind_ok, e1, e2, bigN]
    simp only [List.length_cons, List.length_nil, Nat.reduceAdd, Nat.reduceLeDiff, if_true, if_pos bs]
    exact e
theorem rules_loop {k : Nat} {c : List Int} {M0 : List MO} (hk : k < M0.length) {size states : Nat} (h4 : size ≤ 4) (hs : 1 ≤ states) (hs2 : states ≤ 12) (x2 : Option D) : ∀ (n : Nat) (lo : Int) (rs : List (List Stp)) (M : List MO) (x5 x6 x7 : Option D), rs.length + n ≤ 1000 → (∀ r ∈ rs, RuleOk states size r) → Lv k c M0 M (rs.map ruD) →
    ∃ (rs' : List (List Stp)) (M' : List MO) (y5 y6 y7 : Option D), forL (fun _ => True) (gtName 5) (gSeq (gSet 6 (gOp oAdd (gC (.int 1)) (gCall m__law_draw (gACons (gVar 0) (gACons (gVar 3) gANil))))) (gDrop (gBM oAppend (gVar 4) (gACons (gCall oTuple (gACons (gLcG finI (giRng1 (gACons (gVar 1) gANil)) (gtName 7) gYes (gETup (gACons (gCall m__law_allowance (gACons (gVar 0) gANil)) (gACons (gCall m__law_draw (gACons (gVar 0) (gACons (gVar 6) gANil))) gANil))) [7]) gANil)) gANil))))
      (rngD lo n) [some (.ref k), some (.int size), x2, some (.int states), some (.ref M0.length), x5, x6, x7] M = .nx [some (.ref k), some (.int size), x2, some (.int states), some (.ref M0.length), y5, y6, y7] M' ∧
      Lv k c M0 M' (rs'.map ruD) ∧ rs'.length = rs.length + n ∧ ∀ r ∈ rs', RuleOk states size r
  | 0, lo, rs, M, x5, x6, x7, hl, hr, lv => ⟨rs, M, x5, x6, x7, by simp [rngD, forL], lv, rfl, hr⟩
  | n + 1, lo, rs, M, x5, x6, x7, hl, hr, lv => by
    obtain ⟨t, M1, e1, a1, b1, n1⟩ := draw_eq lv.wf lv.w (many := (states : Int)) (by omega) (by omega)
    have et : 1 + t = (((1 + t).toNat : Nat) : Int) := by omega
    obtain ⟨r, M2, e2, n2, r1, r2⟩ := rule_comp (k := k) (c := c) (few := (1 + t).toNat) (by omega) (by omega) (δ := [some (.ref k), some (.int size), x2, some (.int states), some (.ref M0.length), some (.int lo), some (.int (1 + t)), none]) rfl (by rw [← et]; rfl) (by simp) size 0 [] M1 n1.wf n1.w (by simp; omega) (by simp)
    have lv2 := lv.nx hk (n1.trans n2)
    have lv3 := lv2.app hk (d := ruD r) (fun n => ruD_lo n r) (fun x hx n => by
      obtain ⟨y, _, rfl⟩ := List.mem_map.mp hx
      exact ruD_lo n y)
    rw [← List.map_singleton, ← List.map_append] at lv3
    obtain ⟨rs', M', y5, y6, y7, e, l', q1, q2⟩ := rules_loop hk h4 hs hs2 x2 n (lo + 1) (rs ++ [r]) _ (some (.int lo)) (some (.int (1 + t))) x7 (by simp; omega) (fun x hx => by
      rcases List.mem_append.mp hx with hx | hx
      · exact hr x hx
      · have : x = r := by simpa using hx
        subst this
        refine ⟨by simpa using r1, fun s hs => ⟨(r2 s hs).1, ?_⟩⟩
        have := (r2 s hs).2
        omega) lv3
    refine ⟨rs', M', y5, y6, y7, ?_, l', by rw [q1]; simp; omega, q2⟩
    rw [rngD_succ]
    unfold forL
    rw [if_pos trivial]
    have ap := oAppend_eq lv2.own (by simp; omega) (ruD r)
    have lo1 := s_listOf_ref M1 (lv.nx hk n1).own
    have rb : rngB (size : Int) := rngB_ok (by omega) (by omega)
    rw [List.map_nil] at e2
    have er : D.tup (r.map stD) = ruD r := rfl
    rw [List.map_append, List.map_singleton] at e
    simp [e1, lo1, rb, wipeD, e2, finI, er, ap]
    simpa using e
theorem machine_eq {k : Nat} {c : List Int} {M : List MO} (wf : WF M) (w : W k c M) : ∃ m M', m__law_machine [.ref k] M = .ok (mcD m) M' ∧ MachOk m ∧ Nx k c M M' := by
  have hk : k < M.length := by
    obtain ⟨_, _, _, _, e⟩ := w
    exact (List.getElem?_eq_some_iff.mp e).1
  obtain ⟨t1, M1, e1, a1, b1, n1⟩ := draw_eq wf w (many := 3) (by decide) (by decide)
  obtain ⟨t2, M2, e2, a2, b2, n2⟩ := draw_eq n1.wf n1.w (many := 3) (by decide) (by decide)
  obtain ⟨t3, M3, e3, a3, b3, n3⟩ := draw_eq n2.wf n2.w (many := 6) (by decide) (by decide)
  obtain ⟨t4, M4, e4, a4, b4, n4⟩ := draw_eq n3.wf n3.w (many := 2) (by decide) (by decide)
  obtain ⟨t5, M5, e5, a5, b5, n5⟩ := draw_eq n4.wf n4.w (many := 5) (by decide) (by decide)
  have N := n1.trans (n2.trans (n3.trans (n4.trans n5)))
  obtain ⟨i, hi, hi3⟩ : ∃ i : Int, (∀ M', oIx (.lst [.int 0, .int 0, .int 1, .int 1, .int 2]) (.int t5) M' = .ok (.int i) M') ∧ (i = 0 ∨ i = 1 ∨ i = 2) := by
    have h : t5 = 0 ∨ t5 = 1 ∨ t5 = 2 ∨ t5 = 3 ∨ t5 = 4 := by omega
    rcases h with rfl | rfl | rfl | rfl | rfl
    · exact ⟨0, fun M' => oIx_L rfl rfl (by decide) rfl, by simp⟩
    · exact ⟨0, fun M' => oIx_L rfl rfl (by decide) rfl, by simp⟩
    · exact ⟨1, fun M' => oIx_L rfl rfl (by decide) rfl, by simp⟩
    · exact ⟨1, fun M' => oIx_L rfl rfl (by decide) rfl, by simp⟩
    · exact ⟨2, fun M' => oIx_L rfl rfl (by decide) rfl, by simp⟩
  obtain ⟨st, hst, s1, s12⟩ : ∃ s : Int, (∀ M', oIx (.lst [.int (1 + t2), .int (1 + t3), .int (12 - t4)]) (.int i) M' = .ok (.int s) M') ∧ 1 ≤ s ∧ s ≤ 12 := by
    rcases hi3 with rfl | rfl | rfl
    · exact ⟨1 + t2, fun M' => oIx_L rfl rfl (by decide) rfl, by omega, by omega⟩
    · exact ⟨1 + t3, fun M' => oIx_L rfl rfl (by decide) rfl, by omega, by omega⟩
    · exact ⟨12 - t4, fun M' => oIx_L rfl rfl (by decide) rfl, by omega, by omega⟩
  have es : st = ((st.toNat : Nat) : Int) := by omega
  have ez : 2 + t1 = (((2 + t1).toNat : Nat) : Int) := by omega
  have hk5 : k < M5.length := by rw [N.len]; exact hk
  have lv : Lv k c M5 (M5 ++ [.lst []]) (([] : List (List Stp)).map ruD) := by
    obtain ⟨n, p, h, h0, e⟩ := N.w
    exact ⟨by simp, fun j hj hl => by rw [List.getElem?_append_left hl], get_last _ _, ⟨n, p, h, h0, by rw [List.getElem?_append_left hk5]; exact e⟩, N.wf.app rfl⟩
  obtain ⟨rs, M', y5, y6, y7, e, l, q1, q2⟩ := rules_loop hk5 (size := (2 + t1).toNat) (states := st.toNat) (by omega) (by omega) (by omega) (some (.lst [.int (1 + t2), .int (1 + t3), .int (12 - t4)])) st.toNat 0 [] _ none none none (by simp; omega) (by simp) lv
  have q1' : rs.length = st.toNat := by simpa using q1
  refine ⟨((2 + t1).toNat, rs), M'.take M5.length, ?_, ⟨by show 2 ≤ (2 + t1).toNat; omega, by show (2 + t1).toNat ≤ 4; omega, by show 1 ≤ rs.length; omega, by show rs.length ≤ 12; omega, by show ∀ r ∈ rs, RuleOk rs.length (2 + t1).toNat r; rw [q1']; exact q2⟩, N.trans (l.cut N.wf hk5)⟩
  have q : fnM 8 g__law_machine [.ref k] M = .ok (mcD ((2 + t1).toNat, rs)) M' := by
    have rb : rngB st := rngB_ok (by omega) (by omega)
    have lo1 := s_listOf_ref M' l.own
    have tp : oTuple [.ref M5.length] M' = .ok (.tup (rs.map ruD)) M' := by
      unfold oTuple
      simp only [s_tupOf_ref, lo1]
    rw [← ez, ← es] at e
    unfold mcD
    rw [← ez]
    simp [fnM, g__law_machine, startD, e1, e2, e3, e4, e5, bigN, hi, hst, rb, e, tp]
  have e9 : m__law_machine [.ref k] M = cutR M.length (fnM 8 g__law_machine [.ref k] M) := rfl
  rw [e9, q, ← N.len]
  exact cut_lv N.wf l hk5 (mcD_lo _ _)
end K08
set_option linter.all false
set_option maxRecDepth 100000
set_option maxHeartbeats 4000000
namespace K08
open PySem L2 KM
/-! ### what is come to, in its order -/
theorem pigeon : ∀ (n : Nat) (l : List Nat), l.Nodup → (∀ x ∈ l, x < n) → l.length ≤ n
  | 0, l, _, h => by
    cases l with
    | nil => exact Nat.le_refl _
    | cons x xs => exact absurd (h x (List.mem_cons_self ..)) (by omega)
  | n + 1, l, nd, h => by
    have h1 := pigeon n (l.erase n) (nd.erase n) fun x hx => by
      have hx' := List.mem_of_mem_erase hx
      have := h x hx'
      have : x ≠ n := fun e => by
        subst e
        exact List.Nodup.not_mem_erase nd hx
      omega
    have : l.length ≤ (l.erase n).length + 1 := by
      rw [List.length_erase]
      split <;> omega
    omega
def bfsIn : List Nat → List Nat → List Nat
  | f, [] => f
  | f, s :: r => if s ∈ f then bfsIn f r else bfsIn (f ++ [s]) r
def bfs (nx : Nat → List Nat) : Nat → Nat → List Nat → List Nat
  | 0, _, f => f
  | n + 1, d, f => match f[d]? with
    | some s => bfs nx n (d + 1) (bfsIn f (nx s))
    | none => f
theorem bfsIn_pre : ∀ (r f : List Nat), ∃ t, bfsIn f r = f ++ t
  | [], f => ⟨[], by simp [bfsIn]⟩
  | s :: r, f => by
    unfold bfsIn
    by_cases h : s ∈ f
    · rw [if_pos h]; exact bfsIn_pre r f
    · rw [if_neg h]
      obtain ⟨t, e⟩ := bfsIn_pre r (f ++ [s])
      exact ⟨[s] ++ t, by rw [e, List.append_assoc]⟩
theorem bfsIn_mem {x : Nat} : ∀ (r f : List Nat), x ∈ bfsIn f r ↔ x ∈ f ∨ x ∈ r
  | [], f => by simp [bfsIn]
  | s :: r, f => by
    unfold bfsIn
    by_cases h : s ∈ f
    · rw [if_pos h, bfsIn_mem r f, List.mem_cons]
      constructor
      · rintro (q | q)
        · exact .inl q
        · exact .inr (.inr q)
      · rintro (q | q | q)
        · exact .inl q
        · exact .inl (q ▸ h)
        · exact .inr q
    · rw [if_neg h, bfsIn_mem r (f ++ [s])]
      simp [or_assoc]
theorem nodup_snoc {f : List Nat} {s : Nat} (nd : f.Nodup) (h : s ∉ f) : (f ++ [s]).Nodup := by
  rw [List.nodup_append]
  refine ⟨nd, by simp, fun a ha b hb e => h ?_⟩
  have : b = s := by simpa using hb
  rw [← this, ← e]
  exact ha
theorem bfsIn_nd : ∀ (r f : List Nat), f.Nodup → (bfsIn f r).Nodup
  | [], f, nd => nd
  | s :: r, f, nd => by
    unfold bfsIn
    by_cases h : s ∈ f
    · rw [if_pos h]; exact bfsIn_nd r f nd
    · rw [if_neg h]; exact bfsIn_nd r _ (nodup_snoc nd h)
structure Front (nx : Nat → List Nat) (N d : Nat) (f : List Nat) : Prop where
  nd : f.Nodup
  lt : ∀ x ∈ f, x < N
  cl : ∀ (i s : Nat), f[i]? = some s → i < d → ∀ y ∈ nx s, y ∈ f
theorem Front.next {nx : Nat → List Nat} {N d : Nat} {f : List Nat} (h : Front nx N d f) (hn : ∀ s, s < N → ∀ y ∈ nx s, y < N) {s : Nat} (hs : f[d]? = some s) : Front nx N (d + 1) (bfsIn f (nx s)) := by
  obtain ⟨t, e⟩ := bfsIn_pre (nx s) f
  refine ⟨bfsIn_nd _ _ h.nd, fun x hx => ?_, fun i z hz hi y hy => ?_⟩
  · rcases (bfsIn_mem _ _).mp hx with q | q
    · exact h.lt x q
    · exact hn s (h.lt s (List.mem_of_getElem? hs)) x q
  · have hd : d < f.length := (List.getElem?_eq_some_iff.mp hs).1
    rw [e, List.getElem?_append_left (by omega)] at hz
    by_cases c : i = d
    · subst c
      rw [hs] at hz
      cases hz
      exact (bfsIn_mem _ _).mpr (.inr hy)
    · exact (bfsIn_mem _ _).mpr (.inl (h.cl i z hz (by omega) y hy))
theorem bfs_end {nx : Nat → List Nat} {N : Nat} (hn : ∀ s, s < N → ∀ y ∈ nx s, y < N) : ∀ (n d : Nat) (f : List Nat), n + d = N → Front nx N d f → Front nx N N (bfs nx n d f) ∧ ∃ t, bfs nx n d f = f ++ t
  | 0, d, f, e, h => by
    have : d = N := by omega
    subst this
    exact ⟨h, [], by simp [bfs]⟩
  | n + 1, d, f, e, h => by
    unfold bfs
    cases hs : f[d]? with
    | none =>
      have hl : f.length ≤ d := List.getElem?_eq_none_iff.mp hs
      show Front nx N N f ∧ ∃ t, f = f ++ t
      refine ⟨⟨h.nd, h.lt, fun i s hi _ => h.cl i s hi ?_⟩, [], by simp⟩
      have := (List.getElem?_eq_some_iff.mp hi).1
      omega
    | some s =>
      obtain ⟨q, t, et⟩ := bfs_end hn n (d + 1) (bfsIn f (nx s)) (by omega) (h.next hn hs)
      obtain ⟨u, eu⟩ := bfsIn_pre (nx s) f
      exact ⟨q, u ++ t, by
        show bfs nx n (d + 1) (bfsIn f (nx s)) = _
        rw [et, eu, List.append_assoc]⟩
/-! renamed -/
theorem bfsIn_map {g : Nat → Nat} {N : Nat} (hg : ∀ x y, x < N → y < N → g x = g y → x = y) : ∀ (r f : List Nat), (∀ x ∈ f, x < N) → (∀ x ∈ r, x < N) → bfsIn (f.map g) (r.map g) = (bfsIn f r).map g
  | [], f, _, _ => rfl
  | s :: r, f, hf, hr => by
    have hs := hr s (List.mem_cons_self ..)
    have hr' : ∀ x ∈ r, x < N := fun x hx => hr x (List.mem_cons_of_mem _ hx)
    rw [List.map_cons]
    unfold bfsIn
    by_cases h : s ∈ f
    · rw [if_pos h, if_pos (List.mem_map_of_mem h)]
      exact bfsIn_map hg r f hf hr'
    · have h' : g s ∉ f.map g := fun q => by
        obtain ⟨x, hx, e⟩ := List.mem_map.mp q
        exact h (hg x s (hf x hx) hs e ▸ hx)
      rw [if_neg h, if_neg h']
      have := bfsIn_map hg r (f ++ [s]) (fun x hx => by
        rcases List.mem_append.mp hx with q | q
        · exact hf x q
        · rw [List.mem_singleton.mp q]; exact hs) hr'
      rw [← this, List.map_append]
      rfl
theorem bfs_map {g : Nat → Nat} {N : Nat} {nx nx' : Nat → List Nat} (hg : ∀ x y, x < N → y < N → g x = g y → x = y) (hn : ∀ s, s < N → ∀ y ∈ nx s, y < N) (he : ∀ s, s < N → nx' (g s) = (nx s).map g) :
    ∀ (n d : Nat) (f : List Nat), (∀ x ∈ f, x < N) → bfs nx' n d (f.map g) = (bfs nx n d f).map g
  | 0, d, f, hf => rfl
  | n + 1, d, f, hf => by
    unfold bfs
    rw [List.getElem?_map]
    cases hs : f[d]? with
    | none => rfl
    | some s =>
      have hsN := hf s (List.mem_of_getElem? hs)
      simp only [Option.map_some]
      rw [he s hsN, bfsIn_map hg _ _ hf (hn s hsN)]
      exact bfs_map hg hn he n (d + 1) _ fun x hx => by
        rcases (bfsIn_mem _ _).mp hx with q | q
        · exact hf x q
        · exact hn s hsN x q
/-! of a machine -/
def nxt (m : Mch) (s : Nat) : List Nat := (m.2.getD s []).map fun st => st.2
def come (m : Mch) : List Nat := bfs (nxt m) m.2.length 0 [0]
theorem nxt_lt {m : Mch} (a : MachOk m) (s : Nat) (hs : s < m.2.length) : ∀ y ∈ nxt m s, y < m.2.length := by
  intro y hy
  obtain ⟨st, h1, rfl⟩ := List.mem_map.mp hy
  rw [List.getD_eq_getElem?_getD, List.getElem?_eq_getElem hs, Option.getD_some] at h1
  exact ((a.ru _ (List.getElem_mem hs)).2 st h1).2
theorem front0 {m : Mch} (a : MachOk m) : Front (nxt m) m.2.length 0 [0] := ⟨by simp, fun x hx => by
  rw [List.mem_singleton.mp hx]; exact a.l1, fun i s _ h => by omega⟩
theorem come_front {m : Mch} (a : MachOk m) : Front (nxt m) m.2.length m.2.length (come m) := (bfs_end (nxt_lt a) _ 0 _ (by omega) (front0 a)).1
theorem come_zero {m : Mch} (a : MachOk m) : 0 ∈ come m := by
  obtain ⟨t, e⟩ := (bfs_end (nxt_lt a) m.2.length 0 [0] (by omega) (front0 a)).2
  unfold come
  rw [e]
  simp
theorem come_len {m : Mch} (a : MachOk m) : (come m).length ≤ m.2.length := pigeon _ _ (come_front a).nd (come_front a).lt
theorem come_step {m : Mch} (a : MachOk m) {s : Nat} (hs : s ∈ come m) {y : Nat} (hy : y ∈ nxt m s) : y ∈ come m := by
  obtain ⟨i, hi⟩ := List.getElem?_of_mem hs
  have := come_len a
  exact (come_front a).cl i s hi (by have := (List.getElem?_eq_some_iff.mp hi).1; omega) y hy
theorem stp_nxt {m : Mch} (a : MachOk m) {s l : Nat} (hs : s < m.2.length) (hl : l < m.1) : (stp m.2 s l).2 ∈ nxt m s := by
  obtain ⟨r, h1, h2, _, _⟩ := stp_at a hs hl
  unfold nxt
  rw [List.getD_eq_getElem?_getD, h1, Option.getD_some]
  exact List.mem_map_of_mem (List.mem_of_getElem? h2)
theorem come_end {m : Mch} (a : MachOk m) : ∀ (row : List Nat) (s : Nat), s ∈ come m → (∀ l ∈ row, l < m.1) → endOf m.2 s row ∈ come m
  | [], s, hs, _ => hs
  | l :: ls, s, hs, hr => by
    have hsl := (come_front a).lt s hs
    exact come_end a ls _ (come_step a hs (stp_nxt a hsl (hr l (List.mem_cons_self ..)))) fun y hy => hr y (List.mem_cons_of_mem _ hy)
end K08
set_option linter.all false
set_option maxRecDepth 100000
set_option maxHeartbeats 4000000
namespace K08
open PySem L2 KM
abbrev nD : Nat → D := fun (l : Nat) => D.int l
abbrev nI : List Nat → List Int := fun xs => xs.map fun (l : Nat) => (l : Int)
theorem flDs_ints (xs : List Nat) : flDs (xs.map nD) = some (xs.map fun (l : Nat) => V.int l) := by
  induction xs with
  | nil => rfl
  | cons x xs ih =>
    rw [List.map_cons, List.map_cons]
    unfold flDs
    rw [ih]
    rfl
theorem inV_ints (x : Nat) (xs : List Nat) : inV (.int x) (xs.map fun (l : Nat) => V.int l) = decide (x ∈ xs) := by
  unfold inV
  rw [List.any_map]
  by_cases h : x ∈ xs
  · rw [decide_eq_true h]
    exact List.any_eq_true.mpr ⟨x, h, by simp [eqV_int]⟩
  · rw [decide_eq_false h]
    rw [List.any_eq_false]
    intro y hy
    simp only [Function.comp, eqV_int]
    intro e
    apply h
    have : (y : Int) = (x : Int) := by simpa using e
    have : y = x := by omega
    rw [← this]
    exact hy
theorem flat_all (xs : List Nat) : (flatV (V.int (0 : Int)) && (xs.map fun (l : Nat) => V.int l).all flatV) = true := by
  rw [Bool.and_eq_true]
  refine ⟨rfl, ?_⟩
  rw [List.all_map]
  exact List.all_eq_true.mpr fun _ _ => rfl
theorem notIn_L {x : Nat} {y : D} {xs : List Nat} {M : List MO} (ht : tupOf y = none) (hl : KM.listOf M y = some (xs.map nD)) : oNotIn (.int x) y M = .ok (.bl (!decide (x ∈ xs))) M := by
  have fl : (flatV (V.int (x : Int)) && (xs.map fun (l : Nat) => V.int l).all flatV) = true := flat_all xs
  unfold oNotIn inD
  simp only [flD, ht, hl, flDs_ints]
  rw [if_pos fl, inV_ints]
theorem notIn_T {x : Nat} {xs : List Nat} {M : List MO} : oNotIn (.int x) (.tup (xs.map nD)) M = .ok (.bl (!decide (x ∈ xs))) M := by
  have fl : (flatV (V.int (x : Int)) && (xs.map fun (l : Nat) => V.int l).all flatV) = true := flat_all xs
  unfold oNotIn inD
  simp only [flD, s_tupOf, flDs_ints]
  rw [if_pos fl, inV_ints]
theorem intsD_nats : ∀ xs : List Nat, intsD (xs.map nD) = some (nI xs)
  | [] => rfl
  | x :: xs => by
    rw [List.map_cons]
    unfold intsD
    rw [intsD_nats xs]
    rfl
theorem intsD_lst (xs : List Int) : intsD (xs.map D.int) = some xs := by
  induction xs with
  | nil => rfl
  | cons x xs ih =>
    rw [List.map_cons]
    unfold intsD
    rw [ih]
    rfl
/-- naturals, ascending -/
def srtN (xs : List Nat) : List Nat := (srtI (nI xs)).map Int.toNat
theorem srtN_eq (xs : List Nat) : srtI (nI xs) = nI (srtN xs) := by
  unfold srtN
  show _ = List.map _ (List.map _ _)
  rw [List.map_map]
  conv => lhs; rw [← List.map_id (srtI _)]
  refine List.map_congr_left fun x hx => ?_
  obtain ⟨y, _, rfl⟩ := List.mem_map.mp ((srtI_perm _).mem_iff.mp hx)
  simp
theorem srtN_perm (xs : List Nat) : (srtN xs).Perm xs := by
  have h := (srtI_perm (nI xs)).map Int.toNat
  have e : (nI xs).map Int.toNat = xs := by
    rw [List.map_map]
    conv => rhs; rw [← List.map_id xs]
    exact List.map_congr_left fun x _ => by simp
  rw [e] at h
  exact h
theorem srtI_same {xs ys : List Int} (h : xs.Perm ys) : srtI xs = srtI ys :=
  List.Perm.eq_of_pairwise (le := (· ≤ ·)) (fun a b _ _ h1 h2 => Int.le_antisymm h1 h2) (srtI_sorted xs) (srtI_sorted ys) ((srtI_perm xs).trans (h.trans (srtI_perm ys).symm))
theorem nI_D (xs : List Nat) : (nI xs).map D.int = xs.map nD := by
  rw [List.map_map]
  rfl
/-! come_to -/
abbrev nxD (m : Mch) : D := .lst (m.2.map fun r => .lst (r.map fun st => nD st.2))
noncomputable abbrev bIn : GS := gIf (gTest (gOp oNotIn (gVar 5) (gVar 2))) (gDrop (gBM oAppend (gVar 2) (gACons (gVar 5) (gANil)))) (gNext)
noncomputable abbrev bC : GB := gTest (gOp oLt (gVar 3) (gCall oLen (gACons (gVar 2) (gANil))))
noncomputable abbrev bB : GS := gSeq (gSet 4 (gOp oIx (gVar 0) (gOp oIx (gVar 2) (gVar 3))))
    (gSeq (gFor (giSeq (gVar 4)) (gtName 5) bIn)
    (gAug 3 oAddI (gC (.int 1))))
theorem in_loop (x0 x1 x3 x4 : Option D) {M : List MO} : ∀ (r f : List Nat) (x5 : Option D), f.length + r.length < 100000 →
    ∃ y5, forL (fun _ => True) (gtName 5) bIn (r.map nD) [x0, x1, some (.ref M.length), x3, x4, x5] (M ++ [.lst (f.map nD)]) = .nx [x0, x1, some (.ref M.length), x3, x4, y5] (M ++ [.lst ((bfsIn f r).map nD)])
  | [], f, x5, _ => ⟨x5, by simp [forL, bfsIn]⟩
  | s :: r, f, x5, hl => by
    have lo := s_listOf_ref (M ++ [.lst (f.map nD)]) (get_last M _)
    have ni := notIn_L (x := s) (y := .ref M.length) (xs := f) (M := M ++ [.lst (f.map nD)]) rfl lo
    rw [List.length_cons] at hl
    rw [List.map_cons]
    unfold bfsIn
    by_cases hin : s ∈ f
    · obtain ⟨y5, e⟩ := in_loop x0 x1 x3 x4 (M := M) r f (some (nD s)) (by omega)
      rw [decide_eq_true hin] at ni
      refine ⟨y5, ?_⟩
      rw [if_pos hin]
      unfold forL
      rw [if_pos trivial]
      simp [ni]
      simpa using e
    · obtain ⟨y5, e⟩ := in_loop x0 x1 x3 x4 (M := M) r (f ++ [s]) (some (nD s)) (by simp; omega)
      rw [decide_eq_false hin] at ni
      have ap := oAppend_eq (M := M ++ [.lst (f.map nD)]) (k := M.length) (get_last M _) (by simp; omega) (nD s)
      rw [put_last] at ap
      refine ⟨y5, ?_⟩
      rw [if_neg hin]
      unfold forL
      rw [if_pos trivial]
      rw [List.map_append, List.map_singleton] at e
      simp [ni, ap, lo]
      simpa using e
theorem come_loop {m : Mch} (a : MachOk m) (x1 : Option D) {M : List MO} : ∀ (n d fl : Nat) (f : List Nat) (x4 x5 : Option D), n + d = m.2.length → n < fl → Front (nxt m) m.2.length d f →
    ∃ δ', whileL bC bB fl [some (nxD m), x1, some (.ref M.length), some (.int (d : Int)), x4, x5] (M ++ [.lst (f.map nD)]) = .nx δ' (M ++ [.lst ((bfs (nxt m) n d f).map nD)]) ∧ δ'[2]? = some (some (.ref M.length))
  | n, d, 0, f, x4, x5, h1, h2, _ => by omega
  | n, d, fl + 1, f, x4, x5, h1, h2, hf => by
    have lo := s_listOf_ref (M ++ [.lst (f.map nD)]) (get_last M _)
    have lf := pigeon m.2.length f hf.nd hf.lt
    have l12 := a.l12
    have ln : oLen [.ref M.length] (M ++ [.lst (f.map nD)]) = .ok (.int (f.length : Int)) (M ++ [.lst (f.map nD)]) := by
      unfold oLen
      simp only [s_tupOf_ref, lo, List.length_map]
    by_cases hd : d < f.length
    · cases n with
      | zero => omega
      | succ n =>
        have hs : f[d]? = some f[d] := List.getElem?_eq_getElem hd
        have hsN := hf.lt f[d] (List.getElem_mem hd)
        have hr : m.2[f[d]]? = some m.2[f[d]] := List.getElem?_eq_getElem hsN
        have en : nxt m f[d] = m.2[f[d]].map fun st => st.2 := by
          unfold nxt
          rw [List.getD_eq_getElem?_getD, hr, Option.getD_some]
        have ro := a.ru _ (List.getElem_mem hsN)
        have hlen : (nxt m f[d]).length ≤ 4 := by
          rw [en, List.length_map, ro.1]; exact a.s4
        obtain ⟨y5, e⟩ := in_loop (some (nxD m)) x1 (some (.int (d : Int))) (some (.lst ((nxt m f[d]).map nD))) (M := M) (nxt m f[d]) f x5 (by omega)
        obtain ⟨δ', e', q⟩ := come_loop a x1 (M := M) n (d + 1) fl (bfsIn f (nxt m f[d])) (some (.lst ((nxt m f[d]).map nD))) y5 (by omega) (by omega) (hf.next (nxt_lt a) hs)
        refine ⟨δ', ?_, q⟩
        have eb : bfs (nxt m) (n + 1) d f = bfs (nxt m) n (d + 1) (bfsIn f (nxt m f[d])) := by
          rw [bfs, hs]
        rw [eb]
        unfold whileL
        have lt : oLt (.int (d : Int)) (.int (f.length : Int)) (M ++ [.lst (f.map nD)]) = .ok (.bl true) (M ++ [.lst (f.map nD)]) := by
          simp; omega
        have i1 : oIx (.ref M.length) (.int (d : Int)) (M ++ [.lst (f.map nD)]) = .ok (nD f[d]) (M ++ [.lst (f.map nD)]) := oIx_L (xs := f.map nD) rfl lo (by omega) (by rw [Int.toNat_natCast, List.getElem?_map, hs]; rfl)
        have i2 : oIx (nxD m) (nD f[d]) (M ++ [.lst (f.map nD)]) = .ok (.lst ((nxt m f[d]).map nD)) (M ++ [.lst (f.map nD)]) := oIx_L (xs := m.2.map fun r => .lst (r.map fun st => nD st.2)) rfl rfl (by show (0 : Int) ≤ (f[d] : Nat); omega) (by
          show (m.2.map fun r => D.lst (r.map fun st => nD st.2))[(((f[d] : Nat) : Int)).toNat]? = _
          rw [Int.toNat_natCast, List.getElem?_map, hr, en, List.map_map]; rfl)
        have tn : tupOf (.lst ((nxt m f[d]).map nD)) = none := rfl
        have ln2 : KM.listOf (M ++ [.lst (f.map nD)]) (.lst ((nxt m f[d]).map nD)) = some ((nxt m f[d]).map nD) := rfl
        have gd : gdOf (.lst ((nxt m f[d]).map nD)) ((nxt m f[d]).map nD) = fun _ => True := rfl
        have ek : ((d + 1 : Nat) : Int) = (d : Int) + 1 := by omega
        rw [ek] at e'
        simp [ln, lt, i1, i2, gd, e, gAug, oAddI]
        exact e'
    · refine ⟨[some (nxD m), x1, some (.ref M.length), some (.int (d : Int)), x4, x5], ?_, rfl⟩
      have eb : bfs (nxt m) n d f = f := by
        cases n with
        | zero => rfl
        | succ n =>
          rw [bfs, List.getElem?_eq_none_iff.mpr (by omega)]
      rw [eb]
      unfold whileL
      have lt : oLt (.int (d : Int)) (.int (f.length : Int)) (M ++ [.lst (f.map nD)]) = .ok (.bl false) (M ++ [.lst (f.map nD)]) := by
        simp; omega
      simp [ln, lt]
theorem come_to_eq {m : Mch} (a : MachOk m) {M : List MO} (h : WF M) : m_come_to [nxD m, .int 0] M = .ok (.tup ((srtN (come m)).map nD)) M := by
  obtain ⟨δ', e, q⟩ := come_loop a (some (.int 0)) (M := M) m.2.length 0 fuel [0] none none (by omega) (by have := a.l12; unfold fuel; omega) (front0 a)
  have e' : whileL bC bB fuel [some (nxD m), some (.int 0), some (.ref M.length), some (.int 0), none, none] (M ++ [.lst [.int 0]]) = .nx δ' (M ++ [.lst ((come m).map nD)]) := e
  have lo := s_listOf_ref (M ++ [.lst ((come m).map nD)]) (get_last M _)
  have so : oSorted [.ref M.length] (M ++ [.lst ((come m).map nD)]) = .ok (.lst ((srtN (come m)).map nD)) (M ++ [.lst ((come m).map nD)]) := by
    unfold oSorted
    simp only [lo, intsD_nats, srtN_eq, nI_D]
  have tp : oTuple [.lst ((srtN (come m)).map nD)] (M ++ [.lst ((come m).map nD)]) = .ok (.tup ((srtN (come m)).map nD)) (M ++ [.lst ((come m).map nD)]) := rfl
  have q : fnM 6 g_come_to [nxD m, .int 0] M = .ok (.tup ((srtN (come m)).map nD)) (M ++ [.lst ((come m).map nD)]) := by
    simp [fnM, g_come_to, startD, bigN, gWhile, e', q, so, tp]
  have e9 : m_come_to [nxD m, .int 0] M = cutR M.length (fnM 6 g_come_to [nxD m, .int 0] M) := rfl
  rw [e9, q]
  exact cut_to rfl h (los_mapD (fun _ => rfl) _) (by simp)
theorem reached_come {m : Mch} (a : MachOk m) {M : List MO} (h : WF M) : m_reached [mcD m] M = .ok (.tup ((srtN (come m)).map nD)) M := by
  have im := is_machine_ok (M := M) h a
  have i1 : oIx (mcD m) (.int 1) M = .ok (.tup (m.2.map ruD)) M := s_ixT M (n := 1) rfl
  have hin : ∀ r ∈ m.2, lcL (fun _ => True) (gtTup 2 (gtCons (gtName 1) (gtCons (gtName 2) (gtNil)))) gYes (gVar 2) [some (mcD m), none, none, some (ruD r)] (r.map stD) [] M = .ok (r.map fun st => nD st.2) M := fun r hr => by
    have := lcL_map (gd := fun _ => True) (gg := gtTup 2 (gtCons (gtName 1) (gtCons (gtName 2) (gtNil)))) (ge := gVar 2) (δ := [some (mcD m), none, none, some (ruD r)]) (M := M) (em := stD) (f := fun st => nD st.2) trivial r [] (by rw [(a.ru r hr).1]; have := a.s4; simp; omega) (fun st _ => ⟨[some (mcD m), some (fD st.1), some (nD st.2), some (ruD r)], rfl, rfl⟩)
    rw [this]; rfl
  have hout := lcL_map (gd := fun _ => True) (gg := gtName 3) (ge := gLcG finI (giSeq (gVar 3)) (gtTup 2 (gtCons (gtName 1) (gtCons (gtName 2) (gtNil)))) (gYes) (gVar 2) [1, 2]) (δ := [some (mcD m), none, none, none]) (M := M) (em := ruD) (f := fun r => .lst (r.map fun st => nD st.2)) trivial m.2 [] (by have := a.l12; simp; omega) (fun r hr => ⟨[some (mcD m), none, none, some (ruD r)], rfl, by
    have tr : tupOf (ruD r) = some (r.map stD) := rfl
    have := hin r hr
    simp [tr, wipeD, this, finI]⟩)
  rw [List.nil_append] at hout
  have ct := come_to_eq a h
  have q : fnM 4 g_reached [mcD m] M = .ok (.tup ((srtN (come m)).map nD)) M := by
    simp [fnM, g_reached, startD, im, i1, wipeD, hout, finI, ct]
  have e9 : m_reached [mcD m] M = cutR M.length (fnM 4 g_reached [mcD m] M) := rfl
  rw [e9, q]
  exact cut_same h (los_mapD (fun _ => rfl) _)
end K08
set_option linter.all false
set_option maxRecDepth 100000
set_option maxHeartbeats 4000000
namespace K08
open PySem L2 KM
theorem inD_of {x : Nat} {y : D} {xs : List Nat} {M : List MO} (ht : tupOf y = none) (hl : KM.listOf M y = some (xs.map nD)) : inD (.int x) y M = some (decide (x ∈ xs)) := by
  unfold inD
  have fl : (flatV (V.int (x : Int)) && (xs.map fun (l : Nat) => V.int l).all flatV) = true := flat_all xs
  simp only [flD, ht, hl, flDs_ints]
  rw [if_pos fl, inV_ints]
theorem oIn_of {x : Nat} {y : D} {xs : List Nat} {M : List MO} (ht : tupOf y = none) (hl : KM.listOf M y = some (xs.map nD)) : oIn (.int x) y M = .ok (.bl (decide (x ∈ xs))) M := by
  unfold oIn
  rw [inD_of ht hl]
theorem oNotIn_of {x : Nat} {y : D} {xs : List Nat} {M : List MO} (ht : tupOf y = none) (hl : KM.listOf M y = some (xs.map nD)) : oNotIn (.int x) y M = .ok (.bl (!decide (x ∈ xs))) M := notIn_L ht hl
/-! ### what is reached lies in each closed set -/
def Closed (m : Mch) (S : Nat → Prop) : Prop := ∀ s r, S s → m.2[s]? = some r → ∀ st ∈ r, S st.2
theorem bfs_sub {nx : Nat → List Nat} {N : Nat} {S : Nat → Prop} (hS : ∀ s, S s → s < N → ∀ y ∈ nx s, S y ∧ y < N) : ∀ (n d : Nat) (f : List Nat), (∀ x ∈ f, S x ∧ x < N) → ∀ x ∈ bfs nx n d f, S x ∧ x < N
  | 0, d, f, h => h
  | n + 1, d, f, h => by
    unfold bfs
    cases hs : f[d]? with
    | none => exact h
    | some s =>
      have hm := h s (List.mem_of_getElem? hs)
      refine bfs_sub hS n (d + 1) _ fun x hx => ?_
      rcases (bfsIn_mem _ _).mp hx with q | q
      · exact h x q
      · exact hS s hm.1 hm.2 x q
theorem reached_eq {m : Mch} (a : MachOk m) {S : Nat → Prop} (hc : Closed m S) (h0 : S 0) {M : List MO} (h : WF M) : ∃ xs : List Nat, m_reached [mcD m] M = .ok (.tup (xs.map nD)) M ∧ xs.length ≤ 12 ∧ ∀ s ∈ xs, S s := by
  refine ⟨srtN (come m), reached_come a h, ?_, fun s hs => ?_⟩
  · rw [(srtN_perm _).length_eq]
    have := come_len a
    have := a.l12
    omega
  · have hs' := (srtN_perm _).mem_iff.mp hs
    refine (bfs_sub (nx := nxt m) (N := m.2.length) (S := S) (fun x hx hl y hy => ?_) m.2.length 0 [0] (fun x hx => by
      rw [List.mem_singleton.mp hx]
      exact ⟨h0, a.l1⟩) s hs').1
    refine ⟨?_, nxt_lt a x hl y hy⟩
    obtain ⟨st, h1, rfl⟩ := List.mem_map.mp hy
    rw [List.getD_eq_getElem?_getD, List.getElem?_eq_getElem hl, Option.getD_some] at h1
    exact hc x _ hx (List.getElem?_eq_getElem hl) st h1
end K08
set_option linter.all false
set_option maxRecDepth 100000
set_option maxHeartbeats 4000000
namespace K08
open PySem L2 KM
/-! ### lists told by draws -/
theorem comp_ind {i : Nat} {ge : GE} {δ : KM.Ctx} (J : List MO → Prop) (Pd : D → Prop) (hg : ∀ x M, J M → ∃ d M', ge (δ.set i (some x)) M = .ok d M' ∧ Pd d ∧ J M') : ∀ (n : Nat) (lo : Int) (acc : List D) (M : List MO), J M → acc.length + n ≤ 1000 → (∀ d ∈ acc, Pd d) →
    ∃ (ds : List D) (M' : List MO), lcL (fun _ => True) (gtName i) gYes ge δ (rngD lo n) acc M = .ok ds M' ∧ J M' ∧ ds.length = acc.length + n ∧ ∀ d ∈ ds, Pd d
  | 0, lo, acc, M, j, hl, ha => ⟨acc, M, by simp [rngD, lcL], j, rfl, ha⟩
  | n + 1, lo, acc, M, j, hl, ha => by
    obtain ⟨d, M2, e2, p2, j2⟩ := hg (.int lo) M j
    obtain ⟨ds, M', e, j', hn, hq⟩ := comp_ind J Pd hg n (lo + 1) (acc ++ [d]) M2 j2 (by simp; omega) (fun s hs => by
      rcases List.mem_append.mp hs with hs | hs
      · exact ha s hs
      · have : s = d := by simpa using hs
        subst this
        exact p2)
    refine ⟨ds, M', ?_, j', by rw [hn]; simp; omega, hq⟩
    rw [rngD_succ]
    unfold lcL
    rw [if_pos trivial]
    have bs : bigS acc.length := by unfold bigS; omega
    simp only [s_gtName, gYes, if_true, e2, if_pos bs]
    exact e
theorem choose_map {α : Type} {f : α → D} {Q : α → Prop} : ∀ ds : List D, (∀ d ∈ ds, ∃ a, d = f a ∧ Q a) → ∃ xs : List α, ds = xs.map f ∧ ∀ x ∈ xs, Q x
  | [], _ => ⟨[], rfl, by simp⟩
  | d :: ds, h => by
    obtain ⟨a, rfl, qa⟩ := h d (List.mem_cons_self ..)
    obtain ⟨xs, rfl, q⟩ := choose_map ds fun d hd => h d (List.mem_cons_of_mem _ hd)
    exact ⟨a :: xs, rfl, fun x hx => by
      rcases List.mem_cons.mp hx with e | hx
      · subst e; exact qa
      · exact q x hx⟩
/-! ### a machine of few states -/
def cutS (n : Nat) (s : Stp) : Stp := (s.1, min s.2 (n - 1))
def few (m : Mch) : Nat := min 6 m.2.length
def cutM' (m : Mch) : Mch := (m.1, (m.2.take (few m)).map (List.map (cutS (few m))))
theorem cutM_ok {m : Mch} (a : MachOk m) : MachOk (cutM' m) ∧ (cutM' m).2.length ≤ 6 := by
  have h1 := a.l1
  have hl : (cutM' m).2.length = few m := by
    unfold cutM' few
    rw [List.length_map, List.length_take]
    omega
  have hf : 1 ≤ few m ∧ few m ≤ 6 := by unfold few; omega
  refine ⟨⟨a.s2, a.s4, by rw [hl]; omega, by rw [hl]; omega, ?_⟩, by rw [hl]; omega⟩
  rw [hl]
  intro r hr
  obtain ⟨r0, hr0, rfl⟩ := List.mem_map.mp hr
  have q := a.ru r0 (List.mem_of_mem_take hr0)
  refine ⟨by rw [List.length_map]; exact q.1, fun s hs => ?_⟩
  obtain ⟨s0, hs0, rfl⟩ := List.mem_map.mp hs
  exact ⟨(q.2 s0 hs0).1, by show min s0.2 (few m - 1) < few m; omega⟩
theorem min2 (x y : Nat) (M : List MO) : oMin2 [.int (x : Int), .int (y : Int)] M = .ok (.int ((min x y : Nat) : Int)) M := by
  show R.ok (D.int (if (y : Int) < x then (y : Int) else x)) M = _
  congr 2
  split <;> omega
theorem some_loop {m : Mch} (a : MachOk m) (x0 x1 : Option D) {M : List MO} : ∀ (n done : Nat) (x5 x6 : Option D) (found : List (List Stp)), n + done = few m → found = (m.2.take done).map (List.map (cutS (few m))) →
    ∃ (y5 y6 : Option D), forL (fun _ => True) (gtName 5) (gDrop (gBM oAppend (gVar 4) (gACons (gCall oTuple (gACons (gLcG finI (giSeq (gOp oIx (gVar 2) (gVar 5))) (gtName 6) (gYes) (gETup (gACons (gOp oIx (gVar 6) (gC (.int 0))) (gACons (gCall oMin2 (gACons (gOp oIx (gVar 6) (gC (.int 1))) (gACons (gOp oSub (gVar 3) (gC (.int 1))) (gANil)))) (gANil)))) [6]) (gANil))) (gANil))))
      (rngD (done : Int) n) [x0, x1, some (.tup (m.2.map ruD)), some (.int (few m : Nat)), some (.ref M.length), x5, x6] (M ++ [.lst (found.map ruD)]) =
      .nx [x0, x1, some (.tup (m.2.map ruD)), some (.int (few m : Nat)), some (.ref M.length), y5, y6] (M ++ [.lst ((cutM' m).2.map ruD)])
  | 0, done, x5, x6, found, h, hfo => ⟨x5, x6, by
    have : done = few m := by omega
    subst this
    have : (cutM' m).2 = found := hfo.symm
    rw [this]
    simp [rngD, forL]⟩
  | n + 1, done, x5, x6, found, h, hfo => by
    have h12 := a.l12
    have hf : 1 ≤ few m ∧ few m ≤ 6 ∧ few m ≤ m.2.length := by have := a.l1; unfold few; omega
    have hd : done < m.2.length := by omega
    have hr : m.2[done]? = some m.2[done] := List.getElem?_eq_getElem hd
    have ro := a.ru _ (List.getElem_mem hd)
    have et : m.2.take (done + 1) = m.2.take done ++ [m.2[done]] := by rw [List.take_succ, hr]; rfl
    have lfo : found.length ≤ 12 := by rw [hfo, List.length_map, List.length_take]; omega
    obtain ⟨y5, y6, e⟩ := some_loop a x0 x1 (M := M) n (done + 1) (some (.int (done : Int))) x6 (found ++ [m.2[done].map (cutS (few m))]) (by omega) (by rw [et, List.map_append, hfo]; rfl)
    refine ⟨y5, y6, ?_⟩
    clear hfo
    rw [rngD_succ]
    unfold forL
    rw [if_pos trivial]
    have i1 := ixT_map (f := ruD) hr
    have tr : tupOf (ruD m.2[done]) = some (m.2[done].map stD) := rfl
    have i2 : ∀ (s : Stp) M', oIx (stD s) (.int 0) M' = .ok (fD s.1) M' := fun s M' => s_ixT M' (n := 0) rfl
    have i3 : ∀ (s : Stp) M', oIx (stD s) (.int 1) M' = .ok (.int s.2) M' := fun s M' => s_ixT M' (n := 1) rfl
    have ef : ((few m : Nat) : Int) - 1 = ((few m - 1 : Nat) : Int) := by omega
    have lm : lcL (fun _ => True) (gtName 6) gYes (gETup (gACons (gOp oIx (gVar 6) (gC (.int 0))) (gACons (gCall oMin2 (gACons (gOp oIx (gVar 6) (gC (.int 1))) (gACons (gOp oSub (gVar 3) (gC (.int 1))) (gANil)))) (gANil)))) [x0, x1, some (.tup (m.2.map ruD)), some (.int (few m : Nat)), some (.ref M.length), some (.int (done : Int)), none] (m.2[done].map stD) [] (M ++ [.lst (found.map ruD)]) = .ok ([] ++ m.2[done].map fun s => stD (cutS (few m) s)) (M ++ [.lst (found.map ruD)]) := by
      refine lcL_map trivial _ [] (by simp; have := ro.1; have := a.s4; omega) fun s hs => ⟨_, rfl, ?_⟩
      simp [i2, i3, ef, min2, bigN]
      rfl
    rw [List.nil_append] at lm
    have ap := oAppend_eq (M := M ++ [.lst (found.map ruD)]) (k := M.length) (get_last M _) (by simp; omega) (ruD (m.2[done].map (cutS (few m))))
    rw [put_last] at ap
    have lo := s_listOf_ref (M ++ [.lst (found.map ruD)]) (get_last M _)
    have tp : ∀ M', oTuple [.lst (m.2[done].map fun s => stD (cutS (few m) s))] M' = .ok (ruD (m.2[done].map (cutS (few m)))) M' := fun M' => by
      unfold ruD
      rw [List.map_map]
      rfl
    rw [show ((done + 1 : Nat) : Int) = (done : Int) + 1 by omega, List.map_append, List.map_singleton] at e
    generalize List.map (cutS (few m)) m.2[done] = rr at e ap tp
    simp [i1, tr, wipeD, lm, finI, tp, ap, lo]
    simpa using e
theorem some_eq {k : Nat} {c : List Int} {M : List MO} (wf : WF M) (w : W k c M) : ∃ m M', m__law_some [.ref k] M = .ok (mcD m) M' ∧ MachOk m ∧ m.2.length ≤ 6 ∧ Nx k c M M' := by
  obtain ⟨m, M1, e1, a, nx⟩ := machine_eq wf w
  have hok := cutM_ok a
  obtain ⟨y5, y6, e⟩ := some_loop a (some (.ref k)) (some (.int (m.1 : Nat))) (M := M1) (few m) 0 none none [] (by omega) (by simp)
  refine ⟨cutM' m, M1, ?_, hok.1, hok.2, nx⟩
  have hf : few m ≤ 6 := by unfold few; omega
  have q : fnM 7 g__law_some [.ref k] M = .ok (mcD (cutM' m)) (M1 ++ [.lst ((cutM' m).2.map ruD)]) := by
    have ln : ∀ M', oLen [.tup (m.2.map ruD)] M' = .ok (.int (m.2.length : Int)) M' := fun M' => by
      show R.ok (D.int ((m.2.map ruD).length : Int)) M' = _
      rw [List.length_map]
    have mn : ∀ M', oMin2 [.int 6, .int (m.2.length : Int)] M' = .ok (.int (few m : Nat)) M' := fun M' => min2 6 m.2.length M'
    have rb : rngB ((few m : Nat) : Int) := rngB_ok (by omega) (by omega)
    have lo := s_listOf_ref (M1 ++ [.lst ((cutM' m).2.map ruD)]) (get_last M1 _)
    have tp : oTuple [.ref M1.length] (M1 ++ [.lst ((cutM' m).2.map ruD)]) = .ok (.tup ((cutM' m).2.map ruD)) (M1 ++ [.lst ((cutM' m).2.map ruD)]) := by
      unfold oTuple
      simp only [s_tupOf_ref, lo]
    have em : mcD m = .tup [.int (m.1 : Nat), .tup (m.2.map ruD)] := rfl
    have em2 : mcD (cutM' m) = .tup [.int (m.1 : Nat), .tup ((cutM' m).2.map ruD)] := rfl
    rw [em] at e1
    rw [em2]
    rw [show ((0 : Nat) : Int) = 0 from rfl] at e
    simp only [List.map_nil] at e
    generalize (cutM' m).2 = f2 at e tp lo
    simp [fnM, g__law_some, startD, e1, ln, mn, bigN, rb, e, tp]
  have e9 : m__law_some [.ref k] M = cutR M.length (fnM 7 g__law_some [.ref k] M) := rfl
  rw [e9, q]
  exact cut_to nx.len nx.wf (mcD_lo _ _) (by rw [← nx.len]; simp)
end K08
set_option linter.all false
set_option maxRecDepth 100000
set_option maxHeartbeats 4000000
namespace K08
open PySem L2 KM
/-! ### states named anew -/
def nm (ps : List Int) (s : Nat) : Nat := s + (ps.filter fun p => decide (p ≤ (s : Int))).length
theorem nm_zero {ps : List Int} (h : ∀ p ∈ ps, 1 ≤ p) : nm ps 0 = 0 := by
  unfold nm
  have : (ps.filter fun p => decide (p ≤ ((0 : Nat) : Int))) = [] := List.filter_eq_nil_iff.mpr fun p hp => by
    have := h p hp
    simp
    omega
  rw [this]
  rfl
theorem nm_lt {ps : List Int} {s t : Nat} (h : s < t) : nm ps s < nm ps t := by
  unfold nm
  have : (ps.filter fun p => decide (p ≤ (s : Int))).length ≤ (ps.filter fun p => decide (p ≤ (t : Int))).length := by
    rw [← List.countP_eq_length_filter, ← List.countP_eq_length_filter]
    refine List.countP_mono_left fun p _ hp => ?_
    simp only [decide_eq_true_eq] at hp ⊢
    omega
  omega
theorem nm_le (ps : List Int) (s : Nat) : nm ps s ≤ s + ps.length := by
  unfold nm
  have := List.length_filter_le (fun p => decide (p ≤ (s : Int))) ps
  omega
theorem nm_ne {ps : List Int} {s t : Nat} (h : s ≠ t) : nm ps s ≠ nm ps t := by
  rcases Nat.lt_or_gt_of_ne h with h | h
  · have := nm_lt (ps := ps) h; omega
  · have := nm_lt (ps := ps) h; omega
theorem filt {s : Nat} {δ : KM.Ctx} (h9 : δ[9]? = some (some (.int (s : Int)))) (h8 : 8 < δ.length) {M : List MO} : ∀ (ps : List Int) (acc : List D), acc.length + ps.length ≤ 1000 → lcL (fun _ => True) (gtName 8) (gTest (gOp oLe (gVar 8) (gVar 9))) (gVar 8) δ (ps.map D.int) acc M = .ok (acc ++ (ps.filter fun p => decide (p ≤ (s : Int))).map D.int) M
  | [], acc, _ => by simp [lcL]
  | p :: ps, acc, hl => by
    rw [List.length_cons] at hl
    rw [List.map_cons]
    unfold lcL
    rw [if_pos trivial]
    have g9 : (δ.set 8 (some (.int p)))[9]? = some (some (.int (s : Int))) := by rw [List.getElem?_set_ne (by decide)]; exact h9
    have g8 : (δ.set 8 (some (.int p)))[8]? = some (some (.int p)) := List.getElem?_set_self h8
    have bs : bigS acc.length := by unfold bigS; omega
    by_cases hp : p ≤ (s : Int)
    · have e := filt h9 h8 (M := M) ps (acc ++ [.int p]) (by simp; omega)
      simp [g9, g8, hp, bs]
      simpa using e
    · have e := filt h9 h8 (M := M) ps acc (by omega)
      simp [g9, g8, hp]
      simpa using e
def oD : Option (List Stp) → D
  | none => .non
  | some r => ruD r
theorem oD_lo (n : Nat) (o : Option (List Stp)) : D.lo n (oD o) = true := by
  cases o with
  | none => rfl
  | some r => exact ruD_lo n r
theorem Lv.put {k : Nat} {c : List Int} {M0 M : List MO} {own own' : List D} (l : Lv k c M0 M own) (hk : k < M0.length) (ho : ∀ x ∈ own', ∀ n, D.lo n x = true) : Lv k c M0 (M.set M0.length (.lst own')) own' := by
  obtain ⟨n, p, h, h0, e⟩ := l.w
  refine ⟨by rw [List.length_set]; exact l.len, fun j hj hl => by rw [List.getElem?_set_ne (by omega)]; exact l.oth j hj hl, List.getElem?_set_self (by rw [l.len]; omega), ⟨n, p, h, h0, by rw [List.getElem?_set_ne (by omega)]; exact e⟩, l.wf.set ?_⟩
  unfold MO.lo
  rw [D.los_all]
  exact fun x hx => ho x hx _
theorem setL {M : List MO} {k : Nat} {xs : List D} (h : M[k]? = some (.lst xs)) {j : Nat} (hj : j < xs.length) (v : D) : oSetL (.ref k) (.int (j : Int)) v M = some (M.set k (.lst (xs.set j v))) := by
  unfold oSetL
  simp only [h]
  have : ixN xs.length (j : Int) = some j := by
    unfold ixN
    simp
    omega
  rw [this]
def ren (ps : List Int) (s : Stp) : Stp := (s.1, nm ps s.2)
def mr (ps : List Int) (m : Mch) (j : Nat) : List Stp := (m.2.getD j []).map (ren ps)
structure P1 (ps : List Int) (m : Mch) (L done : Nat) (F : List (Option (List Stp))) : Prop where
  len : F.length = L
  at_ : ∀ j : Nat, j < done → F[nm ps j]? = some (some (mr ps m j))
  ok : ∀ (i : Nat) (r : List Stp), F[i]? = some (some r) → RuleOk L m.1 r
theorem fill_loop {k : Nat} {c : List Int} {M0 : List MO} (hk : k < M0.length) {m : Mch} (a : MachOk m) {ps : List Int} {L : Nat} (hL : L = m.2.length + ps.length) {names : List Nat} (hn : names = (List.range m.2.length).map (nm ps)) (x0 x1 x2 x4 x5 x6 x8 x12 : Option D) : ∀ (n done : Nat) (x9 x11 : Option D) (F : List (Option (List Stp))) (M : List MO), n + done = m.2.length → Lv k c M0 M (F.map oD) → P1 ps m L done F →
    ∃ (y9 y11 : Option D) (F' : List (Option (List Stp))) (M' : List MO), forL (fun _ => True) (gtName 9) (gAsg (gCall oTuple (gACons (gLcG finI (giSeq (gOp oIx (gVar 3) (gVar 9))) (gtName 11) (gYes) (gETup (gACons (gOp oIx (gVar 11) (gC (.int 0))) (gACons (gOp oIx (gVar 7) (gOp oIx (gVar 11) (gC (.int 1)))) (gANil)))) [11]) (gANil))) (gtSub (gVar 10) (gOp oIx (gVar 7) (gVar 9)) oSetL))
      (rngD (done : Int) n) [x0, x1, x2, some (.tup (m.2.map ruD)), x4, x5, x6, some (.lst (names.map nD)), x8, x9, some (.ref M0.length), x11, x12] M =
      .nx [x0, x1, x2, some (.tup (m.2.map ruD)), x4, x5, x6, some (.lst (names.map nD)), x8, y9, some (.ref M0.length), y11, x12] M' ∧ Lv k c M0 M' (F'.map oD) ∧ P1 ps m L m.2.length F'
  | 0, done, x9, x11, F, M, h, lv, p => ⟨x9, x11, F, M, by simp [rngD, forL], lv, by
    have : done = m.2.length := by omega
    rw [← this]
    exact p⟩
  | n + 1, done, x9, x11, F, M, h, lv, p => by
    have hd : done < m.2.length := by omega
    have hr : m.2[done]? = some m.2[done] := List.getElem?_eq_getElem hd
    have ro := a.ru _ (List.getElem_mem hd)
    have hnl : names.length = m.2.length := by rw [hn]; simp
    have ni : ∀ (s : Nat) M', s < m.2.length → oIx (.lst (names.map nD)) (.int (s : Int)) M' = .ok (nD (nm ps s)) M' := fun s M' hs => oIx_L (xs := names.map nD) rfl rfl (by omega) (by
      rw [Int.toNat_natCast, hn, List.getElem?_map, List.getElem?_map, List.getElem?_range hs]
      rfl)
    have hb := nm_le ps done
    have em : mr ps m done = m.2[done].map (ren ps) := by
      unfold mr
      rw [List.getD_eq_getElem?_getD, hr]
      rfl
    have lv2 := lv.put hk (own' := (F.set (nm ps done) (some (mr ps m done))).map oD) (fun x hx n => by
      obtain ⟨o, _, rfl⟩ := List.mem_map.mp hx
      exact oD_lo n o)
    have p2 : P1 ps m L (done + 1) (F.set (nm ps done) (some (mr ps m done))) := by
      refine ⟨by rw [List.length_set]; exact p.len, fun j hj => ?_, fun i r hi => ?_⟩
      · by_cases e : j = done
        · subst e
          exact List.getElem?_set_self (by rw [p.len]; omega)
        · rw [List.getElem?_set_ne (nm_ne (ps := ps) (fun h => e h.symm))]
          exact p.at_ j (by omega)
      · by_cases e : nm ps done = i
        · subst e
          rw [List.getElem?_set_self (by rw [p.len]; omega)] at hi
          have := Option.some.inj (Option.some.inj hi)
          subst this
          rw [em]
          refine ⟨by rw [List.length_map]; exact ro.1, fun s hs => ?_⟩
          obtain ⟨s0, hs0, rfl⟩ := List.mem_map.mp hs
          refine ⟨(ro.2 s0 hs0).1, ?_⟩
          have q1 := (ro.2 s0 hs0).2
          have q2 := nm_le ps s0.2
          show nm ps s0.2 < L
          omega
        · rw [List.getElem?_set_ne e] at hi
          exact p.ok i r hi
    obtain ⟨y9, y11, F', M', e, q1, q2⟩ := fill_loop hk a hL hn x0 x1 x2 x4 x5 x6 x8 x12 n (done + 1) (some (.int (done : Int))) x11 _ _ (by omega) lv2 p2
    refine ⟨y9, y11, F', M', ?_, q1, q2⟩
    rw [rngD_succ]
    unfold forL
    rw [if_pos trivial]
    have i1 := ixT_map (f := ruD) hr
    have tr : tupOf (ruD m.2[done]) = some (m.2[done].map stD) := rfl
    have i2 : ∀ (s : Stp) M', oIx (stD s) (.int 0) M' = .ok (fD s.1) M' := fun s M' => s_ixT M' (n := 0) rfl
    have i3 : ∀ (s : Stp) M', oIx (stD s) (.int 1) M' = .ok (.int s.2) M' := fun s M' => s_ixT M' (n := 1) rfl
    have lm : lcL (fun _ => True) (gtName 11) gYes (gETup (gACons (gOp oIx (gVar 11) (gC (.int 0))) (gACons (gOp oIx (gVar 7) (gOp oIx (gVar 11) (gC (.int 1)))) (gANil)))) [x0, x1, x2, some (.tup (m.2.map ruD)), x4, x5, x6, some (.lst (names.map nD)), x8, some (.int (done : Int)), some (.ref M0.length), none, x12] (m.2[done].map stD) [] M = .ok ([] ++ m.2[done].map fun s => stD (ren ps s)) M := by
      refine lcL_map trivial _ [] (by simp; have := ro.1; have := a.s4; omega) fun s hs => ⟨_, rfl, ?_⟩
      simp [i2, i3, ni s.2 M (ro.2 s hs).2, bigN]
      rfl
    rw [List.nil_append] at lm
    have tp : oTuple [.lst (m.2[done].map fun s => stD (ren ps s))] M = .ok (ruD (mr ps m done)) M := by
      rw [em]
      unfold ruD
      rw [List.map_map]
      rfl
    have sl := setL lv.own (j := nm ps done) (by rw [List.length_map, p.len]; omega) (ruD (mr ps m done))
    have ms : (F.map oD).set (nm ps done) (ruD (mr ps m done)) = (F.set (nm ps done) (some (mr ps m done))).map oD := by
      rw [List.map_set]
      rfl
    rw [ms] at sl
    have nd := ni done M hd
    rw [show ((done + 1 : Nat) : Int) = (done : Int) + 1 by omega] at e
    generalize F.set (nm ps done) (some (mr ps m done)) = F2 at e sl
    generalize mr ps m done = rr at tp sl
    simp only [s_gtName, s_gAsg, s_gCall, s_gACons, s_gANil, s_gLcG, s_giSeq, s_gOp, s_gVar, s_gtSub, wipeD, List.set_cons_succ, List.set_cons_zero, List.getElem?_cons_succ, List.getElem?_cons_zero, i1, tr, KM.R.bind_ok, KM.R.toS_ok, itT, lm, finI, tp, nd, sl]
    exact e
end K08
set_option linter.all false
set_option maxRecDepth 100000
set_option maxHeartbeats 4000000
namespace K08
open PySem L2 KM
theorem rest_comp {k : Nat} {c : List Int} {M0 : List MO} (hk : k < M0.length) {L size : Nat} (hL : 1 ≤ L) (hL2 : L ≤ 1000) (hs : size ≤ 4) {own : List D} (ho : own.length = L) {δ : KM.Ctx} (d0 : δ[0]? = some (some (.ref k))) (d10 : δ[10]? = some (some (.ref M0.length))) {M : List MO} (lv : Lv k c M0 M own) :
    ∃ (r : List Stp) (M' : List MO), lcL (fun _ => True) (gtName 12) gYes (gETup (gACons (gCall m__law_allowance (gACons (gVar 0) (gANil))) (gACons (gCall m__law_draw (gACons (gVar 0) (gACons (gCall oLen (gACons (gVar 10) (gANil))) (gANil)))) (gANil)))) δ (rngD 0 size) [] M = .ok (r.map stD) M' ∧ Lv k c M0 M' own ∧ RuleOk L size r := by
  obtain ⟨ds, M', e, j, hn, hq⟩ := comp_ind (i := 12) (ge := gETup (gACons (gCall m__law_allowance (gACons (gVar 0) (gANil))) (gACons (gCall m__law_draw (gACons (gVar 0) (gACons (gCall oLen (gACons (gVar 10) (gANil))) (gANil)))) (gANil)))) (δ := δ) (fun M => Lv k c M0 M own) (fun d => ∃ st : Stp, d = stD st ∧ (AllOk st.1 ∧ st.2 < L)) (fun x M j => by
    obtain ⟨q, M1, e1, aq, n1⟩ := allowance_eq j.wf j.w
    have lv1 := j.nx hk n1
    obtain ⟨t, M2, e2, a2, b2, n2⟩ := draw_eq lv1.wf lv1.w (many := (L : Int)) (by omega) (by omega)
    have et : t = ((t.toNat : Nat) : Int) := by omega
    refine ⟨stD (q, t.toNat), M2, ?_, ⟨(q, t.toNat), rfl, aq, by show t.toNat < L; omega⟩, lv1.nx hk n2⟩
    have g0 : (δ.set 12 (some x))[0]? = some (some (.ref k)) := by rw [List.getElem?_set_ne (by decide)]; exact d0
    have g10 : (δ.set 12 (some x))[10]? = some (some (.ref M0.length)) := by rw [List.getElem?_set_ne (by decide)]; exact d10
    have lo := s_listOf_ref M1 lv1.own
    have ln : oLen [.ref M0.length] M1 = .ok (.int (L : Int)) M1 := by
      unfold oLen
      simp only [s_tupOf_ref, lo, ho]
    have em : stD (q, t.toNat) = .tup [fD q, .int t] := by unfold stD; rw [← et]
    rw [em]
    simp only [s_gETup, s_gACons, s_gCall, s_gVar, g0, g10, s_gANil, KM.R.bind_ok, e1, ln, e2, bigN]
    simp only [List.length_cons, List.length_nil, Nat.reduceAdd, Nat.reduceLeDiff, if_true]) size 0 [] M lv (by simp; omega) (by simp)
  obtain ⟨r, rfl, hr⟩ := choose_map ds hq
  exact ⟨r, M', e, j, by simpa using hn, hr⟩
theorem rest_loop {k : Nat} {c : List Int} {M0 : List MO} (hk : k < M0.length) {m : Mch} (a : MachOk m) {ps : List Int} {L : Nat} (hL : 1 ≤ L) (hL2 : L ≤ 1000) (x1 x3 x4 x5 x6 x7 x8 x11 : Option D) : ∀ (n i : Nat) (x9 x12 : Option D) (F : List (Option (List Stp))) (M : List MO), n + i = L → Lv k c M0 M (F.map oD) → P1 ps m L m.2.length F → (∀ j : Nat, j < i → F[j]? ≠ some none) →
    ∃ (y9 y12 : Option D) (F' : List (Option (List Stp))) (M' : List MO), forL (fun _ => True) (gtName 9) (gIf (gTest (gUn oIsN (gOp oIx (gVar 10) (gVar 9)))) (gAsg (gCall oTuple (gACons (gLcG finI (giRng1 (gACons (gVar 2) (gANil))) (gtName 12) (gYes) (gETup (gACons (gCall m__law_allowance (gACons (gVar 0) (gANil))) (gACons (gCall m__law_draw (gACons (gVar 0) (gACons (gCall oLen (gACons (gVar 10) (gANil))) (gANil)))) (gANil)))) [12]) (gANil))) (gtSub (gVar 10) (gVar 9) oSetL)) (gNext))
      (rngD (i : Int) n) [some (.ref k), x1, some (.int (m.1 : Nat)), x3, x4, x5, x6, x7, x8, x9, some (.ref M0.length), x11, x12] M =
      .nx [some (.ref k), x1, some (.int (m.1 : Nat)), x3, x4, x5, x6, x7, x8, y9, some (.ref M0.length), x11, y12] M' ∧ Lv k c M0 M' (F'.map oD) ∧ P1 ps m L m.2.length F' ∧ ∀ j : Nat, j < L → F'[j]? ≠ some none
  | 0, i, x9, x12, F, M, h, lv, p, hq => ⟨x9, x12, F, M, by simp [rngD, forL], lv, p, by
    have : i = L := by omega
    rw [← this]
    exact hq⟩
  | n + 1, i, x9, x12, F, M, h, lv, p, hq => by
    have hi : i < F.length := by rw [p.len]; omega
    have hF : F[i]? = some F[i] := List.getElem?_eq_getElem hi
    have lo := s_listOf_ref M lv.own
    have ix : oIx (.ref M0.length) (.int (i : Int)) M = .ok (oD F[i]) M := oIx_L (xs := F.map oD) rfl lo (by omega) (by rw [Int.toNat_natCast, List.getElem?_map, hF]; rfl)
    have ek : ((i + 1 : Nat) : Int) = (i : Int) + 1 := by omega
    cases hv : F[i] with
    | some r =>
      obtain ⟨y9, y12, F', M', e, q⟩ := rest_loop hk a hL hL2 x1 x3 x4 x5 x6 x7 x8 x11 n (i + 1) (some (.int (i : Int))) x12 F M (by omega) lv p (fun j hj => by
        by_cases ej : j = i
        · rw [ej, hF, hv]
          simp
        · exact hq j (by omega))
      refine ⟨y9, y12, F', M', ?_, q⟩
      rw [rngD_succ]
      unfold forL
      rw [if_pos trivial]
      rw [hv] at ix
      have nn : oIsN (oD (some r)) M = .ok (.bl false) M := rfl
      rw [ek] at e
      simp only [s_gtName, s_gIf, s_gTest, s_gUn, s_gOp, s_gVar, List.set_cons_succ, List.set_cons_zero, List.getElem?_cons_succ, List.getElem?_cons_zero, KM.R.bind_ok, KM.R.toS_ok, ix, nn, s_gNext, if_neg Bool.false_ne_true]
      exact e
    | none =>
      obtain ⟨r, M1, e1, lv1, ro⟩ := rest_comp hk hL hL2 a.s4 (own := F.map oD) (by rw [List.length_map, p.len]) (δ := [some (.ref k), x1, some (.int (m.1 : Nat)), x3, x4, x5, x6, x7, x8, some (.int (i : Int)), some (.ref M0.length), x11, none]) rfl rfl lv
      have lv2 := lv1.put hk (own' := (F.set i (some r)).map oD) (fun x hx n => by
        obtain ⟨o, _, rfl⟩ := List.mem_map.mp hx
        exact oD_lo n o)
      have p2 : P1 ps m L m.2.length (F.set i (some r)) := by
        refine ⟨by rw [List.length_set]; exact p.len, fun j hj => ?_, fun j r' hj => ?_⟩
        · have q := p.at_ j hj
          rw [List.getElem?_set_ne]
          · exact q
          · intro e'
            rw [← e', hF, hv] at q
            simp at q
        · by_cases ej : i = j
          · subst ej
            rw [List.getElem?_set_self hi] at hj
            rw [← Option.some.inj (Option.some.inj hj)]
            exact ro
          · rw [List.getElem?_set_ne ej] at hj
            exact p.ok j r' hj
      obtain ⟨y9, y12, F', M', e, q⟩ := rest_loop hk a hL hL2 x1 x3 x4 x5 x6 x7 x8 x11 n (i + 1) (some (.int (i : Int))) x12 _ _ (by omega) lv2 p2 (fun j hj => by
        by_cases ej : i = j
        · rw [← ej, List.getElem?_set_self hi]
          simp
        · rw [List.getElem?_set_ne ej]
          exact hq j (by omega))
      refine ⟨y9, y12, F', M', ?_, q⟩
      rw [rngD_succ]
      unfold forL
      rw [if_pos trivial]
      rw [hv] at ix
      have nn : oIsN (oD none) M = .ok (.bl true) M := rfl
      have rb : rngB ((m.1 : Nat) : Int) := rngB_ok (by omega) (by have := a.s4; omega)
      have tp : oTuple [.lst (r.map stD)] M1 = .ok (ruD r) M1 := rfl
      have sl := setL lv1.own (j := i) (by rw [List.length_map]; exact hi) (ruD r)
      have ms : (F.map oD).set i (ruD r) = (F.set i (some r)).map oD := by
        rw [List.map_set]
        rfl
      rw [ms] at sl
      rw [ek] at e
      generalize F.set i (some r) = F2 at e sl
      simp only [s_gtName, s_gIf, s_gTest, s_gUn, s_gOp, s_gVar, List.set_cons_succ, List.set_cons_zero, List.getElem?_cons_succ, List.getElem?_cons_zero, KM.R.bind_ok, KM.R.toS_ok, ix, nn, if_true, s_gAsg, s_gCall, s_gACons, s_gANil, s_gLcG, s_giRng1, if_pos rb, Int.toNat_natCast, s_gtSub, wipeD, itT, e1, finI, tp, sl]
      exact e
theorem all_some : ∀ F : List (Option (List Stp)), (∀ j : Nat, j < F.length → F[j]? ≠ some none) → ∃ G : List (List Stp), F = G.map some
  | [], _ => ⟨[], rfl⟩
  | o :: F, h => by
    obtain ⟨G, rfl⟩ := all_some F fun j hj => by
      have := h (j + 1) (by simp; omega)
      simpa using this
    cases o with
    | none => exact absurd rfl (h 0 (by simp))
    | some r => exact ⟨r :: G, rfl⟩
/-- the machine m, embedded by names -/
structure Emb (m m2 : Mch) (ps : List Int) : Prop where
  size : m2.1 = m.1
  at_ : ∀ j : Nat, j < m.2.length → m2.2[nm ps j]? = some (mr ps m j)
theorem more_eq {k : Nat} {c : List Int} {M : List MO} (wf : WF M) (w : W k c M) {m : Mch} (a : MachOk m) (h6 : m.2.length ≤ 6) : ∃ (m2 : Mch) (ps : List Int) (M' : List MO), m__law_with_more [.ref k, mcD m] M = .ok (.tup [mcD m2, .lst (((List.range m.2.length).map (nm ps)).map nD)]) M' ∧ MachOk m2 ∧ Emb m m2 ps ∧ nm ps 0 = 0 ∧ Nx k c M M' := by
  have h1 := a.l1
  obtain ⟨t1, M1, e1, a1, b1, n1⟩ := draw_eq wf w (many := 6) (by decide) (by decide)
  have ln : ∀ M', oLen [.tup (m.2.map ruD)] M' = .ok (.int (m.2.length : Int)) M' := fun M' => by
    show R.ok (D.int ((m.2.map ruD).length : Int)) M' = _
    rw [List.length_map]
  -- the places
  obtain ⟨ds, M2, e2, j2, hn2, hq2⟩ := comp_ind (i := 6) (ge := gOp oAdd (gC (.int 1)) (gCall m__law_draw (gACons (gVar 0) (gACons (gCall oLen (gACons (gVar 3) (gANil))) (gANil))))) (δ := [some (.ref k), some (mcD m), some (.int (m.1 : Nat)), some (.tup (m.2.map ruD)), some (.int (1 + t1)), none, none, none, none, none, none, none, none]) (fun M' => Nx k c M1 M') (fun d => ∃ p : Int, d = D.int p ∧ 1 ≤ p) (fun x M j => by
    obtain ⟨t, M', e, a', b', n'⟩ := draw_eq j.wf j.w (many := (m.2.length : Int)) (by omega) (by omega)
    refine ⟨.int (1 + t), M', ?_, ⟨1 + t, rfl, by omega⟩, j.trans n'⟩
    simp [ln, e]) (1 + t1).toNat 0 [] M1 (Nx.refl n1.wf n1.w) (by simp; omega) (by simp)
  obtain ⟨ps0, rfl, hp0⟩ := choose_map ds hq2
  have hps : (srtI ps0).length = (1 + t1).toNat := by
    rw [(srtI_perm ps0).length_eq]
    simpa using hn2
  have hp1 : ∀ p ∈ srtI ps0, 1 ≤ p := fun p hp => hp0 p ((srtI_perm ps0).mem_iff.mp hp)
  generalize hps1 : srtI ps0 = ps at hps hp1
  have so : oSorted [.lst (ps0.map D.int)] M2 = .ok (.lst (ps.map D.int)) M2 := by
    unfold oSorted
    simp only [s_listOf_lst, intsD_lst, hps1]
  -- the names
  have lm : lcL (fun _ => True) (gtName 9) gYes (gOp oAdd (gVar 9) (gCall oLen (gACons (gLcG finI (giSeq (gVar 5)) (gtName 8) (gTest (gOp oLe (gVar 8) (gVar 9))) (gVar 8) [8]) (gANil)))) [some (.ref k), some (mcD m), some (.int (m.1 : Nat)), some (.tup (m.2.map ruD)), some (.int (1 + t1)), some (.lst (ps.map D.int)), none, none, none, none, none, none, none] (rngD 0 m.2.length) [] M2 = .ok ([] ++ (List.range m.2.length).map fun s => nD (nm ps s)) M2 := by
    refine lcL_map trivial (em := fun s : Nat => D.int (0 + (s : Int))) (List.range m.2.length) [] (by simp; omega) fun s hs => ⟨[some (.ref k), some (mcD m), some (.int (m.1 : Nat)), some (.tup (m.2.map ruD)), some (.int (1 + t1)), some (.lst (ps.map D.int)), none, none, none, some (.int (0 + (s : Int))), none, none, none], rfl, ?_⟩
    have fl := filt (s := s) (δ := [some (.ref k), some (mcD m), some (.int (m.1 : Nat)), some (.tup (m.2.map ruD)), some (.int (1 + t1)), some (.lst (ps.map D.int)), none, none, none, some (.int (s : Int)), none, none, none]) rfl (by simp) (M := M2) ps [] (by simp; omega)
    rw [List.nil_append] at fl
    have tl : tupOf (.lst (ps.map D.int)) = none := rfl
    have ll : KM.listOf M2 (.lst (ps.map D.int)) = some (ps.map D.int) := rfl
    have l2 : oLen [.lst ((ps.filter fun p => decide (p ≤ (s : Int))).map D.int)] M2 = .ok (.int ((ps.filter fun p => decide (p ≤ (s : Int))).length : Int)) M2 := by
      unfold oLen
      simp only [s_tupOf_lst, s_listOf_lst, List.length_map]
    rw [Int.zero_add]
    simp only [s_gOp, s_gVar, s_gCall, s_gACons, s_gANil, s_gLcG, s_giSeq, List.getElem?_cons_succ, List.getElem?_cons_zero, KM.R.bind_ok, tl, ll, gdOf_lst, wipeD, List.set_cons_succ, List.set_cons_zero, fl, finI, l2]
    rfl
  rw [List.nil_append] at lm
  generalize hnames : (List.range m.2.length).map (nm ps) = names
  have hnm : ((List.range m.2.length).map fun s => nD (nm ps s)) = names.map nD := by rw [← hnames, List.map_map]; rfl
  rw [hnm] at lm
  have N2 := n1.trans j2
  have hk2 : k < M2.length := by
    obtain ⟨_, _, _, _, e⟩ := N2.w
    exact (List.getElem?_eq_some_iff.mp e).1
  -- the table
  have hL : m.2.length + (1 + t1).toNat = m.2.length + ps.length := by rw [hps]
  have mul : oMulM (.lst [.non]) (.int ((m.2.length : Int) + (1 + t1))) M2 = .ok (.ref M2.length) (M2 ++ [.lst ((List.replicate (m.2.length + (1 + t1).toNat) (none : Option (List Stp))).map oD)]) := by
    unfold oMulM
    have c : 0 ≤ (m.2.length : Int) + (1 + t1) ∧ (m.2.length : Int) + (1 + t1) ≤ 1000 ∧ ([D.non] : List D).length ≤ 100 := ⟨by omega, by omega, by simp⟩
    have e : ((m.2.length : Int) + (1 + t1)).toNat = m.2.length + (1 + t1).toNat := by omega
    show (if _ then _ else _) = _
    rw [if_pos c, e, List.map_replicate]
    simp [oD]
  have lv0 : Lv k c M2 (M2 ++ [.lst ((List.replicate (m.2.length + (1 + t1).toNat) (none : Option (List Stp))).map oD)]) ((List.replicate (m.2.length + (1 + t1).toNat) (none : Option (List Stp))).map oD) := by
    obtain ⟨n, p, h, h0, e⟩ := N2.w
    refine ⟨by simp, fun j hj hl => by rw [List.getElem?_append_left hl], get_last _ _, ⟨n, p, h, h0, by rw [List.getElem?_append_left hk2]; exact e⟩, N2.wf.app ?_⟩
    exact los_mapD (oD_lo _) _
  have p0 : P1 ps m (m.2.length + (1 + t1).toNat) 0 (List.replicate (m.2.length + (1 + t1).toNat) (none : Option (List Stp))) := by
    refine ⟨List.length_replicate, fun j hj => absurd hj (by omega), fun i r hi => ?_⟩
    rw [List.getElem?_replicate] at hi
    split at hi <;> simp at hi
  generalize hF0 : List.replicate (m.2.length + (1 + t1).toNat) (none : Option (List Stp)) = F0 at mul lv0 p0
  generalize hLL : m.2.length + (1 + t1).toNat = L at p0 hL
  obtain ⟨y9, y11, F1, M3, e3, lv1, p1⟩ := fill_loop hk2 a hL hnames.symm (some (.ref k)) (some (mcD m)) (some (.int (m.1 : Nat))) (some (.int (1 + t1))) (some (.lst (ps.map D.int))) none none none m.2.length 0 none none F0 _ (by omega) lv0 p0
  obtain ⟨z9, z12, F2, M4, e4, lv2, p2, hq⟩ := rest_loop (ps := ps) hk2 a (L := L) (by omega) (by omega) (some (mcD m)) (some (.tup (m.2.map ruD))) (some (.int (1 + t1))) (some (.lst (ps.map D.int))) none (some (.lst (names.map nD))) none y11 L 0 y9 none F1 M3 (by omega) lv1 p1 (fun j hj => absurd hj (by omega))
  obtain ⟨G, rfl⟩ := all_some F2 (by rw [p2.len]; exact hq)
  have lG : G.length = L := by simpa using p2.len
  refine ⟨(m.1, G), ps, M4.take M2.length, ?_, ⟨a.s2, a.s4, by show 1 ≤ G.length; omega, by show G.length ≤ 12; omega, ?_⟩, ⟨rfl, fun j hj => ?_⟩, nm_zero hp1, N2.trans (lv2.cut N2.wf hk2)⟩
  · rw [hnames]
    have oDs : ∀ G : List (List Stp), (G.map some).map oD = G.map ruD := fun G => by rw [List.map_map]; rfl
    rw [oDs] at lv2
    have lo3 := s_listOf_ref M3 lv1.own
    have ln3 : oLen [.ref M2.length] M3 = .ok (.int (L : Int)) M3 := by
      unfold oLen
      simp only [s_tupOf_ref, lo3, List.length_map, p1.len]
    have lo4 := s_listOf_ref M4 lv2.own
    have tp : oTuple [.ref M2.length] M4 = .ok (.tup (G.map ruD)) M4 := by
      unfold oTuple
      simp only [s_tupOf_ref, lo4]
    have rb1 : rngB (1 + t1) := rngB_ok (by omega) (by omega)
    have rb2 : rngB (m.2.length : Int) := rngB_ok (by omega) (by omega)
    have rb3 : rngB (L : Int) := rngB_ok (by omega) (by omega)
    have em : tupOf (mcD m) = some [.int (m.1 : Nat), .tup (m.2.map ruD)] := rfl
    have em1 : ∀ (r : List D → GS) (δ : KM.Ctx) (M : List MO), gtTup 2 r (mcD m) δ M = r [.int (m.1 : Nat), .tup (m.2.map ruD)] δ M := fun _ _ _ => rfl
    have q : fnM 13 g__law_with_more [.ref k, mcD m] M = .ok (.tup [mcD (m.1, G), .lst (names.map nD)]) M4 := by
      have sD : startD 13 [.ref k, mcD m] = [some (.ref k), some (mcD m), none, none, none, none, none, none, none, none, none, none, none] := rfl
      have b1 : bigN ([D.non] : List D).length := bigN_ok (by simp)
      unfold fnM g__law_with_more
      rw [sD]
      rw [show ((0 : Nat) : Int) = 0 from rfl] at e3 e4
      simp only [s_gSeq, s_gAsg, s_gVar, em1, s_gtCons, s_gtName, gtNil, s_gSet, s_gOp, s_gC, s_gCall, s_gACons, s_gANil, s_gLcG, s_giRng1, s_gLst, s_gFor, List.set_cons_succ, List.set_cons_zero, List.getElem?_cons_succ, List.getElem?_cons_zero, KM.R.bind_ok, KM.R.toS_ok, SR.then_nx, e1, s_addI, if_pos rb1, if_pos rb2, if_pos rb3, Int.toNat_natCast, itT, wipeD, e2, finI, so, ln, lm, bigN, List.length_cons, List.length_nil, Nat.reduceAdd, Nat.reduceLeDiff, if_true, mul, e3, ln3, e4, s_gRet, s_gETup, tp]
      rfl
    have e9 : m__law_with_more [.ref k, mcD m] M = cutR M.length (fnM 13 g__law_with_more [.ref k, mcD m] M) := rfl
    rw [e9, q, ← N2.len]
    have hd : D.lo M2.length (.tup [mcD (m.1, G), .lst (names.map nD)]) = true := by
      show (D.lo M2.length (mcD (m.1, G)) && (D.lo M2.length (.lst (names.map nD)) && true)) = true
      rw [mcD_lo, show D.lo M2.length (.lst (names.map nD)) = true from los_mapD (fun _ => rfl) names]
      rfl
    exact cut_lv N2.wf lv2 hk2 hd
  · intro r hr
    obtain ⟨i, hi⟩ := List.mem_iff_getElem?.mp hr
    have := p2.ok i r (by rw [List.getElem?_map, hi]; rfl)
    show RuleOk G.length m.1 r
    rw [lG]
    exact this
  · have q := p2.at_ j hj
    rw [List.getElem?_map] at q
    show G[nm ps j]? = _
    cases hg : G[nm ps j]? with
    | none => rw [hg] at q; simp at q
    | some r =>
      rw [hg] at q
      have := Option.some.inj (Option.some.inj q)
      rw [this]
end K08
set_option linter.all false
set_option maxRecDepth 100000
set_option maxHeartbeats 4000000
namespace K08
open PySem L2 KM
inductive F2 {α β : Type} (Rl : α → β → Prop) : List α → List β → Prop
  | nil : F2 Rl [] []
  | cons {a b as bs} : Rl a b → F2 Rl as bs → F2 Rl (a :: as) (b :: bs)
theorem F2.len {α β : Type} {Rl : α → β → Prop} : ∀ {as : List α} {bs : List β}, F2 Rl as bs → bs.length = as.length
  | _, _, .nil => rfl
  | _, _, .cons _ h => by rw [List.length_cons, List.length_cons, h.len]
theorem F2.at_ {α β : Type} {Rl : α → β → Prop} : ∀ {as : List α} {bs : List β}, F2 Rl as bs → ∀ {i : Nat} {a : α}, as[i]? = some a → ∃ b, bs[i]? = some b ∧ Rl a b
  | _, _, .nil, i, a, h => by simp at h
  | _, _, .cons (b := b) r h, 0, a, e => ⟨b, rfl, by
    have := Option.some.inj e
    rw [← this]
    exact r⟩
  | _, _, .cons _ h, i + 1, a, e => by
    obtain ⟨b, h1, h2⟩ := h.at_ (i := i) (a := a) (by simpa using e)
    exact ⟨b, by simpa using h1, h2⟩
theorem F2.mem {α β : Type} {Rl : α → β → Prop} : ∀ {as : List α} {bs : List β}, F2 Rl as bs → ∀ b ∈ bs, ∃ a ∈ as, Rl a b
  | _, _, .nil, b, h => by simp at h
  | _, _, .cons r h, b, e => by
    rcases List.mem_cons.mp e with rfl | e
    · exact ⟨_, List.mem_cons_self .., r⟩
    · obtain ⟨a, h1, h2⟩ := h.mem b e
      exact ⟨a, List.mem_cons_of_mem _ h1, h2⟩
structure Gw (k : Nat) (c : List Int) (M0 M : List MO) (own : List D) : Prop where
  len : M0.length < M.length
  oth : ∀ j, j ≠ k → j < M0.length → M[j]? = M0[j]?
  own : M[M0.length]? = some (.lst own)
  w : W k c M
  wf : WF M
theorem Gw.cut {k : Nat} {c : List Int} {M0 M : List MO} {own : List D} (wf0 : WF M0) (l : Gw k c M0 M own) (hk : k < M0.length) : Nx k c M0 (M.take M0.length) := by
  have hl : (M.take M0.length).length = M0.length := by rw [List.length_take]; have := l.len; omega
  have ho : ∀ j, j ≠ k → (M.take M0.length)[j]? = M0[j]? := fun j hj => by
    rw [List.getElem?_take]
    split
    · rename_i hlt
      exact l.oth j hj hlt
    · rw [List.getElem?_eq_none (by omega)]
  obtain ⟨n, p, h, h0, e⟩ := l.w
  have hw : (M.take M0.length)[k]? = some (wl c n p h) := by rw [List.getElem?_take, if_pos hk]; exact e
  refine ⟨hl, ho, ⟨n, p, h, h0, hw⟩, ?_⟩
  unfold WF
  rw [hl]
  refine List.all_eq_true.mpr fun o hm => ?_
  obtain ⟨j, hj⟩ := List.getElem?_of_mem hm
  by_cases hjk : j = k
  · subst hjk
    rw [hw] at hj
    cases hj
    exact wl_lo _ _ _ _ _
  · rw [ho j hjk] at hj
    exact List.all_eq_true.mp wf0 o (List.mem_of_getElem? hj)
theorem cut_gw {k : Nat} {c : List Int} {M0 M : List MO} {own : List D} (wf0 : WF M0) (l : Gw k c M0 M own) (hk : k < M0.length) {d : D} (hd : D.lo M0.length d = true) : cutR M0.length (.ok d M) = .ok d (M.take M0.length) := by
  have q := l.cut wf0 hk
  have hb : (D.lo M0.length d && (M.take M0.length).all (MO.lo M0.length)) = true := by
    rw [Bool.and_eq_true]
    refine ⟨hd, ?_⟩
    have := q.wf
    unfold WF at this
    rw [q.len] at this
    exact this
  show (if (D.lo M0.length d && (M.take M0.length).all (MO.lo M0.length)) = true then R.ok d (M.take M0.length) else R.bad) = _
  rw [if_pos hb]
/-! ### the twin -/
def Tw (at_ n : Nat) (st st' : Stp) : Prop := st'.1 = st.1 ∧ (st'.2 = st.2 ∨ (st.2 = at_ ∧ st'.2 = n))
theorem lst2 (x y : Int) (b : Bool) (M : List MO) : oIx (.lst [.int x, .int y]) (.int (if b = true then 1 else 0)) M = .ok (.int (if b = true then y else x)) M := by
  cases b with
  | true => exact oIx_L rfl rfl (by decide) rfl
  | false => exact oIx_L rfl rfl (by decide) rfl
theorem steps_tw {k : Nat} {c : List Int} {Mb : List MO} (hk : k < Mb.length) {at_ n : Nat} (x1 x2 x3 x6 x7 : Option D) : ∀ (r steps : List Stp) (M : List MO) (x9 x10 : Option D), steps.length + r.length ≤ 1000 → Lv k c Mb M (steps.map stD) →
    ∃ (y9 y10 : Option D) (more : List Stp) (M' : List MO), forL (fun _ => True) (gtName 9) (gSeq (gSet 10 (gOp oIx (gLst (gACons (gOp oIx (gVar 9) (gC (.int 1))) (gACons (gVar 5) (gANil)))) (gCall oInt (gACons (gAndV (gOp oEq (gOp oIx (gVar 9) (gC (.int 1))) (gVar 4)) (gOp oEq (gCall m__law_draw (gACons (gVar 0) (gACons (gC (.int 2)) (gANil)))) (gC (.int 0)))) (gANil)))))
    (gDrop (gBM oAppend (gVar 8) (gACons (gETup (gACons (gOp oIx (gVar 9) (gC (.int 0))) (gACons (gVar 10) (gANil)))) (gANil)))))
      (r.map stD) [some (.ref k), x1, x2, x3, some (.int (at_ : Nat)), some (.int (n : Nat)), x6, x7, some (.ref Mb.length), x9, x10] M =
      .nx [some (.ref k), x1, x2, x3, some (.int (at_ : Nat)), some (.int (n : Nat)), x6, x7, some (.ref Mb.length), y9, y10] M' ∧ Lv k c Mb M' ((steps ++ more).map stD) ∧ F2 (Tw at_ n) r more
  | [], steps, M, x9, x10, hl, lv => ⟨x9, x10, [], M, by simp [forL], by simpa using lv, .nil⟩
  | st :: r, steps, M, x9, x10, hl, lv => by
    rw [List.length_cons] at hl
    have i2 : ∀ M', oIx (stD st) (.int 0) M' = .ok (fD st.1) M' := fun M' => s_ixT M' (n := 0) rfl
    have i3 : ∀ M', oIx (stD st) (.int 1) M' = .ok (.int st.2) M' := fun M' => s_ixT M' (n := 1) rfl
    -- what is drawn
    obtain ⟨b, M1, lv1, hb, ge⟩ : ∃ (b : Bool) (M1 : List MO), Lv k c Mb M1 (steps.map stD) ∧ (b = true → st.2 = at_) ∧ (gAndV (gOp oEq (gOp oIx (gVar 9) (gC (.int 1))) (gVar 4)) (gOp oEq (gCall m__law_draw (gACons (gVar 0) (gACons (gC (.int 2)) (gANil)))) (gC (.int 0)))) [some (.ref k), x1, x2, x3, some (.int (at_ : Nat)), some (.int (n : Nat)), x6, x7, some (.ref Mb.length), some (stD st), x10] M = .ok (.bl b) M1 := by
      by_cases e : st.2 = at_
      · obtain ⟨t, M1, e1, a1, b1, n1⟩ := draw_eq lv.wf lv.w (many := 2) (by decide) (by decide)
        refine ⟨t == 0, M1, lv.nx hk n1, fun _ => e, ?_⟩
        simp [i3, e, e1]
      · refine ⟨false, M, lv, fun h => absurd h (by decide), ?_⟩
        have : ((st.2 : Int) == (at_ : Int)) = false := by
          rw [beq_eq_false_iff_ne]
          omega
        simp [i3, this]
    have em : stD (st.1, if b = true then n else st.2) = .tup [fD st.1, .int (if b = true then (n : Int) else (st.2 : Int))] := by
      cases b <;> rfl
    have lv2 := lv1.app hk (d := stD (st.1, if b = true then n else st.2)) (fun n => stD_lo n _) (fun x hx n => by
      obtain ⟨y, _, rfl⟩ := List.mem_map.mp hx
      exact stD_lo n y)
    rw [← List.map_singleton, ← List.map_append] at lv2
    have ap := oAppend_eq lv1.own (by simp; omega) (stD (st.1, if b = true then n else st.2))
    rw [← List.map_singleton, ← List.map_append] at ap
    obtain ⟨y9, y10, more, M', e, q1, q2⟩ := steps_tw hk x1 x2 x3 x6 x7 r (steps ++ [(st.1, if b = true then n else st.2)]) _ (some (stD st)) (some (.int (if b = true then (n : Int) else (st.2 : Int)))) (by simp; omega) lv2
    rw [List.append_assoc] at q1
    refine ⟨y9, y10, [(st.1, if b = true then n else st.2)] ++ more, M', ?_, q1, .cons ⟨rfl, ?_⟩ q2⟩
    · rw [List.map_cons]
      unfold forL
      rw [if_pos trivial]
      have oi : ∀ M', oInt [.bl b] M' = .ok (.int (if b = true then 1 else 0)) M' := fun M' => rfl
      have b2 : ∀ x y : D, bigN ([x, y] : List D).length := fun _ _ => bigN_ok (by simp)
      have lo := s_listOf_ref M1 lv1.own
      generalize steps ++ [(st.1, if b = true then n else st.2)] = steps2 at e ap
      rw [List.map_singleton, em] at ap
      simp only [s_gtName, s_gSeq, s_gSet, s_gOp, s_gLst, s_gACons, s_gANil, s_gVar, s_gC, List.set_cons_succ, List.set_cons_zero, List.getElem?_cons_succ, List.getElem?_cons_zero, KM.R.bind_ok, KM.R.toS_ok, SR.then_nx, i2, i3, if_pos (b2 _ _), s_gCall]
      rw [show (gAndV (gOp oEq (gOp oIx (gVar 9) (gC (.int 1))) (gVar 4)) (gOp oEq (gCall m__law_draw (gACons (gVar 0) (gACons (gC (.int 2)) (gANil)))) (gC (.int 0)))) [some (.ref k), x1, x2, x3, some (.int (at_ : Nat)), some (.int (n : Nat)), x6, x7, some (.ref Mb.length), some (stD st), x10] M = .ok (.bl b) M1 from ge]
      simp only [KM.R.bind_ok, KM.R.toS_ok, oi, lst2, SR.then_nx, s_gDrop, s_gBM, s_gVar, List.set_cons_succ, List.set_cons_zero, List.getElem?_cons_succ, List.getElem?_cons_zero, s_gETup, s_gACons, s_gANil, s_gOp, s_gC, i2, if_pos (b2 _ _), lo, ap]
      exact e
    · show ((if b = true then n else st.2) = st.2 ∨ _)
      cases b with
      | true => exact .inr ⟨hb rfl, rfl⟩
      | false => exact .inl rfl
theorem rules_tw {k : Nat} {c : List Int} {M0 : List MO} (hk : k < M0.length) {at_ n : Nat} (x1 x2 x3 : Option D) : ∀ (rls found : List (List Stp)) (M : List MO) (x7 x8 x9 x10 : Option D), found.length + rls.length ≤ 1000 → (∀ r ∈ rls, r.length ≤ 1000) → Gw k c M0 M (found.map ruD) →
    ∃ (y7 y8 y9 y10 : Option D) (more : List (List Stp)) (M' : List MO), forL (fun _ => True) (gtName 7) (gSeq (gSet 8 (gLstM (gANil)))
    (gSeq (gFor (giSeq (gVar 7)) (gtName 9) (gSeq (gSet 10 (gOp oIx (gLst (gACons (gOp oIx (gVar 9) (gC (.int 1))) (gACons (gVar 5) (gANil)))) (gCall oInt (gACons (gAndV (gOp oEq (gOp oIx (gVar 9) (gC (.int 1))) (gVar 4)) (gOp oEq (gCall m__law_draw (gACons (gVar 0) (gACons (gC (.int 2)) (gANil)))) (gC (.int 0)))) (gANil)))))
    (gDrop (gBM oAppend (gVar 8) (gACons (gETup (gACons (gOp oIx (gVar 9) (gC (.int 0))) (gACons (gVar 10) (gANil)))) (gANil))))))
    (gDrop (gBM oAppend (gVar 6) (gACons (gCall oTuple (gACons (gVar 8) (gANil))) (gANil))))))
      (rls.map ruD) [some (.ref k), x1, x2, x3, some (.int (at_ : Nat)), some (.int (n : Nat)), some (.ref M0.length), x7, x8, x9, x10] M =
      .nx [some (.ref k), x1, x2, x3, some (.int (at_ : Nat)), some (.int (n : Nat)), some (.ref M0.length), y7, y8, y9, y10] M' ∧ Gw k c M0 M' ((found ++ more).map ruD) ∧ F2 (F2 (Tw at_ n)) rls more
  | [], found, M, x7, x8, x9, x10, hl, hr, g => ⟨x7, x8, x9, x10, [], M, by simp [forL], by simpa using g, .nil⟩
  | r :: rls, found, M, x7, x8, x9, x10, hl, hr, g => by
    rw [List.length_cons] at hl
    have gl := g.len
    have lv0 : Lv k c M (M ++ [.lst []]) (([] : List Stp).map stD) := by
      obtain ⟨n, p, h, h0, e⟩ := g.w
      exact ⟨by simp, fun j hj hl => by rw [List.getElem?_append_left hl], get_last _ _, ⟨n, p, h, h0, by rw [List.getElem?_append_left (by omega)]; exact e⟩, g.wf.app rfl⟩
    obtain ⟨z9, z10, r', M2, e2, lv2, f2⟩ := steps_tw (Mb := M) (by omega) (at_ := at_) (n := n) x1 x2 x3 (some (.ref M0.length)) (some (ruD r)) r [] _ x9 x10 (by simpa using hr r (List.mem_cons_self ..)) lv0
    rw [List.nil_append] at lv2
    have ow : M2[M0.length]? = some (.lst (found.map ruD)) := by rw [lv2.oth _ (by omega) gl]; exact g.own
    have ap := oAppend_eq ow (by simp; omega) (ruD r')
    have g3 : Gw k c M0 (M2.set M0.length (.lst ((found ++ [r']).map ruD))) ((found ++ [r']).map ruD) := by
      obtain ⟨n, p, h, h0, e⟩ := lv2.w
      refine ⟨by rw [List.length_set, lv2.len]; omega, fun j hj hl => by rw [List.getElem?_set_ne (by omega), lv2.oth j hj (by omega)]; exact g.oth j hj hl, List.getElem?_set_self (by rw [lv2.len]; omega), ⟨n, p, h, h0, by rw [List.getElem?_set_ne (by omega)]; exact e⟩, lv2.wf.set (los_mapD (ruD_lo _) _)⟩
    obtain ⟨y7, y8, y9, y10, more, M', e, q1, q2⟩ := rules_tw hk x1 x2 x3 rls (found ++ [r']) _ (some (ruD r)) (some (.ref M.length)) z9 z10 (by simp; omega) (fun r hr' => hr r (List.mem_cons_of_mem _ hr')) g3
    rw [List.append_assoc] at q1
    refine ⟨y7, y8, y9, y10, [r'] ++ more, M', ?_, q1, .cons f2 q2⟩
    rw [List.map_cons]
    unfold forL
    rw [if_pos trivial]
    have tr : tupOf (ruD r) = some (r.map stD) := rfl
    have lo6 := s_listOf_ref M2 ow
    have lo8 := s_listOf_ref M2 lv2.own
    have tp : oTuple [.ref M.length] M2 = .ok (ruD r') M2 := by
      unfold oTuple
      simp only [s_tupOf_ref, lo8]
      rfl
    have b0 : bigN ([] : List D).length := bigN_ok (by simp)
    rw [List.map_append, List.map_singleton] at e
    simp only [s_gtName, s_gSeq, s_gSet, s_gLstM, s_gANil, if_pos b0, s_gFor, s_giSeq, s_gVar, List.set_cons_succ, List.set_cons_zero, List.getElem?_cons_succ, List.getElem?_cons_zero, KM.R.bind_ok, KM.R.toS_ok, SR.then_nx, tr, itT, e2, s_gDrop, s_gBM, s_gACons, s_gCall, tp, lo6, ap]
    exact e
/-- the machine m with the state at_ twice -/
structure Twn (m m3 : Mch) (at_ : Nat) : Prop where
  size : m3.1 = m.1
  atl : at_ < m.2.length
  f2 : F2 (F2 (Tw at_ m.2.length)) (m.2 ++ [m.2.getD at_ []]) m3.2
theorem twin_eq {k : Nat} {c : List Int} {M : List MO} (wf : WF M) (w : W k c M) {m : Mch} (a : MachOk m) (h6 : m.2.length ≤ 6) : ∃ (m3 : Mch) (at_ : Nat) (M' : List MO), m__law_twin [.ref k, mcD m] M = .ok (.tup [mcD m3, .int (at_ : Nat)]) M' ∧ MachOk m3 ∧ Twn m m3 at_ ∧ Nx k c M M' := by
  have h1 := a.l1
  obtain ⟨t, M1, e1, a1, b1, n1⟩ := draw_eq wf w (many := (m.2.length : Int)) (by omega) (by omega)
  have et : t = ((t.toNat : Nat) : Int) := by omega
  have htl : t.toNat < m.2.length := by omega
  have hk1 : k < M1.length := by
    obtain ⟨_, _, _, _, e⟩ := n1.w
    exact (List.getElem?_eq_some_iff.mp e).1
  have hg : m.2[t.toNat]? = some (m.2.getD t.toNat []) := by
    rw [List.getD_eq_getElem?_getD, List.getElem?_eq_getElem htl]
    rfl
  have rall : ∀ r ∈ m.2 ++ [m.2.getD t.toNat []], RuleOk m.2.length m.1 r := fun r hr => by
    rcases List.mem_append.mp hr with hr | hr
    · exact a.ru r hr
    · have : r = m.2.getD t.toNat [] := by simpa using hr
      rw [this]
      exact a.ru _ (List.mem_of_getElem? hg)
  have g0 : Gw k c M1 (M1 ++ [.lst []]) (([] : List (List Stp)).map ruD) := by
    obtain ⟨n, p, h, h0, e⟩ := n1.w
    exact ⟨by simp, fun j hj hl => by rw [List.getElem?_append_left hl], get_last _ _, ⟨n, p, h, h0, by rw [List.getElem?_append_left hk1]; exact e⟩, n1.wf.app rfl⟩
  obtain ⟨y7, y8, y9, y10, G, M2, e2, gw, f2⟩ := rules_tw hk1 (at_ := t.toNat) (n := m.2.length) (some (mcD m)) (some (.int (m.1 : Nat))) (some (.tup (m.2.map ruD))) (m.2 ++ [m.2.getD t.toNat []]) [] _ none none none none (by simp; omega) (fun r hr => by rw [(rall r hr).1]; have := a.s4; omega) g0
  rw [List.nil_append] at gw
  rw [List.map_append, List.map_singleton] at e2
  have lG : G.length = m.2.length + 1 := by rw [f2.len]; simp
  refine ⟨(m.1, G), t.toNat, M2.take M1.length, ?_, ⟨a.s2, a.s4, by show 1 ≤ G.length; omega, by show G.length ≤ 12; omega, fun r hr => ?_⟩, ⟨rfl, htl, f2⟩, n1.trans (gw.cut n1.wf hk1)⟩
  · have ln : ∀ M', oLen [.tup (m.2.map ruD)] M' = .ok (.int (m.2.length : Int)) M' := fun M' => by
      show R.ok (D.int ((m.2.map ruD).length : Int)) M' = _
      rw [List.length_map]
    have lo := s_listOf_ref M2 gw.own
    have tp : oTuple [.ref M1.length] M2 = .ok (.tup (G.map ruD)) M2 := by
      unfold oTuple
      simp only [s_tupOf_ref, lo]
    have em1 : ∀ (r : List D → GS) (δ : KM.Ctx) (M : List MO), gtTup 2 r (mcD m) δ M = r [.int (m.1 : Nat), .tup (m.2.map ruD)] δ M := fun _ _ _ => rfl
    have ix : ∀ M', oIx (.tup (m.2.map ruD)) (.int t) M' = .ok (ruD (m.2.getD t.toNat [])) M' := fun M' => by
      conv => lhs; rw [et]
      exact ixT_map (f := ruD) hg M'
    have ol : ∀ M', oList [.tup (m.2.map ruD)] M' = .ok (.lst (m.2.map ruD)) M' := fun M' => rfl
    have ad : ∀ M', oAdd (.lst (m.2.map ruD)) (.lst [ruD (m.2.getD t.toNat [])]) M' = .ok (.lst (m.2.map ruD ++ [ruD (m.2.getD t.toNat [])])) M' := fun M' => by
      have b : bigN ((m.2.map ruD).length + ([ruD (m.2.getD t.toNat [])] : List D).length) := bigN_ok (by simp; omega)
      unfold oAdd
      simp only [listOfT]
      rw [if_pos b]
    have tl : ∀ xs, tupOf (.lst xs) = none := fun _ => rfl
    have ll : ∀ xs M', KM.listOf M' (.lst xs) = some xs := fun _ _ => rfl
    have b1 : bigN ([ruD (m.2.getD t.toNat [])] : List D).length := bigN_ok (by simp)
    have b2 : ∀ x y : D, bigN ([x, y] : List D).length := fun _ _ => bigN_ok (by simp)
    have b0 : bigN ([] : List D).length := bigN_ok (by simp)
    rw [← et] at e2 ⊢
    have q : fnM 11 g__law_twin [.ref k, mcD m] M = .ok (.tup [mcD (m.1, G), .int t]) M2 := by
      have sD : startD 11 [.ref k, mcD m] = [some (.ref k), some (mcD m), none, none, none, none, none, none, none, none, none] := rfl
      unfold fnM g__law_twin
      rw [sD]
      simp only [s_gSeq, s_gAsg, s_gVar, em1, s_gtCons, s_gtName, gtNil, s_gSet, s_gOp, s_gC, s_gCall, s_gACons, s_gANil, s_gLst, s_gLstM, s_gFor, s_giSeq, List.set_cons_succ, List.set_cons_zero, List.getElem?_cons_succ, List.getElem?_cons_zero, KM.R.bind_ok, KM.R.toS_ok, SR.then_nx, ln, e1, if_pos b0, if_pos b1, if_pos (b2 _ _), ol, ix, ad, tl, ll, gdOf_lst, e2, s_gRet, s_gETup, tp]
      rfl
    have e9 : m__law_twin [.ref k, mcD m] M = cutR M.length (fnM 11 g__law_twin [.ref k, mcD m] M) := rfl
    rw [e9, q, ← n1.len]
    have hd : D.lo M1.length (.tup [mcD (m.1, G), .int t]) = true := by
      show (D.lo M1.length (mcD (m.1, G)) && (true && true)) = true
      rw [mcD_lo]
      rfl
    exact cut_gw n1.wf gw hk1 hd
  · obtain ⟨r0, h0, fr⟩ := f2.mem r hr
    have q := rall r0 h0
    refine ⟨by rw [fr.len]; exact q.1, fun s hs => ?_⟩
    obtain ⟨s0, hs0, tw⟩ := fr.mem s hs
    have q2 := q.2 s0 hs0
    refine ⟨by rw [tw.1]; exact q2.1, ?_⟩
    show s.2 < G.length
    rcases tw.2 with e | ⟨_, e⟩ <;> omega
end K08
set_option linter.all false
set_option maxRecDepth 100000
set_option maxHeartbeats 4000000
namespace K08
open PySem L2 KM
/-! ### two machines that read alike -/
def Sim (rs rs' : List (List Stp)) (size : Nat) (Rl : Nat → Nat → Prop) : Prop := ∀ s s' l, Rl s s' → l < size → (stp rs s l).1 = (stp rs' s' l).1 ∧ Rl (stp rs s l).2 (stp rs' s' l).2
theorem Sim.run {rs rs' : List (List Stp)} {size : Nat} {Rl : Nat → Nat → Prop} (h : Sim rs rs' size Rl) : ∀ (row : List Nat) (s s' : Nat), Rl s s' → (∀ l ∈ row, l < size) → (path rs s row).map (·.1) = (path rs' s' row).map (·.1) ∧ Rl (endOf rs s row) (endOf rs' s' row)
  | [], _, _, r, _ => ⟨rfl, r⟩
  | l :: row, s, s', r, hr => by
    obtain ⟨h1, h2⟩ := h s s' l r (hr l (List.mem_cons_self ..))
    obtain ⟨q1, q2⟩ := Sim.run h row _ _ h2 fun x hx => hr x (List.mem_cons_of_mem _ hx)
    refine ⟨?_, q2⟩
    show (stp rs s l).1 :: (path rs _ row).map (·.1) = (stp rs' s' l).1 :: (path rs' _ row).map (·.1)
    rw [h1, q1]
theorem Sim.alw {rs rs' : List (List Stp)} {size : Nat} {Rl : Nat → Nat → Prop} (h : Sim rs rs' size Rl) {row : List Nat} {s s' : Nat} (r : Rl s s') (hr : ∀ l ∈ row, l < size) : alw rs s row = alw rs' s' row := by
  unfold K08.alw
  rw [(h.run row s s' r hr).1]
theorem stp_of {rs : List (List Stp)} {s l : Nat} {r : List Stp} {x : Stp} (h1 : rs[s]? = some r) (h2 : r[l]? = some x) : stp rs s l = x := by
  unfold stp
  simp only [List.getD_eq_getElem?_getD, h1, Option.getD_some, h2]
theorem emb_sim {m m2 : Mch} (a : MachOk m) {ps : List Int} (e : Emb m m2 ps) : Sim m.2 m2.2 m.1 fun s s' => s < m.2.length ∧ s' = nm ps s := by
  rintro s s' l ⟨hs, rfl⟩ hl
  obtain ⟨r, h1, h2, _, h4⟩ := stp_at a hs hl
  have h3 := e.at_ s hs
  have em : mr ps m s = r.map (ren ps) := by
    unfold mr
    rw [List.getD_eq_getElem?_getD, h1]
    rfl
  rw [em] at h3
  have q := stp_of h3 (l := l) (x := ren ps (stp m.2 s l)) (by rw [List.getElem?_map, h2]; rfl)
  rw [q]
  exact ⟨rfl, h4, rfl⟩
theorem twn_sim {m m3 : Mch} (a : MachOk m) {at_ : Nat} (e : Twn m m3 at_) : Sim m.2 m3.2 m.1 fun s s' => s < m.2.length ∧ (s' = s ∨ (s = at_ ∧ s' = m.2.length)) := by
  rintro s s' l ⟨hs, hs'⟩ hl
  obtain ⟨r, h1, h2, _, h4⟩ := stp_at a hs hl
  have hr : (m.2 ++ [m.2.getD at_ []])[s']? = some r := by
    rcases hs' with rfl | ⟨rfl, rfl⟩
    · rw [List.getElem?_append_left hs]
      exact h1
    · rw [List.getElem?_append_right (Nat.le_refl _), Nat.sub_self, List.getD_eq_getElem?_getD, h1]
      rfl
  obtain ⟨r', h3, f⟩ := e.f2.at_ hr
  obtain ⟨x, h5, tw⟩ := f.at_ h2
  rw [stp_of h3 h5]
  refine ⟨tw.1.symm, h4, ?_⟩
  rcases tw.2 with q | ⟨q1, q2⟩
  · exact .inl q
  · exact .inr ⟨q1, q2⟩
theorem emb_closed {m m2 : Mch} (a : MachOk m) {ps : List Int} (e : Emb m m2 ps) : Closed m2 fun x => ∃ s, s < m.2.length ∧ x = nm ps s := by
  rintro s' r ⟨s, hs, rfl⟩ hr st hst
  rw [e.at_ s hs] at hr
  have := Option.some.inj hr
  subst this
  unfold mr at hst
  obtain ⟨st0, h0, rfl⟩ := List.mem_map.mp hst
  rw [List.getD_eq_getElem?_getD, List.getElem?_eq_getElem hs] at h0
  exact ⟨st0.2, ((a.ru _ (List.getElem_mem hs)).2 st0 h0).2, rfl⟩
/-! ### rows -/
theorem rwD_lo (n : Nat) (r : List Nat) : D.lo n (rwD r) = true := los_mapD (fun _ => rfl) r
def RowOk (size : Nat) (row : List Nat) : Prop := row.length ≤ 40 ∧ ∀ l ∈ row, l < size
theorem rows_loop {k : Nat} {c : List Int} {M0 : List MO} (hk : k < M0.length) {size : Nat} (h1 : 1 ≤ size) (h4 : size ≤ 4) : ∀ (n : Nat) (lo : Int) (rows : List (List Nat)) (M : List MO) (x3 x4 : Option D), rows.length + n ≤ 1000 → (∀ r ∈ rows, RowOk size r) → Lv k c M0 M (rows.map rwD) →
    ∃ (y3 y4 : Option D) (rows' : List (List Nat)) (M' : List MO), forL (fun _ => True) (gtName 3) (gDrop (gBM oAppend (gVar 2) (gACons (gCall oTuple (gACons (gLcG finI (giRng1 (gACons (gCall m__law_draw (gACons (gVar 0) (gACons (gC (.int 40)) (gANil)))) (gANil))) (gtName 4) (gYes) (gCall m__law_draw (gACons (gVar 0) (gACons (gVar 1) (gANil)))) [4]) (gANil))) (gANil))))
      (rngD lo n) [some (.ref k), some (.int (size : Nat)), some (.ref M0.length), x3, x4] M = .nx [some (.ref k), some (.int (size : Nat)), some (.ref M0.length), y3, y4] M' ∧ Lv k c M0 M' (rows'.map rwD) ∧ ∀ r ∈ rows', RowOk size r
  | 0, lo, rows, M, x3, x4, hl, hr, lv => ⟨x3, x4, rows, M, by simp [rngD, forL], lv, hr⟩
  | n + 1, lo, rows, M, x3, x4, hl, hr, lv => by
    obtain ⟨t, M1, e1, a1, b1, n1⟩ := draw_eq lv.wf lv.w (many := 40) (by decide) (by decide)
    have lv1 := lv.nx hk n1
    obtain ⟨ds, M2, e2, lv2, hn, hq⟩ := comp_ind (i := 4) (ge := gCall m__law_draw (gACons (gVar 0) (gACons (gVar 1) (gANil)))) (δ := [some (.ref k), some (.int (size : Nat)), some (.ref M0.length), some (.int lo), none]) (fun M => Lv k c M0 M (rows.map rwD)) (fun d => ∃ l : Nat, d = nD l ∧ l < size) (fun x M j => by
      obtain ⟨t, M2, e2, a2, b2, n2⟩ := draw_eq j.wf j.w (many := (size : Int)) (by omega) (by omega)
      refine ⟨.int t, M2, ?_, ⟨t.toNat, ?_, by omega⟩, j.nx hk n2⟩
      · simp [e2]
      · show D.int t = D.int ((t.toNat : Nat) : Int)
        rw [show ((t.toNat : Nat) : Int) = t by omega]) t.toNat 0 [] M1 lv1 (by simp; omega) (by simp)
    obtain ⟨row, rfl, hrow⟩ := choose_map ds hq
    have lrow : row.length ≤ 40 := by
      have : row.length = t.toNat := by simpa using hn
      omega
    have lv3 := lv2.app hk (d := rwD row) (fun n => los_mapD (fun _ => rfl) row) (fun x hx n => by
      obtain ⟨y, _, rfl⟩ := List.mem_map.mp hx
      exact los_mapD (fun _ => rfl) y)
    have ap := oAppend_eq lv2.own (by simp; omega) (rwD row)
    obtain ⟨y3, y4, rows', M', e, q1, q2⟩ := rows_loop hk h1 h4 n (lo + 1) (rows ++ [row]) _ (some (.int lo)) x4 (by simp; omega) (fun r h => by
      rcases List.mem_append.mp h with h | h
      · exact hr r h
      · have : r = row := by simpa using h
        subst this
        exact ⟨lrow, hrow⟩) (by rw [List.map_append, List.map_singleton]; exact lv3)
    refine ⟨y3, y4, rows', M', ?_, q1, q2⟩
    rw [rngD_succ]
    unfold forL
    rw [if_pos trivial]
    have lo0 := s_listOf_ref M lv.own
    have rb : rngB t := rngB_ok (by omega) (by omega)
    have tp : oTuple [.lst (row.map nD)] M2 = .ok (rwD row) M2 := rfl
    simp only [s_gtName, s_gDrop, s_gBM, s_gVar, s_gACons, s_gANil, s_gCall, s_gLcG, s_giRng1, s_gC, List.set_cons_succ, List.set_cons_zero, List.getElem?_cons_succ, List.getElem?_cons_zero, KM.R.bind_ok, KM.R.toS_ok, lo0, e1, if_pos rb, itT, wipeD, e2, finI, tp, ap]
    exact e
theorem rows_eq {k : Nat} {c : List Int} {M : List MO} (wf : WF M) (w : W k c M) {size : Nat} (h2 : 2 ≤ size) (h4 : size ≤ 4) : ∃ (rows : List (List Nat)) (M' : List MO), m__law_rows [.ref k, .int (size : Nat)] M = .ok (.ref M.length) M' ∧ Lv k c M M' (rows.map rwD) ∧ ∀ r ∈ rows, RowOk size r := by
  have hk : k < M.length := by
    obtain ⟨_, _, _, _, e⟩ := w
    exact (List.getElem?_eq_some_iff.mp e).1
  have em : ([.tup [], .tup [.int 0], .tup [.int ((size : Int) - 1)], .tup [.int 0, .int 1], .tup [.int 1, .int 0, .int 1]] : List D) = ([[], [0], [size - 1], [0, 1], [1, 0, 1]] : List (List Nat)).map rwD := by
    have : (size : Int) - 1 = ((size - 1 : Nat) : Int) := by omega
    rw [this]
    rfl
  have lv0 : Lv k c M (M ++ [.lst (([[], [0], [size - 1], [0, 1], [1, 0, 1]] : List (List Nat)).map rwD)]) (([[], [0], [size - 1], [0, 1], [1, 0, 1]] : List (List Nat)).map rwD) := by
    obtain ⟨n, p, h, h0, e⟩ := w
    exact ⟨by simp, fun j hj hl => by rw [List.getElem?_append_left hl], get_last _ _, ⟨n, p, h, h0, by rw [List.getElem?_append_left hk]; exact e⟩, wf.app (los_mapD (rwD_lo _) _)⟩
  obtain ⟨y3, y4, rows, M', e, q1, q2⟩ := rows_loop hk (by omega) h4 8 0 [[], [0], [size - 1], [0, 1], [1, 0, 1]] _ none none (by simp) (by
    intro r hr
    simp only [List.mem_cons, List.mem_nil_iff, or_false] at hr
    rcases hr with rfl | rfl | rfl | rfl | rfl <;> refine ⟨by simp, fun l hl => ?_⟩ <;> simp at hl <;> omega) lv0
  refine ⟨rows, M', ?_, q1, q2⟩
  have rb : rngB 8 := rngB_ok (by decide) (by decide)
  have t8 : (8 : Int).toNat = 8 := rfl
  rw [← em] at e
  unfold m__law_rows fnM g__law_rows
  have sD : startD 5 [.ref k, .int (size : Nat)] = [some (.ref k), some (.int (size : Nat)), none, none, none] := rfl
  rw [sD]
  simp only [s_gSeq, s_gSet, s_gLstM, s_gACons, s_gANil, s_gETup, s_gOp, s_gVar, s_gC, s_subI, s_gFor, s_giRng1, List.set_cons_succ, List.set_cons_zero, List.getElem?_cons_succ, List.getElem?_cons_zero, KM.R.bind_ok, KM.R.toS_ok, SR.then_nx, bigN, List.length_cons, List.length_nil, Nat.reduceAdd, Nat.reduceLeDiff, if_true, if_pos rb, t8, itT, e, s_gRet]
end K08
set_option linter.all false
set_option maxRecDepth 100000
set_option maxHeartbeats 4000000
namespace K08
open PySem L2 KM
theorem well_eq {ns : List Int} (hl : ns.length ≤ 63) : m__law_well [.rol (ns.map D.int)] [] = .ok (.ref 0) [wl ns 0 0 1] := by
  have lm := lcL_map (gd := fun _ => True) (gg := gtName 1) (ge := gCall oInt (gACons (gVar 1) gANil)) (δ := [some (.rol (ns.map D.int)), none]) (M := []) (em := D.int) (f := D.int) trivial ns [] (by simp; omega) (fun x _ => ⟨[some (.rol (ns.map D.int)), some (.int x)], rfl, rfl⟩)
  rw [List.nil_append] at lm
  have sl : oSl (.rol (ns.map D.int)) none (some 63) [] = .ok (.lst (ns.map D.int)) [] := by
    have : cutD (ns.map D.int) none (some 63) = ns.map D.int := by
      have q : HT.sIx (ns.map D.int).length (ns.map D.int).length (some ((63 : Nat) : Int)) = min 63 (ns.map D.int).length := HT.sIx_nat _ _ _
      show ((ns.map D.int).drop 0).take (HT.sIx (ns.map D.int).length (ns.map D.int).length (some ((63 : Nat) : Int)) - 0) = _
      rw [q, List.drop_zero, Nat.sub_zero]
      exact List.take_of_length_le (by rw [List.length_map]; omega)
    show R.ok (D.lst (cutD (ns.map D.int) none (some 63))) [] = _
    rw [this]
  have tn : tupOf (.lst (ns.map D.int)) = none := rfl
  have ln : KM.listOf [] (.lst (ns.map D.int)) = some (ns.map D.int) := rfl
  unfold m__law_well fnM g__law_well
  simp [startD, sl, tn, ln, wipeD, lm, finI, bigN, wl]
theorem law_loop {m m2 m3 : Mch} (a : MachOk m) (a2 : MachOk m2) (a3 : MachOk m3) {ps : List Int} {at_ : Nat} (e2 : Emb m m2 ps) (e3 : Twn m m3 at_) (h0 : nm ps 0 = 0) {names : List Nat} (hn : names = (List.range m.2.length).map (nm ps)) {M : List MO} (wf : WF M) {gd : List MO → Prop} (hgd : gd M) (x0 x1 x7 : Option D) : ∀ (rows : List (List Nat)) (x8 x9 x10 x11 : Option D), (∀ r ∈ rows, RowOk m.1 r) →
    ∃ δ', forL gd (gtName 8) (gSeq (gSet 9 (gCall m_allowed (gACons (gVar 2) (gACons (gVar 8) (gANil)))))
    (gSeq (gSet 10 (gCall m_state_after (gACons (gVar 2) (gACons (gVar 8) (gANil)))))
    (gSeq (gIf (gOr (gTest (gOp oNe (gCall m_allowed (gACons (gVar 3) (gACons (gVar 8) (gANil)))) (gVar 9))) (gTest (gOp oNe (gCall m_state_after (gACons (gVar 3) (gACons (gVar 8) (gANil)))) (gOp oIx (gVar 4) (gVar 10))))) (gRet (gC (.bl false))) (gNext))
    (gSeq (gSet 11 (gCall m_state_after (gACons (gVar 5) (gACons (gVar 8) (gANil)))))
    (gIf (gOr (gTest (gOp oNe (gCall m_allowed (gACons (gVar 5) (gACons (gVar 8) (gANil)))) (gVar 9))) (gTest (gOp oNe (gOp oIx (gLst (gACons (gVar 11) (gACons (gVar 6) (gANil)))) (gCall oInt (gACons (gOp oEq (gVar 11) (gCall oLen (gACons (gOp oIx (gVar 2) (gC (.int 1))) (gANil)))) (gANil)))) (gVar 10)))) (gRet (gC (.bl false))) (gNext))))))
      (rows.map rwD) [x0, x1, some (mcD m), some (mcD m2), some (.lst (names.map nD)), some (mcD m3), some (.int (at_ : Nat)), x7, x8, x9, x10, x11] M = .nx δ' M
  | [], x8, x9, x10, x11, _ => ⟨[x0, x1, some (mcD m), some (mcD m2), some (.lst (names.map nD)), some (mcD m3), some (.int (at_ : Nat)), x7, x8, x9, x10, x11], by simp [forL, hgd]⟩
  | row :: rows, x8, x9, x10, x11, hr => by
    have ro := hr row (List.mem_cons_self ..)
    have r2 : ∀ l ∈ row, l < m2.1 := by rw [e2.size]; exact ro.2
    have r3 : ∀ l ∈ row, l < m3.1 := by rw [e3.size]; exact ro.2
    have hl : row.length ≤ 400 := by have := ro.1; omega
    have s2 := emb_sim a e2
    have s3 := twn_sim a e3
    have z2 : (0 : Nat) < m.2.length ∧ (0 : Nat) = nm ps 0 := ⟨a.l1, h0.symm⟩
    have z3 : (0 : Nat) < m.2.length ∧ ((0 : Nat) = 0 ∨ (0 = at_ ∧ (0 : Nat) = m.2.length)) := ⟨a.l1, .inl rfl⟩
    have al := allowed_eq a hl ro.2 wf
    have al2 := allowed_eq a2 hl r2 wf
    have al3 := allowed_eq a3 hl r3 wf
    have sa := state_after_eq a hl ro.2 wf
    have sa2 := state_after_eq a2 hl r2 wf
    have sa3 := state_after_eq a3 hl r3 wf
    rw [← s2.alw z2 ro.2] at al2
    rw [← s3.alw z3 ro.2] at al3
    have q2 := (s2.run row 0 0 z2 ro.2).2
    have q3 := (s3.run row 0 0 z3 ro.2).2
    generalize endOf m.2 0 row = here at sa q2 q3
    generalize endOf m3.2 0 row = there at sa3 q3
    generalize alw m.2 0 row = due at al al2 al3
    rw [q2.2] at sa2
    obtain ⟨δ', e⟩ := law_loop a a2 a3 e2 e3 h0 hn wf hgd x0 x1 x7 rows (some (rwD row)) (some (fD due)) (some (.int (here : Nat))) (some (.int (there : Nat))) (fun r h => hr r (List.mem_cons_of_mem _ h))
    refine ⟨δ', ?_⟩
    rw [List.map_cons]
    unfold forL
    rw [if_pos hgd]
    have ne := oNe_fr due due M
    rw [decide_eq_true rfl] at ne
    have ni : oIx (.lst (names.map nD)) (.int (here : Int)) M = .ok (.int ((nm ps here : Nat) : Int)) M := oIx_L (xs := names.map nD) rfl rfl (by omega) (by
      rw [Int.toNat_natCast, hn, List.getElem?_map, List.getElem?_map, List.getElem?_range q2.1]
      rfl)
    have i1 : oIx (mcD m) (.int 1) M = .ok (.tup (m.2.map ruD)) M := s_ixT M (n := 1) rfl
    have ln : oLen [.tup (m.2.map ruD)] M = .ok (.int (m.2.length : Int)) M := by
      show R.ok (D.int ((m.2.map ruD).length : Int)) M = _
      rw [List.length_map]
    have b2 : ∀ x y : D, bigN ([x, y] : List D).length := fun _ _ => bigN_ok (by simp)
    have oi : ∀ (b : Bool) M', oInt [.bl b] M' = .ok (.int (if b = true then 1 else 0)) M' := fun _ _ => rfl
    have last : (if ((there : Int) == (m.2.length : Int)) = true then (at_ : Int) else (there : Int)) = (here : Int) := by
      rcases q3.2 with h | ⟨h1, h2⟩
      · have : ((there : Int) == (m.2.length : Int)) = false := by
          rw [beq_eq_false_iff_ne]
          have := q3.1
          omega
        rw [this, h]
        rfl
      · have : ((there : Int) == (m.2.length : Int)) = true := by
          rw [h2]
          exact beq_self_eq_true _
        rw [this, h1]
        rfl
    simp only [s_gtName, s_gSeq, s_gSet, s_gIf, s_gOr, s_gTest, s_gRet, s_gNext, s_gCall, s_gVar, s_gACons, s_gANil, s_gOp, s_gC, s_gLst, KM.R.bind_ok, KM.R.toS_ok, SR.then_nx, List.set_cons_succ, List.set_cons_zero, List.getElem?_cons_succ, List.getElem?_cons_zero, al, al2, al3, sa, sa2, sa3, ne, s_neI, s_eqI, ni, i1, ln, if_pos (b2 _ _), oi, lst2, last, beq_self_eq_true, Bool.not_true, if_neg Bool.false_ne_true]
    exact e
theorem law_true : LawTrue m_law := by
  intro ns hl _
  have we := well_eq hl
  have wf : WF [wl ns 0 0 1] := by
    show ([wl ns 0 0 1] : List MO).all _ = true
    simp [wl_lo]
  obtain ⟨m, M1, e1, a, h6, n1⟩ := some_eq (k := 0) (c := ns) wf ⟨0, 0, 1, by decide, rfl⟩
  obtain ⟨m2, ps, M2, f2, a2, em, h0, n2⟩ := more_eq n1.wf n1.w a h6
  obtain ⟨m3, at_, M3, f3, a3, tw, n3⟩ := twin_eq n2.wf n2.w a h6
  obtain ⟨xs, f4, hx12, hx⟩ := reached_eq a2 (emb_closed a em) ⟨0, a.l1, h0.symm⟩ n3.wf
  obtain ⟨rows, M5, f5, lv, hr⟩ := rows_eq n3.wf n3.w (size := m.1) a.s2 a.s4
  have hn : ∀ x ∈ xs, x ∈ (List.range m.2.length).map (nm ps) := fun x h => by
    obtain ⟨s, h1, rfl⟩ := hx x h
    exact List.mem_map.mpr ⟨s, List.mem_range.mpr h1, rfl⟩
  generalize hnames : (List.range m.2.length).map (nm ps) = names at f2 hn
  have gd : gdOf (.ref M3.length) (rows.map rwD) M5 := lv.own
  obtain ⟨δ', e⟩ := law_loop a a2 a3 em tw h0 hnames.symm lv.wf (gd := gdOf (.ref M3.length) (rows.map rwD)) gd (some (.rol (ns.map D.int))) (some (.ref 0)) none rows none none none none hr
  refine ⟨M5, ?_⟩
  have sD : startD 12 [.rol (ns.map D.int)] = [some (.rol (ns.map D.int)), none, none, none, none, none, none, none, none, none, none, none] := rfl
  have tx : tupOf (.tup (xs.map nD)) = some (xs.map nD) := rfl
  have lx : lcL (fun _ => True) (gtName 7) gYes (gOp oIn (gVar 7) (gVar 4)) [some (.rol (ns.map D.int)), some (.ref 0), some (mcD m), some (mcD m2), some (.lst (names.map nD)), some (mcD m3), some (.int (at_ : Nat)), none, none, none, none, none] (xs.map nD) [] M3 = .ok ([] ++ xs.map fun _ => D.bl true) M3 := by
    refine lcL_map trivial xs [] (by simp; omega) fun x hxx => ⟨_, rfl, ?_⟩
    have := oIn_of (x := x) (y := .lst (names.map nD)) (xs := names) (M := M3) rfl rfl
    rw [decide_eq_true (hn x hxx)] at this
    simpa using this
  rw [List.nil_append] at lx
  have oa := oAll_map (fun _ : Nat => true) xs M3
  have ta : ((xs.map fun _ : Nat => true).all id) = true := by
    rw [List.all_map]
    exact List.all_eq_true.mpr fun _ _ => rfl
  rw [ta] at oa
  have em0 : ∀ M', oIx (mcD m) (.int 0) M' = .ok (.int (m.1 : Nat)) M' := fun M' => s_ixT M' (n := 0) rfl
  have lo := s_listOf_ref M5 lv.own
  have tr : ∀ n, tupOf (.ref n) = none := fun _ => rfl
  unfold m_law fnM g_law
  rw [sD]
  simp only [s_gSeq, s_gSet, s_gAsg, s_gtTup, s_gtCons, s_gtName, gtNil, s_gCall, s_gVar, s_gACons, s_gANil, s_gOp, s_gC, s_gIf, s_gNot, s_gTru, s_gLcG, s_giSeq, s_gFor, s_gRet, s_gNext, List.length_cons, List.length_nil, Nat.reduceAdd, if_true, KM.R.bind_ok, KM.R.toS_ok, SR.then_nx, List.set_cons_succ, List.set_cons_zero, List.getElem?_cons_succ, List.getElem?_cons_zero, we, e1, f2, f3, f4, tx, itT, wipeD, lx, finI, oa, trD, Bool.not_true, if_neg Bool.false_ne_true, em0, f5, tr, lo, e]
end K08

set_option Elab.async false
set_option linter.all false
set_option maxRecDepth 100000
namespace K08
open PySem PySem.Spec PyProof.Rows L2 KM
set_option maxHeartbeats 4000000 in
theorem all_ok {P : Program} {w : World} {K : PySem.W.Frag} {mg : Str → Option Value} {fa : Addr} (hfa : mg "law" = some (.ref fa)) (T : Txt K mg) (d__law_well : DefAt K mg "_law_well" s__law_well) (d__law_mixed : DefAt K mg "_law_mixed" s__law_mixed) (d__law_filled : DefAt K mg "_law_filled" s__law_filled) (d__law_draw : DefAt K mg "_law_draw" s__law_draw) (d__law_shared : DefAt K mg "_law_shared" s__law_shared) (d__law_part : DefAt K mg "_law_part" s__law_part) (d__law_allowance : DefAt K mg "_law_allowance" s__law_allowance) (d__law_machine : DefAt K mg "_law_machine" s__law_machine) (d__law_some : DefAt K mg "_law_some" s__law_some) (d__law_with_more : DefAt K mg "_law_with_more" s__law_with_more) (d__law_twin : DefAt K mg "_law_twin" s__law_twin) (d__law_rows : DefAt K mg "_law_rows" s__law_rows) (d_reduced : DefAt K mg "reduced" s_reduced) (d_total : DefAt K mg "total" s_total) (d_is_whole : DefAt K mg "is_whole" s_is_whole) (d_is_size : DefAt K mg "is_size" s_is_size) (d_is_fraction : DefAt K mg "is_fraction" s_is_fraction) (d_is_allowance : DefAt K mg "is_allowance" s_is_allowance) (d_is_below : DefAt K mg "is_below" s_is_below) (d_is_step : DefAt K mg "is_step" s_is_step) (d_is_rule : DefAt K mg "is_rule" s_is_rule) (d_is_ruled : DefAt K mg "is_ruled" s_is_ruled) (d_is_machine : DefAt K mg "is_machine" s_is_machine) (d_is_row : DefAt K mg "is_row" s_is_row) (d_steps_of : DefAt K mg "steps_of" s_steps_of) (d_allowed : DefAt K mg "allowed" s_allowed) (d_state_after : DefAt K mg "state_after" s_state_after) (d_come_to : DefAt K mg "come_to" s_come_to) (d_reached : DefAt K mg "reached" s_reached) (d_law : DefAt K mg "law" s_law) :
    ∃ fd : FuncData, (∀ (s : Shared) (v : Value), BindsTo s fd ⟨[v], []⟩ [("_law_script", v)]) ∧ ∀ base : Heap, FnOk P w K mg base (L2.CX P w) 10 fa fd ["_law_script"] (spLaw K) := by
  obtain ⟨a__law_well, e__law_well, F__law_well, M__law_well, K__law_well, N__law_well⟩ := d__law_well
  obtain ⟨a__law_mixed, e__law_mixed, F__law_mixed, M__law_mixed, K__law_mixed, N__law_mixed⟩ := d__law_mixed
  obtain ⟨a__law_filled, e__law_filled, F__law_filled, M__law_filled, K__law_filled, N__law_filled⟩ := d__law_filled
  obtain ⟨a__law_draw, e__law_draw, F__law_draw, M__law_draw, K__law_draw, N__law_draw⟩ := d__law_draw
  obtain ⟨a__law_shared, e__law_shared, F__law_shared, M__law_shared, K__law_shared, N__law_shared⟩ := d__law_shared
  obtain ⟨a__law_part, e__law_part, F__law_part, M__law_part, K__law_part, N__law_part⟩ := d__law_part
  obtain ⟨a__law_allowance, e__law_allowance, F__law_allowance, M__law_allowance, K__law_allowance, N__law_allowance⟩ := d__law_allowance
  obtain ⟨a__law_machine, e__law_machine, F__law_machine, M__law_machine, K__law_machine, N__law_machine⟩ := d__law_machine
  obtain ⟨a__law_some, e__law_some, F__law_some, M__law_some, K__law_some, N__law_some⟩ := d__law_some
  obtain ⟨a__law_with_more, e__law_with_more, F__law_with_more, M__law_with_more, K__law_with_more, N__law_with_more⟩ := d__law_with_more
  obtain ⟨a__law_twin, e__law_twin, F__law_twin, M__law_twin, K__law_twin, N__law_twin⟩ := d__law_twin
  obtain ⟨a__law_rows, e__law_rows, F__law_rows, M__law_rows, K__law_rows, N__law_rows⟩ := d__law_rows
  obtain ⟨a_reduced, e_reduced, F_reduced, M_reduced, K_reduced, N_reduced⟩ := d_reduced
  obtain ⟨a_total, e_total, F_total, M_total, K_total, N_total⟩ := d_total
  obtain ⟨a_is_whole, e_is_whole, F_is_whole, M_is_whole, K_is_whole, N_is_whole⟩ := d_is_whole
  obtain ⟨a_is_size, e_is_size, F_is_size, M_is_size, K_is_size, N_is_size⟩ := d_is_size
  obtain ⟨a_is_fraction, e_is_fraction, F_is_fraction, M_is_fraction, K_is_fraction, N_is_fraction⟩ := d_is_fraction
  obtain ⟨a_is_allowance, e_is_allowance, F_is_allowance, M_is_allowance, K_is_allowance, N_is_allowance⟩ := d_is_allowance
  obtain ⟨a_is_below, e_is_below, F_is_below, M_is_below, K_is_below, N_is_below⟩ := d_is_below
  obtain ⟨a_is_step, e_is_step, F_is_step, M_is_step, K_is_step, N_is_step⟩ := d_is_step
  obtain ⟨a_is_rule, e_is_rule, F_is_rule, M_is_rule, K_is_rule, N_is_rule⟩ := d_is_rule
  obtain ⟨a_is_ruled, e_is_ruled, F_is_ruled, M_is_ruled, K_is_ruled, N_is_ruled⟩ := d_is_ruled
  obtain ⟨a_is_machine, e_is_machine, F_is_machine, M_is_machine, K_is_machine, N_is_machine⟩ := d_is_machine
  obtain ⟨a_is_row, e_is_row, F_is_row, M_is_row, K_is_row, N_is_row⟩ := d_is_row
  obtain ⟨a_steps_of, e_steps_of, F_steps_of, M_steps_of, K_steps_of, N_steps_of⟩ := d_steps_of
  obtain ⟨a_allowed, e_allowed, F_allowed, M_allowed, K_allowed, N_allowed⟩ := d_allowed
  obtain ⟨a_state_after, e_state_after, F_state_after, M_state_after, K_state_after, N_state_after⟩ := d_state_after
  obtain ⟨a_come_to, e_come_to, F_come_to, M_come_to, K_come_to, N_come_to⟩ := d_come_to
  obtain ⟨a_reached, e_reached, F_reached, M_reached, K_reached, N_reached⟩ := d_reached
  obtain ⟨a_law, e_law, F_law, M_law, K_law, N_law⟩ := d_law
  have e := hfa.symm.trans M_law
  cases e
  obtain ⟨oc, od, kV, doc, pm, an, cdv, ct, osl, rfl, lk, hcd⟩ := F_law.ex
  refine ⟨PySem.W.fnOf "law" "law" (defArgs s_law) (defBody s_law) (defScope s_law) .none kV doc pm an cdv ct, fun s v => .of_eq rfl, fun base => ?_⟩
  have C__law_well : Callee P w K mg base "_law_well" 1 1 m__law_well := FnOk.toC (ok__law_well F__law_well T ) M__law_well K__law_well (F__law_well.binds (ps := ["_law_script"]) fun _ _ _ _ _ _ us hl => match us, hl with | [_], _ => rfl) N__law_well
  have C__law_mixed : Callee P w K mg base "_law_mixed" 1 1 m__law_mixed := FnOk.toC (ok__law_mixed F__law_mixed T ) M__law_mixed K__law_mixed (F__law_mixed.binds (ps := ["_law_number"]) fun _ _ _ _ _ _ us hl => match us, hl with | [_], _ => rfl) N__law_mixed
  have C__law_filled : Callee P w K mg base "_law_filled" 2 1 m__law_filled := FnOk.toC (ok__law_filled F__law_filled T C__law_mixed) M__law_filled K__law_filled (F__law_filled.binds (ps := ["_law_well_here"]) fun _ _ _ _ _ _ us hl => match us, hl with | [_], _ => rfl) N__law_filled
  have C__law_draw : Callee P w K mg base "_law_draw" 3 2 m__law_draw := FnOk.toC (ok__law_draw F__law_draw T C__law_filled) M__law_draw K__law_draw (F__law_draw.binds (ps := ["_law_well_here", "_law_many"]) fun _ _ _ _ _ _ us hl => match us, hl with | [_, _], _ => rfl) N__law_draw
  have C__law_shared : Callee P w K mg base "_law_shared" 1 2 m__law_shared := FnOk.toC (ok__law_shared F__law_shared T ) M__law_shared K__law_shared (F__law_shared.binds (ps := ["_law_one", "_law_other"]) fun _ _ _ _ _ _ us hl => match us, hl with | [_, _], _ => rfl) N__law_shared
  have C__law_part : Callee P w K mg base "_law_part" 2 2 m__law_part := FnOk.toC (ok__law_part F__law_part T C__law_shared) M__law_part K__law_part (F__law_part.binds (ps := ["_law_top", "_law_bottom"]) fun _ _ _ _ _ _ us hl => match us, hl with | [_, _], _ => rfl) N__law_part
  have C__law_allowance : Callee P w K mg base "_law_allowance" 4 1 m__law_allowance := FnOk.toC (ok__law_allowance F__law_allowance T C__law_draw C__law_part) M__law_allowance K__law_allowance (F__law_allowance.binds (ps := ["_law_well_here"]) fun _ _ _ _ _ _ us hl => match us, hl with | [_], _ => rfl) N__law_allowance
  have C__law_machine : Callee P w K mg base "_law_machine" 5 1 m__law_machine := FnOk.toC (ok__law_machine F__law_machine T C__law_draw C__law_allowance) M__law_machine K__law_machine (F__law_machine.binds (ps := ["_law_well_here"]) fun _ _ _ _ _ _ us hl => match us, hl with | [_], _ => rfl) N__law_machine
  have C__law_some : Callee P w K mg base "_law_some" 6 1 m__law_some := FnOk.toC (ok__law_some F__law_some T C__law_machine) M__law_some K__law_some (F__law_some.binds (ps := ["_law_well_here"]) fun _ _ _ _ _ _ us hl => match us, hl with | [_], _ => rfl) N__law_some
  have C__law_with_more : Callee P w K mg base "_law_with_more" 5 2 m__law_with_more := FnOk.toC (ok__law_with_more F__law_with_more T C__law_draw C__law_allowance) M__law_with_more K__law_with_more (F__law_with_more.binds (ps := ["_law_well_here", "_law_machine_here"]) fun _ _ _ _ _ _ us hl => match us, hl with | [_, _], _ => rfl) N__law_with_more
  have C__law_twin : Callee P w K mg base "_law_twin" 4 2 m__law_twin := FnOk.toC (ok__law_twin F__law_twin T C__law_draw) M__law_twin K__law_twin (F__law_twin.binds (ps := ["_law_well_here", "_law_machine_here"]) fun _ _ _ _ _ _ us hl => match us, hl with | [_, _], _ => rfl) N__law_twin
  have C__law_rows : Callee P w K mg base "_law_rows" 4 2 m__law_rows := FnOk.toC (ok__law_rows F__law_rows T C__law_draw) M__law_rows K__law_rows (F__law_rows.binds (ps := ["_law_well_here", "_law_size"]) fun _ _ _ _ _ _ us hl => match us, hl with | [_, _], _ => rfl) N__law_rows
  have C_reduced : Callee P w K mg base "reduced" 1 2 m_reduced := FnOk.toC (ok_reduced F_reduced T ) M_reduced K_reduced (F_reduced.binds (ps := ["top", "bottom"]) fun _ _ _ _ _ _ us hl => match us, hl with | [_, _], _ => rfl) N_reduced
  have C_total : Callee P w K mg base "total" 2 1 m_total := FnOk.toC (ok_total F_total T C_reduced) M_total K_total (F_total.binds (ps := ["parts"]) fun _ _ _ _ _ _ us hl => match us, hl with | [_], _ => rfl) N_total
  have C_is_whole : Callee P w K mg base "is_whole" 1 1 m_is_whole := FnOk.toC (ok_is_whole F_is_whole T ) M_is_whole K_is_whole (F_is_whole.binds (ps := ["thing"]) fun _ _ _ _ _ _ us hl => match us, hl with | [_], _ => rfl) N_is_whole
  have C_is_size : Callee P w K mg base "is_size" 2 1 m_is_size := FnOk.toC (ok_is_size F_is_size T C_is_whole) M_is_size K_is_size (F_is_size.binds (ps := ["thing"]) fun _ _ _ _ _ _ us hl => match us, hl with | [_], _ => rfl) N_is_size
  have C_is_fraction : Callee P w K mg base "is_fraction" 2 1 m_is_fraction := FnOk.toC (ok_is_fraction F_is_fraction T C_is_whole) M_is_fraction K_is_fraction (F_is_fraction.binds (ps := ["thing"]) fun _ _ _ _ _ _ us hl => match us, hl with | [_], _ => rfl) N_is_fraction
  have C_is_allowance : Callee P w K mg base "is_allowance" 3 1 m_is_allowance := FnOk.toC (ok_is_allowance F_is_allowance T C_is_fraction) M_is_allowance K_is_allowance (F_is_allowance.binds (ps := ["thing"]) fun _ _ _ _ _ _ us hl => match us, hl with | [_], _ => rfl) N_is_allowance
  have C_is_below : Callee P w K mg base "is_below" 2 2 m_is_below := FnOk.toC (ok_is_below F_is_below T C_is_whole) M_is_below K_is_below (F_is_below.binds (ps := ["thing", "end"]) fun _ _ _ _ _ _ us hl => match us, hl with | [_, _], _ => rfl) N_is_below
  have C_is_step : Callee P w K mg base "is_step" 4 2 m_is_step := FnOk.toC (ok_is_step F_is_step T C_is_allowance C_is_below) M_is_step K_is_step (F_is_step.binds (ps := ["thing", "states"]) fun _ _ _ _ _ _ us hl => match us, hl with | [_, _], _ => rfl) N_is_step
  have C_is_rule : Callee P w K mg base "is_rule" 5 3 m_is_rule := FnOk.toC (ok_is_rule F_is_rule T C_is_step) M_is_rule K_is_rule (F_is_rule.binds (ps := ["thing", "size", "states"]) fun _ _ _ _ _ _ us hl => match us, hl with | [_, _, _], _ => rfl) N_is_rule
  have C_is_ruled : Callee P w K mg base "is_ruled" 6 3 m_is_ruled := FnOk.toC (ok_is_ruled F_is_ruled T C_is_size C_is_rule) M_is_ruled K_is_ruled (F_is_ruled.binds (ps := ["thing", "most", "judge"]) fun _ _ _ _ _ _ us hl => match us, hl with | [_, _, _], _ => rfl) N_is_ruled
  have C_is_machine : Callee P w K mg base "is_machine" 7 1 m_is_machine := FnOk.toC (ok_is_machine F_is_machine T C_is_ruled C_is_rule) M_is_machine K_is_machine (F_is_machine.binds (ps := ["thing"]) fun _ _ _ _ _ _ us hl => match us, hl with | [_], _ => rfl) N_is_machine
  have C_is_row : Callee P w K mg base "is_row" 3 2 m_is_row := FnOk.toC (ok_is_row F_is_row T C_is_size C_is_below) M_is_row K_is_row (F_is_row.binds (ps := ["size", "thing"]) fun _ _ _ _ _ _ us hl => match us, hl with | [_, _], _ => rfl) N_is_row
  have C_steps_of : Callee P w K mg base "steps_of" 8 2 m_steps_of := FnOk.toC (ok_steps_of F_steps_of T C_is_machine C_is_row) M_steps_of K_steps_of (F_steps_of.binds (ps := ["machine", "row"]) fun _ _ _ _ _ _ us hl => match us, hl with | [_, _], _ => rfl) N_steps_of
  have C_allowed : Callee P w K mg base "allowed" 9 2 m_allowed := FnOk.toC (ok_allowed F_allowed T C_total C_steps_of) M_allowed K_allowed (F_allowed.binds (ps := ["machine", "row"]) fun _ _ _ _ _ _ us hl => match us, hl with | [_, _], _ => rfl) N_allowed
  have C_state_after : Callee P w K mg base "state_after" 9 2 m_state_after := FnOk.toC (ok_state_after F_state_after T C_steps_of) M_state_after K_state_after (F_state_after.binds (ps := ["machine", "row"]) fun _ _ _ _ _ _ us hl => match us, hl with | [_, _], _ => rfl) N_state_after
  have C_come_to : Callee P w K mg base "come_to" 1 2 m_come_to := FnOk.toC (ok_come_to F_come_to T ) M_come_to K_come_to (F_come_to.binds (ps := ["nexts", "begin"]) fun _ _ _ _ _ _ us hl => match us, hl with | [_, _], _ => rfl) N_come_to
  have C_reached : Callee P w K mg base "reached" 8 1 m_reached := FnOk.toC (ok_reached F_reached T C_come_to C_is_machine) M_reached K_reached (F_reached.binds (ps := ["machine"]) fun _ _ _ _ _ _ us hl => match us, hl with | [_], _ => rfl) N_reached
  exact (ok_law F_law T C__law_well C__law_some C__law_with_more C__law_twin C__law_rows C_allowed C_state_after C_reached).imp (law_imp law_true)
end K08
open PySem PySem.W PyProof.Rows
set_option maxRecDepth 100000 in
set_option maxHeartbeats 0 in
theorem PySem.Challenge.cw_keptmisses_k08_whole_states_without_use_holds : PySem.Challenge.rw_keptmisses_k08_whole_states_without_use.Holds := by
  w_on; o_law; k_head; (case hw => w_witness2)
  k_fill
  refine KM.law_walk (l := PySem.Challenge.rw_keptmisses_k08_whole_states_without_use) (k := 10) (x := "_law_script") rfl rfl ⟨rfl, by decide, by decide⟩ (fun w h Y => PySem.W.kIn_of Y) ?F
  case F =>
    intro w mg fa h KX G hmg
    have z_abs : mg "abs" = none := by (refine' PySem.W.mg_none_of KX G ?z); (case z => k_is)
    have z_all : mg "all" = none := by (refine' PySem.W.mg_none_of KX G ?z); (case z => k_is)
    have z_bool : mg "bool" = none := by (refine' PySem.W.mg_none_of KX G ?z); (case z => k_is)
    have z_int : mg "int" = none := by (refine' PySem.W.mg_none_of KX G ?z); (case z => k_is)
    have z_isinstance : mg "isinstance" = none := by (refine' PySem.W.mg_none_of KX G ?z); (case z => k_is)
    have z_len : mg "len" = none := by (refine' PySem.W.mg_none_of KX G ?z); (case z => k_is)
    have z_list : mg "list" = none := by (refine' PySem.W.mg_none_of KX G ?z); (case z => k_is)
    have z_min : mg "min" = none := by (refine' PySem.W.mg_none_of KX G ?z); (case z => k_is)
    have z_range : mg "range" = none := by (refine' PySem.W.mg_none_of KX G ?z); (case z => k_is)
    have z_sorted : mg "sorted" = none := by (refine' PySem.W.mg_none_of KX G ?z); (case z => k_is)
    have z_tuple : mg "tuple" = none := by (refine' PySem.W.mg_none_of KX G ?z); (case z => k_is)
    have z_gcd : mg "gcd" = some (.builtin "math.gcd") := by (refine' PySem.W.mg_of KX G ?z); (case z => k_is)
    have z_lcm : mg "lcm" = some (.builtin "math.lcm") := by (refine' PySem.W.mg_of KX G ?z); (case z => k_is)
    have c_LEAST_SIZE : KM.GlobC (L2.KOf KX) mg "LEAST_SIZE" (.int 2) := by (refine' KM.globI_mk KX G ?z); (case z => k_is)
    have c_MOST_BOTTOM : KM.GlobC (L2.KOf KX) mg "MOST_BOTTOM" (.int 1000) := by (refine' KM.globI_mk KX G ?z); (case z => k_is)
    have c_MOST_LETTERS : KM.GlobC (L2.KOf KX) mg "MOST_LETTERS" (.int 400) := by (refine' KM.globI_mk KX G ?z); (case z => k_is)
    have c_MOST_SIZE : KM.GlobC (L2.KOf KX) mg "MOST_SIZE" (.int 4) := by (refine' KM.globI_mk KX G ?z); (case z => k_is)
    have c_MOST_STATES : KM.GlobC (L2.KOf KX) mg "MOST_STATES" (.int 12) := by (refine' KM.globI_mk KX G ?z); (case z => k_is)
    have c_MOST_TOP : KM.GlobC (L2.KOf KX) mg "MOST_TOP" (.int 1000000) := by (refine' KM.globI_mk KX G ?z); (case z => k_is)
    have x_NoSize : KM.ExcAt (L2.KOf KX) mg "NoSize" := by (refine' KM.excAt_mk KX G ?x0a ?x0q ?x0k ?x0b ?x0t); (case x0a => k_is); (case x0q => k_exc); (case x0k => k_is); (case x0b => k_is); (case x0t => k_is)
    have x_NoMachine : KM.ExcAt (L2.KOf KX) mg "NoMachine" := by (refine' KM.excAt_mk KX G ?x1a ?x1q ?x1k ?x1b ?x1t); (case x1a => k_is); (case x1q => k_exc); (case x1k => k_is); (case x1b => k_is); (case x1t => k_is)
    have x_NoRow : KM.ExcAt (L2.KOf KX) mg "NoRow" := by (refine' KM.excAt_mk KX G ?x2a ?x2q ?x2k ?x2b ?x2t); (case x2a => k_is); (case x2q => k_exc); (case x2k => k_is); (case x2b => k_is); (case x2t => k_is)
    have d__law_well : KM.DefAt (L2.KOf KX) mg "_law_well" K08.s__law_well := by (refine' KM.def_mk KX G ?a ?l ?c ?k); (case a => k_is); (case l => k_is); (case c => k_is); (case k => k_is)
    have d__law_mixed : KM.DefAt (L2.KOf KX) mg "_law_mixed" K08.s__law_mixed := by (refine' KM.def_mk KX G ?a ?l ?c ?k); (case a => k_is); (case l => k_is); (case c => k_is); (case k => k_is)
    have d__law_filled : KM.DefAt (L2.KOf KX) mg "_law_filled" K08.s__law_filled := by (refine' KM.def_mk KX G ?a ?l ?c ?k); (case a => k_is); (case l => k_is); (case c => k_is); (case k => k_is)
    have d__law_draw : KM.DefAt (L2.KOf KX) mg "_law_draw" K08.s__law_draw := by (refine' KM.def_mk KX G ?a ?l ?c ?k); (case a => k_is); (case l => k_is); (case c => k_is); (case k => k_is)
    have d__law_shared : KM.DefAt (L2.KOf KX) mg "_law_shared" K08.s__law_shared := by (refine' KM.def_mk KX G ?a ?l ?c ?k); (case a => k_is); (case l => k_is); (case c => k_is); (case k => k_is)
    have d__law_part : KM.DefAt (L2.KOf KX) mg "_law_part" K08.s__law_part := by (refine' KM.def_mk KX G ?a ?l ?c ?k); (case a => k_is); (case l => k_is); (case c => k_is); (case k => k_is)
    have d__law_allowance : KM.DefAt (L2.KOf KX) mg "_law_allowance" K08.s__law_allowance := by (refine' KM.def_mk KX G ?a ?l ?c ?k); (case a => k_is); (case l => k_is); (case c => k_is); (case k => k_is)
    have d__law_machine : KM.DefAt (L2.KOf KX) mg "_law_machine" K08.s__law_machine := by (refine' KM.def_mk KX G ?a ?l ?c ?k); (case a => k_is); (case l => k_is); (case c => k_is); (case k => k_is)
    have d__law_some : KM.DefAt (L2.KOf KX) mg "_law_some" K08.s__law_some := by (refine' KM.def_mk KX G ?a ?l ?c ?k); (case a => k_is); (case l => k_is); (case c => k_is); (case k => k_is)
    have d__law_with_more : KM.DefAt (L2.KOf KX) mg "_law_with_more" K08.s__law_with_more := by (refine' KM.def_mk KX G ?a ?l ?c ?k); (case a => k_is); (case l => k_is); (case c => k_is); (case k => k_is)
    have d__law_twin : KM.DefAt (L2.KOf KX) mg "_law_twin" K08.s__law_twin := by (refine' KM.def_mk KX G ?a ?l ?c ?k); (case a => k_is); (case l => k_is); (case c => k_is); (case k => k_is)
    have d__law_rows : KM.DefAt (L2.KOf KX) mg "_law_rows" K08.s__law_rows := by (refine' KM.def_mk KX G ?a ?l ?c ?k); (case a => k_is); (case l => k_is); (case c => k_is); (case k => k_is)
    have d_reduced : KM.DefAt (L2.KOf KX) mg "reduced" K08.s_reduced := by (refine' KM.def_mk KX G ?a ?l ?c ?k); (case a => k_is); (case l => k_is); (case c => k_is); (case k => k_is)
    have d_total : KM.DefAt (L2.KOf KX) mg "total" K08.s_total := by (refine' KM.def_mk KX G ?a ?l ?c ?k); (case a => k_is); (case l => k_is); (case c => k_is); (case k => k_is)
    have d_is_whole : KM.DefAt (L2.KOf KX) mg "is_whole" K08.s_is_whole := by (refine' KM.def_mk KX G ?a ?l ?c ?k); (case a => k_is); (case l => k_is); (case c => k_is); (case k => k_is)
    have d_is_size : KM.DefAt (L2.KOf KX) mg "is_size" K08.s_is_size := by (refine' KM.def_mk KX G ?a ?l ?c ?k); (case a => k_is); (case l => k_is); (case c => k_is); (case k => k_is)
    have d_is_fraction : KM.DefAt (L2.KOf KX) mg "is_fraction" K08.s_is_fraction := by (refine' KM.def_mk KX G ?a ?l ?c ?k); (case a => k_is); (case l => k_is); (case c => k_is); (case k => k_is)
    have d_is_allowance : KM.DefAt (L2.KOf KX) mg "is_allowance" K08.s_is_allowance := by (refine' KM.def_mk KX G ?a ?l ?c ?k); (case a => k_is); (case l => k_is); (case c => k_is); (case k => k_is)
    have d_is_below : KM.DefAt (L2.KOf KX) mg "is_below" K08.s_is_below := by (refine' KM.def_mk KX G ?a ?l ?c ?k); (case a => k_is); (case l => k_is); (case c => k_is); (case k => k_is)
    have d_is_step : KM.DefAt (L2.KOf KX) mg "is_step" K08.s_is_step := by (refine' KM.def_mk KX G ?a ?l ?c ?k); (case a => k_is); (case l => k_is); (case c => k_is); (case k => k_is)
    have d_is_rule : KM.DefAt (L2.KOf KX) mg "is_rule" K08.s_is_rule := by (refine' KM.def_mk KX G ?a ?l ?c ?k); (case a => k_is); (case l => k_is); (case c => k_is); (case k => k_is)
    have d_is_ruled : KM.DefAt (L2.KOf KX) mg "is_ruled" K08.s_is_ruled := by (refine' KM.def_mk KX G ?a ?l ?c ?k); (case a => k_is); (case l => k_is); (case c => k_is); (case k => k_is)
    have d_is_machine : KM.DefAt (L2.KOf KX) mg "is_machine" K08.s_is_machine := by (refine' KM.def_mk KX G ?a ?l ?c ?k); (case a => k_is); (case l => k_is); (case c => k_is); (case k => k_is)
    have d_is_row : KM.DefAt (L2.KOf KX) mg "is_row" K08.s_is_row := by (refine' KM.def_mk KX G ?a ?l ?c ?k); (case a => k_is); (case l => k_is); (case c => k_is); (case k => k_is)
    have d_steps_of : KM.DefAt (L2.KOf KX) mg "steps_of" K08.s_steps_of := by (refine' KM.def_mk KX G ?a ?l ?c ?k); (case a => k_is); (case l => k_is); (case c => k_is); (case k => k_is)
    have d_allowed : KM.DefAt (L2.KOf KX) mg "allowed" K08.s_allowed := by (refine' KM.def_mk KX G ?a ?l ?c ?k); (case a => k_is); (case l => k_is); (case c => k_is); (case k => k_is)
    have d_state_after : KM.DefAt (L2.KOf KX) mg "state_after" K08.s_state_after := by (refine' KM.def_mk KX G ?a ?l ?c ?k); (case a => k_is); (case l => k_is); (case c => k_is); (case k => k_is)
    have d_come_to : KM.DefAt (L2.KOf KX) mg "come_to" K08.s_come_to := by (refine' KM.def_mk KX G ?a ?l ?c ?k); (case a => k_is); (case l => k_is); (case c => k_is); (case k => k_is)
    have d_reached : KM.DefAt (L2.KOf KX) mg "reached" K08.s_reached := by (refine' KM.def_mk KX G ?a ?l ?c ?k); (case a => k_is); (case l => k_is); (case c => k_is); (case k => k_is)
    have d_law : KM.DefAt (L2.KOf KX) mg "law" K08.s_law := by (refine' KM.def_mk KX G ?a ?l ?c ?k); (case a => k_is); (case l => k_is); (case c => k_is); (case k => k_is)
    obtain ⟨fd, h1, h2⟩ := K08.all_ok (P := (PySem.Challenge.rw_keptmisses_k08_whole_states_without_use).prog) (w := w) hmg ⟨z_abs, z_all, z_bool, z_int, z_isinstance, z_len, z_list, z_min, z_range, z_sorted, z_tuple, z_gcd, z_lcm, c_LEAST_SIZE, c_MOST_BOTTOM, c_MOST_LETTERS, c_MOST_SIZE, c_MOST_STATES, c_MOST_TOP, x_NoSize, x_NoMachine, x_NoRow⟩ d__law_well d__law_mixed d__law_filled d__law_draw d__law_shared d__law_part d__law_allowance d__law_machine d__law_some d__law_with_more d__law_twin d__law_rows d_reduced d_total d_is_whole d_is_size d_is_fraction d_is_allowance d_is_below d_is_step d_is_rule d_is_ruled d_is_machine d_is_row d_steps_of d_allowed d_state_after d_come_to d_reached d_law
    exact ⟨fd, h1, fun base _ _ => h2 base⟩
