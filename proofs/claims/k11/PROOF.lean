import PyProof.Rows.All
import Wide.All
import OpenK.AllK
import Wide.FinOn
import HandS.ForMost
import HandS.ForExc
import HandS.Evl
import HandS.Walk
import HandS.Zip
import HandS.Gcd
import HandS.Wide
import HandS.IsInst
import HandS.TupAny
import HandS.TupMul
import HandS.TryMany
import HandS.EndBits
import HandS.SortInts
import HandS.RaiseMore
import HandS.Small
import HandS.More
import HandS.Conv
import HandS.SortRule
import HandS.Iter
import HandS.Style
import PySem.Challenge.RW_keptmisses_k11_whole_worths_moved
set_option Elab.async false
set_option linter.all false
set_option maxRecDepth 100000
set_option maxHeartbeats 2000000
/-! Programs over data: values are told by trees of data (D), what changes is told by a store (M). -/
namespace KM
open PySem L2 PySem.Spec PyProof.Rows

inductive D where
  | non
  | bl (b : Bool)
  | int (i : Int)
  | str (s : Str)
  | tup (xs : List D)
  | lst (xs : List D)
  | rol (xs : List D)
  | ref (k : Nat)
  | obj (a : Addr)
  | fn (x : Str)
  | dct
inductive MO where
  | lst (xs : List D)
  | dct (kvs : List (Int × D))

mutual
inductive Rep (K : PySem.W.Frag) (I : Hp) (as : List Addr) : V → D → Prop
  | non : Rep K I as .non .non
  | bl (b : Bool) : Rep K I as (.bl b) (.bl b)
  | int (i : Int) : Rep K I as (.int i) (.int i)
  | str (s : Str) : Rep K I as (.str s) (.str s)
  | tup {a : Addr} {xs : List V} {ds : List D} : SqT K I a xs → Reps K I as xs ds → Rep K I as (.ref a) (.tup ds)
  | lst {a : Addr} {xs : List V} {ds : List D} : I a = some (.lst xs) → Reps K I as xs ds → Rep K I as (.ref a) (.lst ds)
  | rol {a : Addr} {xs : List V} {ds : List D} : SqL K I a xs → Reps K I as xs ds → Rep K I as (.ref a) (.rol ds)
  | ref {k : Nat} {a : Addr} : as[k]? = some a → Rep K I as (.ref a) (.ref k)
  | obj (a : Addr) : Rep K I as (.ref a) (.obj a)
  | fn {a : Addr} {x : Str} : PySem.W.nsIn K mainGlobals x = some (some (.ref a)) → Rep K I as (.ref a) (.fn x)
  | dct {a : Addr} {kvs : List (L2.Key × V)} : I a = some (.dK kvs) → Rep K I as (.ref a) .dct
inductive Reps (K : PySem.W.Frag) (I : Hp) (as : List Addr) : List V → List D → Prop
  | nil : Reps K I as [] []
  | cons {v : V} {vs : List V} {d : D} {ds : List D} : Rep K I as v d → Reps K I as vs ds → Reps K I as (v :: vs) (d :: ds)
end
/-- the world grows -/
structure Gr (I : Hp) (as : List Addr) (I' : Hp) (as' : List Addr) : Prop where
  sub : ∀ a o, I a = some o → I' a = some o
  pre : ∃ t, as' = as ++ t
theorem Gr.refl (I : Hp) (as : List Addr) : Gr I as I as := ⟨fun _ _ h => h, [], by simp⟩
theorem Gr.trans {I I1 I2 : Hp} {as as1 as2 : List Addr} (g : Gr I as I1 as1) (h : Gr I1 as1 I2 as2) : Gr I as I2 as2 := by
  obtain ⟨s, t, rfl⟩ := g
  obtain ⟨s', t', rfl⟩ := h
  exact ⟨fun a o e => s' a o (s a o e), t ++ t', by simp⟩
theorem Gr.at {I I' : Hp} {as as' : List Addr} (g : Gr I as I' as') {k : Nat} {a : Addr} (h : as[k]? = some a) : as'[k]? = some a := by
  obtain ⟨_, t, rfl⟩ := g
  have hk : k < as.length := (List.getElem?_eq_some_iff.mp h).1
  rw [List.getElem?_append_left hk]
  exact h
mutual
theorem Rep.mono {K : PySem.W.Frag} {I I' : Hp} {as as' : List Addr} (g : Gr I as I' as') : ∀ {v : V} {d : D}, Rep K I as v d → Rep K I' as' v d
  | _, _, .non => .non
  | _, _, .bl b => .bl b
  | _, _, .int b => .int b
  | _, _, .str b => .str b
  | _, _, .tup h r => .tup (Evl.ex_t g.sub h) (Reps.mono g r)
  | _, _, .lst h r => .lst (g.sub _ _ h) (Reps.mono g r)
  | _, _, .rol h r => .rol (Evl.ex_l g.sub h) (Reps.mono g r)
  | _, _, .ref h => .ref (g.at h)
  | _, _, .obj a => .obj a
  | _, _, .fn h => .fn h
  | _, _, .dct h => .dct (g.sub _ _ h)
theorem Reps.mono {K : PySem.W.Frag} {I I' : Hp} {as as' : List Addr} (g : Gr I as I' as') : ∀ {vs : List V} {ds : List D}, Reps K I as vs ds → Reps K I' as' vs ds
  | _, _, .nil => .nil
  | _, _, .cons h r => .cons (Rep.mono g h) (Reps.mono g r)
end
section
variable {K : PySem.W.Frag} {I : Hp} {as : List Addr}
theorem Reps.len : ∀ {vs : List V} {ds : List D}, Reps K I as vs ds → vs.length = ds.length
  | _, _, .nil => rfl
  | _, _, .cons _ r => by rw [List.length_cons, List.length_cons, Reps.len r]
theorem Reps.get : ∀ {vs : List V} {ds : List D} {i : Nat} {d : D}, Reps K I as vs ds → ds[i]? = some d → ∃ v, vs[i]? = some v ∧ Rep K I as v d
  | _, _, i, d, .nil, h => by simp at h
  | _, _, 0, d, .cons a r, h => by
    have e := Option.some.inj h
    subst e
    exact ⟨_, rfl, a⟩
  | _, _, i + 1, d, .cons a r, h => Reps.get (i := i) r h
theorem Reps.get' : ∀ {vs : List V} {ds : List D} {i : Nat} {v : V}, Reps K I as vs ds → vs[i]? = some v → ∃ d, ds[i]? = some d ∧ Rep K I as v d
  | _, _, i, d, .nil, h => by simp at h
  | _, _, 0, d, .cons a r, h => by
    have e := Option.some.inj h
    subst e
    exact ⟨_, rfl, a⟩
  | _, _, i + 1, d, .cons a r, h => Reps.get' (i := i) r h
theorem Reps.append : ∀ {vs ws : List V} {ds es : List D}, Reps K I as vs ds → Reps K I as ws es → Reps K I as (vs ++ ws) (ds ++ es)
  | _, _, _, _, .nil, h => h
  | _, _, _, _, .cons a r, h => .cons a (Reps.append r h)
theorem Reps.set : ∀ {vs : List V} {ds : List D} {i : Nat} {v : V} {d : D}, Reps K I as vs ds → Rep K I as v d → Reps K I as (vs.set i v) (ds.set i d)
  | _, _, _, _, _, .nil, _ => .nil
  | _, _, 0, _, _, .cons a r, h => .cons h r
  | _, _, i + 1, _, _, .cons a r, h => .cons a (Reps.set (i := i) r h)
theorem Reps.take : ∀ {vs : List V} {ds : List D} (n : Nat), Reps K I as vs ds → Reps K I as (vs.take n) (ds.take n)
  | _, _, 0, _ => .nil
  | _, _, n + 1, .nil => .nil
  | _, _, n + 1, .cons a r => .cons a (Reps.take n r)
theorem Reps.drop : ∀ {vs : List V} {ds : List D} (n : Nat), Reps K I as vs ds → Reps K I as (vs.drop n) (ds.drop n)
  | _, _, 0, h => h
  | _, _, n + 1, .nil => .nil
  | _, _, n + 1, .cons a r => Reps.drop n r
theorem Reps.eraseIdx : ∀ {vs : List V} {ds : List D} (n : Nat), Reps K I as vs ds → Reps K I as (vs.eraseIdx n) (ds.eraseIdx n)
  | _, _, _, .nil => .nil
  | _, _, 0, .cons a r => r
  | _, _, n + 1, .cons a r => .cons a (Reps.eraseIdx n r)
theorem Reps.rep {vs : List V} {ds : List D} (h : Reps K I as vs ds) : ∀ n : Nat, Reps K I as (List.replicate n vs).flatten (List.replicate n ds).flatten
  | 0 => .nil
  | n + 1 => by
    rw [List.replicate_succ, List.replicate_succ, List.flatten_cons, List.flatten_cons]
    exact h.append (Reps.rep h n)
theorem Reps.ints : ∀ {vs : List V} (ns : List Int), vs = ns.map V.int → Reps K I as vs (ns.map D.int)
  | _, [], rfl => .nil
  | _, n :: ns, rfl => .cons (.int n) (Reps.ints ns rfl)
end

def MRep (K : PySem.W.Frag) (I : Hp) (as : List Addr) (H : Hp) (a : Addr) : MO → Prop
  | .lst ds => ∃ vs, H a = some (.lst vs) ∧ Reps K I as vs ds
  | .dct kvs => ∃ vs : List (L2.Key × V), H a = some (.dK vs) ∧ vs.map (fun p => p.1) = kvs.map (fun p => Sum.inl p.1) ∧ Reps K I as (vs.map fun p => p.2) (kvs.map fun p => p.2)
theorem MRep.some {K : PySem.W.Frag} {I : Hp} {as : List Addr} {H : Hp} {a : Addr} {o : MO} (h : MRep K I as H a o) : ∃ u, H a = some u := by
  cases o with
  | lst ds => exact ⟨_, h.choose_spec.1⟩
  | dct ds => exact ⟨_, h.choose_spec.1⟩
theorem MRep.mono {K : PySem.W.Frag} {I I' : Hp} {as as' : List Addr} {H H' : Hp} {a : Addr} {o : MO} (g : Gr I as I' as') (e : H' a = H a) (h : MRep K I as H a o) : MRep K I' as' H' a o := by
  cases o with
  | lst ds =>
    obtain ⟨vs, h1, h2⟩ := h
    exact ⟨vs, e.trans h1, h2.mono g⟩
  | dct ds =>
    obtain ⟨vs, h1, h2, h3⟩ := h
    exact ⟨vs, e.trans h1, h2, h3.mono g⟩
/-- the world: I what never changes, as and M what may, P what somebody keeps for himself -/
structure Wr (K : PySem.W.Frag) (H I : Hp) (as : List Addr) (M : List MO) (P : Hp) : Prop where
  sub : ∀ (a : Addr) (o : HO), I a = some o → H a = some o
  len : as.length = M.length
  nd : as.Nodup
  mu : ∀ (k : Nat) (a : Addr) (o : MO), as[k]? = some a → M[k]? = some o → I a = none ∧ P a = none ∧ MRep K I as H a o
  prv : ∀ (a : Addr) (o : HO), P a = some o → H a = some o ∧ I a = none
section
variable {K : PySem.W.Frag} {H I P : Hp} {as : List Addr} {M : List MO}
theorem Wr.at (w : Wr K H I as M P) {k : Nat} {a : Addr} (h : as[k]? = some a) : ∃ o, M[k]? = some o ∧ I a = none ∧ P a = none ∧ MRep K I as H a o := by
  have hk : k < M.length := by rw [← w.len]; exact (List.getElem?_eq_some_iff.mp h).1
  exact ⟨M[k], List.getElem?_eq_getElem hk, w.mu k a _ h (List.getElem?_eq_getElem hk)⟩
theorem Wr.fresh (w : Wr K H I as M P) {p : Addr} (h : H p = none) : I p = none ∧ P p = none ∧ p ∉ as := by
  refine ⟨?_, ?_, fun hm => ?_⟩
  · cases e : I p with
    | none => rfl
    | some o => rw [w.sub _ _ e] at h; cases h
  · cases e : P p with
    | none => rfl
    | some o => rw [(w.prv _ _ e).1] at h; cases h
  · obtain ⟨k, hk⟩ := List.getElem?_of_mem hm
    obtain ⟨o, _, _, _, m⟩ := w.at hk
    obtain ⟨u, hu⟩ := m.some
    rw [hu] at h; cases h
theorem Wr.newI (w : Wr K H I as M P) {p : Addr} (h : H p = none) (o : HO) : Wr K (upd H p o) (upd I p o) as M P ∧ Gr I as (upd I p o) as := by
  obtain ⟨f1, f2, f3⟩ := w.fresh h
  have g : Gr I as (upd I p o) as := ⟨fun a u e => by rw [upd_ne (ne_of_none e f1)]; exact e, [], by simp⟩
  refine ⟨⟨fun a u e => ?_, w.len, w.nd, fun k a u ha hu => ?_, fun a u e => ?_⟩, g⟩
  · by_cases q : a = p
    · subst q; rw [upd_same] at e ⊢; exact e
    · rw [upd_ne q] at e ⊢; exact w.sub _ _ e
  · have q : a ≠ p := fun z => f3 (by rw [← z]; exact List.mem_of_getElem? ha)
    obtain ⟨m1, m2, m3⟩ := w.mu k a u ha hu
    exact ⟨by rw [upd_ne q]; exact m1, m2, m3.mono g (upd_ne q)⟩
  · obtain ⟨h1, h2⟩ := w.prv _ _ e
    have q : a ≠ p := ne_of_none h1 h
    rw [upd_ne q, upd_ne q]
    exact ⟨h1, h2⟩
theorem Gr.more (I : Hp) (as t : List Addr) : Gr I as I (as ++ t) := ⟨fun _ _ e => e, t, rfl⟩
theorem Wr.newM (w : Wr K H I as M P) {p : Addr} (h : H p = none) (o : HO) (m : MO) (hm : MRep K I as (upd H p o) p m) : Wr K (upd H p o) I (as ++ [p]) (M ++ [m]) P := by
  obtain ⟨f1, f2, f3⟩ := w.fresh h
  have hl := w.len
  refine ⟨fun a u e => ?_, by simp [hl], ?_, fun k a u ha hu => ?_, fun a u e => ?_⟩
  · rw [upd_ne (ne_of_none (w.sub _ _ e) h)]; exact w.sub _ _ e
  · rw [List.nodup_append]
    exact ⟨w.nd, by simp, fun a ha b hb => by
      have e : b = p := by simpa using hb
      subst e
      exact fun z => f3 (z ▸ ha)⟩
  · by_cases hk : k < as.length
    · rw [List.getElem?_append_left hk] at ha
      rw [List.getElem?_append_left (by omega)] at hu
      have q : a ≠ p := fun z => f3 (by rw [← z]; exact List.mem_of_getElem? ha)
      obtain ⟨m1, m2, m3⟩ := w.mu k a u ha hu
      exact ⟨m1, m2, m3.mono (Gr.more I as [p]) (upd_ne q)⟩
    · have hk2 : k - as.length = 0 := by
        rw [List.getElem?_append_right (by omega)] at ha
        have := (List.getElem?_eq_some_iff.mp ha).1
        simp at this
        omega
      rw [List.getElem?_append_right (by omega), hk2] at ha
      rw [List.getElem?_append_right (by omega), show k - M.length = 0 by omega] at hu
      have e1 : p = a := by simpa using ha
      have e2 : m = u := by simpa using hu
      subst e1 e2
      exact ⟨f1, f2, hm.mono (Gr.more I as [p]) rfl⟩
  · obtain ⟨h1, h2⟩ := w.prv _ _ e
    rw [upd_ne (ne_of_none h1 h)]
    exact ⟨h1, h2⟩
theorem nodup_get {as : List Addr} (h : as.Nodup) {i j : Nat} {a : Addr} (hi : as[i]? = some a) (hj : as[j]? = some a) : i = j :=
  (List.getElem?_inj (List.getElem?_eq_some_iff.mp hi).1 h).mp (hi.trans hj.symm)
theorem Wr.put (w : Wr K H I as M P) {k : Nat} {a : Addr} (ha : as[k]? = some a) (o : HO) (m : MO) (hm : MRep K I as (upd H a o) a m) : Wr K (upd H a o) I as (M.set k m) P := by
  obtain ⟨_, _, i1, p1, _⟩ := w.at ha
  refine ⟨fun b u e => ?_, by simp [w.len], w.nd, fun j b u hb hu => ?_, fun b u e => ?_⟩
  · rw [upd_ne (ne_of_none e i1)]; exact w.sub _ _ e
  · by_cases hj : k = j
    · subst hj
      have e1 : a = b := Option.some.inj (ha.symm.trans hb)
      subst e1
      have hk : k < M.length := by rw [← w.len]; exact (List.getElem?_eq_some_iff.mp ha).1
      rw [List.getElem?_set_self hk] at hu
      have e2 : m = u := Option.some.inj hu
      subst e2
      exact ⟨i1, p1, hm⟩
    · rw [List.getElem?_set_ne hj] at hu
      obtain ⟨m1, m2, m3⟩ := w.mu j b u hb hu
      have q : b ≠ a := fun z => hj (nodup_get w.nd ha (z ▸ hb))
      exact ⟨m1, m2, m3.mono (Gr.refl I as) (upd_ne q)⟩
  · obtain ⟨h1, h2⟩ := w.prv _ _ e
    have q : b ≠ a := ne_of_none e p1
    rw [upd_ne q]
    exact ⟨h1, h2⟩
/-- a private cell is laid -/
theorem Wr.newP (w : Wr K H I as M P) {p : Addr} (h : H p = none) (o : HO) : Wr K (upd H p o) I as M (upd P p o) := by
  obtain ⟨f1, f2, f3⟩ := w.fresh h
  refine ⟨fun a u e => ?_, w.len, w.nd, fun k a u ha hu => ?_, fun a u e => ?_⟩
  · rw [upd_ne (ne_of_none e f1)]; exact w.sub _ _ e
  · have q : a ≠ p := fun z => f3 (by rw [← z]; exact List.mem_of_getElem? ha)
    obtain ⟨m1, m2, m3⟩ := w.mu k a u ha hu
    exact ⟨m1, by rw [upd_ne q]; exact m2, m3.mono (Gr.refl _ _) (upd_ne q)⟩
  · by_cases q : a = p
    · subst q
      rw [upd_same] at e ⊢
      exact ⟨e, f1⟩
    · rw [upd_ne q] at e ⊢
      exact w.prv _ _ e
/-- it changes -/
theorem Wr.putP (w : Wr K H I as M P) {p : Addr} {u : HO} (h : P p = some u) (o : HO) : Wr K (upd H p o) I as M (upd P p o) := by
  obtain ⟨h1, i1⟩ := w.prv _ _ h
  refine ⟨fun a u e => ?_, w.len, w.nd, fun k a u ha hu => ?_, fun a u e => ?_⟩
  · rw [upd_ne (ne_of_none e i1)]; exact w.sub _ _ e
  · obtain ⟨m1, m2, m3⟩ := w.mu k a u ha hu
    have q : a ≠ p := fun z => by rw [z, h] at m2; cases m2
    exact ⟨m1, by rw [upd_ne q]; exact m2, m3.mono (Gr.refl _ _) (upd_ne q)⟩
  · by_cases q : a = p
    · subst q
      rw [upd_same] at e ⊢
      exact ⟨e, i1⟩
    · rw [upd_ne q] at e ⊢
      exact w.prv _ _ e
theorem upd_take {P : Hp} {p : Addr} {o : HO} (h : P p = none) (b : Addr) (u : HO) (e : P b = some u) : upd P p o b = some u := by
  rw [upd_ne (ne_of_none e h)]; exact e
/-- a private cell is given to what never changes -/
theorem Wr.giveI {P0 : Hp} {o : HO} {p : Addr} (w : Wr K H I as M (upd P0 p o)) (h0 : P0 p = none) : Wr K H (upd I p o) as M P0 ∧ Gr I as (upd I p o) as := by
  obtain ⟨h1, i1⟩ := w.prv p o upd_same
  have g : Gr I as (upd I p o) as := ⟨fun a u e => by rw [upd_ne (ne_of_none e i1)]; exact e, [], by simp⟩
  refine ⟨⟨fun a u e => ?_, w.len, w.nd, fun k a u ha hu => ?_, fun a u e => ?_⟩, g⟩
  · by_cases q : a = p
    · subst q; rw [upd_same] at e; cases e; exact h1
    · rw [upd_ne q] at e; exact w.sub _ _ e
  · obtain ⟨m1, m2, m3⟩ := w.mu k a u ha hu
    have q : a ≠ p := fun z => by rw [z, upd_same] at m2; cases m2
    rw [upd_ne q] at m2
    exact ⟨by rw [upd_ne q]; exact m1, m2, m3.mono g rfl⟩
  · have q : a ≠ p := ne_of_none e h0
    obtain ⟨x, y⟩ := w.prv a u (by rw [upd_ne q]; exact e)
    exact ⟨x, by rw [upd_ne q]; exact y⟩
/-- .. to what may change -/
theorem Wr.giveM {P0 : Hp} {o : HO} {p : Addr} {m : MO} (w : Wr K H I as M (upd P0 p o)) (h0 : P0 p = none) (hm : MRep K I as H p m) : Wr K H I (as ++ [p]) (M ++ [m]) P0 := by
  obtain ⟨h1, i1⟩ := w.prv p o upd_same
  have hl := w.len
  have np : p ∉ as := fun hmem => by
    obtain ⟨k, hk⟩ := List.getElem?_of_mem hmem
    obtain ⟨_, _, _, m2, _⟩ := w.at hk
    rw [upd_same] at m2; cases m2
  refine ⟨w.sub, by simp [hl], ?_, fun k a u ha hu => ?_, fun a u e => ?_⟩
  · rw [List.nodup_append]
    exact ⟨w.nd, by simp, fun a ha b hb => by
      have e : b = p := by simpa using hb
      subst e
      exact fun z => np (z ▸ ha)⟩
  · by_cases hk : k < as.length
    · rw [List.getElem?_append_left hk] at ha
      rw [List.getElem?_append_left (by omega)] at hu
      obtain ⟨m1, m2, m3⟩ := w.mu k a u ha hu
      have q : a ≠ p := fun z => np (by rw [← z]; exact List.mem_of_getElem? ha)
      rw [upd_ne q] at m2
      exact ⟨m1, m2, m3.mono (Gr.more I as [p]) rfl⟩
    · have hk2 : k - as.length = 0 := by
        rw [List.getElem?_append_right (by omega)] at ha
        have := (List.getElem?_eq_some_iff.mp ha).1
        simp at this
        omega
      rw [List.getElem?_append_right (by omega), hk2] at ha
      rw [List.getElem?_append_right (by omega), show k - M.length = 0 by omega] at hu
      have e1 : p = a := by simpa using ha
      have e2 : m = u := by simpa using hu
      subst e1 e2
      exact ⟨i1, h0, hm.mono (Gr.more I as [p]) rfl⟩
  · have q : a ≠ p := ne_of_none e h0
    exact w.prv a u (by rw [upd_ne q]; exact e)
end

/-- slots -/
structure Envr (K : PySem.W.Frag) (I : Hp) (as : List Addr) (σ : L2.St) (δ : List (Option D)) : Prop where
  len : σ.length = δ.length
  at_ : ∀ (i : Nat) (d : D), δ[i]? = some (some d) → ∃ v, σ[i]? = some (some v) ∧ Rep K I as v d
theorem Envr.mono {K : PySem.W.Frag} {I I' : Hp} {as as' : List Addr} {σ : L2.St} {δ : List (Option D)} (g : Gr I as I' as') (e : Envr K I as σ δ) : Envr K I' as' σ δ :=
  ⟨e.len, fun i d h => let ⟨v, h1, h2⟩ := e.at_ i d h; ⟨v, h1, h2.mono g⟩⟩
theorem Envr.set {K : PySem.W.Frag} {I : Hp} {as : List Addr} {σ : L2.St} {δ : List (Option D)} {v : V} {d : D} (e : Envr K I as σ δ) (r : Rep K I as v d) (i : Nat) : Envr K I as (σ.set i (some v)) (δ.set i (some d)) := by
  refine ⟨by simp [e.len], fun j d' h => ?_⟩
  by_cases hj : i = j
  · subst hj
    have hi : i < δ.length := by
      have := (List.getElem?_eq_some_iff.mp h).1
      simpa using this
    rw [List.getElem?_set_self hi] at h
    have e1 : d = d' := Option.some.inj (Option.some.inj h)
    subst e1
    exact ⟨v, List.getElem?_set_self (by rw [e.len]; exact hi), r⟩
  · rw [List.getElem?_set_ne hj] at h
    obtain ⟨w, h1, h2⟩ := e.at_ j d' h
    exact ⟨w, by rw [List.getElem?_set_ne hj]; exact h1, h2⟩
theorem Envr.unset {K : PySem.W.Frag} {I : Hp} {as : List Addr} {σ : L2.St} {δ : List (Option D)} (e : Envr K I as σ δ) (i : Nat) : Envr K I as (σ.set i none) (δ.set i none) := by
  refine ⟨by simp [e.len], fun j d' h => ?_⟩
  by_cases hj : i = j
  · subst hj
    by_cases hi : i < δ.length
    · rw [List.getElem?_set_self hi] at h
      cases h
    · rw [List.getElem?_eq_none (by simpa using hi)] at h
      cases h
  · rw [List.getElem?_set_ne hj] at h
    obtain ⟨w, h1, h2⟩ := e.at_ j d' h
    exact ⟨w, by rw [List.getElem?_set_ne hj]; exact h1, h2⟩
def wipeD (δ : List (Option D)) : List Nat → List (Option D)
  | [] => δ
  | v :: vs => (wipeD δ vs).set v none
theorem Envr.wipe {K : PySem.W.Frag} {I : Hp} {as : List Addr} {σ : L2.St} {δ : List (Option D)} (e : Envr K I as σ δ) : ∀ vs, Envr K I as (L2.wipe σ vs) (wipeD δ vs)
  | [] => e
  | v :: vs => (Envr.wipe e vs).unset v

/-- what a piece comes to -/
inductive R (α : Type) where
  | bad
  | ok (a : α) (M : List MO)
  | ex (c : Str) (M : List MO)
def R.bind {α β : Type} (r : R α) (f : α → List MO → R β) : R β :=
  match r with
  | .bad => .bad
  | .ok a M => f a M
  | .ex c M => .ex c M
@[simp] theorem R.bind_bad {α β : Type} (f : α → List MO → R β) : (R.bad).bind f = .bad := rfl
@[simp] theorem R.bind_ok {α β : Type} (f : α → List MO → R β) (a : α) (M : List MO) : (R.ok a M).bind f = f a M := rfl
@[simp] theorem R.bind_ex {α β : Type} (f : α → List MO → R β) (c : Str) (M : List MO) : (R.ex c M).bind f = .ex c M := rfl
abbrev Ctx := List (Option D)
abbrev GE := Ctx → List MO → R D
abbrev GB := Ctx → List MO → R Bool
abbrev GA := Ctx → List MO → R (List D)
inductive SR where
  | bad
  | nx (δ : Ctx) (M : List MO)
  | rt (d : D) (M : List MO)
  | bk (δ : Ctx) (M : List MO)
  | ct (δ : Ctx) (M : List MO)
  | ex (c : Str) (δ : Ctx) (M : List MO)
abbrev GS := Ctx → List MO → SR

/-- what is wanted of an exception, by the class's name -/
def lowW (mg : Str → Option Value) (W : WX) : Str → L2.St → Hp → Prop := fun c σ H => ∀ cls, mg c = some cls → W cls none σ H

def Sat {α β : Type} (K : PySem.W.Frag) (rel : Hp → List Addr → β → α → Prop) (Wf : Str → Hp → Prop) (I : Hp) (as : List Addr) (P : Hp) (Q : β → Hp → Prop) : R α → Prop
  | .bad => False
  | .ok d M => ∀ v H' I' as', Gr I as I' as' → Wr K H' I' as' M P → rel I' as' v d → Q v H'
  | .ex c M => ∀ H' I' as', Gr I as I' as' → Wr K H' I' as' M P → Wf c H'
def SatS (K : PySem.W.Frag) (Wf : Str → L2.St → Hp → Prop) (I : Hp) (as : List Addr) (P : Hp) (E : Ends) : SR → Prop
  | .bad => False
  | .nx δ M => ∀ σ' H' I' as', Gr I as I' as' → Wr K H' I' as' M P → Envr K I' as' σ' δ → E.nx σ' H'
  | .rt d M => ∀ v H' I' as', Gr I as I' as' → Wr K H' I' as' M P → Rep K I' as' v d → E.rt v H'
  | .bk δ M => ∀ σ' H' I' as', Gr I as I' as' → Wr K H' I' as' M P → Envr K I' as' σ' δ → E.bk σ' H'
  | .ct δ M => ∀ σ' H' I' as', Gr I as I' as' → Wr K H' I' as' M P → Envr K I' as' σ' δ → E.ct σ' H'
  | .ex c δ M => ∀ σ' H' I' as', Gr I as I' as' → Wr K H' I' as' M P → Envr K I' as' σ' δ → Wf c σ' H'
section
variable {α β γ ε : Type} {K : PySem.W.Frag}
/-- Sat is kept when the world grows -/
theorem Sat.gr {rel : Hp → List Addr → β → α → Prop} {Wf : Str → Hp → Prop} {I I' P : Hp} {as as' : List Addr} {Q : β → Hp → Prop} {r : R α} (g : Gr I as I' as') (h : Sat K rel Wf I as P Q r) : Sat K rel Wf I' as' P Q r := by
  cases r with
  | bad => exact h
  | ok d M => exact fun v H2 I2 as2 g2 w r => h v H2 I2 as2 (g.trans g2) w r
  | ex c M => exact fun H2 I2 as2 g2 w => h H2 I2 as2 (g.trans g2) w
theorem SatS.gr {Wf : Str → L2.St → Hp → Prop} {I I' P : Hp} {as as' : List Addr} {E : Ends} {r : SR} (g : Gr I as I' as') (h : SatS K Wf I as P E r) : SatS K Wf I' as' P E r := by
  cases r with
  | bad => exact h
  | nx d M => exact fun v H2 I2 as2 g2 w r => h v H2 I2 as2 (g.trans g2) w r
  | rt d M => exact fun v H2 I2 as2 g2 w r => h v H2 I2 as2 (g.trans g2) w r
  | bk d M => exact fun v H2 I2 as2 g2 w r => h v H2 I2 as2 (g.trans g2) w r
  | ct d M => exact fun v H2 I2 as2 g2 w r => h v H2 I2 as2 (g.trans g2) w r
  | ex c d M => exact fun v H2 I2 as2 g2 w r => h v H2 I2 as2 (g.trans g2) w r
/-- one piece behind another -/
theorem Sat.bind {rel : Hp → List Addr → β → α → Prop} {rel2 : Hp → List Addr → ε → γ → Prop} {Wf : Str → Hp → Prop} {I P : Hp} {as : List Addr} {Q : ε → Hp → Prop} {r : R α} {f : α → List MO → R γ} (h : Sat K rel2 Wf I as P Q (r.bind f))
    {Q1 : β → Hp → Prop} (k : ∀ a M v H' I' as', r = .ok a M → Gr I as I' as' → Wr K H' I' as' M P → rel I' as' v a → Sat K rel2 Wf I' as' P Q (f a M) → Q1 v H') : Sat K rel Wf I as P Q1 r := by
  cases r with
  | bad => exact h
  | ok d M => exact fun v H2 I2 as2 g2 w r => k d M v H2 I2 as2 rfl g2 w r (Sat.gr g2 h)
  | ex c M => exact h
end
end KM
set_option Elab.async false
set_option linter.all false
set_option maxRecDepth 100000
set_option maxHeartbeats 2000000
namespace KM
open PySem L2 PySem.Spec PyProof.Rows

/-! ### judgements -/
def ImpE (K : PySem.W.Frag) (mg : Str → Option Value) (W : WX) (t : TE) (g : GE) : Prop := ∀ (σ : L2.St) (H : Hp) (δ : Ctx) (I : Hp) (as : List Addr) (M : List MO) (P : Hp) (Q : VK),
  Wr K H I as M P → Envr K I as σ δ → Sat K (Rep K) (fun c H' => lowW mg W c σ H') I as P Q (g δ M) → t σ H Q
def ImpT (K : PySem.W.Frag) (mg : Str → Option Value) (W : WX) (t : TT) (g : GB) : Prop := ∀ (σ : L2.St) (H : Hp) (δ : Ctx) (I : Hp) (as : List Addr) (M : List MO) (P : Hp) (Q : Bool → Hp → Prop),
  Wr K H I as M P → Envr K I as σ δ → Sat K (fun _ _ b b' => b = b') (fun c H' => lowW mg W c σ H') I as P Q (g δ M) → t σ H Q
def ImpA (K : PySem.W.Frag) (mg : Str → Option Value) (W : WX) (t : TA) (g : GA) : Prop := ∀ (σ : L2.St) (H : Hp) (δ : Ctx) (I : Hp) (as : List Addr) (M : List MO) (P : Hp) (Q : List V → Hp → Prop),
  Wr K H I as M P → Envr K I as σ δ → Sat K (Reps K) (fun c H' => lowW mg W c σ H') I as P Q (g δ M) → t σ H Q
def ImpS (K : PySem.W.Frag) (mg : Str → Option Value) (W : WX) (t : TS) (g : GS) : Prop := ∀ (σ : L2.St) (H : Hp) (δ : Ctx) (I : Hp) (as : List Addr) (M : List MO) (P : Hp) (E : Ends),
  Wr K H I as M P → Envr K I as σ δ → SatS K (lowW mg W) I as P E (g δ M) → t E σ H
structure XE (X : Cx) (W : WX) (e : Expr) (t : TE) (g : GE) : Prop where
  pe : PE X e t
  im : ImpE X.K X.mg W t g
structure XT (X : Cx) (W : WX) (e : Expr) (t : TT) (g : GB) : Prop where
  pe : PT X e t
  im : ImpT X.K X.mg W t g
structure XW (X : Cx) (W : WX) (e : Expr) (t : TT) (g : GB) : Prop where
  pe : PW X e t
  im : ImpT X.K X.mg W t g
structure XA (X : Cx) (W : WX) (es : List Expr) (t : TA) (g : GA) : Prop where
  pe : PA X es t
  im : ImpA X.K X.mg W t g
structure XS (X : Cx) (W : WX) (st : Stmt) (t : TS) (g : GS) : Prop where
  pe : PS X st t
  im : ImpS X.K X.mg W t g
structure XSs (X : Cx) (W : WX) (sts : List Stmt) (t : TS) (g : GS) : Prop where
  pe : PSs X sts t
  im : ImpS X.K X.mg W t g

/-! ### what data an address shows -/
def listOf (M : List MO) : D → Option (List D)
  | .lst xs => some xs
  | .rol xs => some xs
  | .ref k => match M[k]? with
    | some (.lst xs) => some xs
    | _ => none
  | _ => none
/-- a list that may be the operand of + and * -/
def listOfT (M : List MO) : D → Option (List D)
  | .lst xs => some xs
  | .ref k => match M[k]? with
    | some (.lst xs) => some xs
    | _ => none
  | _ => none
def tupOf : D → Option (List D)
  | .tup xs => some xs
  | _ => none
section
variable {K : PySem.W.Frag} {H I P : Hp} {as : List Addr} {M : List MO}
theorem Wr.seqT (w : Wr K H I as M P) {a : Addr} {xs : List V} (h : SqT K I a xs) : SqT K H a xs := Evl.ex_t w.sub h
theorem Wr.seqL (w : Wr K H I as M P) {a : Addr} {xs : List V} (h : SqL K I a xs) : SqL K H a xs := Evl.ex_l w.sub h
theorem Rep.listT (w : Wr K H I as M P) {v : V} {d : D} {ds : List D} (r : Rep K I as v d) (h : listOfT M d = some ds) : ∃ a vs, v = .ref a ∧ H a = some (.lst vs) ∧ Reps K I as vs ds := by
  cases r with
  | lst h1 h2 =>
    cases h
    exact ⟨_, _, rfl, w.sub _ _ h1, h2⟩
  | @ref k a h1 =>
    obtain ⟨o, ho, _, _, m⟩ := w.at h1
    unfold listOfT at h
    cases o with
    | dct kvs => simp [ho] at h
    | lst xs =>
      simp only [ho, Option.some.injEq] at h
      subst h
      obtain ⟨vs, e, r⟩ := m
      exact ⟨_, _, rfl, e, r⟩
  | _ => cases h
theorem Rep.list (w : Wr K H I as M P) {v : V} {d : D} {ds : List D} (r : Rep K I as v d) (h : listOf M d = some ds) : ∃ a vs, v = .ref a ∧ SqL K H a vs ∧ Reps K I as vs ds := by
  cases r with
  | lst h1 h2 =>
    cases h
    exact ⟨_, _, rfl, .of (w.sub _ _ h1), h2⟩
  | rol h1 h2 =>
    cases h
    exact ⟨_, _, rfl, w.seqL h1, h2⟩
  | @ref k a h1 =>
    obtain ⟨o, ho, _, _, m⟩ := w.at h1
    unfold listOf at h
    cases o with
    | dct kvs => simp [ho] at h
    | lst xs =>
      simp only [ho, Option.some.injEq] at h
      subst h
      obtain ⟨vs, e, r⟩ := m
      exact ⟨_, _, rfl, .of e, r⟩
  | _ => cases h
theorem Rep.tupl (w : Wr K H I as M P) {v : V} {d : D} {ds : List D} (r : Rep K I as v d) (h : tupOf d = some ds) : ∃ a vs, v = .ref a ∧ SqT K H a vs ∧ Reps K I as vs ds := by
  cases r with
  | tup h1 h2 =>
    cases h
    exact ⟨_, _, rfl, w.seqT h1, h2⟩
  | _ => cases h
theorem Rep.int_inv {v : V} {i : Int} (r : Rep K I as v (.int i)) : v = .int i := by cases r; rfl
theorem Rep.bl_inv {v : V} {b : Bool} (r : Rep K I as v (.bl b)) : v = .bl b := by cases r; rfl
theorem Rep.str_inv {v : V} {b : Str} (r : Rep K I as v (.str b)) : v = .str b := by cases r; rfl
theorem Rep.non_inv {v : V} (r : Rep K I as v .non) : v = .non := by cases r; rfl
end

/-! ### operations by values -/
abbrev OD := D → D → List MO → R D
def OpD (K : PySem.W.Frag) (r : R2) (o : OD) : Prop := ∀ (H I : Hp) (as : List Addr) (M : List MO) (P : Hp) (x y : V) (d e : D) (Wf : Str → Hp → Prop) (Q : VK),
  Wr K H I as M P → Rep K I as x d → Rep K I as y e → Sat K (Rep K) Wf I as P Q (o d e M) → r x y H Q
abbrev OU := D → List MO → R D
def OpU (K : PySem.W.Frag) (r : V → Hp → VK → Prop) (o : OU) : Prop := ∀ (H I : Hp) (as : List Addr) (M : List MO) (P : Hp) (x : V) (d : D) (Wf : Str → Hp → Prop) (Q : VK),
  Wr K H I as M P → Rep K I as x d → Sat K (Rep K) Wf I as P Q (o d M) → r x H Q
abbrev OC := List D → List MO → R D
def OpC (K : PySem.W.Frag) (r : List V → Hp → VK → Prop) (o : OC) : Prop := ∀ (H I : Hp) (as : List Addr) (M : List MO) (P : Hp) (xs : List V) (ds : List D) (Wf : Str → Hp → Prop) (Q : VK),
  Wr K H I as M P → Reps K I as xs ds → Sat K (Rep K) Wf I as P Q (o ds M) → r xs H Q
section
variable {K : PySem.W.Frag} {H I P : Hp} {as : List Addr} {M : List MO} {Q : VK} {Wf : Str → Hp → Prop}
/-- a value that changes nothing -/
theorem Sat.now {d : D} {v : V} (h : Sat K (Rep K) Wf I as P Q (.ok d M)) (w : Wr K H I as M P) (r : Rep K I as v d) : Q v H := h v H I as (Gr.refl I as) w r
/-- a new tuple -/
theorem Sat.newTup {ds : List D} {vs : List V} (h : Sat K (Rep K) Wf I as P Q (.ok (.tup ds) M)) (w : Wr K H I as M P) (r : Reps K I as vs ds) {p : Addr} (hp : H p = none) : Q (.ref p) (upd H p (.tup vs)) := by
  obtain ⟨w', g⟩ := w.newI hp (.tup vs)
  exact h _ _ _ _ g w' (.tup (.of upd_same) (r.mono g))
/-- a new list that never changes -/
theorem Sat.newLst {ds : List D} {vs : List V} (h : Sat K (Rep K) Wf I as P Q (.ok (.lst ds) M)) (w : Wr K H I as M P) (r : Reps K I as vs ds) {p : Addr} (hp : H p = none) : Q (.ref p) (upd H p (.lst vs)) := by
  obtain ⟨w', g⟩ := w.newI hp (.lst vs)
  exact h _ _ _ _ g w' (.lst upd_same (r.mono g))
/-- a new list that may change -/
theorem Sat.newRef {ds : List D} {vs : List V} (h : Sat K (Rep K) Wf I as P Q (.ok (.ref M.length) (M ++ [.lst ds]))) (w : Wr K H I as M P) (r : Reps K I as vs ds) {p : Addr} (hp : H p = none) : Q (.ref p) (upd H p (.lst vs)) := by
  have w' := w.newM hp (.lst vs) (.lst ds) ⟨vs, upd_same, r⟩
  refine h _ _ _ _ (Gr.more I as [p]) w' (.ref ?_)
  rw [← w.len, List.getElem?_append_right (Nat.le_refl _), Nat.sub_self]
  rfl
end

def oI2 (f : Int → Int → D) : OD := fun x y M => match x, y with
  | .int i, .int j => .ok (f i j) M
  | _, _ => .bad
open Classical in
noncomputable def oI2c (C : Int → Int → Prop) (f : Int → Int → D) : OD := fun x y M => match x, y with
  | .int i, .int j => if C i j then .ok (f i j) M else .bad
  | _, _ => .bad
def V2D : V → D
  | .int i => .int i
  | .bl b => .bl b
  | _ => .non
theorem opd_I0 {K : PySem.W.Frag} {f : Int → Int → V} {g : Int → Int → D} (h : ∀ i j (I : Hp) (as : List Addr), Rep K I as (f i j) (g i j)) : OpD K (rI0 f) (oI2 g) := by
  intro H I as M P x y d e Wf Q w rx ry s
  unfold oI2 at s
  split at s
  · cases rx; cases ry
    exact ⟨_, _, rfl, rfl, s.now w (h _ _ _ _)⟩
  · exact s.elim
theorem opd_I {K : PySem.W.Frag} {C : Int → Int → Prop} {Cb : Int → Int → Prop} {f : Int → Int → V} {g : Int → Int → D} (hc : ∀ i j, Cb i j → C i j) (h : ∀ i j (I : Hp) (as : List Addr), Rep K I as (f i j) (g i j)) : OpD K (rI C f) (oI2c Cb g) := by
  intro H I as M P x y d e Wf Q w rx ry s
  unfold oI2c at s
  split at s
  · split at s
    · rename_i c
      cases rx; cases ry
      exact ⟨_, _, rfl, rfl, hc _ _ c, s.now w (h _ _ _ _)⟩
    · exact s.elim
  · exact s.elim
def CMulB (i j : Int) : Prop := ((-(2 ^ 64) < i ∧ i < 2 ^ 64) ∨ (-(2 ^ 64) < j ∧ j < 2 ^ 64)) ∨ i.natAbs.log2 + j.natAbs.log2 < 1000000
def CDivB (_ j : Int) : Prop := 0 < j ∧ j.natAbs.log2 < 9000
def CModB (_ j : Int) : Prop := 0 < j
def CPowB (i j : Int) : Prop := (0 ≤ j ∧ j ≤ 1000000) ∧ i.natAbs < 2 ^ 64
theorem op_mulG {X : Cx} : OpR X (binaryOp .Mult) (rI CMulB fun i j => .int (i * j)) := by
  intro pins s σ H x y v u Q I rx ry h
  obtain ⟨i, j, rfl, rfl, c, q⟩ := h
  unfold CMulB at c
  rcases c with (c | c) | c
  · exact op_mul pins s σ H _ _ v u Q I rx ry ⟨i, j, rfl, rfl, .inl c, q⟩
  · exact op_mul pins s σ H _ _ v u Q I rx ry ⟨i, j, rfl, rfl, .inr c, q⟩
  · exact op_mulW pins s σ H _ _ v u Q I rx ry ⟨i, j, rfl, rfl, c, q⟩

/-- + -/
def bigN (n : Nat) : Prop := n ≤ 100000
open Classical in
noncomputable def oAdd : OD := fun x y M => match x, y with
  | .int i, .int j => .ok (.int (i + j)) M
  | .tup xs, .tup ys => if bigN (xs.length + ys.length) then .ok (.tup (xs ++ ys)) M else .bad
  | x, y => match listOfT M x, listOfT M y with
    | some xs, some ys => if bigN (xs.length + ys.length) then .ok (.lst (xs ++ ys)) M else .bad
    | _, _ => .bad
def rAddG (K : PySem.W.Frag) : R2 := fun x y H Q => rI0 (fun i j => .int (i + j)) x y H Q ∨ rCatA K x y H Q ∨ rCat x y H Q
theorem op_addG {X : Cx} : OpR X (binaryOp .Add) (rAddG X.K) := op_add.or (op_catA.or op_cat)
theorem big_le {n : Nat} (h : bigN n) : n ≤ sizeLine := Evl.sz_of h
theorem opd_add {K : PySem.W.Frag} : OpD K (rAddG K) oAdd := by
  intro H I as M P x y d e Wf Q w rx ry s
  unfold oAdd at s
  split at s
  · cases rx; cases ry
    exact .inl ⟨_, _, rfl, rfl, s.now w (.int _)⟩
  · rename_i xs ys
    split at s
    · rename_i hb
      obtain ⟨a, vs, rfl, h1, r1⟩ := rx.tupl w rfl
      obtain ⟨b, us, rfl, h2, r2⟩ := ry.tupl w rfl
      refine .inr (.inl ⟨a, b, vs, us, rfl, rfl, h1, h2, by rw [r1.len, r2.len]; exact big_le hb, fun e => ?_, fun _ e => ?_, fun _ _ p hp => ?_⟩)
      · subst e
        cases r1
        exact s.now w ry
      · subst e
        cases r2
        rw [List.append_nil] at s
        exact s.now w rx
      · exact s.newTup w (r1.append r2) hp
    · exact s.elim
  · split at s
    · rename_i xs ys e1 e2
      split at s
      · rename_i hb
        obtain ⟨a, vs, rfl, h1, r1⟩ := rx.listT w e1
        obtain ⟨b, us, rfl, h2, r2⟩ := ry.listT w e2
        exact .inr (.inr ⟨a, b, vs, us, rfl, rfl, h1, h2, by rw [r1.len, r2.len]; exact big_le hb, fun p hp => s.newLst w (r1.append r2) hp⟩)
      · exact s.elim
    · exact s.elim

/-! ### == over data -/
mutual
def D.py : D → Option PyData
  | .non => some .none
  | .bl b => some (.bool b)
  | .int i => some (.int i)
  | .str s => some (.str s)
  | .tup xs => (D.pys xs).map .tuple
  | .lst xs => (D.pys xs).map .list
  | .rol xs => (D.pys xs).map .list
  | .ref _ => none
  | .obj _ => none
  | .fn _ => none
  | .dct => none
def D.pys : List D → Option (List PyData)
  | [] => some []
  | x :: xs => match D.py x, D.pys xs with
    | some p, some ps => some (p :: ps)
    | _, _ => none
end
def pyM (M : List MO) : D → Option PyData
  | .ref k => match M[k]? with
    | some (.lst xs) => (D.pys xs).map .list
    | _ => none
  | d => d.py
mutual
theorem Rep.dp {K : PySem.W.Frag} {H I P : Hp} {as : List Addr} {M : List MO} (w : Wr K H I as M P) : ∀ {v : V} {d : D} {p : PyData}, Rep K I as v d → d.py = some p → Dp K H v p
  | _, _, _, .non, h => by cases h; exact .non
  | _, _, _, .bl b, h => by cases h; exact .bl b
  | _, _, _, .int i, h => by cases h; exact .int i
  | _, _, _, .str s, h => by cases h; exact .str s
  | _, _, p, .tup (ds := ds) hs r, h => by
    unfold D.py at h
    cases e : D.pys ds with
    | none => rw [e] at h; cases h
    | some ps =>
      rw [e] at h
      cases h
      exact .tup (w.seqT hs) (Reps.dp w r e)
  | _, _, p, .lst (ds := ds) hs r, h => by
    unfold D.py at h
    cases e : D.pys ds with
    | none => rw [e] at h; cases h
    | some ps =>
      rw [e] at h
      cases h
      exact .lst (.of (w.sub _ _ hs)) (Reps.dp w r e)
  | _, _, p, .rol (ds := ds) hs r, h => by
    unfold D.py at h
    cases e : D.pys ds with
    | none => rw [e] at h; cases h
    | some ps =>
      rw [e] at h
      cases h
      exact .lst (w.seqL hs) (Reps.dp w r e)
  | _, _, _, .ref _, h => by cases h
  | _, _, _, .obj _, h => by cases h
  | _, _, _, .fn _, h => by cases h
  | _, _, _, .dct _, h => by cases h
theorem Reps.dp {K : PySem.W.Frag} {H I P : Hp} {as : List Addr} {M : List MO} (w : Wr K H I as M P) : ∀ {vs : List V} {ds : List D} {ps : List PyData}, Reps K I as vs ds → D.pys ds = some ps → DpAll K H vs ps
  | _, _, _, .nil, h => by cases h; exact .nil
  | _, _, ps, .cons (d := d) (ds := ds) h1 h2, h => by
    unfold D.pys at h
    cases e : d.py with
    | none => rw [e] at h; cases h
    | some p =>
      cases e2 : D.pys ds with
      | none => rw [e, e2] at h; cases h
      | some qs =>
        rw [e, e2] at h
        cases h
        exact .cons (Rep.dp w h1 e) (Reps.dp w h2 e2)
end
theorem Rep.dpM {K : PySem.W.Frag} {H I P : Hp} {as : List Addr} {M : List MO} (w : Wr K H I as M P) {v : V} {d : D} {p : PyData} (r : Rep K I as v d) (h : pyM M d = some p) : Dp K H v p := by
  by_cases hd : ∃ k, d = .ref k
  · obtain ⟨k, rfl⟩ := hd
    unfold pyM at h
    cases r with
    | @ref k a h1 =>
      obtain ⟨o, ho, _, _, m⟩ := w.at h1
      cases o with
      | dct kvs => simp [ho] at h
      | lst xs =>
        simp only [ho] at h
        cases e : D.pys xs with
        | none => rw [e] at h; cases h
        | some ps =>
          rw [e] at h
          cases h
          obtain ⟨vs, e1, r⟩ := m
          exact .lst (.of e1) (Reps.dp w r e)
  · refine r.dp w ?_
    unfold pyM at h
    split at h
    · exact absurd ⟨_, rfl⟩ hd
    · exact h
def eqPy (x y : D) (M : List MO) : Option Bool := match pyM M x, pyM M y with
  | some p, some q => if (SeqAt.shaped p && SeqAt.shaped q) = true then some (PyData.eqv p q) else none
  | _, _ => none
def oEq : OD := fun x y M => match eqPy x y M with
  | some b => .ok (.bl b) M
  | none => .bad
def oNe : OD := fun x y M => match eqPy x y M with
  | some b => .ok (.bl (!b)) M
  | none => .bad
theorem opd_eq {K : PySem.W.Frag} : OpD K (rEqD K) oEq := by
  intro H I as M P x y d e Wf Q w rx ry s
  unfold oEq eqPy at s
  split at s
  · rename_i b hb
    split at hb
    · rename_i p q h1 h2
      split at hb
      · rename_i hs
        cases hb
        rw [Bool.and_eq_true] at hs
        exact ⟨p, q, rx.dpM w h1, ry.dpM w h2, hs.1, hs.2, s.now w (.bl _)⟩
      · cases hb
    · cases hb
  · exact s.elim
theorem opd_ne {K : PySem.W.Frag} : OpD K (rNeD K) oNe := by
  intro H I as M P x y d e Wf Q w rx ry s
  unfold oNe eqPy at s
  split at s
  · rename_i b hb
    split at hb
    · rename_i p q h1 h2
      split at hb
      · rename_i hs
        cases hb
        rw [Bool.and_eq_true] at hs
        exact ⟨p, q, rx.dpM w h1, ry.dpM w h2, hs.1, hs.2, s.now w (.bl _)⟩
      · cases hb
    · cases hb
  · exact s.elim
/-! ### is None -/
def oIsN : OU := fun x M => match x with
  | .non => .ok (.bl true) M
  | .obj _ => .bad
  | _ => .ok (.bl false) M
def oNotN : OU := fun x M => match x with
  | .non => .ok (.bl false) M
  | .obj _ => .bad
  | _ => .ok (.bl true) M
/-! ### items -/
def ixD (xs : List D) (i : Int) : Option D := atI xs i
def oIx : OD := fun x y M => match y with
  | .int i => match tupOf x with
    | some xs => match atI xs i with
      | some d => .ok d M
      | none => .bad
    | none => match listOf M x with
      | some xs => match atI xs i with
        | some d => .ok d M
        | none => .bad
      | none => .bad
  | _ => .bad
theorem Reps.atI {K : PySem.W.Frag} {I : Hp} {as : List Addr} {vs : List V} {ds : List D} {i : Int} {d : D} (r : Reps K I as vs ds) (h : L2.atI ds i = some d) : ∃ v, L2.atI vs i = some v ∧ Rep K I as v d := by
  unfold L2.atI at h ⊢
  rw [r.len]
  cases e : ixN ds.length i with
  | none => rw [e] at h; cases h
  | some j =>
    rw [e] at h
    obtain ⟨v, h1, h2⟩ := r.get (show ds[j]? = some d from h)
    exact ⟨v, h1, h2⟩
theorem opd_ix {K : PySem.W.Frag} : OpD K (rIx K) oIx := by
  intro H I as M P x y d e Wf Q w rx ry s
  unfold oIx at s
  split at s
  · rename_i i
    cases ry
    split at s
    · rename_i xs hx
      split at s
      · rename_i z hz
        obtain ⟨a, vs, rfl, h1, r1⟩ := rx.tupl w hx
        obtain ⟨v, hv, rv⟩ := r1.atI hz
        exact .inr (.inl ⟨a, vs, i, v, rfl, rfl, h1, hv, s.now w rv⟩)
      · exact s.elim
    · split at s
      · rename_i xs hx
        split at s
        · rename_i z hz
          obtain ⟨a, vs, rfl, h1, r1⟩ := rx.list w hx
          obtain ⟨v, hv, rv⟩ := r1.atI hz
          exact .inl ⟨a, vs, i, v, rfl, rfl, h1, hv, s.now w rv⟩
        · exact s.elim
      · exact s.elim
  · exact s.elim
/-! ### slices -/
def cutD (xs : List D) (lo hi : Option Int) : List D := (xs.drop (HT.sIx xs.length 0 lo)).take (HT.sIx xs.length xs.length hi - HT.sIx xs.length 0 lo)
theorem Reps.cut {K : PySem.W.Frag} {I : Hp} {as : List Addr} {vs : List V} {ds : List D} (r : Reps K I as vs ds) (lo hi : Option Int) : Reps K I as (cutV vs lo hi) (cutD ds lo hi) := by
  unfold cutV cutD
  rw [r.len]
  exact (r.drop _).take _
def oSl (x : D) (lo hi : Option Int) (M : List MO) : R D := match tupOf x with
  | some xs => .ok (.tup (cutD xs lo hi)) M
  | none => match listOf M x with
    | some xs => .ok (.lst (cutD xs lo hi)) M
    | none => .bad
def rSlG (K : PySem.W.Frag) : V → Option Int → Option Int → Hp → VK → Prop := fun x lo hi H Q => rSlA K x lo hi H Q ∨ rSlL K x lo hi H Q
theorem sl_G {X : Cx} : SlR X (rSlG X.K) := SlR.or sl_tupA sl_list
theorem opd_sl {K : PySem.W.Frag} {H I : Hp} {as : List Addr} {M : List MO} {P : Hp} {x : V} {d : D} {lo hi : Option Int} {Wf : Str → Hp → Prop} {Q : VK}
    (w : Wr K H I as M P) (rx : Rep K I as x d) (s : Sat K (Rep K) Wf I as P Q (oSl d lo hi M)) : rSlG K x lo hi H Q := by
  unfold oSl at s
  split at s
  · rename_i xs hx
    obtain ⟨a, vs, rfl, h1, r1⟩ := rx.tupl w hx
    refine .inl ⟨a, vs, rfl, h1, fun ⟨e1, e2⟩ => ?_, fun _ p hp => s.newTup w (r1.cut lo hi) hp⟩
    have hd : d = .tup xs := by
      cases d <;> first | (cases hx; rfl) | cases hx
    subst hd
    refine s.now w ?_
    have e : cutD xs lo hi = xs := by
      unfold cutD
      rw [r1.len] at e1 e2
      rw [e1, e2, List.drop_zero, Nat.sub_zero, List.take_length]
    rw [e]
    exact rx
  · split at s
    · rename_i xs hx
      obtain ⟨a, vs, rfl, h1, r1⟩ := rx.list w hx
      exact .inr ⟨a, vs, rfl, h1, fun p hp => s.newLst w (r1.cut lo hi) hp⟩
    · exact s.elim
end KM
set_option Elab.async false
set_option linter.all false
set_option maxRecDepth 100000
set_option maxHeartbeats 2000000
namespace KM
open PySem L2 PySem.Spec PyProof.Rows

/-! ### what the pieces come to -/
def gVar (i : Nat) : GE := fun δ M => match δ[i]? with
  | some (some d) => .ok d M
  | _ => .bad
def gC (d : D) : GE := fun _ M => .ok d M
def gOp (o : OD) (ga gb : GE) : GE := fun δ M => (ga δ M).bind fun x M1 => (gb δ M1).bind fun y M2 => o x y M2
def gUn (o : OU) (ga : GE) : GE := fun δ M => (ga δ M).bind fun x M1 => o x M1
def gANil : GA := fun _ M => .ok [] M
def gACons (ga : GE) (gr : GA) : GA := fun δ M => (ga δ M).bind fun x M1 => (gr δ M1).bind fun xs M2 => .ok (x :: xs) M2
def gCall (m : OC) (ga : GA) : GE := fun δ M => (ga δ M).bind fun ds M1 => m ds M1
open Classical in
noncomputable def gETup (ga : GA) : GE := fun δ M => (ga δ M).bind fun ds M1 => if bigN ds.length then .ok (.tup ds) M1 else .bad
open Classical in
noncomputable def gLst (ga : GA) : GE := fun δ M => (ga δ M).bind fun ds M1 => if bigN ds.length then .ok (.lst ds) M1 else .bad
open Classical in
noncomputable def gLstM (ga : GA) : GE := fun δ M => (ga δ M).bind fun ds M1 => if bigN ds.length then .ok (.ref M1.length) (M1 ++ [.lst ds]) else .bad
def gTest (ga : GE) : GB := fun δ M => (ga δ M).bind fun x M1 => match x with
  | .bl b => .ok b M1
  | _ => .bad
def trD (M : List MO) : D → Option Bool
  | .non => some false
  | .bl b => some b
  | .int i => some (i != 0)
  | .tup xs => some (!xs.isEmpty)
  | d => match listOf M d with
    | some xs => some (!xs.isEmpty)
    | none => none
def gTru (ga : GE) : GB := fun δ M => (ga δ M).bind fun x M1 => match trD M1 x with
  | some b => .ok b M1
  | none => .bad
def gAnd (ga gb : GB) : GB := fun δ M => (ga δ M).bind fun x M1 => if x = true then gb δ M1 else .ok false M1
def gOr (ga gb : GB) : GB := fun δ M => (ga δ M).bind fun x M1 => if x = true then .ok true M1 else gb δ M1
def gNot (ga : GB) : GB := fun δ M => (ga δ M).bind fun x M1 => .ok (!x) M1
def gAndV (ga gb : GE) : GE := fun δ M => (ga δ M).bind fun x M1 => match x with
  | .bl true => gb δ M1
  | .bl false => .ok (.bl false) M1
  | _ => .bad
def gOrV (ga gb : GE) : GE := fun δ M => (ga δ M).bind fun x M1 => match x with
  | .bl true => .ok (.bl true) M1
  | .bl false => gb δ M1
  | _ => .bad
def gNotV (ga : GE) : GE := fun δ M => (ga δ M).bind fun x M1 => match x with
  | .bl b => .ok (.bl (!b)) M1
  | _ => .bad
def gIfE (gc : GB) (ga gb : GE) : GE := fun δ M => (gc δ M).bind fun x M1 => if x = true then ga δ M1 else gb δ M1
def gChain (o o' : OD) (ga gb gc : GE) : GE := fun δ M => (ga δ M).bind fun x M1 => (gb δ M1).bind fun y M2 => (o x y M2).bind fun z M3 => match z with
  | .bl true => (gc δ M3).bind fun u M4 => o' y u M4
  | .bl false => .ok (.bl false) M3
  | _ => .bad
abbrev GO := Ctx → List MO → R (Option Int)
def gNoP : GO := fun _ M => .ok none M
def gP (ga : GE) : GO := fun δ M => (ga δ M).bind fun x M1 => match x with
  | .int i => .ok (some i) M1
  | _ => .bad
def gSl (ga : GE) (gl gh : GO) : GE := fun δ M => (ga δ M).bind fun x M1 => (gl δ M1).bind fun lo M2 => (gh δ M2).bind fun hi M3 => oSl x lo hi M3

def ImpO (K : PySem.W.Frag) (mg : Str → Option Value) (W : WX) (t : TO) (g : GO) : Prop := ∀ (σ : L2.St) (H : Hp) (δ : Ctx) (I : Hp) (as : List Addr) (M : List MO) (P : Hp) (Q : Option Int → Hp → Prop),
  Wr K H I as M P → Envr K I as σ δ → Sat K (fun _ _ b b' => b = b') (fun c H' => lowW mg W c σ H') I as P Q (g δ M) → t σ H Q
structure XO (X : Cx) (W : WX) (e : Option Expr) (t : TO) (g : GO) : Prop where
  pe : PO X e t
  im : ImpO X.K X.mg W t g

section
variable {X : Cx} {W : WX} {a b c e : Expr} {es : List Expr} {pos p : Pos} {ta tb tc : TE} {ga gb gc : GE} {t : TA} {g : GA}
theorem xe_v (i : Nat) {x : Str} (hN : X.N[i]? = some x := by rfl) (hv : Vis X.env.scope x := by first | exact Or.inl rfl | exact Or.inr (Or.inl rfl) | exact Or.inr (Or.inr rfl)) (hd : (x == ("__debug__" : Str)) = false := by decide)
    (hcd : (x == ("__classdict__" : Str)) = false := by decide) : XE X W (.Name x pos) (tVar i) (gVar i) := by
  refine ⟨pe_var hN hv hd hcd, fun σ H δ I as M P Q w en s => ?_⟩
  unfold gVar at s
  split at s
  · rename_i d hd
    obtain ⟨v, h1, h2⟩ := en.at_ i d hd
    exact ⟨v, h1, s.now w h2⟩
  · exact s.elim
theorem impE_C {K : PySem.W.Frag} {mg : Str → Option Value} {v : V} {d : D} (h : ∀ (I : Hp) (as : List Addr), Rep K I as v d) : ImpE K mg W (tC v) (gC d) := fun σ H δ I as M P Q w en s => s.now w (h I as)
theorem xe_int {i : Int} {j} : XE X W (.Constant (.int i) j pos) (tC (.int i)) (gC (.int i)) := ⟨pe_int, impE_C fun _ _ => .int _⟩
theorem xe_bl {i : Bool} {j} : XE X W (.Constant (.bool i) j pos) (tC (.bl i)) (gC (.bl i)) := ⟨pe_bl, impE_C fun _ _ => .bl _⟩
theorem xe_non {j} : XE X W (.Constant .none j pos) (tC .non) (gC .non) := ⟨pe_non, impE_C fun _ _ => .non⟩
theorem xe_str {i : Str} {j} : XE X W (.Constant (.str i) j pos) (tC (.str i)) (gC (.str i)) := ⟨pe_str, impE_C fun _ _ => .str _⟩
/-- a module's constant -/
structure GlobC (K : PySem.W.Frag) (mg : Str → Option Value) (x : Str) (d : D) : Prop where
  ex : ∃ (v : V) (u : Value), mg x = some u ∧ RelV v u ∧ ∀ (I : Hp) (as : List Addr), Rep K I as v d
theorem xe_glob {x : Str} {d : D} {v : V} {u : Value} (hm : X.mg x = some u) (r : RelV v u) (h : ∀ (I : Hp) (as : List Addr), Rep X.K I as v d) (hg : Gl X x := by rfl) (hd : (x == ("__debug__" : Str)) = false := by decide) : XE X W (.Name x pos) (tC v) (gC d) :=
  ⟨pe_glob hg hm r hd, impE_C h⟩
theorem xe_op {op : Operator} {r : R2} {o : OD} (ho : OpR X (binaryOp op) r) (hd : OpD X.K r o) (ha : XE X W a ta ga) (hb : XE X W b tb gb) : XE X W (.BinOp a op b pos) (tOp r ta tb) (gOp o ga gb) := by
  refine ⟨pe_op ho ha.pe hb.pe, fun σ H δ I as M P Q w en s => ?_⟩
  refine ha.im σ H δ I as M P _ w en (Sat.bind s fun x M1 v H1 I1 as1 _ g1 w1 r1 s1 => ?_)
  refine hb.im σ H1 δ I1 as1 M1 P _ w1 (en.mono g1) (Sat.bind s1 fun y M2 u H2 I2 as2 _ g2 w2 r2 s2 => ?_)
  exact hd H2 I2 as2 M2 P v u x y _ Q w2 (r1.mono g2) r2 s2
theorem xe_cmp {op : CmpOp} {r : R2} {o : OD} (ho : OpR X (compareOp op) r) (hd : OpD X.K r o) (ha : XE X W a ta ga) (hb : XE X W b tb gb) (hm : behindInMarks op b = false := by first | exact nomark _ | rfl) : XE X W (.Compare a [op] [b] pos) (tOp r ta tb) (gOp o ga gb) := by
  refine ⟨pe_cmpR ho ha.pe hb.pe hm, fun σ H δ I as M P Q w en s => ?_⟩
  refine ha.im σ H δ I as M P _ w en (Sat.bind s fun x M1 v H1 I1 as1 _ g1 w1 r1 s1 => ?_)
  refine hb.im σ H1 δ I1 as1 M1 P _ w1 (en.mono g1) (Sat.bind s1 fun y M2 u H2 I2 as2 _ g2 w2 r2 s2 => ?_)
  exact hd H2 I2 as2 M2 P v u x y _ Q w2 (r1.mono g2) r2 s2
theorem xe_ix {r : R2} {o : OD} (ho : IxR X r) (hd : OpD X.K r o) (ha : XE X W a ta ga) (hb : XE X W b tb gb) (hs : PlainIx b := by exact fun _ _ => rfl) : XE X W (.Subscript a b pos) (tOp r ta tb) (gOp o ga gb) := by
  refine ⟨pe_ix ho ha.pe hb.pe hs, fun σ H δ I as M P Q w en s => ?_⟩
  refine ha.im σ H δ I as M P _ w en (Sat.bind s fun x M1 v H1 I1 as1 _ g1 w1 r1 s1 => ?_)
  refine hb.im σ H1 δ I1 as1 M1 P _ w1 (en.mono g1) (Sat.bind s1 fun y M2 u H2 I2 as2 _ g2 w2 r2 s2 => ?_)
  exact hd H2 I2 as2 M2 P v u x y _ Q w2 (r1.mono g2) r2 s2
theorem xe_un {op : UnaryOp} {r : V → Hp → VK → Prop} {o : OU} (ho : UnR X (unaryOp op) r) (hd : OpU X.K r o) (ha : XE X W a ta ga) : XE X W (.UnaryOp op a pos) (tUn r ta) (gUn o ga) := by
  refine ⟨pe_un ho ha.pe, fun σ H δ I as M P Q w en s => ?_⟩
  refine ha.im σ H δ I as M P _ w en (Sat.bind s fun x M1 v H1 I1 as1 _ g1 w1 r1 s1 => ?_)
  exact hd H1 I1 as1 M1 P v x _ Q w1 r1 s1
def oNeg : OU := fun x M => match x with
  | .int i => .ok (.int (-i)) M
  | _ => .bad
theorem opu_neg {K : PySem.W.Frag} : OpU K (rU fun i => .int (-i)) oNeg := by
  intro H I as M P x d Wf Q w rx s
  unfold oNeg at s
  split at s
  · cases rx
    exact ⟨_, rfl, s.now w (.int _)⟩
  · exact s.elim
/-- is None -/
theorem opd_isN {K : PySem.W.Frag} {H I : Hp} {as : List Addr} {M : List MO} {P : Hp} {x : V} {d : D} {Wf : Str → Hp → Prop} {Q : VK}
    (w : Wr K H I as M P) (rx : Rep K I as x d) (s : Sat K (Rep K) Wf I as P Q (oIsN d M)) : Q (.bl (decide (x = .non))) H := by
  unfold oIsN at s
  cases rx with
  | non => exact s.now w (.bl true)
  | obj a => exact s.elim
  | _ => exact s.now w (.bl false)
theorem xe_isN (ha : XE X W a ta ga) {j pos'} : XE X W (.Compare a [.Is] [.Constant .none j pos'] pos) (tOp (fun x y H Q => y = .non ∧ Q (.bl (decide (x = .non))) H) ta (tC .non)) (gUn oIsN ga) := by
  refine ⟨pe_cmpR op_isN ha.pe pe_non (nomark _), fun σ H δ I as M P Q w en s => ?_⟩
  refine ha.im σ H δ I as M P _ w en (Sat.bind s fun x M1 v H1 I1 as1 _ g1 w1 r1 s1 => ?_)
  exact ⟨rfl, opd_isN w1 r1 s1⟩
theorem opd_notN {K : PySem.W.Frag} {H I : Hp} {as : List Addr} {M : List MO} {P : Hp} {x : V} {d : D} {Wf : Str → Hp → Prop} {Q : VK}
    (w : Wr K H I as M P) (rx : Rep K I as x d) (s : Sat K (Rep K) Wf I as P Q (oNotN d M)) : Q (.bl (!decide (x = .non))) H := by
  unfold oNotN at s
  cases rx with
  | non => exact s.now w (.bl false)
  | obj a => exact s.elim
  | _ => exact s.now w (.bl true)
theorem xe_notN (ha : XE X W a ta ga) {j pos'} : XE X W (.Compare a [.IsNot] [.Constant .none j pos'] pos) (tOp (fun x y H Q => y = .non ∧ Q (.bl (!decide (x = .non))) H) ta (tC .non)) (gUn oNotN ga) := by
  refine ⟨pe_cmpR op_notN ha.pe pe_non (nomark _), fun σ H δ I as M P Q w en s => ?_⟩
  refine ha.im σ H δ I as M P _ w en (Sat.bind s fun x M1 v H1 I1 as1 _ g1 w1 r1 s1 => ?_)
  exact ⟨rfl, opd_notN w1 r1 s1⟩
theorem impE_chain {K : PySem.W.Frag} {mg : Str → Option Value} {r r' : R2} {o o' : OD} (hd : OpD K r o) (hd' : OpD K r' o') (ha : ImpE K mg W ta ga) (hb : ImpE K mg W tb gb) (hc : ImpE K mg W tc gc) : ImpE K mg W (tChain r r' ta tb tc) (gChain o o' ga gb gc) := by
  intro σ H δ I as M P Q w en s
  refine ha σ H δ I as M P _ w en (Sat.bind s fun x M1 v H1 I1 as1 _ g1 w1 r1 s1 => ?_)
  refine hb σ H1 δ I1 as1 M1 P _ w1 (en.mono g1) (Sat.bind s1 fun y M2 u H2 I2 as2 _ g2 w2 r2 s2 => ?_)
  refine hd H2 I2 as2 M2 P v u x y _ _ w2 (r1.mono g2) r2 (Sat.bind s2 fun z M3 q H3 I3 as3 _ g3 w3 r3 s3 => ?_)
  split at s3
  · cases r3
    refine ⟨true, rfl, ?_⟩
    rw [if_pos rfl]
    refine hc σ H3 δ I3 as3 M3 P _ w3 (en.mono (g1.trans (g2.trans g3))) (Sat.bind s3 fun y' M4 u' H4 I4 as4 _ g4 w4 r4 s4 => ?_)
    exact hd' H4 I4 as4 M4 P u u' y y' _ _ w4 (r2.mono (g3.trans g4)) r4 s4
  · cases r3
    refine ⟨false, rfl, ?_⟩
    rw [if_neg Bool.false_ne_true]
    exact s3.now w3 (.bl false)
  · exact s3.elim
theorem xe_chain {op op' : CmpOp} {r r' : R2} {o o' : OD} (ho : OpR X (compareOp op) r) (ho' : OpR X (compareOp op') r') (hd : OpD X.K r o) (hd' : OpD X.K r' o') (ha : XE X W a ta ga) (hb : XE X W b tb gb) (hc : XE X W c tc gc)
    (hm : lastMarks [op, op'] [b, c] = false := by with_unfolding_all rfl) : XE X W (.Compare a [op, op'] [b, c] pos) (tChain r r' ta tb tc) (gChain o o' ga gb gc) :=
  ⟨pe_chain ho ho' ha.pe hb.pe hc.pe hm, impE_chain hd hd' ha.im hb.im hc.im⟩
theorem impT_test {K : PySem.W.Frag} {mg : Str → Option Value} (ha : ImpE K mg W ta ga) : ImpT K mg W (tTest ta) (gTest ga) := by
  intro σ H δ I as M P Q w en s
  refine ha σ H δ I as M P _ w en (Sat.bind s fun x M1 v H1 I1 as1 _ g1 w1 r1 s1 => ?_)
  split at s1
  · cases r1
    exact ⟨_, rfl, s1 _ H1 I1 as1 (Gr.refl _ _) w1 rfl⟩
  · exact s1.elim
theorem xt_cmp {op : CmpOp} {r : R2} {o : OD} (ho : OpR X (compareOp op) r) (hd : OpD X.K r o) (ha : XE X W a ta ga) (hb : XE X W b tb gb) (hm : behindInMarks op b = false := by first | exact nomark _ | rfl) : XT X W (.Compare a [op] [b] pos) (tTest (tOp r ta tb)) (gTest (gOp o ga gb)) :=
  ⟨pt_cmpR ho ha.pe hb.pe hm, impT_test (xe_cmp (pos := pos) ho hd ha hb hm).im⟩
theorem xt_isN (ha : XE X W a ta ga) {j pos'} : XT X W (.Compare a [.Is] [.Constant .none j pos'] pos) (tTest (tOp (fun x y H Q => y = .non ∧ Q (.bl (decide (x = .non))) H) ta (tC .non))) (gTest (gUn oIsN ga)) :=
  ⟨pt_cmpR op_isN ha.pe pe_non (nomark _), impT_test (xe_isN (pos := pos) (j := j) (pos' := pos') ha).im⟩
theorem xt_notN (ha : XE X W a ta ga) {j pos'} : XT X W (.Compare a [.IsNot] [.Constant .none j pos'] pos) (tTest (tOp (fun x y H Q => y = .non ∧ Q (.bl (!decide (x = .non))) H) ta (tC .non))) (gTest (gUn oNotN ga)) :=
  ⟨pt_cmpR op_notN ha.pe pe_non (nomark _), impT_test (xe_notN (pos := pos) (j := j) (pos' := pos') ha).im⟩
theorem xt_chain {op op' : CmpOp} {r r' : R2} {o o' : OD} (ho : OpR X (compareOp op) r) (ho' : OpR X (compareOp op') r') (hd : OpD X.K r o) (hd' : OpD X.K r' o') (ha : XE X W a ta ga) (hb : XE X W b tb gb) (hc : XE X W c tc gc)
    (hm : lastMarks [op, op'] [b, c] = false := by with_unfolding_all rfl) : XT X W (.Compare a [op, op'] [b, c] pos) (tTest (tChain r r' ta tb tc)) (gTest (gChain o o' ga gb gc)) :=
  ⟨pt_chain ho ho' ha.pe hb.pe hc.pe hm, impT_test (impE_chain hd hd' ha.im hb.im hc.im)⟩
/-- an expression that is True or False, as a test -/
theorem xt_val (ha : XE X W a ta ga) (he : ∀ whole, isTrue a X.env whole = (do let v ← whole; standAt a.pos; holding [v] (truthy v)) := by intro _; rfl) : XT X W a (tB ta) (gTest ga) :=
  ⟨pt_val ha.pe he, impT_test ha.im⟩
theorem xt_tru (ha : XE X W a ta ga) (he : ∀ whole, isTrue a X.env whole = (do let v ← whole; standAt a.pos; holding [v] (truthy v)) := by intro _; rfl) : XT X W a (fun σ H Q => ta σ H fun x H' => ∃ k, TruV X.K x H' k ∧ Q k H') (gTru ga) := by
  refine ⟨pt_truth ha.pe he, fun σ H δ I as M P Q w en s => ?_⟩
  refine ha.im σ H δ I as M P _ w en (Sat.bind s fun x M1 v H1 I1 as1 _ g1 w1 r1 s1 => ?_)
  split at s1
  · rename_i k hk
    refine ⟨k, ?_, s1 _ H1 I1 as1 (Gr.refl _ _) w1 rfl⟩
    unfold trD at hk
    split at hk
    · cases hk; cases r1; rfl
    · cases hk; cases r1; rfl
    · cases hk; cases r1; rfl
    · cases hk
      obtain ⟨a, vs, rfl, h1, rr⟩ := r1.tupl w1 rfl
      refine .inr (.inl ⟨vs, h1, ?_⟩)
      cases rr <;> rfl
    · split at hk
      · rename_i xs hx
        cases hk
        obtain ⟨a, vs, rfl, h1, rr⟩ := r1.list w1 hx
        refine .inl ⟨vs, h1, ?_⟩
        cases rr <;> rfl
      · cases hk
  · exact s1.elim
variable {tA tB' : TT} {gA gB : GB} {rest : List Expr}
theorem xw_pt (h : XW X W e tA gA) : XT X W e tA gA := ⟨h.pe.pt, h.im⟩
theorem xw_and1 (ha : XT X W a tA gA) : XW X W (.BoolOp .And [a] pos) tA gA := ⟨pw_and1 ha.pe, ha.im⟩
theorem xw_or1 (ha : XT X W a tA gA) : XW X W (.BoolOp .Or [a] pos) tA gA := ⟨pw_or1 ha.pe, ha.im⟩
theorem xw_and (ha : XT X W a tA gA) (hb : XW X W (.BoolOp .And (b :: rest) pos) tB' gB) : XW X W (.BoolOp .And (a :: b :: rest) pos) (tAnd tA tB') (gAnd gA gB) := by
  refine ⟨pw_and ha.pe hb.pe, fun σ H δ I as M P Q w en s => ?_⟩
  refine ha.im σ H δ I as M P _ w en (Sat.bind s fun x M1 v H1 I1 as1 _ g1 w1 r1 s1 => ?_)
  subst r1
  cases v with
  | true => exact hb.im σ H1 δ I1 as1 M1 P Q w1 (en.mono g1) s1
  | false => exact s1 _ H1 I1 as1 (Gr.refl _ _) w1 rfl
theorem xw_or (ha : XT X W a tA gA) (hb : XW X W (.BoolOp .Or (b :: rest) pos) tB' gB) : XW X W (.BoolOp .Or (a :: b :: rest) pos) (tOr tA tB') (gOr gA gB) := by
  refine ⟨pw_or ha.pe hb.pe, fun σ H δ I as M P Q w en s => ?_⟩
  refine ha.im σ H δ I as M P _ w en (Sat.bind s fun x M1 v H1 I1 as1 _ g1 w1 r1 s1 => ?_)
  subst r1
  cases v with
  | false => exact hb.im σ H1 δ I1 as1 M1 P Q w1 (en.mono g1) s1
  | true => exact s1 _ H1 I1 as1 (Gr.refl _ _) w1 rfl
theorem xt_not (ha : XT X W a tA gA) : XT X W (.UnaryOp .Not a pos) (tNot tA) (gNot gA) := by
  refine ⟨pt_not ha.pe, fun σ H δ I as M P Q w en s => ?_⟩
  refine ha.im σ H δ I as M P _ w en (Sat.bind s fun x M1 v H1 I1 as1 _ g1 w1 r1 s1 => ?_)
  subst r1
  exact s1 _ H1 I1 as1 (Gr.refl _ _) w1 rfl
theorem xe_one {op} (h : XE X W a ta ga) : XE X W (.BoolOp op [a] pos) ta ga := ⟨pe_one h.pe, h.im⟩
theorem xe_and (ha : XE X W a ta ga) (hb : XE X W (.BoolOp .And (b :: rest) pos) tb gb) : XE X W (.BoolOp .And (a :: b :: rest) pos) (tAndV ta tb) (gAndV ga gb) := by
  refine ⟨pe_and ha.pe hb.pe, fun σ H δ I as M P Q w en s => ?_⟩
  refine ha.im σ H δ I as M P _ w en (Sat.bind s fun x M1 v H1 I1 as1 _ g1 w1 r1 s1 => ?_)
  split at s1
  · cases r1
    exact ⟨true, rfl, by rw [if_pos rfl]; exact hb.im σ H1 δ I1 as1 M1 P Q w1 (en.mono g1) s1⟩
  · cases r1
    exact ⟨false, rfl, by rw [if_neg Bool.false_ne_true]; exact s1.now w1 (.bl false)⟩
  · exact s1.elim
theorem xe_or (ha : XE X W a ta ga) (hb : XE X W (.BoolOp .Or (b :: rest) pos) tb gb) : XE X W (.BoolOp .Or (a :: b :: rest) pos) (tOrV ta tb) (gOrV ga gb) := by
  refine ⟨pe_or ha.pe hb.pe, fun σ H δ I as M P Q w en s => ?_⟩
  refine ha.im σ H δ I as M P _ w en (Sat.bind s fun x M1 v H1 I1 as1 _ g1 w1 r1 s1 => ?_)
  split at s1
  · cases r1
    exact ⟨true, rfl, by rw [if_pos rfl]; exact s1.now w1 (.bl true)⟩
  · cases r1
    exact ⟨false, rfl, by rw [if_neg Bool.false_ne_true]; exact hb.im σ H1 δ I1 as1 M1 P Q w1 (en.mono g1) s1⟩
  · exact s1.elim
theorem xe_not (ha : XE X W a ta ga) : XE X W (.UnaryOp .Not a pos) (tNotV ta) (gNotV ga) := by
  refine ⟨pe_not ha.pe, fun σ H δ I as M P Q w en s => ?_⟩
  refine ha.im σ H δ I as M P _ w en (Sat.bind s fun x M1 v H1 I1 as1 _ g1 w1 r1 s1 => ?_)
  split at s1
  · cases r1
    exact ⟨_, rfl, s1.now w1 (.bl _)⟩
  · exact s1.elim
theorem xe_if (hc : XT X W c tA gA) (ha : XE X W a ta ga) (hb : XE X W b tb gb) : XE X W (.IfExp c a b pos) (tIf tA ta tb) (gIfE gA ga gb) := by
  refine ⟨pe_ifExp hc.pe ha.pe hb.pe, fun σ H δ I as M P Q w en s => ?_⟩
  refine hc.im σ H δ I as M P _ w en (Sat.bind s fun x M1 v H1 I1 as1 _ g1 w1 r1 s1 => ?_)
  subst r1
  cases v with
  | true => exact ha.im σ H1 δ I1 as1 M1 P Q w1 (en.mono g1) s1
  | false => exact hb.im σ H1 δ I1 as1 M1 P Q w1 (en.mono g1) s1
theorem xa_nil : XA X W [] tNil gANil := ⟨pa_nil, fun σ H δ I as M P Q w en s => s _ H I as (Gr.refl _ _) w .nil⟩
theorem xa_cons (ha : XE X W e ta ga) (hr : XA X W es t g) (hs : starEach (e :: es) X.env = (false, eval e X.env) :: starEach es X.env := by rfl) : XA X W (e :: es) (tCons ta t) (gACons ga g) := by
  refine ⟨pa_cons ha.pe hr.pe hs, fun σ H δ I as M P Q w en s => ?_⟩
  refine ha.im σ H δ I as M P _ w en (Sat.bind s fun x M1 v H1 I1 as1 _ g1 w1 r1 s1 => ?_)
  refine hr.im σ H1 δ I1 as1 M1 P _ w1 (en.mono g1) (Sat.bind s1 fun xs M2 vs H2 I2 as2 _ g2 w2 r2 s2 => ?_)
  exact s2 _ H2 I2 as2 (Gr.refl _ _) w2 (.cons (r1.mono g2) r2)
theorem xe_tup {x1} (h : XA X W es t g) : XE X W (.Tuple es x1 pos) (tTup t) (gETup g) := by
  refine ⟨pe_tup h.pe, fun σ H δ I as M P Q w en s => ?_⟩
  refine h.im σ H δ I as M P _ w en (Sat.bind s fun xs M1 vs H1 I1 as1 _ g1 w1 r1 s1 => ?_)
  split at s1
  · rename_i hb
    exact ⟨by rw [r1.len]; exact big_le hb, fun p hp => s1.newTup w1 r1 hp⟩
  · exact s1.elim
theorem xe_lst (h : XA X W es t g) : XE X W (.List es pos) (tLst t) (gLst g) := by
  refine ⟨pe_lst h.pe, fun σ H δ I as M P Q w en s => ?_⟩
  refine h.im σ H δ I as M P _ w en (Sat.bind s fun xs M1 vs H1 I1 as1 _ g1 w1 r1 s1 => ?_)
  split at s1
  · rename_i hb
    exact ⟨by rw [r1.len]; exact big_le hb, fun p hp => s1.newLst w1 r1 hp⟩
  · exact s1.elim
theorem xe_lstM (h : XA X W es t g) : XE X W (.List es pos) (tLst t) (gLstM g) := by
  refine ⟨pe_lst h.pe, fun σ H δ I as M P Q w en s => ?_⟩
  refine h.im σ H δ I as M P _ w en (Sat.bind s fun xs M1 vs H1 I1 as1 _ g1 w1 r1 s1 => ?_)
  split at s1
  · rename_i hb
    exact ⟨by rw [r1.len]; exact big_le hb, fun p hp => s1.newRef w1 r1 hp⟩
  · exact s1.elim
theorem impE_CB {K : PySem.W.Frag} {mg : Str → Option Value} {r : List V → Hp → VK → Prop} {o : OC} (ho : OpC K r o) (h : ImpA K mg W t g) : ImpE K mg W (tCB r t) (gCall o g) := by
  intro σ H δ I as M P Q w en s
  refine h σ H δ I as M P _ w en (Sat.bind s fun xs M1 vs H1 I1 as1 _ g1 w1 r1 s1 => ?_)
  exact ho H1 I1 as1 M1 P vs xs _ Q w1 r1 s1
theorem xe_callB {x : Str} {id : String} {r : List V → Hp → VK → Prop} {o : OC} (hc : CallR X (.builtin id) r) (ho : OpC X.K r o) (hm : X.mg x = none) (hv : bootBuiltins x = some (.builtin id)) (ha : XA X W (e :: es) t g) (hg : Gl X x := by rfl) (hn : x ≠ "__name__" := by decide) (hdb : (x == ("__debug__" : Str)) = false := by decide)
    (he : starEach (e :: es) X.env = (false, eval e X.env) :: starEach es X.env := by rfl) (hpl : (backTo pos (starEach es X.env)).any (·.1) = false := by rfl) : XE X W (.Call (.Name x p) (e :: es) [] pos) (tCB r t) (gCall o g) :=
  ⟨pe_callB hc hg hm hv ha.pe hn hdb he hpl, impE_CB ho ha.im⟩
theorem xe_callTy {x : Str} {T : String} {r : List V → Hp → VK → Prop} {o : OC} (hc : CallR X (.type T) r) (ho : OpC X.K r o) (hm : X.mg x = none) (hv : bootBuiltins x = some (.type T)) (ha : XA X W (e :: es) t g) (hg : Gl X x := by rfl) (hn : x ≠ "__name__" := by decide) (hdb : (x == ("__debug__" : Str)) = false := by decide)
    (he : starEach (e :: es) X.env = (false, eval e X.env) :: starEach es X.env := by rfl) (hpl : (backTo pos (starEach es X.env)).any (·.1) = false := by rfl) : XE X W (.Call (.Name x p) (e :: es) [] pos) (tCB r t) (gCall o g) :=
  ⟨pe_callTy hc hg hm hv ha.pe hn hdb he hpl, impE_CB ho ha.im⟩
theorem xe_callBfun {x : Str} {id : String} {r : List V → Hp → VK → Prop} {o : OC} (hc : CallR X (.builtin id) r) (ho : OpC X.K r o) (hm : X.mg x = some (.builtin id)) (ha : XA X W (e :: es) t g) (hg : Gl X x := by rfl) (hdb : (x == ("__debug__" : Str)) = false := by decide)
    (he : starEach (e :: es) X.env = (false, eval e X.env) :: starEach es X.env := by rfl) (hpl : (backTo pos (starEach es X.env)).any (·.1) = false := by rfl) : XE X W (.Call (.Name x p) (e :: es) [] pos) (tCB r t) (gCall o g) :=
  ⟨pe_callBfun hc hg hm ha.pe hdb he hpl, impE_CB ho ha.im⟩
/-! slices -/
theorem xo_none : XO X W none tNoPart gNoP := ⟨po_none, fun σ H δ I as M P Q w en s => s _ H I as (Gr.refl _ _) w rfl⟩
theorem xo_some (h : XE X W a ta ga) : XO X W (some a) (tPart ta) (gP ga) := by
  refine ⟨po_some h.pe, fun σ H δ I as M P Q w en s => ?_⟩
  refine h.im σ H δ I as M P _ w en (Sat.bind s fun x M1 v H1 I1 as1 _ g1 w1 r1 s1 => ?_)
  split at s1
  · cases r1
    exact ⟨_, rfl, s1 _ H1 I1 as1 (Gr.refl _ _) w1 rfl⟩
  · exact s1.elim
theorem xe_slice {lo hi : Option Expr} {p2 : Pos} {tl th : TO} {gl gh : GO} (he : XE X W a ta ga) (hl : XO X W lo tl gl) (hh : XO X W hi th gh) : XE X W (.Subscript a (.Slice lo hi none p2) pos) (tSl (rSlG X.K) ta tl th) (gSl ga gl gh) := by
  refine ⟨pe_slice sl_G he.pe hl.pe hh.pe, fun σ H δ I as M P Q w en s => ?_⟩
  refine he.im σ H δ I as M P _ w en (Sat.bind s fun x M1 v H1 I1 as1 _ g1 w1 r1 s1 => ?_)
  refine hl.im σ H1 δ I1 as1 M1 P _ w1 (en.mono g1) (Sat.bind s1 fun lo M2 lo' H2 I2 as2 _ g2 w2 r2 s2 => ?_)
  subst r2
  refine hh.im σ H2 δ I2 as2 M2 P _ w2 (en.mono (g1.trans g2)) (Sat.bind s2 fun hi M3 hi' H3 I3 as3 _ g3 w3 r3 s3 => ?_)
  subst r3
  exact opd_sl w3 (r1.mono (g2.trans g3)) s3
end

/-! ### calls of defs -/
def spM (K : PySem.W.Frag) (mg : Str → Option Value) (n : Nat) (m : OC) : Sp := fun vs H Q E => vs.length = n ∧ ∃ (ds : List D) (I : Hp) (as : List Addr) (M : List MO) (P : Hp),
  Wr K H I as M P ∧ Reps K I as vs ds ∧ Sat K (Rep K) (fun c H' => ∀ cls, mg c = some cls → E cls none H') I as P Q (m ds M)
structure Callee (P : Program) (w : World) (K : PySem.W.Frag) (mg : Str → Option Value) (base : Heap) (x : Str) (k n : Nat) (m : OC) : Prop where
  ex : ∃ (f : Addr) (fd : FuncData) (ps : List Str), FnOk P w K mg base (L2.CX P w) k f fd ps (spM K mg n m) ∧ mg x = some (.ref f) ∧ PySem.W.keepIn K (.ref f) = true ∧ Binds K fd ps [] ∧ PySem.W.nsIn K mainGlobals x = some (some (.ref f))
section
variable {X : Cx} {W : WX} {e : Expr} {es : List Expr} {pos p : Pos} {t : TA} {g : GA}
theorem impE_call {K : PySem.W.Frag} {mg : Str → Option Value} {n : Nat} {m : OC} (hn : n = (e :: es).length) (hl : ∀ δ M ds M', g δ M = .ok ds M' → ds.length = n) (ha : ImpA K mg W t g) : ImpE K mg W (tCallS (spM K mg n m) (WE W) t) (gCall m g) := by
  intro σ H δ I as M P Q w en s
  refine ha σ H δ I as M P _ w en (Sat.bind s fun xs M1 vs H1 I1 as1 e1 g1 w1 r1 s1 => ?_)
  exact ⟨by rw [r1.len]; exact hl _ _ _ _ e1, xs, I1, as1, M1, P, w1, r1, s1⟩
theorem gNil_len {δ : Ctx} {M : List MO} {ds : List D} {M' : List MO} (h : gANil δ M = .ok ds M') : ds.length = 0 := by
  unfold gANil at h; cases h; rfl
theorem gCons_len {ga : GE} {gr : GA} {n : Nat} (hr : ∀ δ M ds M', gr δ M = .ok ds M' → ds.length = n) {δ : Ctx} {M : List MO} {ds : List D} {M' : List MO} (h : gACons ga gr δ M = .ok ds M') : ds.length = n + 1 := by
  unfold gACons at h
  cases e1 : ga δ M with
  | bad => rw [e1] at h; cases h
  | ex c M1 => rw [e1] at h; cases h
  | ok x M1 =>
    rw [e1] at h
    simp only [R.bind_ok] at h
    cases e2 : gr δ M1 with
    | bad => rw [e2] at h; cases h
    | ex c M2 => rw [e2] at h; cases h
    | ok xs M2 =>
      rw [e2] at h
      simp only [R.bind_ok, R.ok.injEq] at h
      rw [← h.1, List.length_cons, hr _ _ _ _ e2]
theorem xe_call {x : Str} {k n : Nat} {m : OC} (C : Callee X.prog X.w X.K X.mg X.base x k n m) (hr : Room k X.A) (tk : Takes X W) (ha : XA X W (e :: es) t g) (hl : ∀ δ M ds M', g δ M = .ok ds M' → ds.length = n := by first | exact fun _ _ _ _ h => gCons_len (fun _ _ _ _ h => gNil_len h) h | exact fun _ _ _ _ h => gCons_len (fun _ _ _ _ h => gCons_len (fun _ _ _ _ h => gNil_len h) h) h | exact fun _ _ _ _ h => gCons_len (fun _ _ _ _ h => gCons_len (fun _ _ _ _ h => gCons_len (fun _ _ _ _ h => gNil_len h) h) h) h | exact fun _ _ _ _ h => gCons_len (fun _ _ _ _ h => gCons_len (fun _ _ _ _ h => gCons_len (fun _ _ _ _ h => gCons_len (fun _ _ _ _ h => gNil_len h) h) h) h) h)
    (hg : Gl X x := by rfl) (hdb : (x == ("__debug__" : Str)) = false := by decide)
    (he : starEach (e :: es) X.env = (false, eval e X.env) :: starEach es X.env := by rfl) (hpl : (backTo pos (starEach es X.env)).any (·.1) = false := by rfl) :
    XE X W (.Call (.Name x p) (e :: es) [] pos) (tCallS (spM X.K X.mg n m) (WE W) t) (gCall m g) := by
  obtain ⟨f, fd, ps, F, h1, h2, h3, _⟩ := C.ex
  refine ⟨pe_callS F hr hg h1 h2 h3 (fun σ => passAt tk σ) ha.pe hdb he hpl, ?_⟩
  intro σ H δ I as M P Q w en s
  refine ha.im σ H δ I as M P _ w en (Sat.bind s fun xs M1 vs H1 I1 as1 e1 g1 w1 r1 s1 => ?_)
  exact ⟨by rw [r1.len]; exact hl _ _ _ _ e1, xs, I1, as1, M1, P, w1, r1, s1⟩
end
end KM
set_option Elab.async false
set_option linter.all false
set_option maxRecDepth 100000
set_option maxHeartbeats 2000000
namespace KM
open PySem L2 PySem.Spec PyProof.Rows

/-! ### statements -/
def R.toS {α : Type} (r : R α) (δ : Ctx) (f : α → List MO → SR) : SR := match r with
  | .bad => .bad
  | .ok a M => f a M
  | .ex c M => .ex c δ M
@[simp] theorem R.toS_bad {α : Type} (f : α → List MO → SR) (δ : Ctx) : (R.bad).toS δ f = .bad := rfl
@[simp] theorem R.toS_ok {α : Type} (f : α → List MO → SR) (δ : Ctx) (a : α) (M : List MO) : (R.ok a M).toS δ f = f a M := rfl
@[simp] theorem R.toS_ex {α : Type} (f : α → List MO → SR) (δ : Ctx) (c : Str) (M : List MO) : (R.ex c M).toS δ f = .ex c δ M := rfl
def SR.then (r : SR) (f : Ctx → List MO → SR) : SR := match r with
  | .nx δ M => f δ M
  | r => r
@[simp] theorem SR.then_nx (f : Ctx → List MO → SR) (δ : Ctx) (M : List MO) : (SR.nx δ M).then f = f δ M := rfl
@[simp] theorem SR.then_rt (f : Ctx → List MO → SR) (d : D) (M : List MO) : (SR.rt d M).then f = .rt d M := rfl
@[simp] theorem SR.then_bk (f : Ctx → List MO → SR) (δ : Ctx) (M : List MO) : (SR.bk δ M).then f = .bk δ M := rfl
@[simp] theorem SR.then_ct (f : Ctx → List MO → SR) (δ : Ctx) (M : List MO) : (SR.ct δ M).then f = .ct δ M := rfl
@[simp] theorem SR.then_ex (f : Ctx → List MO → SR) (c : Str) (δ : Ctx) (M : List MO) : (SR.ex c δ M).then f = .ex c δ M := rfl
@[simp] theorem SR.then_bad (f : Ctx → List MO → SR) : (SR.bad).then f = .bad := rfl
def gNext : GS := fun δ M => .nx δ M
def gSeq (g h : GS) : GS := fun δ M => (g δ M).then h
def gSet (i : Nat) (ge : GE) : GS := fun δ M => (ge δ M).toS δ fun d M1 => .nx (δ.set i (some d)) M1
def gDrop (ge : GE) : GS := fun δ M => (ge δ M).toS δ fun _ M1 => .nx δ M1
def gRet (ge : GE) : GS := fun δ M => (ge δ M).toS δ fun d M1 => .rt d M1
def gRetN : GS := fun δ M => .rt .non M
def gIf (gc : GB) (g h : GS) : GS := fun δ M => (gc δ M).toS δ fun b M1 => if b = true then g δ M1 else h δ M1
def gBreak : GS := fun δ M => .bk δ M
def gCont : GS := fun δ M => .ct δ M
def gNever : GS := fun _ _ => .bad
def gRaise (c : Str) : GS := fun δ M => .ex c δ M
abbrev GG := D → GS
def gtName (i : Nat) : GG := fun d δ M => .nx (δ.set i (some d)) M
def gtNil : List D → GS := fun ds δ M => match ds with
  | [] => .nx δ M
  | _ => .bad
def gtCons (g : GG) (r : List D → GS) : List D → GS := fun ds δ M => match ds with
  | d :: ds => match g d δ M with
    | .nx δ1 M1 => match r ds δ1 M1 with
      | .nx δ2 M2 => .nx δ2 M2
      | _ => .bad
    | _ => .bad
  | [] => .bad
def gtTup (n : Nat) (g : List D → GS) : GG := fun d δ M => match tupOf d with
  | some ds => if ds.length = n then g ds δ M else .bad
  | none => .bad
abbrev OSet := D → D → D → List MO → Option (List MO)
def gtSub (go gi : GE) (o : OSet) : GG := fun d δ M => (go δ M).toS δ fun x M1 => (gi δ M1).toS δ fun i M2 => match o x i d M2 with
  | some M3 => .nx δ M3
  | none => .bad
def gAsg (ge : GE) (gg : GG) : GS := fun δ M => (ge δ M).toS δ fun d M1 => match gg d δ M1 with
  | .nx δ2 M2 => .nx δ2 M2
  | .ex c _ M2 => .ex c δ M2
  | _ => .bad
def gPar (i j : Nat) (ga gb : GE) : GS := fun δ M => (ga δ M).toS δ fun x M1 => (gb δ M1).toS δ fun y M2 => .nx ((δ.set i (some x)).set j (some y)) M2

structure Kept (is : List Nat) (σ σ' : L2.St) : Prop where
  len : σ'.length = σ.length
  at_ : ∀ j : Nat, j ∉ is → σ'[j]? = σ[j]?
theorem Kept.refl (is : List Nat) (σ : L2.St) : Kept is σ σ := ⟨rfl, fun _ _ => rfl⟩
def SatG (K : PySem.W.Frag) (is : List Nat) (Wf : Str → Hp → Prop) (I : Hp) (as : List Addr) (P : Hp) (σ : L2.St) (Q : L2.St → Hp → Prop) : SR → Prop
  | .nx δ M => ∀ σ' H' I' as', Gr I as I' as' → Wr K H' I' as' M P → Envr K I' as' σ' δ → Kept is σ σ' → Q σ' H'
  | .ex c _ M => ∀ H' I' as', Gr I as I' as' → Wr K H' I' as' M P → Wf c H'
  | _ => False
def ImpG (K : PySem.W.Frag) (mg : Str → Option Value) (W : WX) (is : List Nat) (t : TG) (g : GG) : Prop := ∀ (v : V) (d : D) (σ : L2.St) (H : Hp) (δ : Ctx) (I : Hp) (as : List Addr) (M : List MO) (P : Hp) (Q : L2.St → Hp → Prop),
  Wr K H I as M P → Envr K I as σ δ → Rep K I as v d → SatG K is (fun c H' => lowW mg W c σ H') I as P σ Q (g d δ M) → t v σ H Q
def ImpGs (K : PySem.W.Frag) (mg : Str → Option Value) (W : WX) (is : List Nat) (t : TGs) (g : List D → GS) : Prop := ∀ (v : List V) (d : List D) (σ : L2.St) (H : Hp) (δ : Ctx) (I : Hp) (as : List Addr) (M : List MO) (P : Hp) (Q : L2.St → Hp → Prop),
  Wr K H I as M P → Envr K I as σ δ → Reps K I as v d → SatG K is (fun c H' => lowW mg W c σ H') I as P σ Q (g d δ M) → t v σ H Q
structure XG (X : Cx) (W : WX) (e : Expr) (is : List Nat) (t : TG) (g : GG) : Prop where
  pe : PG X e t
  im : ImpG X.K X.mg W is t g
structure XGs (X : Cx) (W : WX) (es : List Expr) (is : List Nat) (t : TGs) (g : List D → GS) : Prop where
  pe : PGs X es t
  im : ImpGs X.K X.mg W is t g
section
variable {X : Cx} {W : WX} {a b c e : Expr} {es : List Expr} {pos p : Pos} {ta tb tc te : TE} {ga gb gc ge : GE} {t : TA} {g : GA} {K : PySem.W.Frag}
theorem SatS.bindE {α β : Type} {rel : Hp → List Addr → β → α → Prop} {Wf : Str → L2.St → Hp → Prop} {I P : Hp} {as : List Addr} {E : Ends} {δ : Ctx} {σ : L2.St} {r : R α} {f : α → List MO → SR} (s : SatS K Wf I as P E (r.toS δ f)) (en : Envr K I as σ δ)
    {Q1 : β → Hp → Prop} (k : ∀ a M v H' I' as', r = .ok a M → Gr I as I' as' → Wr K H' I' as' M P → rel I' as' v a → SatS K Wf I' as' P E (f a M) → Q1 v H') : Sat K rel (fun c H' => Wf c σ H') I as P Q1 r := by
  cases r with
  | bad => exact s
  | ok d M => exact fun v H2 I2 as2 g2 w r => k d M v H2 I2 as2 rfl g2 w r (SatS.gr g2 s)
  | ex c M => exact fun H2 I2 as2 g2 w => s σ H2 I2 as2 g2 w (en.mono g2)
theorem xss_nil : XSs X W [] tNext gNext := ⟨pss_nil, fun σ H δ I as M P E w en s => s _ H I as (Gr.refl _ _) w en⟩
theorem impS_seq {mg : Str → Option Value} {t u : TS} {g h : GS} (h1 : ImpS K mg W t g) (h2 : ImpS K mg W u h) : ImpS K mg W (tSeq t u) (gSeq g h) := by
  intro σ H δ I as M P E w en s
  refine h1 σ H δ I as M P _ w en ?_
  unfold gSeq at s
  cases e : g δ M with
  | bad => rw [e] at s; exact s
  | nx δ1 M1 =>
    rw [e] at s
    exact fun σ' H' I' as' g' w' en' => h2 σ' H' δ1 I' as' M1 P E w' en' (SatS.gr g' s)
  | rt d M1 => rw [e] at s; exact s
  | bk d M1 => rw [e] at s; exact s
  | ct d M1 => rw [e] at s; exact s
  | ex c d M1 => rw [e] at s; exact s
theorem xss_cons {st : Stmt} {rest : List Stmt} {t u : TS} {g h : GS} (h1 : XS X W st t g) (h2 : XSs X W rest u h) : XSs X W (st :: rest) (tSeq t u) (gSeq g h) := ⟨pss_cons h1.pe h2.pe, impS_seq h1.im h2.im⟩
theorem xss_one {st : Stmt} {t : TS} {g : GS} (h1 : XS X W st t g) : XSs X W [st] t g := ⟨pss_one h1.pe, h1.im⟩
theorem impS_set {mg : Str → Option Value} {i : Nat} (he : ImpE K mg W te ge) : ImpS K mg W (tAsg te (L2.gName i)) (gSet i ge) := by
  intro σ H δ I as M P E w en s
  refine he σ H δ I as M P _ w en (SatS.bindE s en fun d M1 v H1 I1 as1 _ g1 w1 r1 s1 => ?_)
  exact s1 _ H1 I1 as1 (Gr.refl _ _) w1 ((en.mono g1).set r1 i)
theorem xs_set (i : Nat) {x : Str} {pos' : Pos} (hN : X.N.Nodup) (he : XE X W e te ge) (hi : X.N[i]? = some x := by rfl) (hx : Loc X.env.scope x := by first | exact .inl rfl | exact .inr rfl) (hs : swapsWith e (some (.Name x pos')) pos.line X.env = pure false := by rfl)
    (hf : X.fn x = true ∨ X.env.scope.names.lookup x = some .local := by first | exact .inl rfl | exact .inr rfl | assumption) : XS X W (.Assign [.Name x pos'] e pos) (tAsg te (L2.gName i)) (gSet i ge) :=
  ⟨ps_set hN hi hx he.pe hs hf, impS_set he.im⟩
theorem xs_expr (he : XE X W e te ge) (hs : swapsWith e none pos.line X.env = pure false := by rfl) : XS X W (.Expr e pos) (tDrop te) (gDrop ge) := by
  refine ⟨ps_expr he.pe hs, fun σ H δ I as M P E w en s => ?_⟩
  refine he.im σ H δ I as M P _ w en (SatS.bindE s en fun d M1 v H1 I1 as1 _ g1 w1 r1 s1 => ?_)
  exact s1 _ H1 I1 as1 (Gr.refl _ _) w1 (en.mono g1)
theorem xs_ret (he : XE X W e te ge) : XS X W (.Return (some e) pos) (tRet te) (gRet ge) := by
  refine ⟨ps_ret he.pe, fun σ H δ I as M P E w en s => ?_⟩
  refine he.im σ H δ I as M P _ w en (SatS.bindE s en fun d M1 v H1 I1 as1 _ g1 w1 r1 s1 => ?_)
  exact s1 _ H1 I1 as1 (Gr.refl _ _) w1 r1
theorem xs_retN : XS X W (.Return none pos) tRetN gRetN := ⟨ps_retN, fun σ H δ I as M P E w en s => s _ H I as (Gr.refl _ _) w .non⟩
theorem xs_pass : XS X W (.Pass pos) tNext gNext := ⟨ps_pass, fun σ H δ I as M P E w en s => s _ H I as (Gr.refl _ _) w en⟩
theorem xs_break : XS X W (.Break pos) tBreak gBreak := ⟨ps_break, fun σ H δ I as M P E w en s => s _ H I as (Gr.refl _ _) w en⟩
theorem xs_cont : XS X W (.Continue pos) tCont gCont := ⟨ps_continue, fun σ H δ I as M P E w en s => s _ H I as (Gr.refl _ _) w en⟩
theorem xs_never {st : Stmt} : XS X W st tNever gNever := ⟨ps_never, fun σ H δ I as M P E w en s => s.elim⟩
theorem xs_if {a b : List Stmt} {tA : TT} {gA : GB} {t u : TS} {g h : GS} (hc : XT X W c tA gA) (ha : XSs X W a t g) (hb : XSs X W b u h) : XS X W (.If c a b pos) (tIfS tA t u) (gIf gA g h) := by
  refine ⟨ps_if hc.pe ha.pe hb.pe, fun σ H δ I as M P E w en s => ?_⟩
  refine hc.im σ H δ I as M P _ w en (SatS.bindE s en fun d M1 v H1 I1 as1 _ g1 w1 r1 s1 => ?_)
  subst r1
  cases v with
  | true => exact ha.im σ H1 δ I1 as1 M1 P E w1 (en.mono g1) s1
  | false => exact hb.im σ H1 δ I1 as1 M1 P E w1 (en.mono g1) s1
/-! targets -/
theorem xg_name (i : Nat) {x : Str} (hN : X.N.Nodup) (hi : X.N[i]? = some x := by rfl) (hx : Loc X.env.scope x := by first | exact .inl rfl | exact .inr rfl) (hf : X.fn x = true ∨ X.env.scope.names.lookup x = some .local := by first | exact .inl rfl | exact .inr rfl | assumption) :
    XG X W (.Name x pos) [i] (L2.gName i) (gtName i) := by
  refine ⟨pg_name hN hi hx hf, fun v d σ H δ I as M P Q w en r s => ?_⟩
  exact s _ H I as (Gr.refl _ _) w (en.set r i) ⟨List.length_set, fun j hj => List.getElem?_set_ne (by simpa using fun e => hj (by simp [e]))⟩
theorem xgs_nil : XGs X W [] [] L2.gNil gtNil := by
  refine ⟨pgs_nil, fun vs ds σ H δ I as M P Q w en r s => ?_⟩
  unfold gtNil at s
  cases r with
  | nil => exact ⟨rfl, s _ H I as (Gr.refl _ _) w en (Kept.refl _ _)⟩
  | cons => exact s.elim
theorem xgs_cons {is js : List Nat} {t : TG} {u : TGs} {g : GG} {r : List D → GS} (h1 : XG X W e is t g) (h2 : XGs X W es js u r)
    (hs : (assignEach (e :: es) X.env).map (·.2) = assign e X.env :: (assignEach es X.env).map (·.2) := by rfl) : XGs X W (e :: es) (is ++ js) (L2.gCons t u) (gtCons g r) := by
  refine ⟨pgs_cons h1.pe h2.pe hs, fun vs ds σ H δ I as M P Q w en rr s => ?_⟩
  unfold gtCons at s
  cases rr with
  | nil => exact s.elim
  | @cons v vs d ds rd rds =>
    refine ⟨v, vs, rfl, ?_⟩
    refine h1.im v d σ H δ I as M P _ w en rd ?_
    simp only at s
    split at s
    · rename_i δ1 M1 e1
      rw [e1]
      intro σ1 H1 I1 as1 g1 w1 en1 k1
      refine h2.im vs ds σ1 H1 δ1 I1 as1 M1 P Q w1 en1 (rds.mono g1) ?_
      split at s
      · rename_i δ2 M2 e2
        rw [e2]
        exact fun σ2 H2 I2 as2 g2 w2 en2 k2 => s σ2 H2 I2 as2 (g1.trans g2) w2 en2 ⟨k2.len.trans k1.len, fun j hj => (k2.at_ j fun z => hj (List.mem_append_right _ z)).trans (k1.at_ j fun z => hj (List.mem_append_left _ z))⟩
      · exact s.elim
    · exact s.elim
theorem xg_tup {is : List Nat} {k n : Nat} {t : TGs} {g : List D → GS} (hc : X.calm = true) (h : XGs X W es is t g)
    (hn : (assignEach es X.env).length = n := by rfl) (hst : (assignEach es X.env).findIdx? (·.1) = none := by rfl) : XG X W (.Tuple es k pos) is (L2.gTup X.K n t) (gtTup n g) := by
  refine ⟨pg_tup hc h.pe hn hst, fun v d σ H δ I as M P Q w en r s => ?_⟩
  unfold gtTup at s
  split at s
  · rename_i ds hd
    split at s
    · rename_i hl
      obtain ⟨a, vs, rfl, h1, rr⟩ := r.tupl w hd
      exact ⟨a, vs, rfl, h1, by rw [rr.len]; exact hl, h.im vs ds σ H δ I as M P Q w en rr s⟩
    · exact s.elim
  · exact s.elim
def SetD (K : PySem.W.Frag) (t : TSet) (o : OSet) : Prop := ∀ (H I : Hp) (as : List Addr) (M M' : List MO) (P : Hp) (x i v : V) (dx di dv : D) (Q : Hp → Prop),
  Wr K H I as M P → Rep K I as x dx → Rep K I as i di → Rep K I as v dv → o dx di dv M = some M' → (∀ H', Wr K H' I as M' P → Q H') → t x i v H Q
theorem xg_sub {o i : Expr} {to ti : TE} {go gi : GE} {t : TSet} {os : OSet} (hs : PSet X t) (hd : SetD X.K t os) (ho : XE X W o to go) (hi : XE X W i ti gi)
    (ha : ∀ v, assign (.Subscript o i pos) X.env v = (do
      let ov ← holding [v] (eval o X.env)
      let iv ← holding [v, ov] (eval i X.env)
      standAt pos
      holding [v, ov, iv] (setItem ov iv v)
      release [v, ov, iv] []) := by intro _; rfl) : XG X W (.Subscript o i pos) [] (gSub to ti t) (gtSub go gi os) := by
  refine ⟨pg_sub ho.pe hi.pe hs ha, fun v d σ H δ I as M P Q w en r s => ?_⟩
  unfold gtSub at s
  have lift : ∀ {α β : Type} {rel : Hp → List Addr → β → α → Prop} {I : Hp} {as : List Addr} {r : R α} {f : α → List MO → SR}, SatG X.K [] (fun c H' => lowW X.mg W c σ H') I as P σ Q (r.toS δ f) → ∀ {Q1 : β → Hp → Prop},
      (∀ a M v H' I' as', r = .ok a M → Gr I as I' as' → Wr X.K H' I' as' M P → rel I' as' v a → SatG X.K [] (fun c H' => lowW X.mg W c σ H') I' as' P σ Q (f a M) → Q1 v H') → Sat X.K rel (fun c H' => lowW X.mg W c σ H') I as P Q1 r := by
    intro α β rel I as r f s Q1 k
    cases r with
    | bad => exact s
    | ok d M =>
      refine fun v H2 I2 as2 g2 w r => k d M v H2 I2 as2 rfl g2 w r ?_
      simp only [R.toS_ok] at s
      cases e : f d M with
      | nx δ' M' => rw [e] at s; exact fun σ' H' I' as' g' => s σ' H' I' as' (g2.trans g')
      | ex c δ' M' => rw [e] at s; exact fun H' I' as' g' => s H' I' as' (g2.trans g')
      | _ => rw [e] at s; exact s.elim
    | ex c M => exact s
  refine ho.im σ H δ I as M P _ w en (lift s fun x M1 xv H1 I1 as1 _ g1 w1 r1 s1 => ?_)
  refine hi.im σ H1 δ I1 as1 M1 P _ w1 (en.mono g1) (lift s1 fun iv M2 ivv H2 I2 as2 _ g2 w2 r2 s2 => ?_)
  split at s2
  · rename_i M3 e3
    exact hd H2 I2 as2 M2 M3 P _ _ _ _ _ _ _ w2 (r1.mono g2) r2 (r.mono (g1.trans g2)) e3 fun H' w' => s2 σ H' I2 as2 (Gr.refl _ _) w' (en.mono (g1.trans g2)) (Kept.refl _ _)
  · exact s2.elim
/-- o[i] = v of a list that may change -/
def oSetL : OSet := fun x i v M => match x, i with
  | .ref k, .int j => match M[k]? with
    | some (.lst xs) => match ixN xs.length j with
      | some n => some (M.set k (.lst (xs.set n v)))
      | none => none
    | _ => none
  | _, _ => none
theorem setd_list {K : PySem.W.Frag} : SetD K rSetL oSetL := by
  intro H I as M M' P x i v dx di dv Q w rx ri rv h k
  unfold oSetL at h
  split at h
  · rename_i kk j
    cases ri
    split at h
    · rename_i xs hx
      split at h
      · rename_i n hn
        cases h
        cases rx with
        | @ref _ a h1 =>
          obtain ⟨o, ho, _, _, m⟩ := w.at h1
          rw [hx] at ho
          cases ho
          obtain ⟨vs, e1, rr⟩ := m
          refine ⟨a, vs, j, n, rfl, rfl, e1, by rw [rr.len]; exact hn, k _ (w.put h1 _ _ ⟨_, upd_same, rr.set rv⟩)⟩
      · cases h
    · cases h
  · cases h
theorem xs_asg {tg : Expr} {is : List Nat} {gt : TG} {gg : GG} (he : XE X W e te ge) (hg : XG X W tg is gt gg) (hs : swapsWithSole [tg] e pos.line X.env = pure false := by rfl) (hw : swappedStores [tg] e X.env = pure none := by rfl)
    (h1 : (assignEach [tg] X.env).map (·.2) = [assign tg X.env] := by rfl) : XS X W (.Assign [tg] e pos) (tAsg te gt) (gAsg ge gg) := by
  refine ⟨ps_asg he.pe hg.pe hs hw h1, fun σ H δ I as M P E w en s => ?_⟩
  refine he.im σ H δ I as M P _ w en (SatS.bindE s en fun d M1 v H1 I1 as1 _ g1 w1 r1 s1 => ?_)
  refine hg.im v d σ H1 δ I1 as1 M1 P _ w1 (en.mono g1) r1 ?_
  split at s1
  · rename_i e2
    rw [e2]
    exact fun σ' H' I' as' g' w' en' _ => s1 σ' H' I' as' g' w' en'
  · rename_i e2
    rw [e2]
    exact fun H' I' as' g' w' => s1 σ H' I' as' g' w' (en.mono (g1.trans g'))
  · exact s1.elim
theorem xs_par {i j : Nat} {x y : Str} {px py pt : Pos} {kt k2 pt2} (hc : X.calm = true) (hN : X.N.Nodup) (ha : XE X W a ta ga) (hb : XE X W b tb gb)
    (hi : X.N[i]? = some x := by rfl) (hj : X.N[j]? = some y := by rfl) (hij : i ≠ j := by decide) (hx : X.env.scope.names.lookup x = some .local := by rfl) (hy : X.env.scope.names.lookup y = some .local := by rfl)
    (hw : swappedStores [.Tuple [.Name x px, .Name y py] kt pt] (.Tuple [a, b] k2 pt2) X.env = pure (some [x, y]) := by rfl)
    (hs : swapsWithSole [.Tuple [.Name x px, .Name y py] kt pt] (.Tuple [a, b] k2 pt2) pos.line X.env = pure false := by rfl)
    (h1 : starEach [a, b] X.env = (false, eval a X.env) :: starEach [b] X.env := by rfl) (h2 : starEach [b] X.env = (false, eval b X.env) :: starEach [] X.env := by rfl) :
    XS X W (.Assign [.Tuple [.Name x px, .Name y py] kt pt] (.Tuple [a, b] k2 pt2) pos) (tPar i j (tCons ta (tCons tb tNil))) (gPar i j ga gb) := by
  refine ⟨ps_par hc hN hi hj hij hx hy (pa_cons ha.pe (pa_cons hb.pe pa_nil h2) h1) hw hs, fun σ H δ I as M P E w en s => ?_⟩
  refine ha.im σ H δ I as M P _ w en (SatS.bindE s en fun d M1 v H1 I1 as1 _ g1 w1 r1 s1 => ?_)
  refine hb.im σ H1 δ I1 as1 M1 P _ w1 (en.mono g1) (SatS.bindE s1 (en.mono g1) fun d2 M2 v2 H2 I2 as2 _ g2 w2 r2 s2 => ?_)
  exact ⟨v, v2, rfl, s2 _ H2 I2 as2 (Gr.refl _ _) w2 (((en.mono (g1.trans g2)).set (r1.mono g2) i).set r2 j)⟩
end

/-! ### what is walked -/
structure ITD where
  items : List D
  gd : List MO → Prop
def ItOk (K : PySem.W.Frag) (I : Hp) (as : List Addr) (J : It) (it : ITD) : Prop := ∃ (G : Hp → Prop) (Y : Nat → Hp → V → Hp → Prop), Walk J it.items.length G Y ∧
  (∀ H' I' as' M' P', Gr I as I' as' → Wr K H' I' as' M' P' → it.gd M' → G H') ∧
  (∀ i x H' H2 I' as' M' P', i < it.items.length → Gr I as I' as' → Wr K H' I' as' M' P' → it.gd M' → Y i H' x H2 → ∃ I2 d, Gr I' as' I2 as' ∧ Wr K H2 I2 as' M' P' ∧ it.items[i]? = some d ∧ Rep K I2 as' x d)
abbrev GI := Ctx → List MO → R ITD
def ImpI (K : PySem.W.Frag) (mg : Str → Option Value) (W : WX) (t : TI) (g : GI) : Prop := ∀ (σ : L2.St) (H : Hp) (δ : Ctx) (I : Hp) (as : List Addr) (M : List MO) (P : Hp) (Q : It → Hp → Prop),
  Wr K H I as M P → Envr K I as σ δ → Sat K (ItOk K) (fun c H' => lowW mg W c σ H') I as P Q (g δ M) → t σ H Q
structure XI (X : Cx) (W : WX) (tg e : Expr) (t : TI) (g : GI) : Prop where
  pe : PI X tg e t
  im : ImpI X.K X.mg W t g
open Classical in
noncomputable def forL (gd : List MO → Prop) (gg : GG) (gb : GS) : List D → GS
  | [], δ, M => if gd M then .nx δ M else .bad
  | x :: xs, δ, M => if gd M then (match gg x δ M with
      | .nx δ1 M1 => match gb δ1 M1 with
        | .nx δ2 M2 => forL gd gg gb xs δ2 M2
        | .ct δ2 M2 => forL gd gg gb xs δ2 M2
        | .bk δ2 M2 => .nx δ2 M2
        | .rt d M2 => .rt d M2
        | .ex c δ2 M2 => .ex c δ2 M2
        | .bad => .bad
      | _ => .bad) else .bad
noncomputable def gFor (gi : GI) (gg : GG) (gb : GS) : GS := fun δ M => (gi δ M).toS δ fun it M1 => forL it.gd gg gb it.items δ M1
section
variable {X : Cx} {W : WX} {tg iter e : Expr} {es : List Expr} {pos p : Pos} {te : TE} {ge : GE} {t : TA} {g : GA} {K : PySem.W.Frag} {wi : TI} {gi : GI}
theorem forL_gd {gd : List MO → Prop} {gg : GG} {gb : GS} {xs : List D} {δ : Ctx} {M : List MO} (h : forL gd gg gb xs δ M ≠ .bad) : gd M := by
  by_cases c : gd M
  · exact c
  · exfalso
    apply h
    cases xs with
    | nil => unfold forL; rw [if_neg c]
    | cons x xs => unfold forL; rw [if_neg c]
theorem SatS.ne {Wf : Str → L2.St → Hp → Prop} {I P : Hp} {as : List Addr} {E : Ends} {r : SR} (s : SatS K Wf I as P E r) : r ≠ .bad := fun e => by
  rw [e] at s
  exact s
theorem impS_for {mg : Str → Option Value} {is : List Nat} {gt : TG} {gg : GG} {tb : TS} {gb : GS} (hi : ImpI K mg W wi gi) (hg : ImpG K mg W is gt gg) (hb : ImpS K mg W tb gb) : ImpS K mg W (tFor wi gt tb) (gFor gi gg gb) := by
  intro σ H δ I as M P E w en s
  refine hi σ H δ I as M P _ w en (SatS.bindE s en fun it M1 J H1 I1 as1 _ g1 w1 ok s1 => ?_)
  obtain ⟨G, Y, wk, hG, hY⟩ := ok
  refine for_it wk (fun i σ' H' => ∃ δ' M' I' as', Gr I1 as1 I' as' ∧ Wr K H' I' as' M' P ∧ Envr K I' as' σ' δ' ∧ SatS K (lowW mg W) I' as' P E (forL it.gd gg gb (it.items.drop i) δ' M'))
    ⟨δ, M1, I1, as1, Gr.refl _ _, w1, en.mono g1, by rw [List.drop_zero]; exact s1⟩ ?_ ?_ ?_
  · rintro i σ' H' hi ⟨δ', M', I', as', g', w', en', s'⟩
    exact hG H' I' as' M' P g' w' (forL_gd s'.ne)
  · rintro i x σ' H' H2 hi ⟨δ', M', I', as', g', w', en', s'⟩ y
    obtain ⟨I2, d, g2, w2, hd, rd⟩ := hY i x H' H2 I' as' M' P hi g' w' (forL_gd s'.ne) y
    have hgd := forL_gd s'.ne
    have ed : it.items.drop i = d :: it.items.drop (i + 1) := by
      rw [List.drop_eq_getElem_cons hi]
      have := List.getElem?_eq_getElem hi
      rw [hd] at this
      rw [← Option.some.inj this]
    rw [ed] at s'
    unfold forL at s'
    rw [if_pos hgd] at s'
    refine hg x d σ' H2 δ' I2 as' M' P _ w2 (en'.mono g2) rd ?_
    have s2 := SatS.gr g2 s'
    cases e1 : gg d δ' M' with
    | nx δ1 M1 =>
      rw [e1] at s2
      intro σ3 H3 I3 as3 g3 w3 en3 _
      refine hb σ3 H3 δ1 I3 as3 M1 P _ w3 en3 ?_
      have s3 := SatS.gr g3 s2
      cases e2 : gb δ1 M1 with
      | nx δ2 M2 =>
        simp only [e2] at s3
        exact fun σ4 H4 I4 as4 g4 w4 en4 => ⟨δ2, M2, I4, as4, (g'.trans (g2.trans (g3.trans g4))), w4, en4, SatS.gr g4 s3⟩
      | ct δ2 M2 =>
        simp only [e2] at s3
        exact fun σ4 H4 I4 as4 g4 w4 en4 => ⟨δ2, M2, I4, as4, (g'.trans (g2.trans (g3.trans g4))), w4, en4, SatS.gr g4 s3⟩
      | bk δ2 M2 =>
        simp only [e2] at s3
        exact s3
      | rt d2 M2 =>
        simp only [e2] at s3
        exact s3
      | ex c δ2 M2 =>
        simp only [e2] at s3
        exact s3
      | bad =>
        simp only [e2] at s3
        exact s3
    | _ => rw [e1] at s2; exact s2.elim
  · rintro σ' H' ⟨δ', M', I', as', g', w', en', s'⟩
    have hgd := forL_gd s'.ne
    rw [List.drop_length] at s'
    unfold forL at s'
    rw [if_pos hgd] at s'
    exact s' σ' H' I' as' (Gr.refl _ _) w' en'
theorem xs_for {is : List Nat} {gt : TG} {gg : GG} {body : List Stmt} {tb : TS} {gb : GS} (hp : PassesOwn (model X.prog X.w) X.A X.env X.xe) (hc : X.calm = true) (hi : XI X W tg iter wi gi) (hg : XG X W tg is gt gg) (hb : XSs X W body tb gb)
    (hs : ∀ x, foldedSetIterable iter X.env x = pure x := by intro _; rfl) : XS X W (.For tg iter body [] pos) (tFor wi gt tb) (gFor gi gg gb) :=
  ⟨ps_for hp hc hi.pe hg.pe hb.pe hs, impS_for hi.im hg.im hb.im⟩
/-! iterables -/
def itT (xs : List D) : ITD := ⟨xs, fun _ => True⟩
def giTup (ge : GE) : GI := fun δ M => (ge δ M).bind fun x M1 => match tupOf x with
  | some xs => .ok (itT xs) M1
  | none => .bad
def gdOf (x : D) (xs : List D) : List MO → Prop := match x with
  | .ref k => fun M' => M'[k]? = some (.lst xs)
  | _ => fun _ => True
def giList (ge : GE) : GI := fun δ M => (ge δ M).bind fun x M1 => match listOf M1 x with
  | some xs => .ok ⟨xs, gdOf x xs⟩ M1
  | none => .bad
theorem itok_tup {I : Hp} {as : List Addr} {a : Addr} {vs : List V} {xs : List D} (h : SqT K I a vs) (r : Reps K I as vs xs) : ItOk K I as (Itt K a) (itT xs) := by
  refine ⟨fun H => SqT K H a vs, YAt vs, by rw [show (itT xs).items = xs from rfl, ← r.len]; exact walk_tup, fun H' I' as' M' P' g w _ => w.seqT (Evl.ex_t g.sub h), fun i x H' H2 I' as' M' P' hi g w _ y => ?_⟩
  obtain ⟨rfl, hx⟩ := y
  obtain ⟨d, h1, h2⟩ := r.get' hx
  exact ⟨I', d, Gr.refl _ _, w, h1, h2.mono g⟩
theorem itok_list {I : Hp} {as : List Addr} {a : Addr} {vs : List V} {xs : List D} (h : SqL K I a vs) (r : Reps K I as vs xs) : ItOk K I as (Itl K a) (itT xs) := by
  refine ⟨fun H => SqL K H a vs, YAt vs, by rw [show (itT xs).items = xs from rfl, ← r.len]; exact walk_list, fun H' I' as' M' P' g w _ => w.seqL (Evl.ex_l g.sub h), fun i x H' H2 I' as' M' P' hi g w _ y => ?_⟩
  obtain ⟨rfl, hx⟩ := y
  obtain ⟨d, h1, h2⟩ := r.get' hx
  exact ⟨I', d, Gr.refl _ _, w, h1, h2.mono g⟩
theorem Reps.inj {I : Hp} {as : List Addr} : True := trivial
theorem xi_tup (h : XE X W e te ge) : XI X W tg e (iTup X.K te) (giTup ge) := by
  refine ⟨pi_tup h.pe, fun σ H δ I as M P Q w en s => ?_⟩
  refine h.im σ H δ I as M P _ w en (Sat.bind s fun d M1 v H1 I1 as1 _ g1 w1 r1 s1 => ?_)
  split at s1
  · rename_i xs hx
    have e : d = .tup xs := by cases d <;> first | (cases hx; rfl) | cases hx
    subst e
    cases r1 with
    | @tup a vs _ h1 rr =>
      exact ⟨a, rfl, ⟨vs, w1.seqT h1⟩, s1 _ H1 I1 as1 (Gr.refl _ _) w1 (itok_tup h1 rr)⟩
  · exact s1.elim
theorem xi_list (h : XE X W e te ge) : XI X W tg e (iList X.K te) (giList ge) := by
  refine ⟨pi_list h.pe, fun σ H δ I as M P Q w en s => ?_⟩
  refine h.im σ H δ I as M P _ w en (Sat.bind s fun d M1 v H1 I1 as1 _ g1 w1 r1 s1 => ?_)
  cases hl : listOf M1 d with
  | none => rw [hl] at s1; exact s1.elim
  | some xs =>
    rw [hl] at s1
    cases r1 with
    | @lst a vs ds h1 rr =>
      cases hl
      exact ⟨a, rfl, ⟨vs, .of (w1.sub _ _ h1)⟩, s1 _ H1 I1 as1 (Gr.refl _ _) w1 (itok_list (.of h1) rr)⟩
    | @rol a vs ds h1 rr =>
      cases hl
      exact ⟨a, rfl, ⟨vs, w1.seqL h1⟩, s1 _ H1 I1 as1 (Gr.refl _ _) w1 (itok_list h1 rr)⟩
    | @ref k a h1 =>
        obtain ⟨o, ho, _, _, m⟩ := w1.at h1
        cases o with
        | dct kvs =>
          unfold listOf at hl
          simp [ho] at hl
        | lst ys =>
        unfold listOf at hl
        simp only [ho, Option.some.injEq] at hl
        subst hl
        obtain ⟨vs, e1, rr⟩ := m
        refine ⟨a, rfl, ⟨vs, .of e1⟩, s1 _ H1 I1 as1 (Gr.refl _ _) w1 ⟨fun H => ∃ vs', SqL X.K H a vs' ∧ vs'.length = ys.length, fun i H x H' => H' = H ∧ ∀ vs', SqL X.K H a vs' → vs'[i]? = some x, ?_, ?_, ?_⟩⟩
        · exact ⟨fun i H hi ⟨vs', h', e'⟩ => ⟨vs', vs'[i]'(by rw [e']; exact hi), h', by simp⟩, fun H ⟨vs', h', e'⟩ => ⟨vs', h', Nat.le_of_eq e'⟩, fun i H x H' _ _ y => y⟩
        · intro H' I' as' M' P' g w' hgd
          obtain ⟨o', ho', _, _, m'⟩ := w'.at (g.at h1)
          have hgd2 : M'[k]? = some (.lst ys) := hgd
          rw [hgd2] at ho'
          cases ho'
          obtain ⟨vs', e', r'⟩ := m'
          exact ⟨vs', .of e', r'.len⟩
        · intro i x H' H2 I' as' M' P' hi g w' hgd y
          obtain ⟨rfl, hy⟩ := y
          obtain ⟨o', ho', _, _, m'⟩ := w'.at (g.at h1)
          have hgd2 : M'[k]? = some (.lst ys) := hgd
          rw [hgd2] at ho'
          cases ho'
          obtain ⟨vs', e', r'⟩ := m'
          obtain ⟨d, hd, rd⟩ := r'.get' (hy vs' (.of e'))
          exact ⟨I', d, Gr.refl _ _, w', hd, rd⟩
    | _ => cases hl
def rngD (lo : Int) (n : Nat) : List D := (List.range n).map fun i => .int (lo + (i : Nat))
theorem itok_rng {I : Hp} {as : List Addr} {lo : Int} {n : Nat} : ItOk K I as (Itr lo n) (itT (rngD lo n)) := by
  refine ⟨fun _ => True, YFn fun i => .int (lo + i), by rw [show (itT (rngD lo n)).items.length = n by simp [itT, rngD]]; exact walk_range, fun _ _ _ _ _ _ _ _ => trivial, fun i x H' H2 I' as' M' P' hi g w _ y => ?_⟩
  obtain ⟨rfl, rfl⟩ := y
  have hn : i < n := by simpa [itT, rngD] using hi
  exact ⟨I', .int (lo + i), Gr.refl _ _, w, by simp [itT, rngD, hn], .int _⟩
def rngB (i : Int) : Prop := -(2 ^ 62) ≤ i ∧ i < 2 ^ 62
open Classical in
noncomputable def giRng1 (ga : GA) : GI := fun δ M => (ga δ M).bind fun xs M1 => match xs with
  | [.int j] => if rngB j then .ok (itT (rngD 0 j.toNat)) M1 else .bad
  | _ => .bad
open Classical in
noncomputable def giRng2 (ga : GA) : GI := fun δ M => (ga δ M).bind fun xs M1 => match xs with
  | [.int i, .int j] => if rngB i ∧ rngB j then .ok (itT (rngD i (j - i).toNat)) M1 else .bad
  | _ => .bad
theorem Reps.one_inv {I : Hp} {as : List Addr} {vs : List V} {d : D} (r : Reps K I as vs [d]) : ∃ v, vs = [v] ∧ Rep K I as v d := by
  cases r with
  | cons h r => cases r; exact ⟨_, rfl, h⟩
theorem Reps.two_inv {I : Hp} {as : List Addr} {vs : List V} {d d2 : D} (r : Reps K I as vs [d, d2]) : ∃ v v2, vs = [v, v2] ∧ Rep K I as v d ∧ Rep K I as v2 d2 := by
  cases r with
  | cons h r =>
    cases r with
    | cons h2 r => cases r; exact ⟨_, _, rfl, h, h2⟩
theorem xi_rng1 (hm : X.mg "range" = none) (ha : XA X W [e] t g) (hg : Gl X "range" := by rfl) (hs : starEach [e] X.env = [(false, eval e X.env)] := by rfl) : XI X W tg (.Call (.Name "range" p) [e] [] pos) (iRng1 t) (giRng1 g) := by
  refine ⟨pi_range1 hg hm ha.pe hs, fun σ H δ I as M P Q w en s => ?_⟩
  refine ha.im σ H δ I as M P _ w en (Sat.bind s fun d M1 v H1 I1 as1 _ g1 w1 r1 s1 => ?_)
  split at s1
  · split at s1
    · rename_i j _ hb
      obtain ⟨v, rfl, r⟩ := r1.one_inv
      cases r
      exact ⟨j, rfl, hb.1, hb.2, s1 _ H1 I1 as1 (Gr.refl _ _) w1 itok_rng⟩
    · exact s1.elim
  · exact s1.elim
theorem xi_rng2 {e2 : Expr} (hm : X.mg "range" = none) (ha : XA X W [e, e2] t g) (hg : Gl X "range" := by rfl) (hs : starEach [e, e2] X.env = [(false, eval e X.env), (false, eval e2 X.env)] := by rfl) (hs2 : starEach [e2] X.env = [(false, eval e2 X.env)] := by rfl) : XI X W tg (.Call (.Name "range" p) [e, e2] [] pos) (iRng2 t) (giRng2 g) := by
  refine ⟨pi_range2 hg hm ha.pe hs hs2, fun σ H δ I as M P Q w en s => ?_⟩
  refine ha.im σ H δ I as M P _ w en (Sat.bind s fun d M1 v H1 I1 as1 _ g1 w1 r1 s1 => ?_)
  split at s1
  · split at s1
    · rename_i i j _ hb
      obtain ⟨v, v2, rfl, r, r2⟩ := r1.two_inv
      cases r
      cases r2
      exact ⟨i, j, rfl, ⟨hb.1.1, hb.1.2, hb.2.1, hb.2.2⟩, s1 _ H1 I1 as1 (Gr.refl _ _) w1 itok_rng⟩
    · exact s1.elim
  · exact s1.elim
end
end KM
set_option Elab.async false
set_option linter.all false
set_option maxRecDepth 100000
set_option maxHeartbeats 2000000
namespace KM
open PySem L2 PySem.Spec PyProof.Rows

/-! ### comprehensions -/
theorem wipe_in {σ : L2.St} {j : Nat} : ∀ {vs : List Nat}, j ∈ vs → (wipe σ vs)[j]? = if j < σ.length then some none else none
  | [], h => by simp at h
  | v :: vs, h => by
    unfold wipe
    by_cases hv : v = j
    · subst hv
      by_cases hl : v < σ.length
      · rw [List.getElem?_set_self (by rw [wipe_length]; exact hl), if_pos hl]
      · rw [if_neg hl, List.getElem?_eq_none (by simpa [wipe_length] using hl)]
    · rw [List.getElem?_set_ne hv]
      exact wipe_in (by simpa [Ne.symm hv] using h)
theorem wipe_kept {is vs : List Nat} {σ σ2 : L2.St} (hs : ∀ j ∈ is, j ∈ vs) (k : Kept is (wipe σ vs) σ2) : wipe σ2 vs = wipe σ vs := by
  have hl : σ2.length = σ.length := by rw [k.len, wipe_length]
  apply List.ext_getElem?
  intro j
  by_cases hj : j ∈ vs
  · rw [wipe_in hj, wipe_in hj, hl]
  · rw [wipe_out hj, k.at_ j (fun z => hj (hs j z))]
def bigS (n : Nat) : Prop := n < 100000
structure XTs (X : Cx) (W : WX) (es : List Expr) (t : TT) (g : GB) : Prop where
  pe : PTs X es t
  im : ImpT X.K X.mg W t g
def gYes : GB := fun _ M => .ok true M
theorem xts_nil {X : Cx} {W : WX} : XTs X W [] tYes gYes := ⟨pts_nil, fun σ H δ I as M P Q w en s => s _ H I as (Gr.refl _ _) w rfl⟩
theorem xts_one {X : Cx} {W : WX} {c : Expr} {t : TT} {g : GB} (h : XT X W c t g) : XTs X W [c] t g := ⟨pts_one h.pe, h.im⟩
open Classical in
noncomputable def lcL (gd : List MO → Prop) (gg : GG) (gt : GB) (ge : GE) (δ : Ctx) : List D → List D → List MO → R (List D)
  | [], acc, M => if gd M then .ok acc M else .bad
  | x :: xs, acc, M => if gd M then (match gg x δ M with
      | .nx δ1 M1 => match gt δ1 M1 with
        | .ok b M2 => if b = true then (match ge δ1 M2 with
            | .ok d M3 => if bigS acc.length then lcL gd gg gt ge δ xs (acc ++ [d]) M3 else .bad
            | _ => .bad) else lcL gd gg gt ge δ xs acc M2
        | _ => .bad
      | _ => .bad) else .bad
theorem lcL_gd {gd : List MO → Prop} {gg : GG} {gt : GB} {ge : GE} {δ : Ctx} {xs acc : List D} {M : List MO} (h : lcL gd gg gt ge δ xs acc M ≠ .bad) : gd M := by
  by_cases c : gd M
  · exact c
  · exfalso
    apply h
    cases xs with
    | nil => unfold lcL; rw [if_neg c]
    | cons x xs => unfold lcL; rw [if_neg c]
noncomputable def gLcG (fin : List D → List MO → R D) (gi : GI) (gg : GG) (gt : GB) (ge : GE) (vs : List Nat) : GE := fun δ M => (gi δ M).bind fun it M1 => (lcL it.gd gg gt ge (wipeD δ vs) it.items [] M1).bind fin
/-- how the new list is told: as one that never changes, or as one that may -/
def finI : List D → List MO → R D := fun ds M => .ok (.lst ds) M
def finM : List D → List MO → R D := fun ds M => .ok (.ref M.length) (M ++ [.lst ds])
def FinOk (K : PySem.W.Frag) (fin : List D → List MO → R D) : Prop := ∀ (H I : Hp) (as : List Addr) (M : List MO) (P : Hp) (Dl : Addr) (vs : List V) (ds : List D) (Wf : Str → Hp → Prop) (Q : VK),
  P Dl = none → Wr K H I as M (upd P Dl (.lst vs)) → Reps K I as vs ds → Sat K (Rep K) Wf I as P Q (fin ds M) → Q (.ref Dl) H
theorem fin_I {K : PySem.W.Frag} : FinOk K finI := by
  intro H I as M P Dl vs ds Wf Q h0 w r s
  obtain ⟨w', g⟩ := w.giveI h0
  exact s _ _ _ _ g w' (.lst upd_same (r.mono g))
theorem fin_M {K : PySem.W.Frag} : FinOk K finM := by
  intro H I as M P Dl vs ds Wf Q h0 w r s
  have h1 := (w.prv Dl _ upd_same).1
  have w' := w.giveM (m := .lst ds) h0 ⟨vs, h1, r⟩
  refine s _ _ _ _ (Gr.more I as [Dl]) w' (.ref ?_)
  rw [← w.len, List.getElem?_append_right (Nat.le_refl _), Nat.sub_self]
  rfl
abbrev W0 : WX := fun _ _ _ _ => False
theorem SatT.ne {α β : Type} {K : PySem.W.Frag} {rel : Hp → List Addr → β → α → Prop} {Wf : Str → Hp → Prop} {I P : Hp} {as : List Addr} {Q : β → Hp → Prop} {r : R α} (s : Sat K rel Wf I as P Q r) : r ≠ .bad := fun e => by
  rw [e] at s
  exact s
theorem impE_lc {K : PySem.W.Frag} {mg : Str → Option Value} {W : WX} {wi : TI} {gi : GI} {is vs : List Nat} {gt : TG} {gg : GG} {tt : TT} {gb : GB} {te : TE} {ge : GE} {fin : List D → List MO → R D} (hf : FinOk K fin) (hs : ∀ j ∈ is, j ∈ vs)
    (hi : ImpI K mg W wi gi) (hg : ImpG K mg W0 is gt gg) (ht : ImpT K mg W0 tt gb) (he : ImpE K mg W0 te ge) : ImpE K mg W (tLc wi gt tt te vs) (gLcG fin gi gg gb ge vs) := by
  intro σ H δ I as M P Q w en s
  refine hi σ H δ I as M P _ w en (Sat.bind s fun it M1 J H1 I1 as1 _ g1 w1 ok s1 => ?_)
  intro Dl hD
  obtain ⟨G, Y, wk, hG, hY⟩ := ok
  obtain ⟨f1, f2, f3⟩ := w1.fresh hD
  have enw := (en.mono g1).wipe vs
  have nb : ∀ {i : Nat} {acc : List D} {M' : List MO} {I' : Hp} {as' : List Addr}, Sat K (Rep K) (fun c H' => lowW mg W c σ H') I' as' P Q ((lcL it.gd gg gb ge (wipeD δ vs) (it.items.drop i) acc M').bind fin) → it.gd M' := fun h => lcL_gd fun e => by
    rw [e] at h
    exact h
  refine lc_it wk (fun i H' => ∃ acc us M' I' as', Gr I1 as1 I' as' ∧ Wr K H' I' as' M' (upd P Dl (.lst us)) ∧ Reps K I' as' us acc ∧ Sat K (Rep K) (fun c H' => lowW mg W c σ H') I' as' P Q ((lcL it.gd gg gb ge (wipeD δ vs) (it.items.drop i) acc M').bind fin))
    ⟨[], [], M1, I1, as1, Gr.refl _ _, w1.newP hD _, .nil, by rw [List.drop_zero]; exact s1⟩ ?_ ?_ ?_
  · rintro i H' hi ⟨acc, us, M', I', as', g', w', r', s'⟩
    exact hG H' I' as' M' _ g' w' (nb s')
  · rintro i x H' H2 hi ⟨acc, us, M', I', as', g', w', r', s'⟩ y
    have hgd := nb s'
    obtain ⟨I2, d, g2, w2, hd, rd⟩ := hY i x H' H2 I' as' M' _ hi g' w' hgd y
    have ed : it.items.drop i = d :: it.items.drop (i + 1) := by
      rw [List.drop_eq_getElem_cons hi]
      have := List.getElem?_eq_getElem hi
      rw [hd] at this
      rw [← Option.some.inj this]
    rw [ed] at s'
    unfold lcL at s'
    rw [if_pos hgd] at s'
    refine hg x d (wipe σ vs) H2 (wipeD δ vs) I2 as' M' _ _ w2 (enw.mono (g'.trans g2)) rd ?_
    have s2 := Sat.gr g2 s'
    cases e1 : gg d (wipeD δ vs) M' with
    | nx δ1 M1 =>
      simp only [e1] at s2
      intro σ3 H3 I3 as3 g3 w3 en3 k3
      refine ⟨wipe_kept hs k3, ?_⟩
      refine ht σ3 H3 δ1 I3 as3 M1 _ _ w3 en3 ?_
      have s3 := Sat.gr g3 s2
      cases e2 : gb δ1 M1 with
      | ok b M2 =>
        simp only [e2] at s3
        intro b' H4 I4 as4 g4 w4 eb
        subst eb
        have s4 := Sat.gr g4 s3
        cases b' with
        | true =>
          simp only [if_true] at s4 ⊢
          refine he σ3 H4 δ1 I4 as4 M2 _ _ w4 (en3.mono g4) ?_
          cases e3 : ge δ1 M2 with
          | ok d5 M5 =>
            simp only [e3] at s4
            intro v5 H5 I5 as5 g5 w5 r5
            have s5 := Sat.gr g5 s4
            split at s5
            · rename_i hb
              have ga := (g2.trans (g3.trans (g4.trans g5)))
              have hP := (w5.prv Dl _ upd_same).1
              refine ⟨us, hP, ?_, acc ++ [d5], us ++ [v5], M5, I5, as5, g'.trans ga, ?_, (r'.mono ga).append (.cons r5 .nil), s5⟩
              · rw [r'.len]
                exact Evl.sz_lt hb
              · have z := w5.putP (p := Dl) upd_same (.lst (us ++ [v5]))
                rw [upd_upd] at z
                exact z
            · exact s5.elim
          | bad => simp only [e3] at s4; exact s4.elim
          | ex c M5 => simp only [e3] at s4; exact s4.elim
        | false =>
          simp only [if_neg Bool.false_ne_true] at s4 ⊢
          have ga := (g2.trans (g3.trans g4))
          exact ⟨acc, us, M2, I4, as4, g'.trans ga, w4, r'.mono ga, s4⟩
      | bad => simp only [e2] at s3; exact s3.elim
      | ex c M5 => simp only [e2] at s3; exact s3.elim
    | bad => simp only [e1] at s2; exact s2.elim
    | rt _ _ => simp only [e1] at s2; exact s2.elim
    | bk _ _ => simp only [e1] at s2; exact s2.elim
    | ct _ _ => simp only [e1] at s2; exact s2.elim
    | ex _ _ _ => simp only [e1] at s2; exact s2.elim
  · rintro H' ⟨acc, us, M', I', as', g', w', r', s'⟩
    have hgd := nb s'
    rw [List.drop_length] at s'
    unfold lcL at s'
    rw [if_pos hgd] at s'
    exact hf H' I' as' M' P Dl us acc _ Q f2 w' r' s'
section
variable {X : Cx} {W : WX} {tg iter elt : Expr} {ifs : List Expr} {scope : Scope} {own : List (Str × Nat)} {pos : Pos} {wi : TI} {gi : GI} {is : List Nat} {gt : TG} {gg : GG} {tt : TT} {gb : GB} {te : TE} {ge : GE}
theorem xe_lc (own : List (Str × Nat)) {fin : List D → List MO → R D} (hf : FinOk X.K fin) (hc : X.calm = true) (hN : X.N.Nodup) (hi : XI X W tg iter wi gi) (ok : BlkOk X.N X.env.scope scope own)
    (hg : ∀ (s : Shared) (H : Hp) (C : Addr) (cl : List (Str × Addr)) (fp : List Addr), XG (X.blk s H scope (compEnvC scope cl C X.env) fp) W0 tg is gt gg) (ht : ∀ (s : Shared) (H : Hp) (C : Addr) (cl : List (Str × Addr)) (fp : List Addr), XTs (X.blk s H scope (compEnvC scope cl C X.env) fp) W0 ifs tt gb)
    (he : ∀ (s : Shared) (H : Hp) (C : Addr) (cl : List (Str × Addr)) (fp : List Addr), XE (X.blk s H scope (compEnvC scope cl C X.env) fp) W0 elt te ge) (hsub : ∀ j ∈ is, j ∈ own.map (·.2) := by decide) (hs : ∀ x, foldedSetIterable iter X.env x = pure x := by intro _; rfl) :
    XE X W (.ListComp elt [⟨tg, iter, ifs, 0⟩] scope pos) (tLc wi gt tt te (own.map (·.2))) (gLcG fin gi gg gb ge (own.map (·.2))) :=
  ⟨pe_lc hc hN hi.pe ok (fun s H C cl fp => (hg s H C cl fp).pe) (fun s H C cl fp => (ht s H C cl fp).pe) (fun s H C cl fp => (he s H C cl fp).pe) hs,
    impE_lc hf hsub hi.im (hg X.s_0 X.H_0 0 [] []).im (ht X.s_0 X.H_0 0 [] []).im (he X.s_0 X.H_0 0 [] []).im⟩
/-- name = [..] on one line -/
theorem xs_setLc (i : Nat) {y : Str} {py spos : Pos} (own : List (Str × Nat)) {fin : List D → List MO → R D} (hf : FinOk X.K fin) (hc : X.calm = true) (hN : X.N.Nodup) (hi : XI X W tg iter wi gi) (ok : BlkOk X.N X.env.scope scope own)
    (hg : ∀ (s : Shared) (H : Hp) (C : Addr) (cl : List (Str × Addr)) (fp : List Addr), XG (X.blk s H scope (compEnvC scope cl C X.env) fp) W0 tg is gt gg) (ht : ∀ (s : Shared) (H : Hp) (C : Addr) (cl : List (Str × Addr)) (fp : List Addr), XTs (X.blk s H scope (compEnvC scope cl C X.env) fp) W0 ifs tt gb)
    (he : ∀ (s : Shared) (H : Hp) (C : Addr) (cl : List (Str × Addr)) (fp : List Addr), XE (X.blk s H scope (compEnvC scope cl C X.env) fp) W0 elt te ge)
    (hsw : swapsWith (.ListComp elt [⟨tg, iter, ifs, 0⟩] scope pos) (some (.Name y py)) spos.line X.env = pure true := by exact sw_true rfl rfl rfl (by decide +kernel)) (hy : X.N[i]? = some y := by rfl) (hyl : X.env.scope.names.lookup y = some .local := by rfl)
    (hsub : ∀ j ∈ is, j ∈ own.map (·.2) := by decide) (hs : ∀ x, foldedSetIterable iter X.env x = pure x := by intro _; rfl) :
    XS X W (.Assign [.Name y py] (.ListComp elt [⟨tg, iter, ifs, 0⟩] scope pos) spos) (tAsg (tLc wi gt tt te (own.map (·.2))) (L2.gName i)) (gSet i (gLcG fin gi gg gb ge (own.map (·.2)))) :=
  ⟨ps_setLc hc hN hy hyl hsw hi.pe ok (fun s H C cl fp => (hg s H C cl fp).pe) (fun s H C cl fp => (ht s H C cl fp).pe) (fun s H C cl fp => (he s H C cl fp).pe) hs,
    impS_set (impE_lc hf hsub hi.im (hg X.s_0 X.H_0 0 [] []).im (ht X.s_0 X.H_0 0 [] []).im (he X.s_0 X.H_0 0 [] []).im)⟩
end

/-! ### defs -/
def startD (N : Nat) (ds : List D) : Ctx := ds.map some ++ List.replicate (N - ds.length) none
def fnM (N : Nat) (g : GS) : OC := fun ds M => match g (startD N ds) M with
  | .nx _ M' => .ok .non M'
  | .rt d M' => .ok d M'
  | .ex c _ M' => .ex c M'
  | _ => .bad
theorem envr_start {K : PySem.W.Frag} {I : Hp} {as : List Addr} {N : List Str} {vs : List V} {ds : List D} (r : Reps K I as vs ds) : Envr K I as (L2.start N vs) (startD N.length ds) := by
  have hl := r.len
  refine ⟨by simp [L2.start, startD, hl], fun i d h => ?_⟩
  unfold startD at h
  by_cases hi : i < ds.length
  · rw [List.getElem?_append_left (by simpa using hi), List.getElem?_map] at h
    cases e : ds[i]? with
    | none => rw [e] at h; cases h
    | some d' =>
      rw [e] at h
      have e1 : d' = d := Option.some.inj (Option.some.inj h)
      subst e1
      obtain ⟨v, h1, h2⟩ := r.get e
      refine ⟨v, ?_, h2⟩
      unfold L2.start
      rw [List.getElem?_append_left (by simpa [hl] using hi), List.getElem?_map, h1]
      rfl
  · rw [List.getElem?_append_right (by simpa using hi)] at h
    rw [List.getElem?_replicate] at h
    split at h <;> cases h
section
variable {P : Program} {w : World} {K : PySem.W.Frag} {mg : Str → Option Value} {base : Heap}
theorem fn_okM {x qual : Str} {st : Stmt} {f : Addr} {fd : FuncData} {N ps : List Str} {k : Nat} {g : GS} (F : Fun K x qual st f fd) (S : FnScope N ps (defScope st))
    (hbody : ∀ (cdv : Value) (A : Around) (outer : List Env) (s : Shared) (H : Hp) (E : XK), Room k (A.deeper (envOfC qual (defScope st) s.heap.objs.size f cdv)) →
      Takes (cxOf (L2.CX P w) P w K mg base N qual (defScope st) f cdv A outer s H E) (fun cls d _ H => E cls d H) →
      PassesOwn (model P w) (cxOf (L2.CX P w) P w K mg base N qual (defScope st) f cdv A outer s H E).A (cxOf (L2.CX P w) P w K mg base N qual (defScope st) f cdv A outer s H E).env (cxOf (L2.CX P w) P w K mg base N qual (defScope st) f cdv A outer s H E).xe →
      ∃ t, XSs (cxOf (L2.CX P w) P w K mg base N qual (defScope st) f cdv A outer s H E) (fun cls d _ H => E cls d H) (defBody st) t g) :
    FnOk P w K mg base (L2.CX P w) (k + 1) f fd ps (spM K mg ps.length (fnM N.length g)) := by
  refine F.okX S (fun vs H Q E h => h.1) fun cdv A outer s H vs Q E hr h => ?_
  obtain ⟨hl, ds, I, as, M, P', wr, r, sat⟩ := h
  obtain ⟨t, ht⟩ := hbody cdv A outer s H E hr (takes_of rfl rfl rfl rfl) (passes_of rfl)
  refine ⟨t, ht.pe, ?_⟩
  refine ht.im (L2.start N vs) H (startD N.length ds) I as M P' _ wr (envr_start r) ?_
  unfold fnM at sat
  show SatS K (lowW mg _) I as P' _ _
  cases e : g (startD N.length ds) M with
  | bad => rw [e] at sat; exact sat.elim
  | nx δ1 M1 => rw [e] at sat; exact fun σ' H' I' as' g' w' en' => sat _ H' I' as' g' w' .non
  | rt d M1 => rw [e] at sat; exact fun v H' I' as' g' w' r' => sat _ H' I' as' g' w' r'
  | bk d M1 => rw [e] at sat; exact sat.elim
  | ct d M1 => rw [e] at sat; exact sat.elim
  | ex c d M1 => rw [e] at sat; exact fun σ' H' I' as' g' w' en' => sat H' I' as' g' w'
/-- a promise told otherwise -/
theorem FnOk.m {f : Addr} {fd : FuncData} {ps : List Str} {k n : Nat} {m m' : OC} (F : FnOk P w K mg base (L2.CX P w) k f fd ps (spM K mg n m))
    (h : ∀ (ds : List D) (M : List MO) (H I : Hp) (as : List Addr) (P' : Hp) (Q : VK) (Wf : Str → Hp → Prop), ds.length = n → as.length = M.length → Sat K (Rep K) Wf I as P' Q (m' ds M) → Sat K (Rep K) Wf I as P' Q (m ds M)) : FnOk P w K mg base (L2.CX P w) k f fd ps (spM K mg n m') :=
  F.imp fun vs H Q E ⟨hl, ds, I, as, M, P', wr, r, sat⟩ => ⟨hl, ds, I, as, M, P', wr, r, h ds M H I as P' Q _ (by rw [← r.len]; exact hl) wr.len sat⟩
/-- refined: where m' says something, m says the same -/
theorem Sat.of_eq {α β : Type} {rel : Hp → List Addr → β → α → Prop} {Wf : Str → Hp → Prop} {I P' : Hp} {as : List Addr} {Q : β → Hp → Prop} {r r' : R α} (h : r' ≠ .bad → r = r') (s : Sat K rel Wf I as P' Q r') : Sat K rel Wf I as P' Q r := by
  rw [h (SatT.ne s)]
  exact s
theorem FnOk.toC {x : Str} {f : Addr} {fd : FuncData} {ps : List Str} {k n : Nat} {m : OC} (F : FnOk P w K mg base (L2.CX P w) k f fd ps (spM K mg n m)) (h1 : mg x = some (.ref f)) (h2 : PySem.W.keepIn K (.ref f) = true) (h3 : Binds K fd ps []) (h4 : PySem.W.nsIn K mainGlobals x = some (some (.ref f))) : Callee P w K mg base x k n m :=
  ⟨⟨f, fd, ps, F, h1, h2, h3, h4⟩⟩
end
/-! what nobody can reach any more is dropped -/
mutual
def D.lo (n : Nat) : D → Bool
  | .tup xs => D.los n xs
  | .lst xs => D.los n xs
  | .rol xs => D.los n xs
  | .ref k => decide (k < n)
  | _ => true
def D.los (n : Nat) : List D → Bool
  | [] => true
  | x :: xs => D.lo n x && D.los n xs
end
def MO.lo (n : Nat) : MO → Bool
  | .lst xs => D.los n xs
  | .dct kvs => D.los n (kvs.map fun p => p.2)
mutual
theorem Rep.cut {K : PySem.W.Frag} {I : Hp} {as t : List Addr} : ∀ {v : V} {d : D}, Rep K I (as ++ t) v d → D.lo as.length d = true → Rep K I as v d
  | _, _, .non, _ => .non
  | _, _, .bl b, _ => .bl b
  | _, _, .int b, _ => .int b
  | _, _, .str b, _ => .str b
  | _, _, .tup h r, e => .tup h (Reps.cut' r e)
  | _, _, .lst h r, e => .lst h (Reps.cut' r e)
  | _, _, .rol h r, e => .rol h (Reps.cut' r e)
  | _, _, .ref h, e => .ref (by rw [List.getElem?_append_left (of_decide_eq_true e)] at h; exact h)
  | _, _, .obj a, _ => .obj a
  | _, _, .fn h, _ => .fn h
  | _, _, .dct h, _ => .dct h
theorem Reps.cut' {K : PySem.W.Frag} {I : Hp} {as t : List Addr} : ∀ {vs : List V} {ds : List D}, Reps K I (as ++ t) vs ds → D.los as.length ds = true → Reps K I as vs ds
  | _, _, .nil, _ => .nil
  | _, _, .cons h r, e => by
    unfold D.los at e
    rw [Bool.and_eq_true] at e
    exact .cons (Rep.cut h e.1) (Reps.cut' r e.2)
end
theorem Wr.cut {K : PySem.W.Frag} {H I P : Hp} {as t : List Addr} {M : List MO} (w : Wr K H I (as ++ t) M P) (h : (M.take as.length).all (MO.lo as.length) = true) : Wr K H I as (M.take as.length) P := by
  have hl := w.len
  rw [List.length_append] at hl
  refine ⟨w.sub, by rw [List.length_take]; omega, (List.nodup_append.mp w.nd).1, fun k a o ha ho => ?_, w.prv⟩
  have hk : k < as.length := (List.getElem?_eq_some_iff.mp ha).1
  have ho2 : M[k]? = some o := by
    rw [List.getElem?_take] at ho
    rw [if_pos hk] at ho
    exact ho
  obtain ⟨m1, m2, m3⟩ := w.mu k a o (by rw [List.getElem?_append_left hk]; exact ha) ho2
  refine ⟨m1, m2, ?_⟩
  have hb := List.all_eq_true.mp h o (List.mem_of_getElem? ho)
  cases o with
  | lst xs =>
    obtain ⟨vs, e, r⟩ := m3
    exact ⟨vs, e, r.cut' hb⟩
  | dct xs =>
    obtain ⟨vs, e, e2, r⟩ := m3
    exact ⟨vs, e, e2, r.cut' hb⟩
def cutR (n : Nat) : R D → R D
  | .ok d M => if (D.lo n d && (M.take n).all (MO.lo n)) = true then .ok d (M.take n) else .bad
  | .ex c M => if (M.take n).all (MO.lo n) = true then .ex c (M.take n) else .bad
  | .bad => .bad
def cutM (m : OC) : OC := fun ds M => cutR M.length (m ds M)
theorem Sat.cut {K : PySem.W.Frag} {Wf : Str → Hp → Prop} {I P : Hp} {as : List Addr} {Q : VK} {r : R D} {n : Nat} (hn : as.length = n) (s : Sat K (Rep K) Wf I as P Q (cutR n r)) : Sat K (Rep K) Wf I as P Q r := by
  subst hn
  cases r with
  | bad => exact s.elim
  | ok d M =>
    have s2 : Sat K (Rep K) Wf I as P Q (if (D.lo as.length d && (M.take as.length).all (MO.lo as.length)) = true then .ok d (M.take as.length) else .bad) := s
    by_cases hb : (D.lo as.length d && (M.take as.length).all (MO.lo as.length)) = true
    · rw [if_pos hb] at s2
      rw [Bool.and_eq_true] at hb
      rintro v H' I' as' ⟨g1, t, rfl⟩ w' r'
      exact s2 v H' I' as ⟨g1, [], by simp⟩ (w'.cut hb.2) (r'.cut hb.1)
    · rw [if_neg hb] at s2
      exact s2.elim
  | ex c M =>
    have s2 : Sat K (Rep K) Wf I as P Q (if (M.take as.length).all (MO.lo as.length) = true then .ex c (M.take as.length) else .bad) := s
    by_cases hb : (M.take as.length).all (MO.lo as.length) = true
    · rw [if_pos hb] at s2
      rintro H' I' as' ⟨g1, t, rfl⟩ w'
      exact s2 H' I' as ⟨g1, [], by simp⟩ (w'.cut hb)
    · rw [if_neg hb] at s2
      exact s2.elim
section
variable {P : Program} {w : World} {K : PySem.W.Frag} {mg : Str → Option Value} {base : Heap}
theorem FnOk.cut {f : Addr} {fd : FuncData} {ps : List Str} {k n : Nat} {m : OC} (F : FnOk P w K mg base (L2.CX P w) k f fd ps (spM K mg n m)) : FnOk P w K mg base (L2.CX P w) k f fd ps (spM K mg n (cutM m)) :=
  FnOk.m F fun ds M H I as P' Q Wf _ hl s => Sat.cut hl s
/-- .. and told by what it comes to -/
theorem FnOk.re {f : Addr} {fd : FuncData} {ps : List Str} {k n : Nat} {m m' : OC} (F : FnOk P w K mg base (L2.CX P w) k f fd ps (spM K mg n m)) (h : ∀ ds M, ds.length = n → m' ds M ≠ .bad → m ds M = m' ds M) : FnOk P w K mg base (L2.CX P w) k f fd ps (spM K mg n m') :=
  FnOk.m F fun ds M H I as P' Q Wf hd hl s => Sat.of_eq (h ds M hd) s
end
/-! the law's own end -/
theorem law_end {K : PySem.W.Frag} {mg : Str → Option Value} {m : OC} {H : Hp} {a : Addr} {ns : List Int} (hS : SqL K H a (ns.map V.int)) (h : ∃ M, m [.rol (ns.map D.int)] [] = .ok (.bl true) M) :
    spM K mg 1 m [.ref a] H (fun v _ => v = .bl true) fun _ _ _ => False := by
  obtain ⟨M, h⟩ := h
  refine ⟨rfl, [.rol (ns.map D.int)], H, [], [], fun _ => none, ⟨fun _ _ e => e, rfl, List.nodup_nil, fun k a o e => by simp at e, fun a o e => by cases e⟩, .cons (.rol hS (Reps.ints ns rfl)) .nil, ?_⟩
  rw [h]
  intro v H' I' as' g w r
  cases r
  rfl

/-! ### built-ins -/
section
variable {K : PySem.W.Frag} {X : Cx}
def oLen : OC := fun ds M => match ds with
  | [x] => match tupOf x with
    | some xs => .ok (.int (xs.length : Int)) M
    | none => match listOf M x with
      | some xs => .ok (.int (xs.length : Int)) M
      | none => .bad
  | _ => .bad
theorem opc_len : OpC K (fun xs H Q => ∃ p ys, xs = [.ref p] ∧ (SqL K H p ys ∨ SqT K H p ys) ∧ Q (.int ys.length) H) oLen := by
  intro H I as M P xs ds Wf Q w r s
  unfold oLen at s
  split at s
  · obtain ⟨v, rfl, rv⟩ := r.one_inv
    split at s
    · rename_i ys hy
      obtain ⟨a, vs, rfl, h1, r1⟩ := rv.tupl w hy
      exact ⟨a, vs, rfl, .inr h1, by rw [r1.len]; exact s.now w (.int _)⟩
    · split at s
      · rename_i ys hy
        obtain ⟨a, vs, rfl, h1, r1⟩ := rv.list w hy
        exact ⟨a, vs, rfl, .inl h1, by rw [r1.len]; exact s.now w (.int _)⟩
      · exact s.elim
  · exact s.elim
def oInt : OC := fun ds M => match ds with
  | [.int i] => .ok (.int i) M
  | [.bl b] => .ok (.int (if b then 1 else 0)) M
  | _ => .bad
theorem opc_int : OpC K (fun xs H Q => (∃ i, xs = [.int i] ∧ Q (.int i) H) ∨ ∃ k, xs = [.bl k] ∧ Q (.int (if k then 1 else 0)) H) oInt := by
  intro H I as M P xs ds Wf Q w r s
  unfold oInt at s
  split at s
  · obtain ⟨v, rfl, rv⟩ := r.one_inv
    cases rv
    exact .inl ⟨_, rfl, s.now w (.int _)⟩
  · obtain ⟨v, rfl, rv⟩ := r.one_inv
    cases rv
    exact .inr ⟨_, rfl, s.now w (.int _)⟩
  · exact s.elim
def oAbs : OC := fun ds M => match ds with
  | [.int i] => .ok (.int (if i < 0 then -i else i)) M
  | _ => .bad
theorem opc_abs : OpC K (fun xs H Q => ∃ i, xs = [.int i] ∧ Q (.int (if i < 0 then -i else i)) H) oAbs := by
  intro H I as M P xs ds Wf Q w r s
  unfold oAbs at s
  split at s
  · obtain ⟨v, rfl, rv⟩ := r.one_inv
    cases rv
    exact ⟨_, rfl, s.now w (.int _)⟩
  · exact s.elim
def oMin2 : OC := fun ds M => match ds with
  | [.int i, .int j] => .ok (.int (if j < i then j else i)) M
  | _ => .bad
theorem opc_min2 : OpC K (fun xs H Q => ∃ i j, xs = [.int i, .int j] ∧ Q (.int (if j < i then j else i)) H) oMin2 := by
  intro H I as M P xs ds Wf Q w r s
  unfold oMin2 at s
  split at s
  · obtain ⟨v, v2, rfl, rv, rv2⟩ := r.two_inv
    cases rv; cases rv2
    exact ⟨_, _, rfl, s.now w (.int _)⟩
  · exact s.elim
def oGcd : OC := fun ds M => match ds with
  | [.int i, .int j] => .ok (.int ((Nat.gcd i.natAbs j.natAbs : Nat) : Int)) M
  | _ => .bad
theorem opc_gcd : OpC K rGcd oGcd := by
  intro H I as M P xs ds Wf Q w r s
  unfold oGcd at s
  split at s
  · obtain ⟨v, v2, rfl, rv, rv2⟩ := r.two_inv
    cases rv; cases rv2
    exact ⟨_, _, rfl, s.now w (.int _)⟩
  · exact s.elim
/-- lcm of great numbers -/
def CLcm (i j : Int) : Prop := i.natAbs.log2 < 6000 ∧ j.natAbs.log2 < 6000
open Classical in
noncomputable def oLcm : OC := fun ds M => match ds with
  | [.int i, .int j] => if CLcm i j then .ok (.int ((Nat.lcm i.natAbs j.natAbs : Nat) : Int)) M else .bad
  | _ => .bad
def rLcm : List V → Hp → VK → Prop := fun vs H Q => ∃ a b : Int, vs = [.int a, .int b] ∧ CLcm a b ∧ Q (.int ((Nat.lcm a.natAbs b.natAbs : Nat) : Int)) H
theorem log2_lt {n k : Nat} (h : n.log2 < k) : n < 2 ^ k := by
  by_cases h0 : n = 0
  · subst h0; exact Nat.two_pow_pos k
  · exact (Nat.log2_lt h0).mp h
theorem cr_lcm : CallR X (.builtin "math.lcm") rLcm := by
  intro pins s σ H vs us Q I r h
  obtain ⟨a, b, rfl, c, q⟩ := h
  obtain ⟨t, u, rfl⟩ := Vals.int2 r
  unfold CLcm at c
  have ha := log2_lt c.1
  have hb := log2_lt c.2
  have e1 : Nat.lcm 1 a.natAbs = a.natAbs := Nat.lcm_one_left _
  have hz : (Nat.lcm a.natAbs b.natAbs) < 2 ^ 12000 := by
    have h1 : Nat.lcm a.natAbs b.natAbs ≤ a.natAbs * b.natAbs := by
      unfold Nat.lcm
      exact Nat.div_le_self _ _
    exact Nat.lt_of_le_of_lt h1 (Nat.lt_of_lt_of_le (Nat.mul_lt_mul'' ha hb) (by rw [← Nat.pow_add]; exact Nat.le_refl _))
  have hsz : ((((Nat.lcm 1 a.natAbs).lcm b.natAbs : Nat) : Int)).natAbs.log2 < PySem.bitsLine := by
    rw [e1, Int.natAbs_natCast]
    have : (Nat.lcm a.natAbs b.natAbs).log2 < 12000 := PySem.Flt.log2_lt_of (by decide) hz
    have e : PySem.bitsLine = 134217728 := by decide
    omega
  have m1 : (max 1 a.natAbs).log2 ≤ 6000 := by
    rcases Nat.le_total 1 a.natAbs with q | q
    · rw [Nat.max_eq_right q]; omega
    · rw [Nat.max_eq_left q]; decide
  have m2 : (max a.natAbs b.natAbs).log2 ≤ 6000 := by
    rcases Nat.le_total a.natAbs b.natAbs with q | q
    · rw [Nat.max_eq_right q]; omega
    · rw [Nat.max_eq_left q]; omega
  refine PySem.call_function_meets PySem.W.MGF.kind_lcm PySem.W.MGF.plain_lcm PySem.W.MGF.entry_lcm (PySem.W.MGF.args_lcm _ _) (PySem.W.mg_run_lcm a t b u (by omega) (by omega) hsz).meets ?_
  rw [e1]
  exact ⟨.int _, H, I.tok _, ⟨_, rfl⟩, q⟩
theorem opc_lcm : OpC K rLcm oLcm := by
  intro H I as M P xs ds Wf Q w r s
  unfold oLcm at s
  split at s
  · split at s
    · rename_i hc
      obtain ⟨v, v2, rfl, rv, rv2⟩ := r.two_inv
      cases rv; cases rv2
      exact ⟨_, _, rfl, hc, s.now w (.int _)⟩
    · exact s.elim
  · exact s.elim
/-- list(x), tuple(x) -/
def oList : OC := fun ds M => match ds with
  | [x] => match tupOf x with
    | some xs => .ok (.lst xs) M
    | none => match listOf M x with
      | some xs => .ok (.lst xs) M
      | none => .bad
  | _ => .bad
def oListM : OC := fun ds M => match ds with
  | [x] => match tupOf x with
    | some xs => .ok (.ref M.length) (M ++ [.lst xs])
    | none => match listOf M x with
      | some xs => .ok (.ref M.length) (M ++ [.lst xs])
      | none => .bad
  | _ => .bad
abbrev rListC (K : PySem.W.Frag) : List V → Hp → VK → Prop := fun xs H Q => ∃ p ys, xs = [.ref p] ∧ (SqL K H p ys ∨ SqT K H p ys) ∧ ∀ l, H l = none → Q (.ref l) (upd H l (.lst ys))
theorem opc_list : OpC K (rListC K) oList := by
  intro H I as M P xs ds Wf Q w r s
  unfold oList at s
  split at s
  · obtain ⟨v, rfl, rv⟩ := r.one_inv
    split at s
    · rename_i ys hy
      obtain ⟨a, vs, rfl, h1, r1⟩ := rv.tupl w hy
      exact ⟨a, vs, rfl, .inr h1, fun l hl => s.newLst w r1 hl⟩
    · split at s
      · rename_i ys hy
        obtain ⟨a, vs, rfl, h1, r1⟩ := rv.list w hy
        exact ⟨a, vs, rfl, .inl h1, fun l hl => s.newLst w r1 hl⟩
      · exact s.elim
  · exact s.elim
theorem opc_listM : OpC K (rListC K) oListM := by
  intro H I as M P xs ds Wf Q w r s
  unfold oListM at s
  split at s
  · obtain ⟨v, rfl, rv⟩ := r.one_inv
    split at s
    · rename_i ys hy
      obtain ⟨a, vs, rfl, h1, r1⟩ := rv.tupl w hy
      exact ⟨a, vs, rfl, .inr h1, fun l hl => s.newRef w r1 hl⟩
    · split at s
      · rename_i ys hy
        obtain ⟨a, vs, rfl, h1, r1⟩ := rv.list w hy
        exact ⟨a, vs, rfl, .inl h1, fun l hl => s.newRef w r1 hl⟩
      · exact s.elim
  · exact s.elim
def oTuple : OC := fun ds M => match ds with
  | [x] => match tupOf x with
    | some xs => .ok (.tup xs) M
    | none => match listOf M x with
      | some xs => .ok (.tup xs) M
      | none => .bad
  | _ => .bad
abbrev rTupleC (K : PySem.W.Frag) : List V → Hp → VK → Prop := fun xs H Q => ∃ p ys, xs = [.ref p] ∧ ((SqL K H p ys ∧ ∀ l, H l = none → Q (.ref l) (upd H l (.tup ys))) ∨ (SqT K H p ys ∧ Q (.ref p) H))
theorem tupOf_eq {x : D} {xs : List D} (h : tupOf x = some xs) : x = .tup xs := by
  cases x <;> first | (cases h; rfl) | cases h
theorem opc_tuple : OpC K (rTupleC K) oTuple := by
  intro H I as M P xs ds Wf Q w r s
  unfold oTuple at s
  split at s
  · obtain ⟨v, rfl, rv⟩ := r.one_inv
    split at s
    · rename_i ys hy
      have e := tupOf_eq hy
      subst e
      have rv' := rv
      obtain ⟨a, vs, rfl, h1, r1⟩ := rv.tupl w hy
      exact ⟨a, vs, rfl, .inr ⟨h1, s.now w rv'⟩⟩
    · split at s
      · rename_i ys hy
        obtain ⟨a, vs, rfl, h1, r1⟩ := rv.list w hy
        exact ⟨a, vs, rfl, .inl ⟨h1, fun l hl => s.newTup w r1 hl⟩⟩
      · exact s.elim
  · exact s.elim
/-- all, any of a list of flags -/
def bls : List D → Option (List Bool)
  | [] => some []
  | .bl b :: xs => (bls xs).map (b :: ·)
  | _ :: _ => none
theorem Reps.bls {I : Hp} {as : List Addr} : ∀ {vs : List V} {ds : List D} {bs : List Bool}, Reps K I as vs ds → KM.bls ds = some bs → vs = bs.map V.bl
  | _, _, bs, .nil, h => by cases h; rfl
  | _, _, bs, .cons (d := d) (ds := ds) r rr, h => by
    cases d with
    | bl b =>
      unfold KM.bls at h
      cases e : KM.bls ds with
      | none => rw [e] at h; cases h
      | some cs =>
        rw [e] at h
        cases h
        cases r
        rw [Reps.bls rr e]
        rfl
    | _ => cases h
def oAll : OC := fun ds M => match ds with
  | [x] => match listOf M x with
    | some xs => match bls xs with
      | some bs => .ok (.bl (bs.all id)) M
      | none => .bad
    | none => .bad
  | _ => .bad
def oAny : OC := fun ds M => match ds with
  | [x] => match listOf M x with
    | some xs => match bls xs with
      | some bs => .ok (.bl (bs.any id)) M
      | none => .bad
    | none => .bad
  | _ => .bad
theorem opc_all : OpC K (rAll K) oAll := by
  intro H I as M P xs ds Wf Q w r s
  unfold oAll at s
  split at s
  · obtain ⟨v, rfl, rv⟩ := r.one_inv
    split at s
    · rename_i ys hy
      split at s
      · rename_i bs hb
        obtain ⟨a, vs, rfl, h1, r1⟩ := rv.list w hy
        exact ⟨a, bs, rfl, by rw [← r1.bls hb]; exact h1, s.now w (.bl _)⟩
      · exact s.elim
    · exact s.elim
  · exact s.elim
theorem opc_any : OpC K (rAny K) oAny := by
  intro H I as M P xs ds Wf Q w r s
  unfold oAny at s
  split at s
  · obtain ⟨v, rfl, rv⟩ := r.one_inv
    split at s
    · rename_i ys hy
      split at s
      · rename_i bs hb
        obtain ⟨a, vs, rfl, h1, r1⟩ := rv.list w hy
        exact ⟨a, bs, rfl, by rw [← r1.bls hb]; exact h1, s.now w (.bl _)⟩
      · exact s.elim
    · exact s.elim
  · exact s.elim
end

end KM
set_option Elab.async false
set_option linter.all false
set_option maxRecDepth 100000
set_option maxHeartbeats 2000000
namespace KM
open PySem L2 PySem.Spec PyProof.Rows
theorem tuple_mul0 (l : Addr) (items : Array Value) (n : Nat) (dd : Option Addr) (sl : Array (Option Value)) (u : Tok) (hne : items.isEmpty = false) :
    Meets (Builtin.«tuple.__mul__» ⟨[.ref l, .int 0 u], []⟩) (fun _ R s => s.heap.get? l = some { cls := .type "tuple", dict := dd, data := .seq items n, slots := sl } ∧
      R (.ok (.ret (Value.ref s.heap.objs.size))) { s with heap := s.heap.push { cls := Value.type "tuple", data := Data.seq #[] }, toks := s.toks }) :=
  .of_wp fun prog w A R s h => by
    obtain ⟨hp, g, d, tk, os⟩ := s
    obtain ⟨hl, h⟩ := h
    have f1 := AutoSeq1.idx_int
    wp_walk using wpAny_loadPart' hl
    exact ⟨_, rfl, h⟩
theorem tuple_mul1 (l : Addr) (items : Array Value) (n : Nat) (dd : Option Addr) (sl : Array (Option Value)) (u : Tok) :
    Meets (Builtin.«tuple.__mul__» ⟨[.ref l, .int 1 u], []⟩) (fun _ R s => s.heap.get? l = some { cls := .type "tuple", dict := dd, data := .seq items n, slots := sl } ∧
      R (.ok (.ret (Value.ref l))) { s with heap := s.heap, toks := s.toks }) :=
  .of_wp fun prog w A R s h => by
    obtain ⟨hp, g, d, tk, os⟩ := s
    obtain ⟨hl, h⟩ := h
    have f1 := AutoSeq1.idx_int
    wp_walk using wpAny_loadPart' hl
    exact ⟨_, rfl, h⟩
section
variable {X : Cx}
def rRep0 (K : PySem.W.Frag) : R2 := fun x y H Q => ∃ l xs, x = .ref l ∧ y = .int 0 ∧ SqT K H l xs ∧ xs ≠ [] ∧ ∀ p, H p = none → Q (.ref p) (upd H p (.tup []))
def rRep1 (K : PySem.W.Frag) : R2 := fun x y H Q => ∃ l xs, x = .ref l ∧ y = .int 1 ∧ SqT K H l xs ∧ Q (.ref l) H
theorem op_rep0 : OpR X (binaryOp .Mult) (rRep0 X.K) := by
  intro pins s σ H x y v u Q I rx ry h
  obtain ⟨l, xs, rfl, rfl, hT, hne, q⟩ := h
  cases rx
  obtain ⟨t, rfl⟩ := ry
  obtain ⟨its, r, ⟨⟨cls, dd, data, sl⟩, ho, hc, n, hd⟩, hs⟩ := I.tuple hT
  simp only at hc hd
  subst hc hd
  have hle : its.length = xs.length := r.length.symm
  have hn : its ≠ [] := fun e => hne (by
    rw [e] at hle
    exact List.eq_nil_of_length_eq_zero hle.symm)
  have hi : its.toArray.isEmpty = false := by
    cases its with
    | nil => exact absurd rfl hn
    | cons a b => rfl
  refine wpAny_binaryOp_repeat_ref (T := "tuple") (U := "int") (by decide) ⟨_, ho, rfl⟩ (fun s' => typeIs_int s' 0 t) noFill_tuple_mul F.fills_int_mul F.slot_int_rmul repeat_tuple F.slot_int_index.lookup
    (call_meets F.slot_int_rmul (typeIs_int s 0 t) F.entry_int_rmul (F.args_int_rmul_2 _ _) (int_rmul_tuple 0 t l its.toArray n dd sl)
      ⟨ho, rfl, ⟨_, ho, rfl⟩, call_meets F.slot_tuple_mul ⟨_, ho, rfl⟩ F.entry_tuple_mul (F.args_tuple_mul_2 _ _) (tuple_mul0 l its.toArray n dd sl t hi) ⟨ho, ?_⟩⟩)
  refine ⟨.ref s.heap.objs.size, _, I.laid (t' := s.toks) (o := .tup []) (fun b ob q => Heap.get?_push_of_some _ q) (Nat.le_refl _) ?_, rfl, q _ (I.hok.fresh (Nat.le_refl _))⟩
  exact ⟨Nat.zero_le _, [], .nil, IsTup.new _ _⟩
theorem op_rep1 : OpR X (binaryOp .Mult) (rRep1 X.K) := by
  intro pins s σ H x y v u Q I rx ry h
  obtain ⟨l, xs, rfl, rfl, hT, q⟩ := h
  cases rx
  obtain ⟨t, rfl⟩ := ry
  obtain ⟨its, r, ⟨⟨cls, dd, data, sl⟩, ho, hc, n, hd⟩, hs⟩ := I.tuple hT
  simp only at hc hd
  subst hc hd
  refine wpAny_binaryOp_repeat_ref (T := "tuple") (U := "int") (by decide) ⟨_, ho, rfl⟩ (fun s' => typeIs_int s' 1 t) noFill_tuple_mul F.fills_int_mul F.slot_int_rmul repeat_tuple F.slot_int_index.lookup
    (call_meets F.slot_int_rmul (typeIs_int s 1 t) F.entry_int_rmul (F.args_int_rmul_2 _ _) (int_rmul_tuple 1 t l its.toArray n dd sl)
      ⟨ho, rfl, ⟨_, ho, rfl⟩, call_meets F.slot_tuple_mul ⟨_, ho, rfl⟩ F.entry_tuple_mul (F.args_tuple_mul_2 _ _) (tuple_mul1 l its.toArray n dd sl t) ⟨ho, ?_⟩⟩)
  exact ⟨.ref l, H, I, rfl, q⟩
def rMulA (K : PySem.W.Frag) : R2 := fun x y H Q => rI CMulB (fun i j => .int (i * j)) x y H Q ∨ rRepT K x y H Q ∨ rRep0 K x y H Q ∨ rRep1 K x y H Q ∨ rRep x y H Q
theorem op_mulA : OpR X (binaryOp .Mult) (rMulA X.K) := op_mulG.or (op_repT.or (op_rep0.or (op_rep1.or op_rep)))
end
open Classical in
noncomputable def oMul : OD := fun x y M => match x, y with
  | .int i, .int j => if CMulB i j then .ok (.int (i * j)) M else .bad
  | .tup xs, .int k => if xs ≠ [] ∧ 0 ≤ k ∧ k ≤ 1000 ∧ xs.length ≤ 1000 then .ok (.tup (List.replicate k.toNat xs).flatten) M else .bad
  | x, .int k => match listOfT M x with
    | some xs => if 0 ≤ k ∧ k ≤ 1000 ∧ xs.length ≤ 100 then .ok (.lst (List.replicate k.toNat xs).flatten) M else .bad
    | none => .bad
  | _, _ => .bad
/- the same, the new list one that may change -/
open Classical in
noncomputable def oMulM : OD := fun x y M => match y with
  | .int k => match listOfT M x with
    | some xs => if 0 ≤ k ∧ k ≤ 1000 ∧ xs.length ≤ 100 then .ok (.ref M.length) (M ++ [.lst (List.replicate k.toNat xs).flatten]) else .bad
    | none => .bad
  | _ => .bad
theorem opd_mul {K : PySem.W.Frag} : OpD K (rMulA K) oMul := by
  intro H I as M P x y d e Wf Q w rx ry s
  unfold oMul at s
  split at s
  · split at s
    · rename_i c
      cases rx; cases ry
      exact .inl ⟨_, _, rfl, rfl, c, s.now w (.int _)⟩
    · exact s.elim
  · rename_i xs k
    split at s
    · rename_i c
      obtain ⟨c1, c2, c3, c4⟩ := c
      cases ry
      have rx' := rx
      obtain ⟨a, vs, rfl, h1, r1⟩ := rx.tupl w rfl
      have hne : vs ≠ [] := fun e => by
        subst e
        cases r1
        exact c1 rfl
      by_cases h0 : k = 0
      · subst h0
        exact .inr (.inr (.inl ⟨a, vs, rfl, rfl, h1, hne, fun p hp => s.newTup w .nil hp⟩))
      · by_cases h2 : k = 1
        · subst h2
          refine .inr (.inr (.inr (.inl ⟨a, vs, rfl, rfl, h1, ?_⟩)))
          refine s.now w ?_
          rw [show ((1 : Int).toNat) = 1 from rfl, List.replicate_one, List.flatten_cons, List.flatten_nil, List.append_nil]
          exact rx'
        · refine .inr (.inl ⟨a, k, vs, rfl, rfl, h1, hne, by omega, c3, by rw [r1.len]; exact c4, fun p hp => s.newTup w (r1.rep _) hp⟩)
    · exact s.elim
  · split at s
    · rename_i xs hx
      split at s
      · rename_i c
        obtain ⟨c2, c3, c4⟩ := c
        cases ry
        obtain ⟨a, vs, rfl, h1, r1⟩ := rx.listT w hx
        refine .inr (.inr (.inr (.inr ⟨a, _, vs, rfl, rfl, h1, by omega, by omega, ?_, fun p hp => s.newLst w (r1.rep _) hp⟩)))
        rw [r1.len]
        exact Evl.sz_of (Nat.le_trans (Nat.mul_le_mul c4 (by omega : _ ≤ 1000)) (by decide))
      · exact s.elim
    · exact s.elim
  · exact s.elim
theorem opd_mulM {K : PySem.W.Frag} : OpD K (rMulA K) oMulM := by
  intro H I as M P x y d e Wf Q w rx ry s
  unfold oMulM at s
  split at s
  · split at s
    · rename_i xs hx
      split at s
      · rename_i c
        obtain ⟨c2, c3, c4⟩ := c
        cases ry
        obtain ⟨a, vs, rfl, h1, r1⟩ := rx.listT w hx
        refine .inr (.inr (.inr (.inr ⟨a, _, vs, rfl, rfl, h1, by omega, by omega, ?_, fun p hp => s.newRef w (r1.rep _) hp⟩)))
        rw [r1.len]
        exact Evl.sz_of (Nat.le_trans (Nat.mul_le_mul c4 (by omega : _ ≤ 1000)) (by decide))
      · exact s.elim
    · exact s.elim
  · exact s.elim
/-! the other operators -/
def oSub : OD := oI2 fun i j => .int (i - j)
noncomputable def oDiv : OD := oI2c CDivB fun i j => .int (i / j)
noncomputable def oMod : OD := oI2c CModB fun i j => .int (i % j)
noncomputable def oPow : OD := oI2c CPowB fun i j => .int (i ^ j.toNat)
def oLt : OD := oI2 fun i j => .bl (decide (i < j))
def oLe : OD := oI2 fun i j => .bl (decide (i ≤ j))
def oGt : OD := oI2 fun i j => .bl (decide (j < i))
def oGe : OD := oI2 fun i j => .bl (decide (j ≤ i))
section
variable {K : PySem.W.Frag}
theorem opd_sub : OpD K (rI0 fun i j => .int (i - j)) oSub := opd_I0 fun _ _ _ _ => .int _
theorem opd_lt : OpD K (rI0 fun i j => .bl (decide (i < j))) oLt := opd_I0 fun _ _ _ _ => .bl _
theorem opd_le : OpD K (rI0 fun i j => .bl (decide (i ≤ j))) oLe := opd_I0 fun _ _ _ _ => .bl _
theorem opd_gt : OpD K (rI0 fun i j => .bl (decide (j < i))) oGt := opd_I0 fun _ _ _ _ => .bl _
theorem opd_ge : OpD K (rI0 fun i j => .bl (decide (j ≤ i))) oGe := opd_I0 fun _ _ _ _ => .bl _
theorem opd_div : OpD K (rI CDivW fun i j => .int (i / j)) oDiv := opd_I (fun i j h => h) fun _ _ _ _ => .int _
theorem opd_mod : OpD K (rI (fun _ j => 0 < j) fun i j => .int (i % j)) oMod := opd_I (fun i j h => h) fun _ _ _ _ => .int _
theorem opd_pow : OpD K (rI CPow fun i j => .int (i ^ j.toNat)) oPow := opd_I (fun i j h => ⟨h.1.1, h.1.2, h.2⟩) fun _ _ _ _ => .int _
end
/-! in, over flat things -/
def flD : D → Option V
  | .non => some .non
  | .bl b => some (.bl b)
  | .int i => some (.int i)
  | .str s => some (.str s)
  | _ => none
def flDs : List D → Option (List V)
  | [] => some []
  | x :: xs => match flD x, flDs xs with
    | some v, some vs => some (v :: vs)
    | _, _ => none
def inD (x : D) (y : D) (M : List MO) : Option Bool := match flD x with
  | some v => match (match tupOf y with
      | some xs => flDs xs
      | none => match listOf M y with
        | some xs => flDs xs
        | none => none) with
    | some vs => if (flatV v && vs.all flatV) = true then some (inV v vs) else none
    | none => none
  | none => none
def oIn : OD := fun x y M => match inD x y M with
  | some b => .ok (.bl b) M
  | none => .bad
def oNotIn : OD := fun x y M => match inD x y M with
  | some b => .ok (.bl (!b)) M
  | none => .bad
section
variable {K : PySem.W.Frag} {H I P : Hp} {as : List Addr} {M : List MO}
theorem Rep.fl {v u : V} {d : D} (r : Rep K I as v d) (h : flD d = some u) : v = u := by
  cases r <;> first | (cases h; rfl) | cases h
theorem Reps.fl : ∀ {vs us : List V} {ds : List D}, Reps K I as vs ds → flDs ds = some us → vs = us
  | _, _, _, .nil, h => by cases h; rfl
  | _, us, _, .cons (d := d) (ds := ds) r rr, h => by
    unfold flDs at h
    cases e : flD d with
    | none => rw [e] at h; cases h
    | some v =>
      cases e2 : flDs ds with
      | none => rw [e, e2] at h; cases h
      | some ws =>
        rw [e, e2] at h
        cases h
        rw [r.fl e, Reps.fl rr e2]
theorem inD_ok (w : Wr K H I as M P) {x y : V} {d e : D} {b : Bool} (rx : Rep K I as x d) (ry : Rep K I as y e) (h : inD d e M = some b) : ∃ p xs, y = .ref p ∧ (SqL K H p xs ∨ SqT K H p xs) ∧ flatV x = true ∧ xs.all flatV = true ∧ inV x xs = b := by
  unfold inD at h
  split at h
  · rename_i v hv
    have e1 := rx.fl hv
    subst e1
    split at h
    · rename_i vs hvs
      split at h
      · rename_i c
        rw [Bool.and_eq_true] at c
        cases h
        split at hvs
        · rename_i xs hx
          obtain ⟨a, us, rfl, h1, r1⟩ := ry.tupl w hx
          rw [r1.fl hvs] at h1
          exact ⟨a, vs, rfl, .inr h1, c.1, c.2, rfl⟩
        · split at hvs
          · rename_i xs hx
            obtain ⟨a, us, rfl, h1, r1⟩ := ry.list w hx
            rw [r1.fl hvs] at h1
            exact ⟨a, vs, rfl, .inl h1, c.1, c.2, rfl⟩
          · cases hvs
      · cases h
    · cases h
  · cases h
theorem opd_in : OpD K (rIn K false) oIn := by
  intro H I as M P x y d e Wf Q w rx ry s
  unfold oIn at s
  split at s
  · rename_i b hb
    obtain ⟨p, xs, rfl, h1, h2, h3, rfl⟩ := inD_ok w rx ry hb
    exact ⟨p, xs, rfl, h1, h2, h3, by rw [if_neg Bool.false_ne_true]; exact s.now w (.bl _)⟩
  · exact s.elim
theorem opd_notIn : OpD K (rIn K true) oNotIn := by
  intro H I as M P x y d e Wf Q w rx ry s
  unfold oNotIn at s
  split at s
  · rename_i b hb
    obtain ⟨p, xs, rfl, h1, h2, h3, rfl⟩ := inD_ok w rx ry hb
    exact ⟨p, xs, rfl, h1, h2, h3, by rw [if_pos rfl]; exact s.now w (.bl _)⟩
  · exact s.elim
end
/-! isinstance(x, T) -/
def tyN : D → Option String
  | .non => some "NoneType"
  | .bl _ => some "bool"
  | .int _ => some "int"
  | .str _ => some "str"
  | .tup _ => some "tuple"
  | .lst _ => some "list"
  | .rol _ => some "list"
  | .ref _ => some "list"
  | .obj _ => none
  | .fn _ => none
  | .dct => some "dict"
def isiB (a T : String) : Bool := a == T || (a == "bool" && T == "int")
def tyOk (T : String) : Bool := ["NoneType", "bool", "int", "str", "tuple", "list", "dict"].all fun a => kitB a T == some (isiB a T)
def tyM (M : List MO) (d : D) : Option String := match d with
  | .ref k => match M[k]? with
    | some (.lst _) => some "list"
    | _ => none
  | d => tyN d
def oIsi (T : String) : OU := fun x M => match tyM M x with
  | some a => if tyOk T = true then .ok (.bl (isiB a T)) M else .bad
  | none => .bad
theorem Rep.ty {K : PySem.W.Frag} {H I P : Hp} {as : List Addr} {M : List MO} (w : Wr K H I as M P) {v : V} {d : D} {a : String} (r : Rep K I as v d) (h : tyM M d = some a) : TyX K H v (.type a) ∧ a ∈ ["NoneType", "bool", "int", "str", "tuple", "list", "dict"] := by
  have lst : ∀ {p : Addr} {xs : List V}, SqL K H p xs → TyX K H (.ref p) (.type "list") := fun {p xs} hl => by
    rcases hl with (h | ⟨o, h⟩) | ⟨o, its, n, h, c, _⟩
    · exact .base (.lst h)
    · exact .base (.frz h)
    · exact .kList h c
  cases r with
  | non => cases h; exact ⟨.base .non, by decide⟩
  | bl b => cases h; exact ⟨.base (.bl b), by decide⟩
  | int b => cases h; exact ⟨.base (.int b), by decide⟩
  | str b => cases h; exact ⟨.base (.str b), by decide⟩
  | tup h1 h2 =>
    cases h
    refine ⟨?_, by decide⟩
    rcases w.seqT h1 with (h | ⟨o, h⟩) | ⟨o, its, n, h, c, _⟩
    · exact .base (.tup h)
    · exact .fTuple h
    · exact .kTuple h c
  | lst h1 h2 => cases h; exact ⟨lst (.of (w.sub _ _ h1)), by decide⟩
  | rol h1 h2 => cases h; exact ⟨lst (w.seqL h1), by decide⟩
  | @ref k p h1 =>
    obtain ⟨o, ho, _, _, m⟩ := w.at h1
    unfold tyM at h
    cases o with
    | dct kvs => simp [ho] at h
    | lst xs =>
      simp only [ho] at h
      cases h
      exact ⟨lst (.of m.choose_spec.1), by decide⟩
  | obj a => cases h
  | fn _ => cases h
  | dct h1 => cases h; exact ⟨.base (.dK (w.sub _ _ h1)), by decide⟩
section
variable {X : Cx} {W : WX} {e : Expr} {pos p p2 : Pos} {te : TE} {ge : GE}
theorem xe_isi {T : String} {y : Str} (hm : X.mg "isinstance" = none) (hm2 : X.mg y = none) (hv2 : bootBuiltins y = some (.type T)) (he : XE X W e te ge) (hg : Gl X "isinstance" := by rfl) (hg2 : Gl X y := by rfl) (hn2 : y ≠ "__name__" := by decide) (hd2 : (y == ("__debug__" : Str)) = false := by decide)
    (h1 : starEach [e, .Name y p2] X.env = (false, eval e X.env) :: starEach [.Name y p2] X.env := by rfl) (h2 : starEach [.Name y p2] X.env = (false, eval (.Name y p2) X.env) :: starEach [] X.env := by rfl) (hpl : (backTo pos (starEach [.Name y p2] X.env)).any (·.1) = false := by rfl) :
    XE X W (.Call (.Name "isinstance" p) [e, .Name y p2] [] pos) (tCB (rIsi X.K) (tCons te (tCons (tC (.ty T)) tNil))) (gUn (oIsi T) ge) := by
  refine ⟨pe_callB call_isi hg hm PyProof.Rows.boot_isinstance (pa_cons he.pe (pa_cons (pe_bltn hg2 hm2 hv2 rfl hn2 hd2) pa_nil h2) h1) (by decide) (by decide) h1 hpl, fun σ H δ I as M P Q w en s => ?_⟩
  refine he.im σ H δ I as M P _ w en (Sat.bind s fun d M1 v H1 I1 as1 _ g1 w1 r1 s1 => ?_)
  unfold oIsi at s1
  split at s1
  · rename_i a ha
    split at s1
    · rename_i hT
      obtain ⟨t1, t2⟩ := r1.ty w1 ha
      have hk := List.all_eq_true.mp hT a t2
      exact ⟨v, .ty T, .type a, .type T, isiB a T, rfl, .ty T, t1, kit_ty (by simpa using hk), s1.now w1 (.bl _)⟩
    · exact s1.elim
  · exact s1.elim
end
/-! methods of lists -/
abbrev OM := D → List D → List MO → R D
def OpM (K : PySem.W.Frag) (r : V → List V → Hp → VK → Prop) (o : OM) : Prop := ∀ (H I : Hp) (as : List Addr) (M : List MO) (P : Hp) (x : V) (xs : List V) (d : D) (ds : List D) (Wf : Str → Hp → Prop) (Q : VK),
  Wr K H I as M P → Rep K I as x d → Reps K I as xs ds → Sat K (Rep K) Wf I as P Q (o d ds M) → r x xs H Q
def gBM (o : OM) (ga : GE) (g : GA) : GE := fun δ M => (ga δ M).bind fun x M1 => match listOf M1 x with
  | some _ => (g δ M1).bind fun ds M2 => o x ds M2
  | none => .bad
section
variable {K : PySem.W.Frag} {mg : Str → Option Value} {W : WX} {to : TE} {go : GE} {t : TA} {g : GA}
theorem impE_BM {r : V → List V → Hp → VK → Prop} {o : OM} (ho : OpM K r o) (h1 : ImpE K mg W to go) (h2 : ImpA K mg W t g) : ImpE K mg W (tBM K "list" r to t) (gBM o go g) := by
  intro σ H δ I as M P Q w en s
  refine h1 σ H δ I as M P _ w en (Sat.bind s fun d M1 v H1 I1 as1 _ g1 w1 r1 s1 => ?_)
  split at s1
  · rename_i xs hx
    have r1' := r1
    obtain ⟨a, vs, rfl, hl, rr⟩ := r1.list w1 hx
    refine ⟨.inl ⟨rfl, vs, hl⟩, ?_⟩
    refine h2 σ H1 δ I1 as1 M1 P _ w1 (en.mono g1) (Sat.bind s1 fun ds M2 us H2 I2 as2 _ g2 w2 r2 s2 => ?_)
    exact ho H2 I2 as2 M2 P _ us d ds _ Q w2 (r1'.mono g2) r2 s2
  · exact s1.elim
open Classical in
noncomputable def oAppend : OM := fun x ds M => match x, ds with
  | .ref k, [d] => match M[k]? with
    | some (.lst xs) => if bigS xs.length then .ok .non (M.set k (.lst (xs ++ [d]))) else .bad
    | _ => .bad
  | _, _ => .bad
theorem opm_append : OpM K rAppend oAppend := by
  intro H I as M P x xs d ds Wf Q w rx rs s
  unfold oAppend at s
  split at s
  · rename_i k d1
    cases rx with
    | @ref _ a h1 =>
      obtain ⟨o, ho, _, _, m⟩ := w.at h1
      cases o with
      | dct kvs => simp only [ho] at s; exact s.elim
      | lst ys =>
        simp only [ho] at s
        split at s
        · rename_i hb
          obtain ⟨v, rfl, rv⟩ := rs.one_inv
          obtain ⟨vs, e1, rr⟩ := m
          refine ⟨a, vs, v, rfl, rfl, e1, by rw [rr.len]; exact Evl.sz_lt hb, ?_⟩
          exact s _ _ I as (Gr.refl _ _) (w.put h1 _ _ ⟨_, upd_same, rr.append (.cons rv .nil)⟩) .non
        · exact s.elim
  · exact s.elim
/- xs.pop(i), 0 ≤ i -/
open Classical in
noncomputable def oPopAt : OM := fun x ds M => match x, ds with
  | .ref k, [.int i] => match M[k]? with
    | some (.lst xs) => if 0 ≤ i ∧ i < 1000 then (match xs[i.toNat]? with
      | some d => .ok d (M.set k (.lst (xs.eraseIdx i.toNat)))
      | none => .bad) else .bad
    | _ => .bad
  | _, _ => .bad
theorem opm_popAt : OpM K rPopAt oPopAt := by
  intro H I as M P x xs d ds Wf Q w rx rs s
  unfold oPopAt at s
  split at s
  · rename_i k i
    cases rx with
    | @ref _ a h1 =>
      obtain ⟨o, ho, _, _, m⟩ := w.at h1
      cases o with
      | dct kvs => simp only [ho] at s; exact s.elim
      | lst ys =>
        simp only [ho] at s
        split at s
        · rename_i hb
          split at s
          · rename_i d2 hd
            obtain ⟨v, rfl, rv⟩ := rs.one_inv
            cases rv
            obtain ⟨vs, e1, rr⟩ := m
            obtain ⟨y, hy, ry⟩ := rr.get hd
            have hlt : i.toNat < vs.length := (List.getElem?_eq_some_iff.mp hy).1
            refine ⟨a, vs, i, i.toNat, y, rfl, rfl, e1, by omega, by omega, ?_, hy, ?_⟩
            · unfold seqIndex?
              simp only [show ¬ i < 0 by omega, if_false]
              first
                | (rw [if_pos (by omega)])
                | (simp; omega)
            · exact s _ _ I as (Gr.refl _ _) (w.put h1 _ _ ⟨_, upd_same, rr.eraseIdx _⟩) (ry.mono (Gr.refl _ _))
          · exact s.elim
        · exact s.elim
  · exact s.elim
/-- xs.index(x), x one of the ints xs -/
def intsD : List D → Option (List Int)
  | [] => some []
  | .int i :: xs => (intsD xs).map (i :: ·)
  | _ :: _ => none
def oIndex : OM := fun x ds M => match ds with
  | [.int i] => match listOf M x with
    | some xs => match intsD xs with
      | some ns => match ns.findIdx? (· == i) with
        | some j => .ok (.int (j : Int)) M
        | none => .bad
      | none => .bad
    | none => .bad
  | _ => .bad
theorem Reps.intsD {I : Hp} {as : List Addr} : ∀ {vs : List V} {ds : List D} {ns : List Int}, Reps K I as vs ds → KM.intsD ds = some ns → vs = ns.map V.int
  | _, _, ns, .nil, h => by cases h; rfl
  | _, _, ns, .cons (d := d) (ds := ds) r rr, h => by
    cases d with
    | int b =>
      unfold KM.intsD at h
      cases e : KM.intsD ds with
      | none => rw [e] at h; cases h
      | some cs =>
        rw [e] at h
        cases h
        cases r
        rw [Reps.intsD rr e]
        rfl
    | _ => cases h
end
end KM
set_option Elab.async false
set_option linter.all false
set_option maxRecDepth 100000
set_option maxHeartbeats 2000000
namespace KM
open PySem L2 PySem.Spec PyProof.Rows
section
variable {X : Cx} {W : WX} {tg e : Expr} {te : TE} {ge : GE}
theorem pi_or {wi wj : TI} (h : PI X tg e wi) (k : PI X tg e wj) : PI X tg e (fun σ H R => wi σ H R ∨ wj σ H R) := ⟨fun pins s σ H R I x => x.elim (h.run pins s σ H R I) (k.run pins s σ H R I)⟩
/-- a list or a tuple -/
def giSeq (ge : GE) : GI := fun δ M => (ge δ M).bind fun x M1 => match tupOf x with
  | some xs => .ok (itT xs) M1
  | none => match listOf M1 x with
    | some xs => .ok ⟨xs, gdOf x xs⟩ M1
    | none => .bad
theorem xi_seq (h : XE X W e te ge) : XI X W tg e (fun σ H R => iTup X.K te σ H R ∨ iList X.K te σ H R) (giSeq ge) := by
  refine ⟨pi_or (pi_tup h.pe) (pi_list h.pe), fun σ H δ I as M P Q w en s => ?_⟩
  unfold giSeq at s
  cases e1 : ge δ M with
  | bad => rw [e1] at s; exact s.elim
  | ex c M1 =>
    refine .inl ((xi_tup (tg := tg) h).im σ H δ I as M P Q w en ?_)
    unfold giTup
    rw [e1] at s ⊢
    exact s
  | ok x M1 =>
    rw [e1] at s
    simp only [R.bind_ok] at s
    cases e2 : tupOf x with
    | some xs =>
      refine .inl ((xi_tup (tg := tg) h).im σ H δ I as M P Q w en ?_)
      unfold giTup
      rw [e1]
      simp only [R.bind_ok, e2] at s ⊢
      exact s
    | none =>
      refine .inr ((xi_list (tg := tg) h).im σ H δ I as M P Q w en ?_)
      unfold giList
      rw [e1]
      simp only [R.bind_ok, e2] at s ⊢
      exact s
variable {o : Expr} {es : List Expr} {to : TE} {t : TA} {go : GE} {g : GA} {cpos apos : Pos} {name : Str} {id : String} {r : V → List V → Hp → VK → Prop} {om : OM}
theorem xe_bm (slot : Slot "list" name id) (hty : typeOf (.builtin id) = pure (.type "method_descriptor")) (hm : MtR X id r) (hd : OpM X.K r om) (ho : XE X W o to go) (ha : XA X W (e :: es) t g)
    (hbase : attributeBase o name X.env (eval o X.env) = eval o X.env := by rfl)
    (hfew : ((backTo cpos (starEach (e :: es) X.env)).all (fun x => !x.1) && (backToKw cpos (keywordEach [] X.env)).all (fun x => x.1.isSome)
      && decide ((e :: es).length + ([] : List Keyword).length + (if ([] : List Keyword).isEmpty then 0 else 1) < 30)) = true := by rfl)
    (hline : (apos.endLine == cpos.line) = true := by rfl) (hs : starEach (e :: es) X.env = (false, eval e X.env) :: starEach es X.env := by rfl) (hplain : (backTo cpos (starEach es X.env)).any (·.1) = false := by rfl) :
    XE X W (.Call (.Attribute o name apos) (e :: es) [] cpos) (tBM X.K "list" r to t) (gBM om go g) :=
  ⟨pe_bm PySem.F.plainAttrs_list slot hty hm ho.pe ha.pe hbase hfew hline hs hplain, impE_BM hd ho.im ha.im⟩
theorem eqV_int (i j : Int) : eqV (.int i) (.int j) = (i == j) := by
  first
    | rfl
    | simp [eqV]
theorem opm_index {K : PySem.W.Frag} : OpM K (rIndex K) oIndex := by
  intro H I as M P x xs d ds Wf Q w rx rs s
  unfold oIndex at s
  split at s
  · rename_i i
    split at s
    · rename_i ys hy
      split at s
      · rename_i ns hn
        split at s
        · rename_i j hj
          obtain ⟨v, rfl, rv⟩ := rs.one_inv
          cases rv
          obtain ⟨a, vs, rfl, h1, r1⟩ := rx.list w hy
          have e := r1.intsD hn
          subst e
          obtain ⟨hlt, hp, hq⟩ := List.findIdx?_eq_some_iff_getElem.mp hj
          refine ⟨a, ns.map V.int, .int i, j, .int ns[j], rfl, rfl, h1, rfl, ?_, ?_, ?_, ?_, s.now w (.int _)⟩
          · rw [List.all_map]
            exact List.all_eq_true.mpr fun _ _ => rfl
          · rw [List.getElem?_map, List.getElem?_eq_getElem hlt]
            rfl
          · rw [eqV_int]
            exact hp
          · intro m z hm hz
            rw [List.getElem?_map, List.getElem?_eq_getElem (Nat.lt_trans hm hlt)] at hz
            have e := Option.some.inj hz
            rw [← e, eqV_int]
            simpa using hq m hm
        · exact s.elim
      · exact s.elim
    · exact s.elim
  · exact s.elim
/-- sum of ints -/
def oSum : OC := fun ds M => match ds with
  | [x] => match listOf M x with
    | some xs => match intsD xs with
      | some ns => .ok (.int ns.sum) M
      | none => .bad
    | none => .bad
  | _ => .bad
theorem opc_sum {K : PySem.W.Frag} : OpC K (rSum K) oSum := by
  intro H I as M P xs ds Wf Q w r s
  unfold oSum at s
  split at s
  · obtain ⟨v, rfl, rv⟩ := r.one_inv
    split at s
    · rename_i ys hy
      split at s
      · rename_i ns hn
        obtain ⟨a, vs, rfl, h1, r1⟩ := rv.list w hy
        have e := r1.intsD hn
        subst e
        exact ⟨a, ns, rfl, h1, s.now w (.int _)⟩
      · exact s.elim
    · exact s.elim
  · exact s.elim
end
end KM
set_option Elab.async false
set_option linter.all false
set_option maxRecDepth 100000
set_option maxHeartbeats 2000000
namespace KM
open PySem L2 PySem.Spec PyProof.Rows
section
variable {X : Cx} {W : WX} {a e : Expr} {es : List Expr} {pos p p2 : Pos} {ta te : TE} {ga ge : GE} {t : TA} {g : GA}
theorem ke_slice (K : PySem.W.Frag) {lo hi : Option Expr} {tl th : TO} {gl gh : GO} (he : XE X W a ta ga) (hl : XO X W lo tl gl) (hh : XO X W hi th gh) (hK : X.K = K := by rfl) : XE X W (.Subscript a (.Slice lo hi none p2) pos) (tSl (rSlG K) ta tl th) (gSl ga gl gh) := by
  subst hK; exact xe_slice he hl hh
theorem ki_seq (K : PySem.W.Frag) {tg : Expr} (h : XE X W e te ge) (hK : X.K = K := by rfl) : XI X W tg e (fun σ H R => iTup K te σ H R ∨ iList K te σ H R) (giSeq ge) := by
  subst hK; exact xi_seq h
theorem ke_isi (K : PySem.W.Frag) {T : String} {y : Str} (hm : X.mg "isinstance" = none) (hm2 : X.mg y = none) (hv2 : bootBuiltins y = some (.type T)) (he : XE X W e te ge) (hK : X.K = K := by rfl) (hg : Gl X "isinstance" := by rfl) (hg2 : Gl X y := by rfl) (hn2 : y ≠ "__name__" := by decide) (hd2 : (y == ("__debug__" : Str)) = false := by decide)
    (h1 : starEach [e, .Name y p2] X.env = (false, eval e X.env) :: starEach [.Name y p2] X.env := by rfl) (h2 : starEach [.Name y p2] X.env = (false, eval (.Name y p2) X.env) :: starEach [] X.env := by rfl) (hpl : (backTo pos (starEach [.Name y p2] X.env)).any (·.1) = false := by rfl) :
    XE X W (.Call (.Name "isinstance" p) [e, .Name y p2] [] pos) (tCB (rIsi K) (tCons te (tCons (tC (.ty T)) tNil))) (gUn (oIsi T) ge) := by
  subst hK; exact xe_isi hm hm2 hv2 he hg hg2 hn2 hd2 h1 h2 hpl
theorem kg_tup (K : PySem.W.Frag) {is : List Nat} {k n : Nat} {t : TGs} {g : List D → GS} (hc : X.calm = true) (h : XGs X W es is t g) (hK : X.K = K := by rfl)
    (hn : (assignEach es X.env).length = n := by rfl) (hst : (assignEach es X.env).findIdx? (·.1) = none := by rfl) : XG X W (.Tuple es k pos) is (L2.gTup K n t) (gtTup n g) := by
  subst hK; exact xg_tup hc h hn hst
theorem kt_tru (K : PySem.W.Frag) (ha : XE X W a ta ga) (hK : X.K = K := by rfl) (he : ∀ whole, isTrue a X.env whole = (do let v ← whole; standAt a.pos; holding [v] (truthy v)) := by intro _; rfl) : XT X W a (fun σ H Q => ta σ H fun x H' => ∃ k, TruV K x H' k ∧ Q k H') (gTru ga) := by
  subst hK; exact xt_tru ha he
theorem ke_call (K : PySem.W.Frag) (mg : Str → Option Value) {x : Str} {k n : Nat} {m : OC} (C : Callee X.prog X.w X.K X.mg X.base x k n m) (hr : Room k X.A) (tk : Takes X W) (ha : XA X W (e :: es) t g) (hK : X.K = K := by rfl) (hmg : X.mg = mg := by rfl) (hl : ∀ δ M ds M', g δ M = .ok ds M' → ds.length = n := by first | exact fun _ _ _ _ h => gCons_len (fun _ _ _ _ h => gNil_len h) h | exact fun _ _ _ _ h => gCons_len (fun _ _ _ _ h => gCons_len (fun _ _ _ _ h => gNil_len h) h) h | exact fun _ _ _ _ h => gCons_len (fun _ _ _ _ h => gCons_len (fun _ _ _ _ h => gCons_len (fun _ _ _ _ h => gNil_len h) h) h) h | exact fun _ _ _ _ h => gCons_len (fun _ _ _ _ h => gCons_len (fun _ _ _ _ h => gCons_len (fun _ _ _ _ h => gCons_len (fun _ _ _ _ h => gNil_len h) h) h) h) h)
    (hg : Gl X x := by rfl) (hdb : (x == ("__debug__" : Str)) = false := by decide)
    (he : starEach (e :: es) X.env = (false, eval e X.env) :: starEach es X.env := by rfl) (hpl : (backTo pos (starEach es X.env)).any (·.1) = false := by rfl) :
    XE X W (.Call (.Name x p) (e :: es) [] pos) (tCallS (spM K mg n m) (WE W) t) (gCall m g) := by
  subst hK hmg; exact xe_call C hr tk ha hl hg hdb he hpl
variable {o : Expr} {to : TE} {go : GE} {cpos apos : Pos} {name : Str} {id : String} {r : V → List V → Hp → VK → Prop} {om : OM}
theorem ke_bm (K : PySem.W.Frag) (slot : Slot "list" name id) (hty : typeOf (.builtin id) = pure (.type "method_descriptor")) (hm : MtR X id r) (hd : OpM X.K r om) (ho : XE X W o to go) (ha : XA X W (e :: es) t g) (hK : X.K = K := by rfl)
    (hbase : attributeBase o name X.env (eval o X.env) = eval o X.env := by rfl)
    (hfew : ((backTo cpos (starEach (e :: es) X.env)).all (fun x => !x.1) && (backToKw cpos (keywordEach [] X.env)).all (fun x => x.1.isSome)
      && decide ((e :: es).length + ([] : List Keyword).length + (if ([] : List Keyword).isEmpty then 0 else 1) < 30)) = true := by rfl)
    (hline : (apos.endLine == cpos.line) = true := by rfl) (hs : starEach (e :: es) X.env = (false, eval e X.env) :: starEach es X.env := by rfl) (hplain : (backTo cpos (starEach es X.env)).any (·.1) = false := by rfl) :
    XE X W (.Call (.Attribute o name apos) (e :: es) [] cpos) (tBM K "list" r to t) (gBM om go g) := by
  subst hK; exact xe_bm slot hty hm hd ho ha hbase hfew hline hs hplain
end
abbrev rLenC (K : PySem.W.Frag) : List V → Hp → VK → Prop := fun xs H Q => ∃ p ys, xs = [.ref p] ∧ (SqL K H p ys ∨ SqT K H p ys) ∧ Q (.int ys.length) H
end KM
set_option Elab.async false
set_option linter.all false
set_option maxRecDepth 100000
set_option maxHeartbeats 2000000
namespace KM
open PySem L2 PySem.Spec PyProof.Rows
/-! ### the end -/
def DefAt (K : PySem.W.Frag) (mg : Str → Option Value) (x : Str) (st : Stmt) : Prop := ∃ (f : Addr) (fd : FuncData), Fun K x x st f fd ∧ mg x = some (.ref f) ∧ PySem.W.keepIn K (.ref f) = true ∧ PySem.W.nsIn K mainGlobals x = some (some (.ref f))
theorem def_mk {K : PySem.W.Frag} {mg : Str → Option Value} {h : Heap} (X : K.In h) (G : h.Ns mainGlobals mg) {x : Str} {st : Stmt} {f : Addr} {oc : Value} {od an : Option Addr} {osl : Array (Option Value)} {kV doc pm cdv ct : Value}
    (a : PySem.W.nsIn K mainGlobals x = some (some (.ref f))) (l : K.lookup f = some ⟨oc, od, .func (PySem.W.fnOf x x (defArgs st) (defBody st) (defScope st) .none kV doc pm an cdv ct), osl⟩)
    (c : PySem.W.codeIn K cdv x = true) (k : PySem.W.keepIn K (.ref f) = true) : DefAt K mg x st := ⟨f, _, fun_mk (st := st) l c k, PySem.W.mg_of X G a, k, a⟩
theorem globI_mk {K : PySem.W.Frag} {mg : Str → Option Value} {h : Heap} (X : K.In h) (G : h.Ns mainGlobals mg) {x : Str} {i : Int} {t : Tok} (a : PySem.W.nsIn K mainGlobals x = some (some (.int i t))) : GlobC K mg x (.int i) :=
  ⟨⟨.int i, _, PySem.W.mg_of X G a, ⟨t, rfl⟩, fun _ _ => .int i⟩⟩
theorem globT_mk {K : PySem.W.Frag} {mg : Str → Option Value} {h : Heap} (X : K.In h) (G : h.Ns mainGlobals mg) {x : Str} {p : Addr} {i j : Int} {t u : Tok} {dd : Option Addr} {n : Nat} {sl : Array (Option Value)} (a : PySem.W.nsIn K mainGlobals x = some (some (.ref p)))
    (l : K.lookup p = some ⟨.type "tuple", dd, .seq #[.int i t, .int j u] n, sl⟩) : GlobC K mg x (.tup [.int i, .int j]) :=
  ⟨⟨.ref p, _, PySem.W.mg_of X G a, rfl, fun I as => .tup (xs := [.int i, .int j]) (.inr ⟨_, _, _, l, rfl, rfl, by show 2 ≤ sizeLine; decide, .cons ⟨t, rfl⟩ (.cons ⟨u, rfl⟩ .nil)⟩) (.cons (.int i) (.cons (.int j) .nil))⟩⟩
def spLaw (K : PySem.W.Frag) : Sp := fun vs H Q _ => ∃ (a : Addr) (ns : List Int), vs = [.ref a] ∧ SqL K H a (ns.map V.int) ∧ ns.length ≤ 63 ∧ (∀ z ∈ ns, Builtin.Int.intBits z ≤ 1048576) ∧ ∀ H', Q (.bl true) H'
def LawTrue (m : OC) : Prop := ∀ ns : List Int, ns.length ≤ 63 → (∀ z ∈ ns, Builtin.Int.intBits z ≤ 1048576) → ∃ M, m [.rol (ns.map D.int)] [] = .ok (.bl true) M
theorem law_imp {K : PySem.W.Frag} {mg : Str → Option Value} {m : OC} (hm : LawTrue m) : ∀ vs H Q E, spLaw K vs H Q E → spM K mg 1 m vs H Q E := by
  rintro vs H Q E ⟨a, ns, rfl, hS, hl, hb, q⟩
  obtain ⟨rfl', ds, I, as, M, P, w, r, s⟩ := law_end (mg := mg) hS (hm ns hl hb)
  refine ⟨rfl, [.rol (ns.map D.int)], H, [], [], fun _ => none, ⟨fun _ _ e => e, rfl, List.nodup_nil, fun k a o e => by simp at e, fun a o e => by cases e⟩, .cons (.rol hS (Reps.ints ns rfl)) .nil, ?_⟩
  obtain ⟨M, h⟩ := hm ns hl hb
  rw [h]
  intro v H' I' as' g w r
  cases r
  exact q H'
theorem law_walk {l : PySem.W.OpenLaw} {k : Nat} {q : Program} {loose : List Str} {XP : (Str → Option Value) → Heap → Prop} {YP : World → Heap → Prop} {d : DefRec} {K : Params → PySem.W.Frag} {x : Str}
    (hn : l.most = some 63) (hdf : d.params.defaults = []) (hr : Room k callerA)
    (hY : ∀ (w : World) (h : Heap), YP w h → (K w.params).In h)
    (F : ∀ (w : World) (mg : Str → Option Value) (fa : Addr) (h : Heap), (K w.params).In h → h.Ns mainGlobals mg → mg d.name = some (.ref fa) →
      ∃ fd : FuncData, (∀ (s : Shared) (u : Value), BindsTo s fd ⟨[u], []⟩ [(x, u)]) ∧
        ∀ base : Heap, (K w.params).In base → base.Ns mainGlobals mg → FnOk l.prog w (K w.params) mg base (L2.CX l.prog w) k fa fd [x] (spLaw (K w.params))) :
    PySem.W.WalkO q loose XP YP l.row.toRowW d [] (fun f vs => PySem.call f vs) :=
  walk_ofB (K := K) (CX := fun w => L2.CX l.prog w) (sp := fun w => spLaw (K w.params)) hn (by decide) hdf hr hY F (fun w H a ns hl hb _ hS => ⟨a, ns, rfl, hS, hl, hb, fun _ => rfl⟩) fun w H s e s' h => by
    obtain ⟨_, _, _, _, _, _, _, _, _, _, _, _, z⟩ := h
    exact z
theorem bind1 {K : PySem.W.Frag} : True := trivial
end KM
set_option Elab.async false
set_option linter.all false
set_option maxRecDepth 100000
set_option maxHeartbeats 2000000
namespace KM
open PySem L2 PySem.Spec PyProof.Rows
/-! ### while, x += e, sorted -/
noncomputable def whileL (gc : GB) (gb : GS) : Nat → GS
  | 0, _, _ => .bad
  | n + 1, δ, M => (gc δ M).toS δ fun b M1 => if b = true then (match gb δ M1 with
      | .nx δ2 M2 => whileL gc gb n δ2 M2
      | .ct δ2 M2 => whileL gc gb n δ2 M2
      | .bk δ2 M2 => .nx δ2 M2
      | .rt d M2 => .rt d M2
      | .ex c δ2 M2 => .ex c δ2 M2
      | .bad => .bad) else .nx δ M1
def fuel : Nat := 1000000
noncomputable def gWhile (gc : GB) (gb : GS) : GS := fun δ M => whileL gc gb fuel δ M
section
variable {X : Cx} {W : WX} {e : Expr} {pos : Pos} {te : TE} {ge : GE} {K : PySem.W.Frag}
theorem impS_while {mg : Str → Option Value} {tc : TT} {gc : GB} {tb : TS} {gb : GS} (hc : ImpT K mg W tc gc) (hb : ImpS K mg W tb gb) : ImpS K mg W (tWhile tc tb) (gWhile gc gb) := by
  intro σ H δ I as M P E w en s
  refine ⟨fun m σ' H' => ∃ δ' M' I' as', Gr I as I' as' ∧ Wr K H' I' as' M' P ∧ Envr K I' as' σ' δ' ∧ SatS K (lowW mg W) I' as' P E (whileL gc gb m δ' M'), ⟨fuel, δ, M, I, as, Gr.refl _ _, w, en, s⟩, ?_⟩
  rintro m σ1 H1 ⟨δ', M', I', as', g', w', en', s'⟩
  cases m with
  | zero => exact s'.elim
  | succ m =>
    unfold whileL at s'
    refine hc σ1 H1 δ' I' as' M' P _ w' en' (SatS.bindE s' en' fun b M1 v H2 I2 as2 _ g2 w2 r2 s2 => ?_)
    subst r2
    cases v with
    | false =>
      rw [if_neg Bool.false_ne_true]
      exact s2 _ H2 I2 as2 (Gr.refl _ _) w2 (en'.mono g2)
    | true =>
      rw [if_pos rfl]
      rw [if_pos rfl] at s2
      refine ⟨_, fun σ3 H3 n3 => ⟨m, Nat.lt_succ_self m, n3⟩, hb σ1 H2 δ' I2 as2 M1 P _ w2 (en'.mono g2) ?_⟩
      cases e2 : gb δ' M1 with
      | nx δ2 M2 =>
        simp only [e2] at s2
        exact fun σ4 H4 I4 as4 g4 w4 en4 => ⟨δ2, M2, I4, as4, g'.trans (g2.trans g4), w4, en4, SatS.gr g4 s2⟩
      | ct δ2 M2 =>
        simp only [e2] at s2
        exact fun σ4 H4 I4 as4 g4 w4 en4 => ⟨δ2, M2, I4, as4, g'.trans (g2.trans g4), w4, en4, SatS.gr g4 s2⟩
      | bk δ2 M2 =>
        simp only [e2] at s2
        exact s2
      | rt d2 M2 =>
        simp only [e2] at s2
        exact s2
      | ex c δ2 M2 =>
        simp only [e2] at s2
        exact s2
      | bad =>
        simp only [e2] at s2
        exact s2
theorem xs_while {c : Expr} {body : List Stmt} {tc : TT} {gc : GB} {tb : TS} {gb : GS} (hp : PassesOwn (model X.prog X.w) X.A X.env X.xe) (hc : XT X W c tc gc) (hb : XSs X W body tb gb) : XS X W (.While c body [] pos) (tWhile tc tb) (gWhile gc gb) :=
  ⟨ps_while hp hc.pe hb.pe, impS_while hc.im hb.im⟩
def oAddI : OD := fun x y M => match x, y with
  | .int i, .int j => .ok (.int (i + j)) M
  | _, _ => .bad
theorem opd_addI {K : PySem.W.Frag} : OpD K (ipI fun i j => i + j) oAddI := by
  intro H I as M P x y d e Wf Q w rx ry s
  unfold oAddI at s
  split at s
  · cases rx
    cases ry
    exact ⟨_, _, rfl, rfl, s.now w (.int _)⟩
  · exact s.elim
/-- name op= e -/
def gAug (i : Nat) (o : OD) (ge : GE) : GS := fun δ M => match δ[i]? with
  | some (some x) => (ge δ M).toS δ fun y M1 => (o x y M1).toS δ fun z M2 => .nx (δ.set i (some z)) M2
  | _ => .bad
theorem xs_aug (i : Nat) {x : Str} {op : Operator} {pos' : Pos} {ti : TIp} {o : OD} (hN : X.N.Nodup) (ho : PIp X op ti) (hd : OpD X.K ti o) (he : XE X W e te ge) (hi : X.N[i]? = some x := by rfl) (hx : Loc X.env.scope x := by first | exact .inl rfl | exact .inr rfl)
    (hf : X.fn x = true ∨ X.env.scope.names.lookup x = some .local := by first | exact .inl rfl | exact .inr rfl | assumption) : XS X W (.AugAssign (.Name x pos') op e pos) (tAug i te ti) (gAug i o ge) := by
  refine ⟨ps_aug hN hi hx he.pe ho hf, fun σ H δ I as M P E w en s => ?_⟩
  unfold gAug at s
  split at s
  · rename_i d hd1
    obtain ⟨v, h1, h2⟩ := en.at_ i d hd1
    refine ⟨v, h1, he.im σ H δ I as M P _ w en (SatS.bindE s en fun y M1 u H1 I1 as1 _ g1 w1 r1 s1 => ?_)⟩
    refine hd H1 I1 as1 M1 P v u d y _ _ w1 (h2.mono g1) r1 (SatS.bindE s1 (en.mono g1) fun z M2 u2 H2 I2 as2 _ g2 w2 r2 s2 => ?_)
    exact s2 _ H2 I2 as2 (Gr.refl _ _) w2 ((en.mono (g1.trans g2)).set r2 i)
  · exact s.elim
end
def srtI (ns : List Int) : List Int := ns.mergeSort (fun a b => decide (a ≤ b))
theorem srtI_perm (ns : List Int) : (srtI ns).Perm ns := List.mergeSort_perm ..
theorem srtI_sorted (ns : List Int) : (srtI ns).Pairwise (· ≤ ·) := by
  have h := List.pairwise_mergeSort (le := fun (a b : Int) => decide (a ≤ b)) (fun a b c h1 h2 => by simp at *; omega) (fun a b => by simp; omega) ns
  exact h.imp fun h => by simpa using h
def oSorted : OC := fun ds M => match ds with
  | [x] => match listOf M x with
    | some xs => match intsD xs with
      | some ns => .ok (.lst ((srtI ns).map D.int)) M
      | none => .bad
    | none => .bad
  | _ => .bad
theorem opc_sorted {K : PySem.W.Frag} : OpC K (rSortedI K) oSorted := by
  intro H I as M P xs ds Wf Q w r s
  unfold oSorted at s
  split at s
  · obtain ⟨v, rfl, rv⟩ := r.one_inv
    split at s
    · rename_i ys hy
      split at s
      · rename_i ns hn
        obtain ⟨a, vs, rfl, h1, r1⟩ := rv.list w hy
        have e := r1.intsD hn
        subst e
        refine ⟨a, ns, rfl, h1, fun ns' p hp hs hf => ?_⟩
        have e : ns' = srtI ns := List.Perm.eq_of_pairwise (le := (· ≤ ·)) (fun a b _ _ h1 h2 => Int.le_antisymm h1 h2) hs (srtI_sorted ns) (hp.trans (srtI_perm ns).symm)
        subst e
        exact s.newLst w (Reps.ints _ rfl) hf
      · exact s.elim
    · exact s.elim
  · exact s.elim
end KM
set_option Elab.async false
set_option linter.all false
set_option maxRecDepth 100000
set_option maxHeartbeats 2000000
namespace KM
open PySem L2 PySem.Spec PyProof.Rows
/-! ### raise -/
theorem pmk_own0 {X : Cx} {C : Addr} {bmB : List Value} {B newId initId : String} {x : Str} {p pos : Pos} (F : ExcBaseFacts B newId initId bmB) (q : PySem.W.excIn X.K C bmB newId = true) (gC : X.mg x = some (.ref C)) (kC : PySem.W.keepIn X.K (.ref C) = true) (r : Raises X (.ref C)) (hg : Gl X x)
    (hdb : (x == ("__debug__" : Str)) = false := by decide) : PMk X (.Call (.Name x p) [] [] pos) (fun _ H Q => Q (.ref C) none H) := by
  intro pins s σ H Q I h
  refine wpAny_Call_Name_kw (ld_glob I hg gC ?_ hdb)
  refine PySem.W.callWith_K0 I.kIn kC ?_
  show wpAny _ _ (call (.ref C) []) _ _ _
  obtain ⟨bm, N, nm, qn, bs, hdct, sn, sub, ab, col, dd, k0, k1, k2, k3, k5, mN, hC, hN, hni, T⟩ := exc_obj I.kIn q
  refine wpAny_call_exc_subT F T hC hN hni (fun h' e hm => ?_) (Nat.zero_le _)
  exact mk_of I hm r h (I.hok.gone hm.new)
abbrev VB : List Value := [.type "ValueError", .type "Exception", .type "BaseException", .type "object"]
/-- a class of errors of the program's own -/
structure ExcAt (K : PySem.W.Frag) (mg : Str → Option Value) (x : Str) : Prop where
  ex : ∃ C : Addr, mg x = some (.ref C) ∧ PySem.W.excIn K C VB "ValueError.__new__" = true ∧ PySem.W.keepIn K (.ref C) = true ∧ PySem.W.subIn K (.ref C) (.type "BaseException") = some true ∧ PySem.W.typeIn K (.ref C) = some (.type "type")
section
variable {X : Cx} {W : WX}
theorem xs_raise {x : Str} {C : Addr} {p pos pos' : Pos} (hc : X.calm = true) (tk : Takes X W) (gC : X.mg x = some (.ref C)) (q : PySem.W.excIn X.K C VB "ValueError.__new__" = true) (kC : PySem.W.keepIn X.K (.ref C) = true)
    (b : PySem.W.subIn X.K (.ref C) (.type "BaseException") = some true) (t : PySem.W.typeIn X.K (.ref C) = some (.type "type")) (hg : Gl X x := by rfl) (hdb : (x == ("__debug__" : Str)) = false := by decide) :
    XS X W (.Raise (some (.Call (.Name x p) [] [] pos)) none pos') (fun _ σ H => W (.ref C) none σ H) (gRaise x) := by
  refine ⟨ps_raise hc tk (pmk_own0 PySem.F.excBase_ValueError q gC kC (raises_own b t) hg hdb), fun σ H δ I as M P E w en s => ?_⟩
  exact s σ H I as (Gr.refl _ _) w en _ gC
end
/-! ### try -/
def exSub (c n : Str) : Bool := c == n || n == ("MissError" : Str)
def noEx : SR → SR
  | .ex _ _ _ => .bad
  | r => r
def handL : List (Str × GS) → Str → GS
  | [], c => fun δ M => .ex c δ M
  | (n, g) :: r, c => fun δ M => if exSub c n = true then noEx (g δ M) else handL r c δ M
def gTry (cs : List Str) (hs : List (Str × GS)) (gb : GS) : GS := fun δ M => match gb δ M with
  | .ex c δ1 M1 => if cs.contains c = true then handL hs c δ1 M1 else .bad
  | r => r
inductive XHs (X : Cx) (cs : List Str) : List ExceptHandler → List (Value × (Addr → Value → Option Addr → TS)) → List (Str × GS) → Prop
  | nil : XHs X cs [] [] []
  | cons {x : Str} {c : Value} {ts : TS} {g : GS} {b₀ : Stmt} {suite : List Stmt} {np pos' : Pos} {hds : List ExceptHandler} {l : List (Value × (Addr → Value → Option Addr → TS))} {hs : List (Str × GS)} (hc : Names X x c)
      (hsub : ∀ d ∈ cs, ∀ cls, X.mg d = some cls → PySem.W.exmOne X.K cls c = some (exSub d x))
      (hsu : ∀ (a : Addr) (oe : Obj) (pn : List (Addr × Obj)), XSs (X.suite a ((a, oe) :: pn)) W0 (b₀ :: suite) ts g) (r : XHs X cs hds l hs) :
      XHs X cs (.ExceptHandler (some (.Name x np)) none (b₀ :: suite) pos' :: hds) ((c, fun _ _ _ => ts) :: l) ((x, g) :: hs)
theorem XHs.ok {X : Cx} {cs : List Str} {hds : List ExceptHandler} {l : List (Value × (Addr → Value → Option Addr → TS))} {hs : List (Str × GS)} (h : XHs X cs hds l hs) : HdsOk X hds l := by
  induction h with
  | nil => exact .nil
  | cons hc hsub hsu r ih => exact .cons hc (fun a oe cls d pn _ _ => (hsu a oe pn).pe) ih
theorem XHs.im {X : Cx} {W : WX} {cs : List Str} {hds : List ExceptHandler} {l : List (Value × (Addr → Value → Option Addr → TS))} {hs : List (Str × GS)} (h : XHs X cs hds l hs) {c : Str} (hcs : c ∈ cs) {σ : L2.St} {H I P : Hp} {δ : Ctx} {as : List Addr} {M : List MO} {E : Ends}
    (w : Wr X.K H I as M P) (en : Envr X.K I as σ δ) (s : SatS X.K (lowW X.mg W) I as P E (handL hs c δ M)) (cls : Value) (hm : X.mg c = some cls) : wMany X.K W E l cls none σ H := by
  induction h with
  | nil => exact s σ H I as (Gr.refl _ _) w en cls hm
  | @cons x cv ts g b₀ suite np pos' hds l hs hc hsub hsu r ih =>
    refine ⟨exSub c x, hsub c hcs cls hm, fun hb a hn => ?_, fun hb => ?_⟩
    · unfold handL at s
      simp only [hb, if_true] at s
      refine (hsu 0 { cls := .none, data := .fields #[] } []).im σ H δ I as M P E w en ?_
      cases e : g δ M with
      | ex c2 d2 M2 => rw [e] at s; exact s.elim
      | _ => rw [e] at s; exact s
    · unfold handL at s
      rw [hb, if_neg Bool.false_ne_true] at s
      exact ih s
section
variable {X : Cx} {W : WX}
theorem takes_dummy (hs : X.stack = X.env :: X.outer) (hf : X.env.frame = some X.env.locals) (W' : WX) : ∃ (pn : List (Addr × Obj)) (xe : Value → Shared → Prop), Takes (X.tr pn xe) W' ∧ PassesOwn (model X.prog X.w) X.A X.env xe := by
  refine ⟨[], fun e s₁ => wpAny (model X.prog X.w) X.A (noteFrame e X.env) (fun _ s₂ => wpAny (model X.prog X.w) X.A (setFlight e none) (fun _ _ => True) (fun _ _ => True) s₂) (fun _ _ => True) s₁, fun u s' xx => ?_, PassesOwn.looking⟩
  obtain ⟨a, B, sI, pins', σ', H', cls, d, rfl, J', nb, up, sky, na, os, ag, w⟩ := xx
  have ok := J'.ok
  have hfr : X.A.frames = some (X.env :: X.outer) := by
    have := ok.frames
    rw [← hs]
    exact this
  have sky' : Sky B (X.env :: X.outer) a (Zc cls d) X.env.locals s'.heap := by rw [← hs]; exact sky
  show wpAny (model X.prog X.w) X.A (noteFrame (.ref a) X.env) _ _ _
  exact Sky.land Zc.steady hfr hf sky' fun h3 fl3 up3 => True.intro
theorem xs_try {cs : List Str} {hs : List (Str × GS)} {body : List Stmt} {h₀ : ExceptHandler} {hds : List ExceptHandler} {l : List (Value × (Addr → Value → Option Addr → TS))} {pos : Pos} {tb : WX → TS} {gb : GS}
    (hs1 : X.stack = X.env :: X.outer) (hf : X.env.frame = some X.env.locals) (tk : Takes X W)
    (hb : ∀ (W' : WX) (pn : List (Addr × Obj)) (xe : Value → Shared → Prop), Takes (X.tr pn xe) W' → PassesOwn (model X.prog X.w) X.A X.env xe → XSs (X.tr pn xe) W' body (tb W') gb)
    (hh : XHs X cs (h₀ :: hds) l hs) : XS X W (.Try body (h₀ :: hds) [] [] pos) (fun D σ H => tb (wMany X.K W D l) D σ H) (gTry cs hs gb) := by
  refine ⟨ps_try_many hs1 hf tk (fun W' pn xe tk' po => (hb W' pn xe tk' po).pe) hh.ok, fun σ H δ I as M P E w en s => ?_⟩
  obtain ⟨pn, xe, tk', po'⟩ := takes_dummy hs1 hf (wMany X.K W E l)
  refine (hb (wMany X.K W E l) pn xe tk' po').im σ H δ I as M P E w en ?_
  unfold gTry at s
  cases e : gb δ M with
  | bad => rw [e] at s; exact s
  | nx δ1 M1 => rw [e] at s; exact s
  | rt d M1 => rw [e] at s; exact s
  | bk δ1 M1 => rw [e] at s; exact s
  | ct δ1 M1 => rw [e] at s; exact s
  | ex c δ1 M1 =>
    rw [e] at s
    simp only at s
    split at s
    · rename_i hc
      have hc' : c ∈ cs := by simpa using hc
      exact fun σ' H' I' as' g' w' en' cls hm => hh.im hc' w' en' (SatS.gr g' s) cls hm
    · exact s.elim
end
/-- what an except clause may be asked -/
structure ExcH (K : PySem.W.Frag) (mg : Str → Option Value) (cs : List Str) (n : Str) : Prop where
  ex : ∃ v : Value, mg n = some v ∧ ∀ d ∈ cs, ∀ cls, mg d = some cls → PySem.W.exmOne K cls v = some (exSub d n)
/-! ### a def that a local name holds -/
def gCallL (i : Nat) (tb : List (Str × OC)) (ga : GA) : GE := fun δ M => match δ[i]? with
  | some (some (.fn x)) => match tb.lookup x with
    | some m => (ga δ M).bind fun ds M1 => m ds M1
    | none => .bad
  | _ => .bad
def tCallF (P : Program) (w : World) (K : PySem.W.Frag) (mg : Str → Option Value) (base : Heap) (W : WX) (k i : Nat) (t : TA) : TE := fun σ H Q => ∃ (f : Addr) (fd : FuncData) (ps : List Str) (sp : Sp), σ[i]? = some (some (.ref f)) ∧ FnOk P w K mg base (L2.CX P w) k f fd ps sp ∧ PySem.W.keepIn K (.ref f) = true ∧ Binds K fd ps [] ∧
  t σ H fun vs H1 => sp vs H1 Q (WE W σ)
section
variable {X : Cx} {W : WX} {e : Expr} {es : List Expr} {pos p : Pos} {t : TA} {g : GA}
theorem Callee.mono {P : Program} {w : World} {K : PySem.W.Frag} {mg : Str → Option Value} {base : Heap} {x : Str} {j k n : Nat} {m : OC} (C : Callee P w K mg base x j n m) (h : j ≤ k) : Callee P w K mg base x k n m := by
  obtain ⟨f, fd, ps, F, r⟩ := C.ex
  exact ⟨f, fd, ps, F.mono h, r⟩
theorem lookup_mem {x : Str} {m : OC} : ∀ {tb : List (Str × OC)}, tb.lookup x = some m → (x, m) ∈ tb
  | [], h => by simp at h
  | (y, n) :: tb, h => by
    rw [List.lookup_cons] at h
    split at h
    · rename_i e
      have e1 := eq_of_beq e
      subst e1
      cases h
      exact List.mem_cons_self ..
    · exact List.mem_cons_of_mem _ (lookup_mem h)
theorem xe_callF (i : Nat) {y : Str} {k n : Nat} {tb : List (Str × OC)} (hC : ∀ p ∈ tb, Callee X.prog X.w X.K X.mg X.base p.1 k n p.2) (hr : Room k X.A) (tk : Takes X W) (ha : XA X W (e :: es) t g)
    (hl : ∀ δ M ds M', g δ M = .ok ds M' → ds.length = n := by first | exact fun _ _ _ _ h => gCons_len (fun _ _ _ _ h => gNil_len h) h | exact fun _ _ _ _ h => gCons_len (fun _ _ _ _ h => gCons_len (fun _ _ _ _ h => gNil_len h) h) h | exact fun _ _ _ _ h => gCons_len (fun _ _ _ _ h => gCons_len (fun _ _ _ _ h => gCons_len (fun _ _ _ _ h => gNil_len h) h) h) h)
    (hN : X.N[i]? = some y := by rfl) (hv : Vis X.env.scope y := by first | exact Or.inl rfl | exact Or.inr (Or.inl rfl) | exact Or.inr (Or.inr rfl)) (hdb : (y == ("__debug__" : Str)) = false := by decide) (hcd : (y == ("__classdict__" : Str)) = false := by decide)
    (he : starEach (e :: es) X.env = (false, eval e X.env) :: starEach es X.env := by rfl) (hpl : (backTo pos (starEach es X.env)).any (·.1) = false := by rfl) :
    XE X W (.Call (.Name y p) (e :: es) [] pos) (tCallF X.prog X.w X.K X.mg X.base W k i t) (gCallL i tb g) := by
  refine ⟨⟨fun pins s σ H Q I h => ?_⟩, fun σ H δ I as M P Q w en s => ?_⟩
  · obtain ⟨f, fd, ps, sp, hs, F, hk, hb, ht⟩ := h
    refine wpAny_Call_Name_kw (thn ((pe_var (pos := p) hN hv hdb hcd).run pins s σ H (fun v H1 => v = .ref f ∧ H1 = H) I ⟨.ref f, hs, rfl, rfl⟩) fun u s1 ⟨v, H1, I1, r1, q1⟩ => ?_)
    obtain ⟨rfl, rfl⟩ := q1
    cases r1
    refine PySem.W.callWith_K (h₀ := X.base) I.ok.mod.kin hk (thn (ha.pe.run pos pins s1 σ _ _ I1 ht) fun us s2 ⟨vs, H2, I2, r, q⟩ => ⟨I2.kIn, ?_⟩) he hpl
    exact run_fnS F hr hb (passAt tk σ) I2 r q
  · unfold gCallL at s
    split at s
    · rename_i x hx
      split at s
      · rename_i m hm
        obtain ⟨v, hv1, rv⟩ := en.at_ i _ hx
        cases rv with
        | @fn a _ hn =>
          obtain ⟨f, fd, ps, F, h1, h2, h3, h4⟩ := (hC (x, m) (lookup_mem hm)).ex
          have ef : f = a := by
            rw [h4] at hn
            cases hn
            rfl
          subst ef
          refine ⟨f, fd, ps, _, hv1, F, h2, h3, ?_⟩
          refine ha.im σ H δ I as M P _ w en (Sat.bind s fun xs M1 vs H1 I1 as1 e1 g1 w1 r1 s1 => ?_)
          exact ⟨by rw [r1.len]; exact hl _ _ _ _ e1, xs, I1, as1, M1, P, w1, r1, s1⟩
      · exact s.elim
    · exact s.elim
/-- a def's name, as a value -/
theorem xe_fn {x : Str} {f : Addr} (h1 : X.mg x = some (.ref f)) (h4 : PySem.W.nsIn X.K mainGlobals x = some (some (.ref f))) (hg : Gl X x := by rfl) (hd : (x == ("__debug__" : Str)) = false := by decide) : XE X W (.Name x pos) (tC (.ref f)) (gC (.fn x)) :=
  xe_glob (v := .ref f) h1 rfl (fun _ _ => .fn h4) hg hd
end
/-! ### isinstance(x, (T, U)) -/
def oIsi2 (T U : String) : OU := fun x M => match tyM M x with
  | some a => if tyOk T = true ∧ tyOk U = true then .ok (.bl (isiB a T || isiB a U)) M else .bad
  | none => .bad
section
variable {X : Cx} {W : WX} {e : Expr} {pos p p2 p3 p4 : Pos} {te : TE} {ge : GE} {kk : Nat}
theorem xe_isi2 {T U : String} {y z : Str} (hm : X.mg "isinstance" = none) (hm2 : X.mg y = none) (hv2 : bootBuiltins y = some (.type T)) (hm3 : X.mg z = none) (hv3 : bootBuiltins z = some (.type U)) (he : XE X W e te ge) (hg : Gl X "isinstance" := by rfl)
    (hg2 : Gl X y := by rfl) (hn2 : y ≠ "__name__" := by decide) (hd2 : (y == ("__debug__" : Str)) = false := by decide) (hg3 : Gl X z := by rfl) (hn3 : z ≠ "__name__" := by decide) (hd3 : (z == ("__debug__" : Str)) = false := by decide)
    (h1 : starEach [e, .Tuple [.Name y p2, .Name z p3] kk p4] X.env = (false, eval e X.env) :: starEach [.Tuple [.Name y p2, .Name z p3] kk p4] X.env := by rfl)
    (h2 : starEach [.Tuple [.Name y p2, .Name z p3] kk p4] X.env = (false, eval (.Tuple [.Name y p2, .Name z p3] kk p4) X.env) :: starEach [] X.env := by rfl)
    (h3 : starEach [.Name y p2, .Name z p3] X.env = (false, eval (.Name y p2) X.env) :: starEach [.Name z p3] X.env := by rfl) (h4 : starEach [.Name z p3] X.env = (false, eval (.Name z p3) X.env) :: starEach [] X.env := by rfl)
    (hpl : (backTo pos (starEach [.Tuple [.Name y p2, .Name z p3] kk p4] X.env)).any (·.1) = false := by rfl) :
    XE X W (.Call (.Name "isinstance" p) [e, .Tuple [.Name y p2, .Name z p3] kk p4] [] pos) (tCB (rIsiT X.K) (tCons te (tCons (tTup (tCons (tC (.ty T)) (tCons (tC (.ty U)) tNil))) tNil))) (gUn (oIsi2 T U) ge) := by
  refine ⟨pe_callB call_isiT hg hm PyProof.Rows.boot_isinstance (pa_cons he.pe (pa_cons (pe_tup (pa_cons (pe_bltn hg2 hm2 hv2 rfl hn2 hd2) (pa_cons (pe_bltn hg3 hm3 hv3 rfl hn3 hd3) pa_nil h4) h3)) pa_nil h2) h1) (by decide) (by decide) h1 hpl, fun σ H δ I as M P Q w en s => ?_⟩
  refine he.im σ H δ I as M P _ w en (Sat.bind s fun d M1 v H1 I1 as1 _ g1 w1 r1 s1 => ?_)
  unfold oIsi2 at s1
  split at s1
  · rename_i a ha
    split at s1
    · rename_i hT
      refine ⟨by show 2 ≤ sizeLine; decide, fun tp htp => ?_⟩
      obtain ⟨w2, g2⟩ := w1.newI htp (.tup [.ty T, .ty U])
      obtain ⟨t1, t2⟩ := (r1.mono g2).ty w2 ha
      have hk1 := List.all_eq_true.mp hT.1 a t2
      have hk2 := List.all_eq_true.mp hT.2 a t2
      refine ⟨v, tp, [.ty T, .ty U], .type a, [.type T, .type U], isiB a T || isiB a U, rfl, upd_same, .cons (.ty T) (.cons (.ty U) .nil), t1, ?_, s1 _ _ _ _ g2 w2 (.bl _)⟩
      refine kitAny_cons (kit_ty (by simpa using hk1)) (fun e1 => ?_) (fun e1 => by rw [e1]; rfl)
      refine kitAny_cons (kit_ty (by simpa using hk2)) (fun e2 => ?_) (fun e2 => by rw [e1, e2]; rfl)
      rw [e1, e2]
      exact kitAny_nil
    · exact s1.elim
  · exact s1.elim
/-! ### a dict that is only carried about -/
def gDct2 (ga gb : GE) : GE := fun δ M => match ga δ M with
  | .ok _ M1 => match gb δ M1 with
    | .ok _ M2 => .ok .dct M2
    | _ => .bad
  | _ => .bad
theorem xe_dct2 {a b : Expr} {ta tb : TE} {ga gb : GE} {s1 : Str} {i2 : Int} {j1 j2} (ha : XE X W a ta ga) (hb : XE X W b tb gb) : XE X W (.Dict [some (.Constant (.str s1) j1 p), some (.Constant (.int i2) j2 p2)] [a, b] pos) (tDisp [(tC (.str s1), ta), (tC (.int i2), tb)]) (gDct2 ga gb) := by
  refine ⟨pe_disp (pps_cons pe_str ha.pe (pps_cons pe_int hb.pe pps_nil)) rfl rfl (by simp) (by show 2 ≤ 15; omega), fun σ H δ I as M P Q w en s => ?_⟩
  intro q hq
  obtain ⟨f1, f2, f3⟩ := w.fresh hq
  have w0 := w.newP hq (.dK [])
  unfold gDct2 at s
  cases e1 : ga δ M with
  | bad => rw [e1] at s; exact s.elim
  | ex c M1 => rw [e1] at s; exact s.elim
  | ok x1 M1 =>
    simp only [e1] at s
    cases e2 : gb δ M1 with
    | bad => rw [e2] at s; exact s.elim
    | ex c M2 => rw [e2] at s; exact s.elim
    | ok x2 M2 =>
      simp only [e2] at s
      refine ha.im σ _ δ I as M _ _ w0 en ?_
      rw [e1]
      intro y H1 I1 as1 g1 w1 r1
      refine hb.im σ H1 δ I1 as1 M1 _ _ w1 (en.mono g1) ?_
      rw [e2]
      intro y2 H2 I2 as2 g2 w2 r2
      refine ⟨(w2.prv q _ upd_same).1, [(.inr s1, y), (.inl i2, y2)], rfl, by show 2 ≤ 15; omega, ?_⟩
      have w3 := w2.putP upd_same (.dK (mergeK [] [(.inr s1, y), (.inl i2, y2)]))
      rw [upd_upd] at w3
      obtain ⟨w4, g4⟩ := w3.giveI f2
      exact s _ _ _ _ (g1.trans (g2.trans g4)) w4 (.dct upd_same)
end
/-! ### () * k -/
theorem tuple_mulE (l : Addr) (n : Nat) (dd : Option Addr) (sl : Array (Option Value)) (x : Int) (u : Tok) (c0 : (decide (x < -(2 ^ 63)) || decide (x ≥ 2 ^ 63)) = false) :
    Meets (Builtin.«tuple.__mul__» ⟨[.ref l, .int x u], []⟩) (fun _ R s => s.heap.get? l = some { cls := .type "tuple", dict := dd, data := .seq #[] n, slots := sl } ∧
      R (.ok (.ret (Value.ref l))) { s with heap := s.heap, toks := s.toks }) :=
  .of_wp fun prog w A R s h => by
    obtain ⟨hp, g, d, tk, os⟩ := s
    obtain ⟨hl, h⟩ := h
    have f1 := AutoSeq1.idx_int
    wp_walk using wpAny_loadPart' hl
    repeat (first
      | (refine wpAny_ite_false (decide_eq_false (by rw [c0]; exact Bool.false_ne_true)) ?_; wp_walk using wpAny_loadPart' hl))
    exact ⟨_, rfl, h⟩
def rRepE (K : PySem.W.Frag) : R2 := fun x y H Q => ∃ l k, x = .ref l ∧ y = .int k ∧ SqT K H l [] ∧ 0 ≤ k ∧ k ≤ 1000 ∧ Q (.ref l) H
theorem op_repE {X : Cx} : OpR X (binaryOp .Mult) (rRepE X.K) := by
  intro pins s σ H x y v u Q I rx ry h
  obtain ⟨l, k, rfl, rfl, hT, k0, k1, q⟩ := h
  cases rx
  obtain ⟨t, rfl⟩ := ry
  obtain ⟨its, r, ⟨⟨cls, dd, data, sl⟩, ho, hc, n, hd⟩, hs⟩ := I.tuple hT
  simp only at hc hd
  subst hc hd
  cases r
  have c0 : (decide (k < -(2 ^ 63)) || decide (k ≥ 2 ^ 63)) = false := by
    rw [decide_eq_false (by omega), decide_eq_false (by omega)] <;> rfl
  refine wpAny_binaryOp_repeat_ref (T := "tuple") (U := "int") (by decide) ⟨_, ho, rfl⟩ (fun s' => typeIs_int s' k t) noFill_tuple_mul F.fills_int_mul F.slot_int_rmul repeat_tuple F.slot_int_index.lookup
    (call_meets F.slot_int_rmul (typeIs_int s k t) F.entry_int_rmul (F.args_int_rmul_2 _ _) (int_rmul_tuple k t l [].toArray n dd sl)
      ⟨ho, rfl, ⟨_, ho, rfl⟩, call_meets F.slot_tuple_mul ⟨_, ho, rfl⟩ F.entry_tuple_mul (F.args_tuple_mul_2 _ _) (tuple_mulE l n dd sl k t c0) ⟨ho, ?_⟩⟩)
  exact ⟨.ref l, H, I, rfl, q⟩
def rMulE (K : PySem.W.Frag) : R2 := fun x y H Q => rMulA K x y H Q ∨ rRepE K x y H Q
theorem op_mulE {X : Cx} : OpR X (binaryOp .Mult) (rMulE X.K) := op_mulA.or op_repE
noncomputable def oMulE : OD := fun x y M => match x, y with
  | .tup [], .int k => if 0 ≤ k ∧ k ≤ 1000 then .ok (.tup []) M else .bad
  | x, y => oMul x y M
theorem opd_mulE {K : PySem.W.Frag} : OpD K (rMulE K) oMulE := by
  intro H I as M P x y d e Wf Q w rx ry s
  unfold oMulE at s
  split at s
  · split at s
    · rename_i hc
      cases ry
      have rx' := rx
      obtain ⟨a, vs, rfl, h1, r1⟩ := rx.tupl w rfl
      cases r1
      exact .inr ⟨a, _, rfl, rfl, h1, hc.1, hc.2, s.now w rx'⟩
    · exact s.elim
  · exact .inl (opd_mul H I as M P x y d e Wf Q w rx ry s)
/-! ### defs that call themselves -/
section
variable {P : Program} {w : World} {K : PySem.W.Frag} {mg : Str → Option Value} {base : Heap}
theorem fn_bad {f : Addr} {fd : FuncData} {ps : List Str} {k n : Nat} (hn : n = ps.length) : FnOk P w K mg base (L2.CX P w) k f fd ps (spM K mg n fun _ _ => .bad) :=
  ⟨fun vs H Q E h => h.1.trans hn, fun A outer s H args us vs Q E _ _ _ _ h => by
    obtain ⟨_, ds, I, as, M, P', wr, r, sat⟩ := h
    exact sat.elim⟩
end
/-! ### the facts of the classes -/
theorem excAt_mk {K : PySem.W.Frag} {mg : Str → Option Value} {h : Heap} (X : K.In h) (G : h.Ns mainGlobals mg) {x : Str} {C : Addr} (a : PySem.W.nsIn K mainGlobals x = some (some (.ref C))) (q : PySem.W.excIn K C VB "ValueError.__new__" = true)
    (k : PySem.W.keepIn K (.ref C) = true) (b : PySem.W.subIn K (.ref C) (.type "BaseException") = some true) (t : PySem.W.typeIn K (.ref C) = some (.type "type")) : ExcAt K mg x := ⟨C, PySem.W.mg_of X G a, q, k, b, t⟩
inductive ExcL (K : PySem.W.Frag) (mg : Str → Option Value) (D : Addr) (n : Str) : List Str → Prop
  | nil : ExcL K mg D n []
  | cons {d : Str} {C : Addr} {cs : List Str} (a : mg d = some (.ref C)) (b : PySem.W.exmOne K (.ref C) (.ref D) = some (exSub d n)) (r : ExcL K mg D n cs) : ExcL K mg D n (d :: cs)
theorem ExcL.at {K : PySem.W.Frag} {mg : Str → Option Value} {D : Addr} {n : Str} {cs : List Str} (h : ExcL K mg D n cs) : ∀ d ∈ cs, ∀ cls, mg d = some cls → PySem.W.exmOne K cls (.ref D) = some (exSub d n) := by
  induction h with
  | nil => intro d hd; cases hd
  | cons a b r ih =>
    intro d hd cls hm
    rcases List.mem_cons.mp hd with e | e
    · subst e
      rw [a] at hm
      cases hm
      exact b
    · exact ih d e cls hm
theorem excH_mk {K : PySem.W.Frag} {mg : Str → Option Value} {n : Str} {D : Addr} {cs : List Str} (a : mg n = some (.ref D)) (r : ExcL K mg D n cs) : ExcH K mg cs n := ⟨.ref D, a, r.at⟩
end KM
set_option Elab.async false
set_option linter.all false
set_option maxRecDepth 100000
set_option maxHeartbeats 2000000
namespace KM
open PySem L2 PySem.Spec PyProof.Rows
section
variable {X : Cx} {W : WX} {e : Expr} {pos p p2 p3 p4 : Pos} {te : TE} {ge : GE} {kk : Nat}
theorem ke_isi2 (K : PySem.W.Frag) {T U : String} {y z : Str} (hm : X.mg "isinstance" = none) (hm2 : X.mg y = none) (hv2 : bootBuiltins y = some (.type T)) (hm3 : X.mg z = none) (hv3 : bootBuiltins z = some (.type U)) (he : XE X W e te ge) (hK : X.K = K := by rfl) (hg : Gl X "isinstance" := by rfl)
    (hg2 : Gl X y := by rfl) (hn2 : y ≠ "__name__" := by decide) (hd2 : (y == ("__debug__" : Str)) = false := by decide) (hg3 : Gl X z := by rfl) (hn3 : z ≠ "__name__" := by decide) (hd3 : (z == ("__debug__" : Str)) = false := by decide)
    (h1 : starEach [e, .Tuple [.Name y p2, .Name z p3] kk p4] X.env = (false, eval e X.env) :: starEach [.Tuple [.Name y p2, .Name z p3] kk p4] X.env := by rfl)
    (h2 : starEach [.Tuple [.Name y p2, .Name z p3] kk p4] X.env = (false, eval (.Tuple [.Name y p2, .Name z p3] kk p4) X.env) :: starEach [] X.env := by rfl)
    (h3 : starEach [.Name y p2, .Name z p3] X.env = (false, eval (.Name y p2) X.env) :: starEach [.Name z p3] X.env := by rfl) (h4 : starEach [.Name z p3] X.env = (false, eval (.Name z p3) X.env) :: starEach [] X.env := by rfl)
    (hpl : (backTo pos (starEach [.Tuple [.Name y p2, .Name z p3] kk p4] X.env)).any (·.1) = false := by rfl) :
    XE X W (.Call (.Name "isinstance" p) [e, .Tuple [.Name y p2, .Name z p3] kk p4] [] pos) (tCB (rIsiT K) (tCons te (tCons (tTup (tCons (tC (.ty T)) (tCons (tC (.ty U)) tNil))) tNil))) (gUn (oIsi2 T U) ge) := by
  subst hK; exact xe_isi2 hm hm2 hv2 hm3 hv3 he hg hg2 hn2 hd2 hg3 hn3 hd3 h1 h2 h3 h4 hpl
end
section
variable {X : Cx} {W : WX} {e : Expr} {es : List Expr} {pos p : Pos} {t : TA} {g : GA}
theorem ke_callF (P : Program) (w : World) (K : PySem.W.Frag) (mg : Str → Option Value) (base : Heap) (i : Nat) {y : Str} {k n : Nat} {tb : List (Str × OC)} (hC : ∀ p ∈ tb, Callee P w K mg base p.1 k n p.2) (hr : Room k X.A) (tk : Takes X W) (ha : XA X W (e :: es) t g)
    (hP : X.prog = P := by rfl) (hw : X.w = w := by rfl) (hK : X.K = K := by rfl) (hmg : X.mg = mg := by rfl) (hba : X.base = base := by rfl)
    (hl : ∀ δ M ds M', g δ M = .ok ds M' → ds.length = n := by first | exact fun _ _ _ _ h => gCons_len (fun _ _ _ _ h => gNil_len h) h | exact fun _ _ _ _ h => gCons_len (fun _ _ _ _ h => gCons_len (fun _ _ _ _ h => gNil_len h) h) h | exact fun _ _ _ _ h => gCons_len (fun _ _ _ _ h => gCons_len (fun _ _ _ _ h => gCons_len (fun _ _ _ _ h => gNil_len h) h) h) h)
    (hN : X.N[i]? = some y := by rfl) (hv : Vis X.env.scope y := by first | exact Or.inl rfl | exact Or.inr (Or.inl rfl) | exact Or.inr (Or.inr rfl)) (hdb : (y == ("__debug__" : Str)) = false := by decide) (hcd : (y == ("__classdict__" : Str)) = false := by decide)
    (he : starEach (e :: es) X.env = (false, eval e X.env) :: starEach es X.env := by rfl) (hpl : (backTo pos (starEach es X.env)).any (·.1) = false := by rfl) :
    XE X W (.Call (.Name y p) (e :: es) [] pos) (tCallF P w K mg base W k i t) (gCallL i tb g) := by
  subst hP hw hK hmg hba; exact xe_callF i hC hr tk ha hl hN hv hdb hcd he hpl
end
end KM
namespace KM
open PySem L2 PySem.Spec PyProof.Rows
/-- what an except clause makes of a class, by the facts of both -/
theorem exm_two {K : PySem.W.Frag} {h : Heap} (X : K.In h) {C D : Addr} {b : Bool} (h1 : PySem.W.subIn K (.ref D) (.type "BaseException") = some true) (h2 : PySem.W.isClsIn K D = true) (h3 : PySem.W.typeIn K (.ref D) = some (.type "type")) (h4 : PySem.W.subIn K (.ref C) (.ref D) = some b) : PySem.W.exmOne K (.ref C) (.ref D) = some b := by
  unfold PySem.W.exmOne PySem.W.kitCls
  unfold PySem.W.isClsIn at h2
  simp [h1, h2, h3, h4]
end KM
set_option Elab.async false
set_option linter.all false
set_option maxRecDepth 100000
set_option maxHeartbeats 2000000
/-! max of a tuple of ints; zip -/
namespace SkE
open PySem PySem.Spec PyProof.Rows L2
section
variable {prog : Program} {w : World} {A : Around} {E : Value → Shared → Prop} {s : Shared} {l : Addr} {its : List Value} {ns : List Int}
theorem max_intTuple {xs : Array (Int × Tok)} {Q : Value → Shared → Prop} (hh : A.handled = none) (hl : s.heap.IsTuple l (intItems xs)) (hne : 0 < xs.size)
    (h : ∀ v h' tk, (intItems xs)[argBest (fun i j => decide (numAt xs i > numAt xs j)) (xs.size - 1)]? = some v → (∀ b o, s.heap.get? b = some o → h'.get? b = some o) → Q v { s with heap := h', toks := tk }) :
    wpAny (model prog w) A (call (.builtin "max") [.ref l]) Q E s := by
  have hlt : l < s.heap.objs.size := by obtain ⟨_, e, _⟩ := hl; exact Heap.lt_size e
  refine call_max_walk (wpAny_pyIter_tuple hl ?_)
  refine ⟨_, _, _, _, _, _, _, rfl, Walks.tuple (A := A.in1) hh _ l (Nat.ne_of_lt hlt) (intItems xs), ⟨⟨_, Heap.get?_push_size _ rfl, rfl, rfl⟩, hl.push _⟩, fun b hb => ?_, by simpa [intItems] using hne, CmpOf.ints_gt (numAt xs) (fun _ _ => intItems_at), fun v h' tk hP hk => ?_⟩
  · show b < (s.heap.push _).objs.size
    rw [Heap.size_push]
    rcases List.mem_cons.mp hb with rfl | hb
    · exact Nat.lt_succ_self _
    · rcases List.mem_cons.mp hb with rfl | hb
      · exact Nat.lt_succ_of_lt hlt
      · cases hb
  · exact h v h' tk (by simpa [intItems] using hP) (fun b o e => hk b o (fun hb => absurd (Heap.lt_size e) ((List.mem_singleton.mp hb) ▸ Nat.lt_irrefl _)) (Heap.get?_push_of_some _ e))
theorem max_rawT {Q : Value → Shared → Prop} (hh : A.handled = none) (hl : s.heap.IsTuple l its.toArray) (hi : IntsAre its ns) (hne : 0 < ns.length)
    (h : ∀ h' tk M t', (∀ b o, s.heap.get? b = some o → h'.get? b = some o) → M ∈ ns → (∀ a, a ∈ ns → a ≤ M) → Q (.int M t') { s with heap := h', toks := tk }) : wpAny (model prog w) A (call (.builtin "max") [.ref l]) Q E s := by
  obtain ⟨xs, e⟩ := hi.allInts.items
  have hn : numsOf (intItems xs).toList = ns := by rw [← e]; exact hi.numsOf
  rw [nums_intItems] at hn
  subst hn
  rw [e] at hl
  have hsz : 0 < xs.size := by simpa using hne
  refine max_intTuple hh hl hsz fun v h' tk hv hk => ?_
  obtain ⟨t, rfl⟩ := intItems_at hv
  obtain ⟨h1, h2⟩ := argBest_gt (numAt xs) (xs.size - 1)
  refine h h' tk _ t hk ?_ fun a ha => ?_
  · rw [numAt_eq]; exact PySem.getD_mem (by rw [List.length_map, Array.length_toList]; omega)
  · obtain ⟨j, hj, rfl⟩ := mem_getD ha
    rw [List.length_map, Array.length_toList] at hj
    rw [← numAt_eq]; exact h2 j (by omega)
end
end SkE
namespace KM
open PySem L2 PySem.Spec PyProof.Rows
def rMaxT (K : PySem.W.Frag) : List V → Hp → VK → Prop := fun vs H Q => ∃ (a : Addr) (ns : List Int), vs = [V.ref a] ∧ SqT K H a (ns.map V.int) ∧ 0 < ns.length ∧ ∀ m, m ∈ ns → (∀ y, y ∈ ns → y ≤ m) → Q (.int m) H
theorem cr_maxT {X : Cx} (hc : X.calm = true) : CallR X (.builtin "max") (rMaxT X.K) := by
  intro pins s σ H vs us Q I r h
  obtain ⟨a, ns, rfl, hs, hne, q⟩ := h
  obtain ⟨its, rv, pl, hz⟩ := I.tuple hs
  rw [Vals.ref1 r]
  exact SkE.max_rawT (I.ok.hd hc) pl rv.ints hne fun h' tk m t' hk h1 h2 => ⟨.int _, H, I.kept hk, ⟨_, rfl⟩, q m h1 h2⟩
def maxL (n : Int) (ns : List Int) : Int := ns.foldl (fun a b => if a < b then b else a) n
theorem maxL_spec : ∀ (ns : List Int) (n : Int), maxL n ns ∈ n :: ns ∧ ∀ y ∈ n :: ns, y ≤ maxL n ns
  | [], n => ⟨by simp [maxL], by simp [maxL]⟩
  | m :: ns, n => by
    have e : maxL n (m :: ns) = maxL (if n < m then m else n) ns := rfl
    obtain ⟨h1, h2⟩ := maxL_spec ns (if n < m then m else n)
    rw [e]
    constructor
    · rcases List.mem_cons.mp h1 with q | q
      · rw [q]
        split <;> simp
      · exact List.mem_cons_of_mem _ (List.mem_cons_of_mem _ q)
    · intro y hy
      have h0 := h2 _ (List.mem_cons_self ..)
      have h0' : n ≤ maxL (if n < m then m else n) ns ∧ m ≤ maxL (if n < m then m else n) ns := by
        by_cases c : n < m
        · rw [if_pos c] at h0 ⊢
          omega
        · rw [if_neg c] at h0 ⊢
          omega
      rcases List.mem_cons.mp hy with q | q
      · subst q
        exact h0'.1
      · rcases List.mem_cons.mp q with q | q
        · subst q
          exact h0'.2
        · exact h2 y (List.mem_cons_of_mem _ q)
def oMax : OC := fun ds M => match ds with
  | [x] => match tupOf x with
    | some xs => match intsD xs with
      | some (n :: ns) => .ok (.int (maxL n ns)) M
      | _ => .bad
    | none => .bad
  | _ => .bad
theorem opc_max {K : PySem.W.Frag} : OpC K (rMaxT K) oMax := by
  intro H I as M P xs ds Wf Q w r s
  unfold oMax at s
  split at s
  · obtain ⟨v, rfl, rv⟩ := r.one_inv
    split at s
    · rename_i ys hy
      split at s
      · rename_i n ns hn
        obtain ⟨a, vs, rfl, h1, r1⟩ := rv.tupl w hy
        have e := r1.intsD hn
        subst e
        refine ⟨a, n :: ns, rfl, h1, by simp, fun m hm hb => ?_⟩
        obtain ⟨q1, q2⟩ := maxL_spec ns n
        have em : m = maxL n ns := Int.le_antisymm (q2 m hm) (hb _ q1)
        subst em
        exact s.now w (.int _)
      · exact s.elim
    · exact s.elim
  · exact s.elim
/-! ### zip of two tuples -/
def zipD : List D → List D → List D
  | x :: xs, y :: ys => .tup [x, y] :: zipD xs ys
  | _, _ => []
theorem zipD_len : ∀ xs ys : List D, (zipD xs ys).length = min xs.length ys.length
  | [], _ => by simp [zipD]
  | _ :: _, [] => by simp [zipD]
  | x :: xs, y :: ys => by
    show (zipD xs ys).length + 1 = min (xs.length + 1) (ys.length + 1)
    rw [zipD_len xs ys]
    omega
theorem zipD_at : ∀ (xs ys : List D) (i : Nat) (x y : D), xs[i]? = some x → ys[i]? = some y → (zipD xs ys)[i]? = some (.tup [x, y])
  | [], _, i, x, y, h, _ => by simp at h
  | _ :: _, [], i, x, y, _, h => by simp at h
  | a :: xs, b :: ys, 0, x, y, h1, h2 => by
    cases h1
    cases h2
    rfl
  | a :: xs, b :: ys, i + 1, x, y, h1, h2 => zipD_at xs ys i x y h1 h2
def giZip (ga : GA) : GI := fun δ M => (ga δ M).bind fun ds M1 => match ds with
  | [x, y] => match tupOf x, tupOf y with
    | some xs, some ys => .ok (itT (zipD xs ys)) M1
    | _, _ => .bad
  | _ => .bad
theorem walk_zipT {K : PySem.W.Frag} {a b : Addr} {xs ys : List V} {n : Nat} (hn : n = min xs.length ys.length) : Walk (RZ.ItzT K a b) n (fun H => SqT K H a xs ∧ SqT K H b ys) (YPair (fun i => xs[i]?) (fun i => ys[i]?)) := by
  subst hn
  refine ⟨fun i _ hi q => ?_, fun _ q => ⟨xs, ys, q.1, q.2, by omega⟩, fun i H v H' _ q y => ?_⟩
  · have h1 : i < xs.length := by omega
    have h2 : i < ys.length := by omega
    exact ⟨xs, ys, xs[i], ys[i], q.1, q.2, by simp [h1], by simp [h2]⟩
  · obtain ⟨T, x, z, h1, h2, h3, h4, h5⟩ := y
    exact ⟨T, x, z, h1, h2, h3, h4 xs q.1, h5 ys q.2⟩
theorem itok_zip {K : PySem.W.Frag} {I : Hp} {as : List Addr} {a b : Addr} {us vs : List V} {xs ys : List D} (h : SqT K I a us) (h' : SqT K I b vs) (r : Reps K I as us xs) (r' : Reps K I as vs ys) : ItOk K I as (RZ.ItzT K a b) (itT (zipD xs ys)) := by
  have hl : (itT (zipD xs ys)).items.length = min us.length vs.length := by
    show (zipD xs ys).length = _
    rw [zipD_len, r.len, r'.len]
  refine ⟨fun H => SqT K H a us ∧ SqT K H b vs, YPair (fun i => us[i]?) (fun i => vs[i]?), by rw [hl]; exact walk_zipT (xs := us) (ys := vs) rfl, fun H' I' as' M' P' g w _ => ⟨w.seqT (Evl.ex_t g.sub h), w.seqT (Evl.ex_t g.sub h')⟩, fun i x H' H2 I' as' M' P' hi g w _ y => ?_⟩
  obtain ⟨T, x1, y1, rfl, hT, rfl, hx, hy⟩ := y
  obtain ⟨w2, g2⟩ := w.newI hT (.tup [x1, y1])
  obtain ⟨d, hd, rd⟩ := r.get' hx
  obtain ⟨e, he, re⟩ := r'.get' hy
  exact ⟨_, .tup [d, e], g2, w2, zipD_at _ _ _ _ _ hd he, .tup (.of upd_same) (.cons (rd.mono (g.trans g2)) (.cons (re.mono (g.trans g2)) .nil))⟩
section
variable {X : Cx} {W : WX} {e e2 : Expr} {p pos tpos : Pos} {elts : List Expr} {kk : Nat} {t : TA} {g : GA}
theorem xi_zip (hm : X.mg "zip" = none) (ha : XA X W [e, e2] t g) (hg : Gl X "zip" := by rfl)
    (hs : starEach [e, e2] X.env = (false, eval e X.env) :: starEach [e2] X.env := by rfl) (hpl : (backTo pos (starEach [e2] X.env)).any (·.1) = false := by rfl) : XI X W (.Tuple elts kk tpos) (.Call (.Name "zip" p) [e, e2] [] pos) (RZ.iZipA X.K t) (giZip g) := by
  refine ⟨RZ.pi_zipA hg hm ha.pe hs hpl, fun σ H δ I as M P Q w en s => ?_⟩
  refine ha.im σ H δ I as M P _ w en (Sat.bind s fun d M1 v H1 I1 as1 _ g1 w1 r1 s1 => ?_)
  split at s1
  · obtain ⟨v1, v2, rfl, q1, q2⟩ := r1.two_inv
    split at s1
    · rename_i xs ys h1 h2
      have e1 := tupOf_eq h1
      have e2 := tupOf_eq h2
      subst e1 e2
      cases q1 with
      | @tup a us _ k1 rr1 =>
        cases q2 with
        | @tup b vs _ k2 rr2 =>
          exact ⟨a, b, us, vs, rfl, .inr ⟨w1.seqT k1, w1.seqT k2, s1 _ H1 I1 as1 (Gr.refl _ _) w1 (itok_zip k1 k2 rr1 rr2)⟩⟩
    · exact s1.elim
  · exact s1.elim
theorem ki_zip (K : PySem.W.Frag) (hm : X.mg "zip" = none) (ha : XA X W [e, e2] t g) (hK : X.K = K := by rfl) (hg : Gl X "zip" := by rfl)
    (hs : starEach [e, e2] X.env = (false, eval e X.env) :: starEach [e2] X.env := by rfl) (hpl : (backTo pos (starEach [e2] X.env)).any (·.1) = false := by rfl) : XI X W (.Tuple elts kk tpos) (.Call (.Name "zip" p) [e, e2] [] pos) (RZ.iZipA K t) (giZip g) := by
  subst hK; exact xi_zip hm ha hg hs hpl
end
end KM
set_option Elab.async false
set_option linter.all false
set_option maxRecDepth 100000
set_option maxHeartbeats 2000000
/-! dicts with ints as keys -/
namespace KM
open PySem L2 PySem.Spec PyProof.Rows
theorem u1 {n c : Nat} (h : n + 64 < c) : n + 1 < c := by omega
def dget : List (Int × D) → Int → Option D
  | [], _ => none
  | p :: r, i => if p.1 = i then some p.2 else dget r i
section
variable {K : PySem.W.Frag} {H I P : Hp} {as : List Addr} {M : List MO}
theorem dval : ∀ {vs : List (L2.Key × V)} {kvs : List (Int × D)}, vs.map (fun p => p.1) = kvs.map (fun p => Sum.inl p.1) → Reps K I as (vs.map fun p => p.2) (kvs.map fun p => p.2) → ∀ i : Int,
    (dget kvs i = none → valV vs (Sum.inl i) = none) ∧ ∀ d, dget kvs i = some d → ∃ v, valV vs (Sum.inl i) = some v ∧ Rep K I as v d
  | [], [], _, _, i => ⟨fun _ => valV_nil, fun d h => by cases h⟩
  | [], _ :: _, h, _, _ => by cases h
  | _ :: _, [], h, _, _ => by cases h
  | q :: vs, p :: kvs, h, r, i => by
    rw [List.map_cons, List.map_cons] at h r
    injection h with h1 h2
    cases r with
    | cons r1 r2 =>
      obtain ⟨a1, a2⟩ := dval h2 r2 i
      unfold dget
      by_cases c : p.1 = i
      · rw [if_pos c]
        refine ⟨fun e => by (cases e), fun d e => ?_⟩
        cases e
        exact ⟨q.2, valV_pos (by rw [h1, c]), r1⟩
      · rw [if_neg c]
        have n : ¬ q.1 = Sum.inl i := by
          rw [h1]
          exact fun z => c (Sum.inl.inj z)
        rw [valV_neg n]
        exact ⟨a1, a2⟩
theorem Rep.dict (w : Wr K H I as M P) {v : V} {k : Nat} {kvs : List (Int × D)} (r : Rep K I as v (.ref k)) (h : M[k]? = some (.dct kvs)) : ∃ a, ∃ vs : List (L2.Key × V), v = .ref a ∧ as[k]? = some a ∧ H a = some (.dK vs) ∧ vs.map (fun p => p.1) = kvs.map (fun p => Sum.inl p.1) ∧ Reps K I as (vs.map fun p => p.2) (kvs.map fun p => p.2) := by
  cases r with
  | @ref _ a h1 =>
    obtain ⟨o, ho, _, _, m⟩ := w.at h1
    rw [h] at ho
    cases ho
    obtain ⟨vs, e1, e2, rr⟩ := m
    exact ⟨a, vs, rfl, h1, e1, e2, rr⟩
end
/-! x not in d -/
def oDNotIn : OD := fun x y M => match x, y with
  | .int i, .ref k => match M[k]? with
    | some (.dct kvs) => .ok (.bl (!(dget kvs i).isSome)) M
    | _ => .bad
  | _, _ => .bad
def rDNotIn : R2 := fun x y H Q => ∃ a o, y = .ref a ∧ DGet H a x o ∧ Q (.bl (!o.isSome)) H
theorem op_dnotin {X : Cx} (hu : X.A.units + 1 < cLine) : OpR X (compareOp .NotIn) rDNotIn := by
  intro pins s σ H x y v u Q I rx ry h
  obtain ⟨a, o, rfl, g, q⟩ := h
  cases (show u = Value.ref a from ry)
  exact d_notIn hu I g rx fun s' I' => ⟨.bl (!o.isSome), H, I', rfl, q⟩
theorem opd_dnotin {K : PySem.W.Frag} : OpD K rDNotIn oDNotIn := by
  intro H I as M P x y d e Wf Q w rx ry s
  unfold oDNotIn at s
  split at s
  · rename_i i k
    split at s
    · rename_i kvs hk
      cases rx
      obtain ⟨a, vs, rfl, _, h1, h2, h3⟩ := ry.dict w hk
      obtain ⟨a1, a2⟩ := dval h2 h3 i
      cases hg : dget kvs i with
      | none =>
        rw [hg] at s
        exact ⟨a, none, rfl, by rw [← a1 hg]; exact DGet.k (k := Sum.inl i) h1, s.now w (.bl _)⟩
      | some d =>
        rw [hg] at s
        obtain ⟨v, e1, e2⟩ := a2 d hg
        exact ⟨a, some v, rfl, by rw [← e1]; exact DGet.k (k := Sum.inl i) h1, s.now w (.bl _)⟩
    · exact s.elim
  · exact s.elim
/-! d[i] -/
def oDGet : OD := fun x y M => match x, y with
  | .ref k, .int i => match M[k]? with
    | some (.dct kvs) => match dget kvs i with
      | some d => .ok d M
      | none => .bad
    | _ => .bad
  | _, _ => .bad
def rDGet : R2 := fun x y H Q => ∃ a v, x = .ref a ∧ DGet H a y (some v) ∧ Q v H
theorem opd_dget {K : PySem.W.Frag} : OpD K rDGet oDGet := by
  intro H I as M P x y d e Wf Q w rx ry s
  unfold oDGet at s
  split at s
  · rename_i k i
    split at s
    · rename_i kvs hk
      split at s
      · rename_i dd hg
        cases ry
        obtain ⟨a, vs, rfl, _, h1, h2, h3⟩ := rx.dict w hk
        obtain ⟨v, e1, e2⟩ := (dval h2 h3 i).2 dd hg
        exact ⟨a, v, rfl, by rw [← e1]; exact DGet.k (k := Sum.inl i) h1, s.now w e2⟩
      · exact s.elim
    · exact s.elim
  · exact s.elim
section
variable {X : Cx} {W : WX} {a b e : Expr} {pos p p2 : Pos} {ta tb te : TE} {ga gb ge : GE}
theorem xe_dget (hu : X.A.units + 1 < cLine) (ha : XE X W a ta ga) (hb : XE X W b tb gb) (hs : NoSl b := by exact fun _ _ => rfl) : XE X W (.Subscript a b pos) (tDGet ta tb) (gOp oDGet ga gb) := by
  refine ⟨pe_dget hu ha.pe hb.pe hs, fun σ H δ I as M P Q w en s => ?_⟩
  refine ha.im σ H δ I as M P _ w en (Sat.bind s fun x M1 v H1 I1 as1 _ g1 w1 r1 s1 => ?_)
  refine hb.im σ H1 δ I1 as1 M1 P _ w1 (en.mono g1) (Sat.bind s1 fun y M2 u H2 I2 as2 _ g2 w2 r2 s2 => ?_)
  exact opd_dget (K := X.K) H2 I2 as2 M2 P v u x y _ Q w2 (r1.mono g2) r2 s2
/-! {i: x} -/
def gDct1 (i : Int) (gb : GE) : GE := fun δ M => match gb δ M with
  | .ok x M1 => .ok (.ref M1.length) (M1 ++ [.dct [(i, x)]])
  | _ => .bad
theorem xe_dct1 {i2 : Int} {j2} (hb : XE X W b tb gb) : XE X W (.Dict [some (.Constant (.int i2) j2 p2)] [b] pos) (tDisp [(tC (.int i2), tb)]) (gDct1 i2 gb) := by
  refine ⟨pe_disp (pps_cons pe_int hb.pe pps_nil) rfl rfl (by simp) (by show 1 ≤ 15; omega), fun σ H δ I as M P Q w en s => ?_⟩
  intro q hq
  obtain ⟨f1, f2, f3⟩ := w.fresh hq
  have w0 := w.newP hq (.dK [])
  unfold gDct1 at s
  cases e2 : gb δ M with
  | bad => rw [e2] at s; exact s.elim
  | ex c M2 => rw [e2] at s; exact s.elim
  | ok x2 M2 =>
    rw [e2] at s
    refine hb.im σ _ δ I as M _ _ w0 en ?_
    rw [e2]
    intro y2 H2 I2 as2 g2 w2 r2
    refine ⟨(w2.prv q _ upd_same).1, [(.inl i2, y2)], rfl, by show 1 ≤ 15; omega, ?_⟩
    have w3 := w2.putP upd_same (.dK (mergeK [] [(.inl i2, y2)]))
    rw [upd_upd] at w3
    have w4 := w3.giveM (m := .dct [(i2, x2)]) f2 ⟨[(.inl i2, y2)], upd_same, rfl, .cons r2 .nil⟩
    refine s _ _ _ _ (g2.trans (Gr.more I2 as2 [q])) w4 (.ref ?_)
    rw [← w2.len, List.getElem?_append_right (Nat.le_refl _), Nat.sub_self]
    rfl
end
/-! d[i] = x, i a new key -/
def oSetD : OSet := fun x i v M => match x, i with
  | .ref k, .int j => match M[k]? with
    | some (.dct kvs) => match dget kvs j with
      | none => if kvs.length < 1000 then some (M.set k (.dct (kvs ++ [(j, v)]))) else none
      | some _ => none
    | _ => none
  | _, _ => none
theorem setd_dict {K : PySem.W.Frag} : SetD K rSetD oSetD := by
  intro H I as M M' P x i v dx di dv Q w rx ri rv h k
  unfold oSetD at h
  split at h
  · rename_i kk j
    split at h
    · rename_i kvs hk
      split at h
      · rename_i hg
        split at h
        · rename_i hl
          cases h
          cases ri
          obtain ⟨a, vs, rfl, ha, h1, h2, h3⟩ := rx.dict w hk
          have hv := (dval h2 h3 j).1 hg
          have hlen : vs.length = kvs.length := by
            have := congrArg List.length h2
            simpa using this
          refine ⟨a, _, rfl, DPut.k (k := Sum.inl j) h1 (by rw [hlen, sizeLine_eq]; omega), k _ ?_⟩
          rw [putK_new _ hv]
          refine w.put ha _ _ ⟨_, upd_same, ?_, ?_⟩
          · simp [h2]
          · rw [List.map_append, List.map_append]
            exact h3.append (.cons rv .nil)
        · cases h
      · cases h
    · cases h
  · cases h
/-! sorted(d) -/
def oSortedD : OC := fun ds M => match ds with
  | [.ref k] => match M[k]? with
    | some (.dct kvs) => if kvs.length < 64 then .ok (.lst ((srtI (kvs.map fun p => p.1)).map D.int)) M else .bad
    | _ => .bad
  | _ => .bad
def rSortedD : List V → Hp → VK → Prop := fun xs H Q => ∃ (a : Addr) (kvs : List (L2.Key × V)) (ks : List Int), xs = [.ref a] ∧ Rd H a (.dK kvs) ∧ kvs.map (·.1) = ks.map Sum.inl ∧ ks.length < 64 ∧
    ∀ (ys : List Int) (p : Addr), ys.Perm ks → ys.Pairwise (· ≤ ·) → H p = none → Q (.ref p) (upd H p (.lst (ys.map V.int)))
theorem opc_sortedD {K : PySem.W.Frag} : OpC K rSortedD oSortedD := by
  intro H I as M P xs ds Wf Q w r s
  unfold oSortedD at s
  split at s
  · rename_i k
    obtain ⟨v, rfl, rv⟩ := r.one_inv
    split at s
    · rename_i kvs hk
      split at s
      · rename_i hl
        obtain ⟨a, vs, rfl, ha, h1, h2, h3⟩ := rv.dict w hk
        refine ⟨a, vs, kvs.map fun p => p.1, rfl, .inl h1, by rw [List.map_map]; exact h2, by rw [List.length_map]; exact hl, fun ns' p hp hs hf => ?_⟩
        have e : ns' = srtI (kvs.map fun p => p.1) := List.Perm.eq_of_pairwise (le := (· ≤ ·)) (fun a b _ _ h1 h2 => Int.le_antisymm h1 h2) hs (srtI_sorted _) (hp.trans (srtI_perm _).symm)
        subst e
        exact s.newLst w (Reps.ints _ rfl) hf
      · exact s.elim
    · exact s.elim
  · exact s.elim
/-! list(range(a, b)) -/
def gListRgM (ga gb : GE) : GE := fun δ M => (ga δ M).bind fun x M1 => (gb δ M1).bind fun y M2 => match x, y with
  | .int i, .int j => if -1000 ≤ i ∧ i ≤ 1000 ∧ -1000 ≤ j ∧ j ≤ 1000 then .ok (.ref M2.length) (M2 ++ [.lst (rngD i (j - i).toNat)]) else .bad
  | _, _ => .bad
theorem rg_ints (i : Int) (n : Nat) : rngD i n = ((List.range n).map fun (k : Nat) => i + (k : Int)).map D.int := by
  unfold rngD
  rw [List.map_map]
  rfl
section
variable {X : Cx} {W : WX} {a b : Expr} {pos p p2 pos2 : Pos} {ta tb : TE} {ga gb : GE}
theorem xe_listRgM (hc : X.calm = true) (hm : X.mg "list" = none) (hm2 : X.mg "range" = none) (ha : XE X W a ta ga) (hb : XE X W b tb gb) (hg : Gl X "list" := by rfl) (hg2 : Gl X "range" := by rfl)
    (na : starEach [a, b] X.env = (false, eval a X.env) :: starEach [b] X.env := by rfl) (nb : starEach [b] X.env = (false, eval b X.env) :: starEach [] X.env := by rfl) (hp : (backTo pos2 (starEach [b] X.env)).any (·.1) = false := by rfl)
    (nc : starEach [.Call (.Name "range" p2) [a, b] [] pos2] X.env = (false, eval (.Call (.Name "range" p2) [a, b] [] pos2) X.env) :: starEach [] X.env := by rfl) :
    XE X W (.Call (.Name "list" p) [.Call (.Name "range" p2) [a, b] [] pos2] [] pos) (tLstRg (tRg2 ta tb)) (gListRgM ga gb) := by
  refine ⟨pe_listRg hc hg hm (prg_2 hg2 hm2 ha.pe hb.pe na nb hp) nc, fun σ H δ I as M P Q w en s => ?_⟩
  refine ha.im σ H δ I as M P _ w en (Sat.bind s fun x M1 v H1 I1 as1 _ g1 w1 r1 s1 => ?_)
  refine hb.im σ H1 δ I1 as1 M1 P _ w1 (en.mono g1) (Sat.bind s1 fun y M2 u H2 I2 as2 _ g2 w2 r2 s2 => ?_)
  split at s2
  · rename_i i j
    split at s2
    · rename_i hc
      cases r1
      cases r2
      refine ⟨_, _, rfl, rfl, ⟨by omega, by omega, by omega, by omega, by omega⟩, fun q hq => ?_⟩
      refine s2.newRef w2 ?_ hq
      rw [rg_ints]
      refine Reps.ints _ ?_
      unfold rgV
      rw [List.map_map]
      rfl
    · exact s2.elim
  · exact s2.elim
end
end KM
set_option Elab.async false
set_option linter.all false
set_option maxRecDepth 100000
set_option maxHeartbeats 2000000
/-! sorted of pairs of ints; enumerate -/
namespace KM
open PySem L2 PySem.Spec PyProof.Rows
inductive PrA (K : PySem.W.Frag) (H : Hp) : List V → List (Int × Int) → Prop
  | nil : PrA K H [] []
  | cons {t : Addr} {p : Int × Int} {xs : List V} {ps : List (Int × Int)} : SqT K H t [.int p.1, .int p.2] → PrA K H xs ps → PrA K H (.ref t :: xs) (p :: ps)
def rSortedPT (K : PySem.W.Frag) : List V → Hp → VK → Prop := fun vs H Q => ∃ (a : Addr) (xs : List V) (ps : List (Int × Int)), vs = [V.ref a] ∧ SqL K H a xs ∧ PrA K H xs ps ∧
  ∀ (ys : List V) (qs : List (Int × Int)) (p : Addr), (ys.zip qs).Perm (xs.zip ps) → ys.length = qs.length → qs.Pairwise (fun x y => SrtO.lexB y x = false) → H p = none → Q (.ref p) (upd H p (.lst ys))
section
variable {X : Cx}
open Classical in
noncomputable def prK (K : PySem.W.Frag) (H : Hp) (x : V) : Int × Int := if h : ∃ (p : Int × Int) (t : Addr), x = .ref t ∧ SqT K H t [.int p.1, .int p.2] then h.choose else (0, 0)
theorem prK_at {pins : List (Addr × Obj)} {σ : L2.St} {H : Hp} {s : Shared} (I : Inv X pins σ H s) {t : Addr} {p : Int × Int} (h : SqT X.K H t [.int p.1, .int p.2]) : prK X.K H (.ref t) = p := by
  have ex : ∃ (p : Int × Int) (t' : Addr), V.ref t = .ref t' ∧ SqT X.K H t' [.int p.1, .int p.2] := ⟨p, t, rfl, h⟩
  unfold prK
  rw [dif_pos ex]
  obtain ⟨t', e, h2⟩ := ex.choose_spec
  cases e
  have q := I.tuple_inj h2 h
  simp only [List.cons.injEq, V.int.injEq, and_true] at q
  exact Prod.ext q.1 q.2
theorem PrA.keys {pins : List (Addr × Obj)} {σ : L2.St} {H : Hp} {s : Shared} (I : Inv X pins σ H s) : ∀ {xs : List V} {ps : List (Int × Int)}, PrA X.K H xs ps → xs.map (prK X.K H) = ps
  | _, _, .nil => rfl
  | _, _, .cons h r => by rw [List.map_cons, prK_at I h, PrA.keys I r]
theorem PrA.mem {K : PySem.W.Frag} {H : Hp} : ∀ {xs : List V} {ps : List (Int × Int)}, PrA K H xs ps → ∀ x ∈ xs, ∃ (t : Addr) (p : Int × Int), x = .ref t ∧ SqT K H t [.int p.1, .int p.2]
  | _, _, .nil, x, hx => by cases hx
  | _, _, .cons h r, x, hx => by
    rcases List.mem_cons.mp hx with e | e
    · exact ⟨_, _, e, h⟩
    · exact PrA.mem r x e
theorem zip_map_self (f : V → Int × Int) : ∀ xs : List V, xs.zip (xs.map f) = xs.map fun x => (x, f x)
  | [] => rfl
  | x :: xs => by rw [List.map_cons, List.map_cons, List.zip_cons_cons, zip_map_self f xs]
theorem cr_sortedPT : CallR X (.builtin "sorted") (rSortedPT X.K) := by
  intro pins s σ H vs us Q I r h
  obtain ⟨a, xs, ps, rfl, hs, hx, q⟩ := h
  obtain ⟨its, rv, hl, hz⟩ := I.list hs
  obtain ⟨u, rfl, ru⟩ := vals1 r
  obtain rfl : u = Value.ref a := ru
  obtain ⟨e1, e2⟩ := refs_back rv fun x m => by
    obtain ⟨t, _, e, _⟩ := hx.mem x m
    exact ⟨t, e⟩
  refine SrtO.sorted_pairsO (k := fun u => prK X.K H (backV u)) hl.isList (by rw [← rv.length]; exact hz) (fun v hv => ?_) fun h' d out h1 h2 kp hd hn => ?_
  · obtain ⟨t, rfl⟩ := e2 v hv
    have hm : V.ref t ∈ xs := by rw [e1]; exact List.mem_map.mpr ⟨_, hv, rfl⟩
    obtain ⟨t', p, e, ht⟩ := hx.mem _ hm
    cases e
    have ep : prK X.K H (backV (Value.ref t)) = p := prK_at I ht
    obtain ⟨its2, r2, ⟨o, ho, hc, n, hd⟩, _⟩ := I.tuple ht
    obtain ⟨u1, u2, rfl, ri, rj⟩ := vals2 r2
    obtain ⟨t1, rfl⟩ := ri
    obtain ⟨t2, rfl⟩ := rj
    refine ⟨t, o, t1, t2, n, rfl, ho, hc, ?_⟩
    show o.data = .seq #[.int (prK X.K H (backV (Value.ref t))).1 t1, .int (prK X.K H (backV (Value.ref t))).2 t2] n
    rw [ep]
    exact hd
  · have h3 : ∀ u ∈ out, ∃ a, u = Value.ref a := fun u hu => e2 u (h2.perm.mem_iff.mp hu)
    obtain ⟨n, hn⟩ := hn
    have hp : (out.map backV).Perm xs := by rw [e1]; exact h2.perm.map _
    refine ⟨.ref d, upd H d (.lst (out.map backV)), I.laid (t' := s.toks) kp hd ⟨?_, out, n, vals_back h3, hn⟩, rfl, q _ ((out.map backV).map (prK X.K H)) d ?_ (by simp) ?_ (I.hok.fresh hd)⟩
    · rw [hp.length_eq]
      exact hz
    · rw [← hx.keys I, zip_map_self, zip_map_self]
      exact hp.map _
    · rw [List.map_map]
      exact List.pairwise_map.mpr h1
end
def pD (p : Int × Int) : D := .tup [.int p.1, .int p.2]
def prsD : List D → Option (List (Int × Int))
  | [] => some []
  | .tup [.int i, .int j] :: xs => (prsD xs).map ((i, j) :: ·)
  | _ :: _ => none
def srtP (ps : List (Int × Int)) : List (Int × Int) := ps.mergeSort (fun x y => !SrtO.lexB y x)
theorem srtP_perm (ps : List (Int × Int)) : (srtP ps).Perm ps := List.mergeSort_perm ..
theorem lex_tot (x y : Int × Int) : SrtO.lexB y x = false ∨ SrtO.lexB x y = false := by
  rw [SrtO.lexB_no, SrtO.lexB_no]
  omega
theorem srtP_sorted (ps : List (Int × Int)) : (srtP ps).Pairwise (fun x y => SrtO.lexB y x = false) := by
  have h := List.pairwise_mergeSort (le := fun (x y : Int × Int) => !SrtO.lexB y x) (fun a b c h1 h2 => by
    simp only [Bool.not_eq_true'] at *
    rw [SrtO.lexB_no] at *
    omega) (fun a b => by
    simp only [Bool.or_eq_true, Bool.not_eq_true']
    exact lex_tot a b) ps
  exact h.imp fun h => by simpa using h
theorem lex_anti {x y : Int × Int} (h1 : SrtO.lexB y x = false) (h2 : SrtO.lexB x y = false) : x = y := by
  rw [SrtO.lexB_no] at h1 h2
  exact Prod.ext (by omega) (by omega)
theorem srtP_uniq {qs ps : List (Int × Int)} (h : qs.Perm ps) (hs : qs.Pairwise (fun x y => SrtO.lexB y x = false)) : qs = srtP ps :=
  List.Perm.eq_of_pairwise (le := fun x y => SrtO.lexB y x = false) (fun a b _ _ h1 h2 => lex_anti h1 h2) hs (srtP_sorted ps) (h.trans (srtP_perm ps).symm)
def oSortedP : OC := fun ds M => match ds with
  | [x] => match listOf M x with
    | some xs => match prsD xs with
      | some ps => .ok (.lst ((srtP ps).map pD)) M
      | none => .bad
    | none => .bad
  | _ => .bad
section
variable {K : PySem.W.Frag} {H I P : Hp} {as : List Addr} {M : List MO}
theorem Reps.prs (w : Wr K H I as M P) : ∀ {vs : List V} {ds : List D} {ps : List (Int × Int)}, Reps K I as vs ds → prsD ds = some ps → PrA K H vs ps ∧ ds = ps.map pD ∧ ∀ z ∈ vs.zip ps, Rep K I as z.1 (pD z.2)
  | _, _, ps, .nil, h => by
    cases h
    exact ⟨.nil, rfl, fun z hz => by cases hz⟩
  | _, _, ps, .cons (d := d) (ds := ds) r rr, h => by
    unfold prsD at h
    split at h
    · rename_i e
      cases e
    · rename_i i j xs e
      cases e
      cases e2 : prsD ds with
      | none => rw [e2] at h; cases h
      | some qs =>
        rw [e2] at h
        cases h
        obtain ⟨q1, q2, q3⟩ := Reps.prs w rr e2
        have r0 := r
        cases r with
        | @tup a vs _ h1 h2 =>
          obtain ⟨v1, v2, rfl, z1, z2⟩ := h2.two_inv
          cases z1
          cases z2
          refine ⟨.cons (p := (i, j)) (w.seqT h1) q1, by rw [q2]; rfl, fun z hz => ?_⟩
          rcases List.mem_cons.mp hz with e | e
          · subst e
            exact r0
          · exact q3 z e
    · cases h
theorem Reps.of_zip : ∀ {ys : List V} {qs : List (Int × Int)}, ys.length = qs.length → (∀ z ∈ ys.zip qs, Rep K I as z.1 (pD z.2)) → Reps K I as ys (qs.map pD)
  | [], [], _, _ => .nil
  | [], _ :: _, h, _ => by cases h
  | _ :: _, [], h, _ => by cases h
  | y :: ys, q :: qs, h, f => by
    rw [List.zip_cons_cons] at f
    exact .cons (f (y, q) (List.mem_cons_self ..)) (Reps.of_zip (by simpa using h) fun z hz => f z (List.mem_cons_of_mem _ hz))
end
theorem zip_snd : ∀ {ys : List V} {qs : List (Int × Int)}, ys.length = qs.length → (ys.zip qs).map (fun z => z.2) = qs
  | [], [], _ => rfl
  | [], _ :: _, h => by cases h
  | _ :: _, [], h => by cases h
  | y :: ys, q :: qs, h => by
    rw [List.zip_cons_cons, List.map_cons, zip_snd (by simpa using h)]
theorem PrA.len {K : PySem.W.Frag} {H : Hp} : ∀ {xs : List V} {ps : List (Int × Int)}, PrA K H xs ps → xs.length = ps.length
  | _, _, .nil => rfl
  | _, _, .cons h r => by rw [List.length_cons, List.length_cons, PrA.len r]
theorem opc_sortedP {K : PySem.W.Frag} : OpC K (rSortedPT K) oSortedP := by
  intro H I as M P xs ds Wf Q w r s
  unfold oSortedP at s
  split at s
  · obtain ⟨v, rfl, rv⟩ := r.one_inv
    split at s
    · rename_i zs hz
      split at s
      · rename_i ps hp
        obtain ⟨a, vs, rfl, h1, r1⟩ := rv.list w hz
        obtain ⟨q1, q2, q3⟩ := r1.prs w hp
        refine ⟨a, vs, ps, rfl, h1, q1, fun ys qs p hpm hl hs hf => ?_⟩
        have e : qs = srtP ps := srtP_uniq (by
          have := hpm.map fun z => z.2
          rwa [zip_snd hl, zip_snd q1.len] at this) hs
        subst e
        exact s.newLst w (Reps.of_zip hl fun z hz => q3 z (hpm.mem_iff.mp hz)) hf
      · exact s.elim
    · exact s.elim
  · exact s.elim
/-! ### enumerate -/
def enumD : Nat → List D → List D
  | _, [] => []
  | i, x :: xs => .tup [.int (i : Int), x] :: enumD (i + 1) xs
theorem enumD_len : ∀ (xs : List D) (i : Nat), (enumD i xs).length = xs.length
  | [], _ => rfl
  | x :: xs, i => by
    unfold enumD
    rw [List.length_cons, List.length_cons, enumD_len xs]
theorem enumD_at : ∀ (xs : List D) (i j : Nat) (x : D), xs[j]? = some x → (enumD i xs)[j]? = some (.tup [.int ((i + j : Nat) : Int), x])
  | [], _, _, _, h => by simp at h
  | y :: xs, i, 0, x, h => by
    cases h
    rfl
  | y :: xs, i, j + 1, x, h => by
    have := enumD_at xs (i + 1) j x h
    rw [show i + 1 + j = i + (j + 1) by omega] at this
    exact this
def giEnum (ga : GA) : GI := fun δ M => (ga δ M).bind fun ds M1 => match ds with
  | [.lst xs] => .ok (itT (enumD 0 xs)) M1
  | [.rol xs] => .ok (itT (enumD 0 xs)) M1
  | _ => .bad
theorem itok_enum {K : PySem.W.Frag} {I : Hp} {as : List Addr} {a : Addr} {us : List V} {xs : List D} (h : SqL K I a us) (r : Reps K I as us xs) : ItOk K I as (Ite K a) (itT (enumD 0 xs)) := by
  have hl : (itT (enumD 0 xs)).items.length = us.length := by
    show (enumD 0 xs).length = _
    rw [enumD_len, r.len]
  refine ⟨fun H => SqL K H a us, YPair (fun i => some (.int (i : Nat))) (fun i => us[i]?), by rw [hl]; exact walk_enum, fun H' I' as' M' P' g w _ => w.seqL (Evl.ex_l g.sub h), fun i x H' H2 I' as' M' P' hi g w _ y => ?_⟩
  obtain ⟨T, x1, y1, rfl, hT, rfl, hx, hy⟩ := y
  obtain ⟨w2, g2⟩ := w.newI hT (.tup [x1, y1])
  cases hx
  obtain ⟨d, hd, rd⟩ := r.get' hy
  refine ⟨_, .tup [.int (i : Int), d], g2, w2, ?_, .tup (.of upd_same) (.cons (.int _) (.cons (rd.mono (g.trans g2)) .nil))⟩
  have := enumD_at xs 0 i d hd
  rw [Nat.zero_add] at this
  exact this
section
variable {X : Cx} {W : WX} {e : Expr} {p pos tpos : Pos} {elts : List Expr} {kk : Nat} {t : TA} {g : GA}
theorem xi_enum (hm : X.mg "enumerate" = none) (ha : XA X W [e] t g) (hg : Gl X "enumerate" := by rfl) (hs : starEach [e] X.env = [(false, eval e X.env)] := by rfl) : XI X W (.Tuple elts kk tpos) (.Call (.Name "enumerate" p) [e] [] pos) (iEnum X.K t) (giEnum g) := by
  refine ⟨pi_enum hg hm ha.pe hs, fun σ H δ I as M P Q w en s => ?_⟩
  refine ha.im σ H δ I as M P _ w en (Sat.bind s fun d M1 v H1 I1 as1 _ g1 w1 r1 s1 => ?_)
  split at s1
  · obtain ⟨v, rfl, rv⟩ := r1.one_inv
    cases rv with
    | @lst a us _ h1 rr => exact ⟨a, us, rfl, .of (w1.sub _ _ h1), s1 _ H1 I1 as1 (Gr.refl _ _) w1 (itok_enum (.of h1) rr)⟩
  · obtain ⟨v, rfl, rv⟩ := r1.one_inv
    cases rv with
    | @rol a us _ h1 rr => exact ⟨a, us, rfl, w1.seqL h1, s1 _ H1 I1 as1 (Gr.refl _ _) w1 (itok_enum h1 rr)⟩
  · exact s1.elim
theorem ki_enum (K : PySem.W.Frag) (hm : X.mg "enumerate" = none) (ha : XA X W [e] t g) (hK : X.K = K := by rfl) (hg : Gl X "enumerate" := by rfl) (hs : starEach [e] X.env = [(false, eval e X.env)] := by rfl) : XI X W (.Tuple elts kk tpos) (.Call (.Name "enumerate" p) [e] [] pos) (iEnum K t) (giEnum g) := by
  subst hK; exact xi_enum hm ha hg hs
end
/-! a, b, c = x, y, z -/
def gPar3 (i j l : Nat) (ga gb gc : GE) : GS := fun δ M => (ga δ M).toS δ fun x M1 => (gb δ M1).toS δ fun y M2 => (gc δ M2).toS δ fun z M3 => .nx (((δ.set i (some x)).set j (some y)).set l (some z)) M3
section
variable {X : Cx} {W : WX} {a b c : Expr} {pos p p2 pos2 : Pos} {ta tb tc : TE} {ga gb gc : GE}
theorem xs_par3 {i j l : Nat} {x y z : Str} {px py pz pt : Pos} {kt k2 pt2} (hc : X.calm = true) (hN : X.N.Nodup) (ha : XE X W a ta ga) (hb : XE X W b tb gb) (hcc : XE X W c tc gc)
    (hi : X.N[i]? = some x := by rfl) (hj : X.N[j]? = some y := by rfl) (hl : X.N[l]? = some z := by rfl) (hij : i ≠ j := by decide) (hil : i ≠ l := by decide) (hjl : j ≠ l := by decide)
    (hx : X.env.scope.names.lookup x = some .local := by rfl) (hy : X.env.scope.names.lookup y = some .local := by rfl) (hz : X.env.scope.names.lookup z = some .local := by rfl)
    (hw : swappedStores [.Tuple [.Name x px, .Name y py, .Name z pz] kt pt] (.Tuple [a, b, c] k2 pt2) X.env = pure (some [x, y, z]) := by rfl)
    (hs : swapsWithSole [.Tuple [.Name x px, .Name y py, .Name z pz] kt pt] (.Tuple [a, b, c] k2 pt2) pos.line X.env = pure false := by rfl)
    (h1 : starEach [a, b, c] X.env = (false, eval a X.env) :: starEach [b, c] X.env := by rfl) (h2 : starEach [b, c] X.env = (false, eval b X.env) :: starEach [c] X.env := by rfl) (h3 : starEach [c] X.env = (false, eval c X.env) :: starEach [] X.env := by rfl) :
    XS X W (.Assign [.Tuple [.Name x px, .Name y py, .Name z pz] kt pt] (.Tuple [a, b, c] k2 pt2) pos) (tPar3 i j l (tCons ta (tCons tb (tCons tc tNil)))) (gPar3 i j l ga gb gc) := by
  refine ⟨ps_par3 hc hN hi hj hl hij hil hjl hx hy hz (pa_cons ha.pe (pa_cons hb.pe (pa_cons hcc.pe pa_nil h3) h2) h1) hw hs, fun σ H δ I as M P E w en s => ?_⟩
  refine ha.im σ H δ I as M P _ w en (SatS.bindE s en fun d M1 v H1 I1 as1 _ g1 w1 r1 s1 => ?_)
  refine hb.im σ H1 δ I1 as1 M1 P _ w1 (en.mono g1) (SatS.bindE s1 (en.mono g1) fun d2 M2 v2 H2 I2 as2 _ g2 w2 r2 s2 => ?_)
  refine hcc.im σ H2 δ I2 as2 M2 P _ w2 (en.mono (g1.trans g2)) (SatS.bindE s2 (en.mono (g1.trans g2)) fun d3 M3 v3 H3 I3 as3 _ g3 w3 r3 s3 => ?_)
  exact ⟨v, v2, v3, rfl, s3 _ H3 I3 as3 (Gr.refl _ _) w3 ((((en.mono (g1.trans (g2.trans g3))).set (r1.mono (g2.trans g3)) i).set (r2.mono g3) j).set r3 l)⟩
/-! list(range(b)) -/
def gListRg1M (gb : GE) : GE := fun δ M => (gb δ M).bind fun y M2 => match y with
  | .int j => if -1000 ≤ j ∧ j ≤ 1000 then .ok (.ref M2.length) (M2 ++ [.lst (rngD 0 j.toNat)]) else .bad
  | _ => .bad
theorem xe_listRg1M (hc : X.calm = true) (hm : X.mg "list" = none) (hm2 : X.mg "range" = none) (hb : XE X W b tb gb) (hg : Gl X "list" := by rfl) (hg2 : Gl X "range" := by rfl)
    (nb : starEach [b] X.env = (false, eval b X.env) :: starEach [] X.env := by rfl)
    (nc : starEach [.Call (.Name "range" p2) [b] [] pos2] X.env = (false, eval (.Call (.Name "range" p2) [b] [] pos2) X.env) :: starEach [] X.env := by rfl) :
    XE X W (.Call (.Name "list" p) [.Call (.Name "range" p2) [b] [] pos2] [] pos) (tLstRg (tRg1 tb)) (gListRg1M gb) := by
  refine ⟨pe_listRg hc hg hm (prg_1 hg2 hm2 hb.pe nb) nc, fun σ H δ I as M P Q w en s => ?_⟩
  refine hb.im σ H δ I as M P _ w en (Sat.bind s fun y M2 u H2 I2 as2 _ g2 w2 r2 s2 => ?_)
  split at s2
  · split at s2
    · rename_i hc
      cases r2
      refine ⟨_, rfl, ⟨by omega, by omega, by omega, by omega, by omega⟩, fun q hq => ?_⟩
      refine s2.newRef w2 ?_ hq
      rw [rg_ints]
      refine Reps.ints _ ?_
      unfold rgV
      rw [List.map_map, Int.sub_zero]
      rfl
    · exact s2.elim
  · exact s2.elim
end
end KM
set_option linter.all false
set_option maxRecDepth 100000
namespace K11
open PySem L2 KM
abbrev csR : List Str := ["NoWorths"]
noncomputable def g__law_gcd : GS := gSeq (gSet 0 (gCall oAbs (gACons (gVar 0) (gANil))))
    (gSeq (gFor (giRng1 (gACons (gC (.int 90000)) (gANil))) (gtName 2) (gSeq (gIf (gTest (gOp oEq (gVar 1) (gC (.int 0)))) (gBreak) (gNext))
    (gPar 0 1 (gVar 1) (gOp oMod (gCall oInt (gACons (gVar 0) (gANil))) (gVar 1)))))
    (gRet (gVar 0)))
noncomputable def m__law_gcd : OC := cutM (fnM 3 g__law_gcd)
noncomputable def g__law_f : GS := gSeq (gSet 2 (gCall oAbs (gACons (gCall m__law_gcd (gACons (gVar 0) (gACons (gVar 1) (gANil)))) (gANil))))
    (gSeq (gIf (gTest (gOp oLt (gVar 1) (gC (.int 0)))) (gSet 2 (gUn oNeg (gVar 2))) (gNext))
    (gRet (gETup (gACons (gOp oDiv (gVar 0) (gVar 2)) (gACons (gOp oDiv (gVar 1) (gVar 2)) (gANil))))))
noncomputable def m__law_f : OC := cutM (fnM 3 g__law_f)
noncomputable def g__law_draw : GS := gSeq (gIf (gTest (gOp oGt (gOp oIx (gVar 0) (gC (.int 0))) (gC (.int 0)))) (gSeq (gSet 2 (gOp oMod (gCall oInt (gACons (gOp oIx (gVar 0) (gC (.int 0))) (gANil))) (gVar 1)))
    (gSeq (gAsg (gOp oDiv (gOp oIx (gVar 0) (gC (.int 0))) (gVar 1)) (gtSub (gVar 0) (gC (.int 0)) oSetL))
    (gRet (gVar 2)))) (gNext))
    (gSeq (gAsg (gOp oMod (gOp oAdd (gOp oMul (gCall oInt (gACons (gOp oIx (gVar 0) (gC (.int 1))) (gANil))) (gC (.int 48271))) (gC (.int 11))) (gC (.int 2147483647))) (gtSub (gVar 0) (gC (.int 1)) oSetL))
    (gSeq (gAsg (gOp oMod (gOp oAdd (gOp oMul (gCall oInt (gACons (gOp oIx (gVar 0) (gC (.int 1))) (gANil))) (gOp oAdd (gOp oMod (gOp oDiv (gOp oIx (gVar 0) (gC (.int 1))) (gC (.int 1009))) (gC (.int 65521))) (gC (.int 69621)))) (gC (.int 7))) (gC (.int 2147483629))) (gtSub (gVar 0) (gC (.int 1)) oSetL))
    (gRet (gOp oMod (gOp oDiv (gOp oIx (gVar 0) (gC (.int 1))) (gC (.int 16))) (gVar 1)))))
noncomputable def m__law_draw : OC := cutM (fnM 3 g__law_draw)
noncomputable def g__law_any : GS := gRet (gOp oIx (gVar 1) (gCall m__law_draw (gACons (gVar 0) (gACons (gCall oLen (gACons (gVar 1) (gANil))) (gANil)))))
noncomputable def m__law_any : OC := cutM (fnM 2 g__law_any)
noncomputable def g__law_worth : GS := gRet (gCall m__law_f (gACons (gOp oSub (gCall m__law_draw (gACons (gVar 0) (gACons (gC (.int 41)) (gANil)))) (gC (.int 20))) (gACons (gCall m__law_any (gACons (gVar 0) (gACons (gLst (gACons (gC (.int 1)) (gACons (gC (.int 2)) (gACons (gC (.int 3)) (gACons (gC (.int 4)) (gACons (gC (.int 7)) (gACons (gC (.int 10)) (gANil)))))))) (gANil)))) (gANil))))
noncomputable def m__law_worth : OC := cutM (fnM 1 g__law_worth)
noncomputable def g__law_mixed_order : GS := gSeq (gSet 2 (gListRg1M (gVar 1)))
    (gSeq (gSet 3 (gLstM (gANil)))
    (gSeq (gFor (giRng1 (gACons (gVar 1) (gANil))) (gtName 4) (gDrop (gBM oAppend (gVar 3) (gACons (gBM oPopAt (gVar 2) (gACons (gCall m__law_draw (gACons (gVar 0) (gACons (gCall oLen (gACons (gVar 2) (gANil))) (gANil)))) (gANil))) (gANil)))))
    (gRet (gVar 3))))
noncomputable def m__law_mixed_order : OC := fnM 5 g__law_mixed_order
noncomputable def g__law_minus : GS := gRet (gCall m__law_f (gACons (gOp oSub (gOp oMul (gOp oIx (gVar 0) (gC (.int 0))) (gOp oIx (gVar 1) (gC (.int 1)))) (gOp oMul (gOp oIx (gVar 1) (gC (.int 0))) (gOp oIx (gVar 0) (gC (.int 1))))) (gACons (gOp oMul (gOp oIx (gVar 0) (gC (.int 1))) (gOp oIx (gVar 1) (gC (.int 1)))) (gANil))))
noncomputable def m__law_minus : OC := cutM (fnM 2 g__law_minus)
noncomputable def g__law_less : GS := gRet (gOp oLt (gOp oMul (gOp oIx (gVar 0) (gC (.int 0))) (gOp oIx (gVar 1) (gC (.int 1)))) (gOp oMul (gOp oIx (gVar 1) (gC (.int 0))) (gOp oIx (gVar 0) (gC (.int 1)))))
noncomputable def m__law_less : OC := cutM (fnM 2 g__law_less)
noncomputable def g__law_plus : GS := gRet (gCall m__law_f (gACons (gOp oAdd (gOp oMul (gOp oIx (gVar 0) (gC (.int 0))) (gOp oIx (gVar 1) (gC (.int 1)))) (gOp oMul (gOp oIx (gVar 1) (gC (.int 0))) (gOp oIx (gVar 0) (gC (.int 1))))) (gACons (gOp oMul (gOp oIx (gVar 0) (gC (.int 1))) (gOp oIx (gVar 1) (gC (.int 1)))) (gANil))))
noncomputable def m__law_plus : OC := cutM (fnM 2 g__law_plus)
noncomputable def g_top_over : GS := gRet (gOp oMul (gOp oIx (gVar 0) (gC (.int 0))) (gOp oDiv (gVar 1) (gOp oIx (gVar 0) (gC (.int 1)))))
noncomputable def m_top_over : OC := cutM (fnM 2 g_top_over)
noncomputable def g_common : GS := gSeq (gSet 1 (gC (.int 1)))
    (gSeq (gFor (giSeq (gVar 0)) (gtName 2) (gSet 1 (gCall oLcm (gACons (gVar 1) (gACons (gOp oIx (gVar 2) (gC (.int 1))) (gANil))))))
    (gRet (gETup (gACons (gLcG finI (giSeq (gVar 0)) (gtName 2) (gYes) (gCall m_top_over (gACons (gVar 2) (gACons (gVar 1) (gANil)))) [2]) (gACons (gVar 1) (gANil))))))
noncomputable def m_common : OC := cutM (fnM 3 g_common)
noncomputable def g_best_lot : GS := gSeq (gSet 2 (gLstM (gANil)))
    (gSeq (gSet 3 (gUn oNeg (gVar 1)))
    (gSeq (gFor (giSeq (gCall oSortedP (gACons (gLcG finI (giEnum (gACons (gVar 0) (gANil))) (gtTup 2 (gtCons (gtName 5) (gtCons (gtName 6) (gtNil)))) (gYes) (gETup (gACons (gUn oNeg (gVar 6)) (gACons (gVar 5) (gANil)))) [5, 6]) (gANil)))) (gtTup 2 (gtCons (gtName 4) (gtCons (gtName 5) (gtNil)))) (gSeq (gSet 7 (gOp oSub (gVar 1) (gVar 4)))
    (gSeq (gIf (gAnd (gTru (gVar 2)) (gTest (gOp oLe (gOp oMul (gVar 7) (gCall oLen (gACons (gVar 2) (gANil)))) (gVar 3)))) (gBreak) (gNext))
    (gSeq (gDrop (gBM oAppend (gVar 2) (gACons (gVar 5) (gANil))))
    (gSet 3 (gOp oAdd (gVar 3) (gVar 7)))))))
    (gRet (gETup (gACons (gCall oTuple (gACons (gCall oSorted (gACons (gVar 2) (gANil))) (gANil))) (gACons (gVar 3) (gANil)))))))
noncomputable def m_best_lot : OC := cutM (fnM 8 g_best_lot)
noncomputable def g_reduced : GS := gSeq (gSet 2 (gCall oGcd (gACons (gVar 0) (gACons (gVar 1) (gANil)))))
    (gRet (gETup (gACons (gOp oDiv (gVar 0) (gVar 2)) (gACons (gOp oDiv (gVar 1) (gVar 2)) (gANil)))))
noncomputable def m_reduced : OC := cutM (fnM 3 g_reduced)
noncomputable def g_is_whole : GS := gRet (gAndV (gUn (oIsi "int") (gVar 0)) (gNotV (gUn (oIsi "bool") (gVar 0))))
noncomputable def m_is_whole : OC := cutM (fnM 1 g_is_whole)
noncomputable def g_is_fraction : GS := gSeq (gIf (gOr (gNot (gTru (gUn (oIsi "tuple") (gVar 0)))) (gTest (gOp oNe (gCall oLen (gACons (gVar 0) (gANil))) (gC (.int 2))))) (gRet (gC (.bl false))) (gNext))
    (gSeq (gAsg (gVar 0) (gtTup 2 (gtCons (gtName 1) (gtCons (gtName 2) (gtNil)))))
    (gSeq (gIf (gOr (gNot (gTru (gCall m_is_whole (gACons (gVar 1) (gANil))))) (gNot (gTru (gCall m_is_whole (gACons (gVar 2) (gANil)))))) (gRet (gC (.bl false))) (gNext))
    (gRet (gAndV (gOp oGe (gVar 2) (gC (.int 1))) (gOp oEq (gCall oGcd (gACons (gVar 1) (gACons (gVar 2) (gANil)))) (gC (.int 1)))))))
noncomputable def m_is_fraction : OC := cutM (fnM 3 g_is_fraction)
noncomputable def g_is_worths : GS := gSeq (gIf (gOr (gNot (gTru (gUn (oIsi "tuple") (gVar 0)))) (gNot (gTest (gChain oLe oLe (gC (.int 2)) (gCall oLen (gACons (gVar 0) (gANil))) (gC (.int 4)))))) (gRet (gC (.bl false))) (gNext))
    (gRet (gCall oAll (gACons (gLcG finI (giSeq (gVar 0)) (gtName 1) (gYes) (gCall m_is_fraction (gACons (gVar 1) (gANil))) [1]) (gANil))))
noncomputable def m_is_worths : OC := cutM (fnM 2 g_is_worths)
noncomputable def g_level : GS := gSeq (gIf (gNot (gTru (gCall m_is_worths (gACons (gVar 0) (gANil))))) (gRaise "NoWorths") (gNext))
    (gSeq (gAsg (gCall m_common (gACons (gVar 0) (gANil))) (gtTup 2 (gtCons (gtName 1) (gtCons (gtName 2) (gtNil)))))
    (gSeq (gAsg (gCall m_best_lot (gACons (gVar 1) (gACons (gVar 2) (gANil)))) (gtTup 2 (gtCons (gtName 3) (gtCons (gtName 4) (gtNil)))))
    (gRet (gCall m_reduced (gACons (gVar 4) (gACons (gOp oMul (gCall oLen (gACons (gVar 3) (gANil))) (gVar 2)) (gANil)))))))
noncomputable def m_level : OC := cutM (fnM 5 g_level)
noncomputable def g__law_times : GS := gRet (gCall m__law_f (gACons (gOp oMul (gOp oIx (gVar 0) (gC (.int 0))) (gOp oIx (gVar 1) (gC (.int 0)))) (gACons (gOp oMul (gOp oIx (gVar 0) (gC (.int 1))) (gOp oIx (gVar 1) (gC (.int 1)))) (gANil))))
noncomputable def m__law_times : OC := cutM (fnM 2 g__law_times)
noncomputable def g__law_mix_right : GS := gSeq (gSet 3 (gCall oTuple (gACons (gLcG finI (giSeq (gVar 1)) (gtName 4) (gYes) (gCall m__law_worth (gACons (gVar 0) (gANil))) [4]) (gANil))))
    (gSeq (gSet 5 (gCall m__law_any (gACons (gVar 0) (gACons (gLst (gACons (gETup (gACons (gC (.int 1)) (gACons (gC (.int 2)) (gANil)))) (gACons (gETup (gACons (gC (.int 1)) (gACons (gC (.int 3)) (gANil)))) (gACons (gETup (gACons (gC (.int 9)) (gACons (gC (.int 10)) (gANil)))) (gANil))))) (gANil)))))
    (gSeq (gSet 6 (gCall m__law_minus (gACons (gETup (gACons (gC (.int 1)) (gACons (gC (.int 1)) (gANil)))) (gACons (gVar 5) (gANil)))))
    (gSeq (gSet 7 (gCall oTuple (gACons (gLcG finI (giZip (gACons (gVar 1) (gACons (gVar 3) (gANil)))) (gtTup 2 (gtCons (gtName 4) (gtCons (gtName 8) (gtNil)))) (gYes) (gCall m__law_plus (gACons (gCall m__law_times (gACons (gVar 6) (gACons (gVar 4) (gANil)))) (gACons (gCall m__law_times (gACons (gVar 5) (gACons (gVar 8) (gANil)))) (gANil)))) [4, 8]) (gANil))))
    (gRet (gNotV (gCall m__law_less (gACons (gCall m__law_plus (gACons (gCall m__law_times (gACons (gVar 6) (gACons (gVar 2) (gANil)))) (gACons (gCall m__law_times (gACons (gVar 5) (gACons (gCall m_level (gACons (gVar 3) (gANil))) (gANil)))) (gANil)))) (gACons (gCall m_level (gACons (gVar 7) (gANil))) (gANil)))))))))
noncomputable def m__law_mix_right : OC := cutM (fnM 9 g__law_mix_right)
noncomputable def g_total : GS := gSeq (gSet 1 (gC (.int 0)))
    (gSeq (gSet 2 (gC (.int 1)))
    (gSeq (gFor (giSeq (gVar 0)) (gtTup 2 (gtCons (gtName 3) (gtCons (gtName 4) (gtNil)))) (gSeq (gSet 5 (gCall oLcm (gACons (gVar 2) (gACons (gVar 4) (gANil)))))
    (gSeq (gSet 1 (gOp oAdd (gOp oMul (gVar 1) (gOp oDiv (gVar 5) (gVar 2))) (gOp oMul (gVar 3) (gOp oDiv (gVar 5) (gVar 4)))))
    (gSet 2 (gVar 5)))))
    (gRet (gCall m_reduced (gACons (gVar 1) (gACons (gVar 2) (gANil)))))))
noncomputable def m_total : OC := cutM (fnM 6 g_total)
noncomputable def g_negated : GS := gSeq (gAsg (gVar 0) (gtTup 2 (gtCons (gtName 1) (gtCons (gtName 2) (gtNil)))))
    (gRet (gETup (gACons (gUn oNeg (gVar 1)) (gACons (gVar 2) (gANil)))))
noncomputable def m_negated : OC := cutM (fnM 3 g_negated)
noncomputable def g_minus : GS := gRet (gCall m_total (gACons (gLst (gACons (gVar 0) (gACons (gCall m_negated (gACons (gVar 1) (gANil))) (gANil)))) (gANil)))
noncomputable def m_minus : OC := cutM (fnM 2 g_minus)
noncomputable def g_filled : GS := gSeq (gSet 1 (gCall m_level (gACons (gVar 0) (gANil))))
    (gSeq (gSet 2 (gLstM (gANil)))
    (gSeq (gFor (giSeq (gVar 0)) (gtName 3) (gSeq (gSet 4 (gCall m_minus (gACons (gCall m_total (gACons (gLst (gACons (gVar 3) (gACons (gC (.tup [.int 1, .int 1])) (gANil)))) (gANil))) (gACons (gVar 1) (gANil)))))
    (gDrop (gBM oAppend (gVar 2) (gACons (gIfE (gTest (gOp oGt (gOp oIx (gVar 4) (gC (.int 0))) (gC (.int 0)))) (gVar 4) (gC (.tup [.int 0, .int 1]))) (gANil))))))
    (gRet (gCall oTuple (gACons (gVar 2) (gANil))))))
noncomputable def m_filled : OC := cutM (fnM 5 g_filled)
noncomputable def g_even_lot : GS := gSeq (gIf (gNot (gTru (gCall m_is_worths (gACons (gVar 0) (gANil))))) (gRaise "NoWorths") (gNext))
    (gSeq (gAsg (gCall m_common (gACons (gVar 0) (gANil))) (gtTup 2 (gtCons (gtName 1) (gtCons (gtName 2) (gtNil)))))
    (gRet (gOp oIx (gCall m_best_lot (gACons (gVar 1) (gACons (gVar 2) (gANil)))) (gC (.int 0)))))
noncomputable def m_even_lot : OC := cutM (fnM 3 g_even_lot)
noncomputable def g__law_same (r : OC) : GS := gSeq (gIf (gTru (gUn (oIsi "tuple") (gVar 1))) (gSeq (gIf (gOr (gNot (gTru (gUn (oIsi "tuple") (gVar 0)))) (gTest (gOp oNe (gCall oLen (gACons (gVar 0) (gANil))) (gCall oLen (gACons (gVar 1) (gANil)))))) (gRet (gC (.bl false))) (gNext))
    (gSeq (gFor (giZip (gACons (gVar 0) (gACons (gVar 1) (gANil)))) (gtTup 2 (gtCons (gtName 2) (gtCons (gtName 3) (gtNil)))) (gIf (gNot (gTru (gCall r (gACons (gVar 2) (gACons (gVar 3) (gANil)))))) (gRet (gC (.bl false))) (gNext)))
    (gRet (gC (.bl true))))) (gNext))
    (gSeq (gIf (gTest (gUn oIsN (gVar 1))) (gRet (gUn oIsN (gVar 0))) (gNext))
    (gSeq (gIf (gTru (gUn (oIsi "str") (gVar 1))) (gRet (gAndV (gUn (oIsi "str") (gVar 0)) (gOp oEq (gVar 0) (gVar 1)))) (gNext))
    (gRet (gAndV (gUn (oIsi "int") (gVar 0)) (gAndV (gNotV (gUn (oIsi "bool") (gVar 0))) (gOp oEq (gVar 0) (gVar 1)))))))
noncomputable def f__law_same : Nat → OC
  | 0 => fun _ _ => .bad
  | j + 1 => cutM (fnM 4 (g__law_same (f__law_same j)))
noncomputable def m__law_same : OC := f__law_same 3
noncomputable def g__law_is_fraction : GS := gSeq (gIf (gOr (gNot (gTru (gUn (oIsi "tuple") (gVar 0)))) (gTest (gOp oNe (gCall oLen (gACons (gVar 0) (gANil))) (gC (.int 2))))) (gRet (gC (.bl false))) (gNext))
    (gSeq (gIf (gNot (gTru (gCall oAll (gACons (gLcG finI (giSeq (gVar 0)) (gtName 1) (gYes) (gAndV (gUn (oIsi "int") (gVar 1)) (gNotV (gUn (oIsi "bool") (gVar 1)))) [1]) (gANil))))) (gRet (gC (.bl false))) (gNext))
    (gRet (gAndV (gOp oGt (gOp oIx (gVar 0) (gC (.int 1))) (gC (.int 0))) (gOp oEq (gCall m__law_gcd (gACons (gOp oIx (gVar 0) (gC (.int 0))) (gACons (gOp oIx (gVar 0) (gC (.int 1))) (gANil)))) (gC (.int 1))))))
noncomputable def m__law_is_fraction : OC := cutM (fnM 2 g__law_is_fraction)
noncomputable def g__law_raised_right : GS := gSeq (gSet 4 (gCall m__law_draw (gACons (gVar 0) (gACons (gCall oLen (gACons (gVar 1) (gANil))) (gANil)))))
    (gSeq (gSet 5 (gCall m__law_f (gACons (gOp oAdd (gC (.int 1)) (gCall m__law_draw (gACons (gVar 0) (gACons (gC (.int 20)) (gANil))))) (gACons (gCall m__law_any (gACons (gVar 0) (gACons (gLst (gACons (gC (.int 1)) (gACons (gC (.int 3)) (gACons (gC (.int 10)) (gANil))))) (gANil)))) (gANil)))))
    (gSeq (gSet 6 (gOp oAdd (gOp oAdd (gSl (gVar 1) (gNoP) (gP (gVar 4))) (gETup (gACons (gCall m__law_plus (gACons (gOp oIx (gVar 1) (gVar 4)) (gACons (gVar 5) (gANil)))) (gANil)))) (gSl (gVar 1) (gP (gOp oAdd (gVar 4) (gC (.int 1)))) (gNoP))))
    (gSeq (gAsg (gETup (gACons (gCall m_level (gACons (gVar 6) (gANil))) (gACons (gCall m_filled (gACons (gVar 6) (gANil))) (gANil)))) (gtTup 2 (gtCons (gtName 7) (gtCons (gtName 8) (gtNil)))))
    (gSeq (gIf (gOr (gTru (gCall m__law_less (gACons (gVar 7) (gACons (gVar 2) (gANil))))) (gOr (gTru (gCall m__law_less (gACons (gCall m__law_plus (gACons (gVar 2) (gACons (gVar 5) (gANil)))) (gACons (gVar 7) (gANil))))) (gTru (gCall m__law_less (gACons (gOp oIx (gVar 8) (gVar 4)) (gACons (gOp oIx (gVar 3) (gVar 4)) (gANil))))))) (gRet (gC (.bl false))) (gNext))
    (gRet (gNotV (gCall oAny (gACons (gLcG finI (giRng1 (gACons (gCall oLen (gACons (gVar 1) (gANil))) (gANil))) (gtName 9) (gYes) (gAndV (gOp oNe (gVar 9) (gVar 4)) (gCall m__law_less (gACons (gOp oIx (gVar 3) (gVar 9)) (gACons (gOp oIx (gVar 8) (gVar 9)) (gANil))))) [9]) (gANil)))))))))
noncomputable def m__law_raised_right : OC := cutM (fnM 10 g__law_raised_right)
noncomputable def g__law_low_right : GS := gSeq (gIf (gTest (gOp oEq (gCall oLen (gACons (gVar 0) (gANil))) (gC (.int 4)))) (gRet (gC (.bl true))) (gNext))
    (gSeq (gSet 2 (gCall m__law_minus (gACons (gVar 1) (gACons (gETup (gACons (gC (.int 1)) (gACons (gC (.int 1)) (gANil)))) (gANil)))))
    (gSeq (gSet 3 (gOp oAdd (gVar 0) (gETup (gACons (gVar 2) (gANil)))))
    (gSeq (gIf (gOr (gNot (gTru (gCall m__law_same (gACons (gCall m_level (gACons (gVar 3) (gANil))) (gACons (gVar 1) (gANil)))))) (gNot (gTru (gCall m__law_same (gACons (gCall m_filled (gACons (gVar 3) (gANil))) (gACons (gOp oAdd (gCall m_filled (gACons (gVar 0) (gANil))) (gETup (gACons (gETup (gACons (gC (.int 0)) (gACons (gC (.int 1)) (gANil)))) (gANil)))) (gANil))))))) (gRet (gC (.bl false))) (gNext))
    (gRet (gCall m__law_same (gACons (gCall m_even_lot (gACons (gVar 3) (gANil))) (gACons (gCall m_even_lot (gACons (gVar 0) (gANil))) (gANil))))))))
noncomputable def m__law_low_right : OC := cutM (fnM 4 g__law_low_right)
noncomputable def g__law_one : GS := gSeq (gSet 1 (gCall oTuple (gACons (gLcG finI (giRng1 (gACons (gOp oAdd (gC (.int 2)) (gCall m__law_draw (gACons (gVar 0) (gACons (gC (.int 3)) (gANil))))) (gANil))) (gtName 2) (gYes) (gCall m__law_worth (gACons (gVar 0) (gANil))) [2]) (gANil))))
    (gSeq (gAsg (gETup (gACons (gCall m_level (gACons (gVar 1) (gANil))) (gACons (gCall m_filled (gACons (gVar 1) (gANil))) (gACons (gCall m_even_lot (gACons (gVar 1) (gANil))) (gANil))))) (gtTup 3 (gtCons (gtName 3) (gtCons (gtName 4) (gtCons (gtName 5) (gtNil))))))
    (gSeq (gIf (gOr (gNot (gTru (gCall m__law_is_fraction (gACons (gVar 3) (gANil))))) (gOr (gNot (gTru (gUn (oIsi "tuple") (gVar 4)))) (gNot (gTru (gCall oAll (gACons (gLcG finI (giSeq (gVar 4)) (gtName 6) (gYes) (gCall m__law_is_fraction (gACons (gVar 6) (gANil))) [6]) (gANil))))))) (gRet (gC (.bl false))) (gNext))
    (gSeq (gSet 7 (gCall m__law_worth (gACons (gVar 0) (gANil))))
    (gSeq (gSet 8 (gCall oTuple (gACons (gLcG finI (giSeq (gVar 1)) (gtName 9) (gYes) (gCall m__law_plus (gACons (gVar 9) (gACons (gVar 7) (gANil)))) [9]) (gANil))))
    (gSeq (gIf (gOr (gNot (gTru (gCall m__law_same (gACons (gCall m_level (gACons (gVar 8) (gANil))) (gACons (gCall m__law_plus (gACons (gVar 3) (gACons (gVar 7) (gANil)))) (gANil)))))) (gNot (gTru (gCall m__law_same (gACons (gCall m_filled (gACons (gVar 8) (gANil))) (gACons (gVar 4) (gANil))))))) (gRet (gC (.bl false))) (gNext))
    (gSeq (gIf (gNot (gTru (gCall m__law_same (gACons (gCall m_even_lot (gACons (gVar 8) (gANil))) (gACons (gVar 5) (gANil)))))) (gRet (gC (.bl false))) (gNext))
    (gSeq (gSet 10 (gCall m__law_mixed_order (gACons (gVar 0) (gACons (gCall oLen (gACons (gVar 1) (gANil))) (gANil)))))
    (gSeq (gSet 11 (gCall oTuple (gACons (gLcG finI (giSeq (gVar 10)) (gtName 12) (gYes) (gOp oIx (gVar 1) (gVar 12)) [12]) (gANil))))
    (gSeq (gIf (gOr (gNot (gTru (gCall m__law_same (gACons (gCall m_level (gACons (gVar 11) (gANil))) (gACons (gVar 3) (gANil)))))) (gNot (gTru (gCall m__law_same (gACons (gCall m_filled (gACons (gVar 11) (gANil))) (gACons (gCall oTuple (gACons (gLcG finI (giSeq (gVar 10)) (gtName 12) (gYes) (gOp oIx (gVar 4) (gVar 12)) [12]) (gANil))) (gANil))))))) (gRet (gC (.bl false))) (gNext))
    (gSeq (gIf (gOr (gNot (gTru (gCall m__law_raised_right (gACons (gVar 0) (gACons (gVar 1) (gACons (gVar 3) (gACons (gVar 4) (gANil)))))))) (gNot (gTru (gCall m__law_low_right (gACons (gVar 1) (gACons (gVar 3) (gANil))))))) (gRet (gC (.bl false))) (gNext))
    (gRet (gCall m__law_mix_right (gACons (gVar 0) (gACons (gVar 1) (gACons (gVar 3) (gANil))))))))))))))))
noncomputable def m__law_one : OC := cutM (fnM 13 g__law_one)
noncomputable def g__law_hat : GS := gSeq (gSet 2 (gOp oMul (gOp oMul (gOp oMul (gOp oPow (gC (.int 10)) (gC (.int 64))) (gOp oPow (gC (.int 10)) (gC (.int 64)))) (gOp oPow (gC (.int 10)) (gC (.int 64)))) (gOp oPow (gC (.int 10)) (gC (.int 64)))))
    (gSeq (gSet 3 (gOp oMod (gCall oInt (gACons (gVar 0) (gANil))) (gVar 2)))
    (gSeq (gIf (gTest (gOp oGe (gVar 3) (gOp oPow (gC (.int 10)) (gC (.int 18))))) (gRet (gLstM (gACons (gVar 3) (gACons (gOp oAdd (gOp oMod (gCall oInt (gACons (gVar 3) (gANil))) (gC (.int 2147483563))) (gVar 1)) (gANil))))) (gNext))
    (gRet (gLstM (gACons (gC (.int 0)) (gACons (gOp oMod (gOp oAdd (gOp oAdd (gOp oMul (gOp oMod (gCall oInt (gACons (gVar 3) (gANil))) (gC (.int 2147483647))) (gC (.int 48271))) (gOp oMul (gC (.int 7919)) (gVar 1))) (gC (.int 1))) (gC (.int 2147483647))) (gANil)))))))
noncomputable def m__law_hat : OC := fnM 4 g__law_hat
noncomputable def g_law : GS := gSeq (gFor (giEnum (gACons (gSl (gOp oAdd (gCall oList (gACons (gVar 0) (gANil))) (gLst (gACons (gC (.int 4)) (gACons (gC (.int 13)) (gACons (gC (.int 41)) (gANil)))))) (gNoP) (gP (gC (.int 30)))) (gANil))) (gtTup 2 (gtCons (gtName 1) (gtCons (gtName 2) (gtNil)))) (gIf (gNot (gTru (gCall m__law_one (gACons (gCall m__law_hat (gACons (gVar 2) (gACons (gVar 1) (gANil)))) (gANil))))) (gRet (gC (.bl false))) (gNext)))
    (gRet (gC (.bl true)))
noncomputable def m_law : OC := fnM 3 g_law
end K11
set_option Elab.async false
set_option linter.all false
set_option maxRecDepth 100000
set_option maxHeartbeats 4000000
namespace K11
open PySem PySem.Spec PyProof.Rows L2 KM
def topS (i : Nat) : Stmt := PySem.Challenge.pw_keptmisses_k11_whole_worths_moved.main.body.getD i (.Pass ⟨0, 0, 0, 0⟩)
structure Txt (K : PySem.W.Frag) (mg : Str → Option Value) : Prop where
  z_abs : mg "abs" = none
  z_all : mg "all" = none
  z_any : mg "any" = none
  z_bool : mg "bool" = none
  z_enumerate : mg "enumerate" = none
  z_int : mg "int" = none
  z_isinstance : mg "isinstance" = none
  z_len : mg "len" = none
  z_list : mg "list" = none
  z_range : mg "range" = none
  z_sorted : mg "sorted" = none
  z_str : mg "str" = none
  z_tuple : mg "tuple" = none
  z_zip : mg "zip" = none
  z_gcd : mg "gcd" = some (.builtin "math.gcd")
  z_lcm : mg "lcm" = some (.builtin "math.lcm")
  c_ONE : GlobC K mg "ONE" (.tup [.int 1, .int 1])
  c_ZERO : GlobC K mg "ZERO" (.tup [.int 0, .int 1])
  x_NoWorths : ExcAt K mg "NoWorths"
section
variable {P : Program} {w : World} {K : PySem.W.Frag} {mg : Str → Option Value} {base : Heap}
abbrev s__law_gcd : Stmt := topS 26
abbrev n__law_gcd : List Str := ["one", "other", "k"]
theorem sc__law_gcd : FnScope ["one", "other", "k"] ["one", "other"] (defScope s__law_gcd) := ⟨rfl, rfl, rfl, by decide +kernel, rfl, by decide +kernel, by decide +kernel⟩
theorem ok__law_gcd {f : Addr} {fd : FuncData} (F : Fun K "_law_gcd" "_law_gcd" s__law_gcd f fd) (T : Txt K mg)  :
    FnOk P w K mg base (L2.CX P w) 1 f fd ["one", "other"] (spM K mg 2 m__law_gcd) := by
  have z_abs := T.z_abs
  have z_range := T.z_range
  have z_int := T.z_int
  have nd := sc__law_gcd.nd
  refine FnOk.cut (fn_okM F sc__law_gcd fun cdv A outer s H E hr tk po => ?_)
  exact ⟨_, xss_cons (xs_set 0 nd (xe_callB call_abs opc_abs z_abs (by decide +kernel) (xa_cons (xe_v 0) (xa_nil))))
    (xss_cons (xs_for po rfl (xi_rng1 z_range (xa_cons (xe_int) (xa_nil))) (xg_name 2 nd) (xss_cons (xs_if (xt_cmp (r := rEqD K) (op_eqD hr.units) opd_eq (xe_v 1) (xe_int)) (xss_one (xs_break)) (xss_nil))
    (xss_one (xs_par (i := 0) (j := 1) rfl nd (xe_v 1) (xe_op op_mod opd_mod (xe_callTy call_int1 opc_int z_int (by decide +kernel) (xa_cons (xe_v 0) (xa_nil))) (xe_v 1))))))
    (xss_one (xs_ret (xe_v 0))))⟩
abbrev s__law_f : Stmt := topS 27
abbrev n__law_f : List Str := ["top", "bottom", "shared"]
theorem sc__law_f : FnScope ["top", "bottom", "shared"] ["top", "bottom"] (defScope s__law_f) := ⟨rfl, rfl, rfl, by decide +kernel, rfl, by decide +kernel, by decide +kernel⟩
theorem ok__law_f {f : Addr} {fd : FuncData} (F : Fun K "_law_f" "_law_f" s__law_f f fd) (T : Txt K mg) (C__law_gcd : Callee P w K mg base "_law_gcd" 1 2 m__law_gcd) :
    FnOk P w K mg base (L2.CX P w) 2 f fd ["top", "bottom"] (spM K mg 2 m__law_f) := by
  have z_abs := T.z_abs
  have nd := sc__law_f.nd
  refine FnOk.cut (fn_okM F sc__law_f fun cdv A outer s H E hr tk po => ?_)
  exact ⟨_, xss_cons (xs_set 2 nd (xe_callB call_abs opc_abs z_abs (by decide +kernel) (xa_cons (ke_call K mg C__law_gcd (hr.mono (by decide)) tk (xa_cons (xe_v 0) (xa_cons (xe_v 1) (xa_nil)))) (xa_nil))))
    (xss_cons (xs_if (xt_cmp op_lt opd_lt (xe_v 1) (xe_int)) (xss_one (xs_set 2 nd (xe_un un_neg opu_neg (xe_v 2)))) (xss_nil))
    (xss_one (xs_ret (xe_tup (xa_cons (xe_op op_fdivW opd_div (xe_v 0) (xe_v 2)) (xa_cons (xe_op op_fdivW opd_div (xe_v 1) (xe_v 2)) (xa_nil)))))))⟩
abbrev s__law_draw : Stmt := topS 23
abbrev n__law_draw : List Str := ["hat", "many", "digit"]
theorem sc__law_draw : FnScope ["hat", "many", "digit"] ["hat", "many"] (defScope s__law_draw) := ⟨rfl, rfl, rfl, by decide +kernel, rfl, by decide +kernel, by decide +kernel⟩
theorem ok__law_draw {f : Addr} {fd : FuncData} (F : Fun K "_law_draw" "_law_draw" s__law_draw f fd) (T : Txt K mg)  :
    FnOk P w K mg base (L2.CX P w) 1 f fd ["hat", "many"] (spM K mg 2 m__law_draw) := by
  have z_int := T.z_int
  have nd := sc__law_draw.nd
  refine FnOk.cut (fn_okM F sc__law_draw fun cdv A outer s H E hr tk po => ?_)
  exact ⟨_, xss_cons (xs_if (xt_cmp op_gt opd_gt (xe_ix (r := rIx K) ix_seq opd_ix (xe_v 0) (xe_int)) (xe_int)) (xss_cons (xs_set 2 nd (xe_op op_mod opd_mod (xe_callTy call_int1 opc_int z_int (by decide +kernel) (xa_cons (xe_ix (r := rIx K) ix_seq opd_ix (xe_v 0) (xe_int)) (xa_nil))) (xe_v 1)))
    (xss_cons (xs_asg (xe_op op_fdivW opd_div (xe_ix (r := rIx K) ix_seq opd_ix (xe_v 0) (xe_int)) (xe_v 1)) (xg_sub set_list setd_list (xe_v 0) (xe_int)))
    (xss_one (xs_ret (xe_v 2))))) (xss_nil))
    (xss_cons (xs_asg (xe_op op_mod opd_mod (xe_op (r := rAddG K) op_addG opd_add (xe_op (r := rMulA K) op_mulA opd_mul (xe_callTy call_int1 opc_int z_int (by decide +kernel) (xa_cons (xe_ix (r := rIx K) ix_seq opd_ix (xe_v 0) (xe_int)) (xa_nil))) (xe_int)) (xe_int)) (xe_int)) (xg_sub set_list setd_list (xe_v 0) (xe_int)))
    (xss_cons (xs_asg (xe_op op_mod opd_mod (xe_op (r := rAddG K) op_addG opd_add (xe_op (r := rMulA K) op_mulA opd_mul (xe_callTy call_int1 opc_int z_int (by decide +kernel) (xa_cons (xe_ix (r := rIx K) ix_seq opd_ix (xe_v 0) (xe_int)) (xa_nil))) (xe_op (r := rAddG K) op_addG opd_add (xe_op op_mod opd_mod (xe_op op_fdivW opd_div (xe_ix (r := rIx K) ix_seq opd_ix (xe_v 0) (xe_int)) (xe_int)) (xe_int)) (xe_int))) (xe_int)) (xe_int)) (xg_sub set_list setd_list (xe_v 0) (xe_int)))
    (xss_one (xs_ret (xe_op op_mod opd_mod (xe_op op_fdivW opd_div (xe_ix (r := rIx K) ix_seq opd_ix (xe_v 0) (xe_int)) (xe_int)) (xe_v 1))))))⟩
abbrev s__law_any : Stmt := topS 25
abbrev n__law_any : List Str := ["hat", "things"]
theorem sc__law_any : FnScope ["hat", "things"] ["hat", "things"] (defScope s__law_any) := ⟨rfl, rfl, rfl, by decide +kernel, rfl, by decide +kernel, by decide +kernel⟩
theorem ok__law_any {f : Addr} {fd : FuncData} (F : Fun K "_law_any" "_law_any" s__law_any f fd) (T : Txt K mg) (C__law_draw : Callee P w K mg base "_law_draw" 1 2 m__law_draw) :
    FnOk P w K mg base (L2.CX P w) 2 f fd ["hat", "things"] (spM K mg 2 m__law_any) := by
  have z_len := T.z_len
  have nd := sc__law_any.nd
  refine FnOk.cut (fn_okM F sc__law_any fun cdv A outer s H E hr tk po => ?_)
  exact ⟨_, xss_one (xs_ret (xe_ix (r := rIx K) ix_seq opd_ix (xe_v 1) (ke_call K mg C__law_draw (hr.mono (by decide)) tk (xa_cons (xe_v 0) (xa_cons (xe_callB (r := rLenC K) call_len_seq opc_len z_len PySem.boot_len (xa_cons (xe_v 1) (xa_nil))) (xa_nil))))))⟩
abbrev s__law_worth : Stmt := topS 33
abbrev n__law_worth : List Str := ["hat"]
theorem sc__law_worth : FnScope ["hat"] ["hat"] (defScope s__law_worth) := ⟨rfl, rfl, rfl, by decide +kernel, rfl, by decide +kernel, by decide +kernel⟩
theorem ok__law_worth {f : Addr} {fd : FuncData} (F : Fun K "_law_worth" "_law_worth" s__law_worth f fd) (T : Txt K mg) (C__law_f : Callee P w K mg base "_law_f" 2 2 m__law_f) (C__law_any : Callee P w K mg base "_law_any" 2 2 m__law_any) (C__law_draw : Callee P w K mg base "_law_draw" 1 2 m__law_draw) :
    FnOk P w K mg base (L2.CX P w) 3 f fd ["hat"] (spM K mg 1 m__law_worth) := by

  have nd := sc__law_worth.nd
  refine FnOk.cut (fn_okM F sc__law_worth fun cdv A outer s H E hr tk po => ?_)
  exact ⟨_, xss_one (xs_ret (ke_call K mg C__law_f (hr.mono (by decide)) tk (xa_cons (xe_op op_sub opd_sub (ke_call K mg C__law_draw (hr.mono (by decide)) tk (xa_cons (xe_v 0) (xa_cons (xe_int) (xa_nil)))) (xe_int)) (xa_cons (ke_call K mg C__law_any (hr.mono (by decide)) tk (xa_cons (xe_v 0) (xa_cons (xe_lst (xa_cons (xe_int) (xa_cons (xe_int) (xa_cons (xe_int) (xa_cons (xe_int) (xa_cons (xe_int) (xa_cons (xe_int) (xa_nil)))))))) (xa_nil)))) (xa_nil)))))⟩
abbrev s__law_mixed_order : Stmt := topS 34
abbrev n__law_mixed_order : List Str := ["hat", "size", "rest", "found", "k"]
theorem sc__law_mixed_order : FnScope ["hat", "size", "rest", "found", "k"] ["hat", "size"] (defScope s__law_mixed_order) := ⟨rfl, rfl, rfl, by decide +kernel, rfl, by decide +kernel, by decide +kernel⟩
theorem ok__law_mixed_order {f : Addr} {fd : FuncData} (F : Fun K "_law_mixed_order" "_law_mixed_order" s__law_mixed_order f fd) (T : Txt K mg) (C__law_draw : Callee P w K mg base "_law_draw" 1 2 m__law_draw) :
    FnOk P w K mg base (L2.CX P w) 2 f fd ["hat", "size"] (spM K mg 2 m__law_mixed_order) := by
  have z_list := T.z_list
  have z_range := T.z_range
  have z_len := T.z_len
  have nd := sc__law_mixed_order.nd
  refine (fn_okM F sc__law_mixed_order fun cdv A outer s H E hr tk po => ?_)
  exact ⟨_, xss_cons (xs_set 2 nd (xe_listRg1M rfl z_list z_range (xe_v 1)))
    (xss_cons (xs_set 3 nd (xe_lstM (xa_nil)))
    (xss_cons (xs_for po rfl (xi_rng1 z_range (xa_cons (xe_v 1) (xa_nil))) (xg_name 4 nd) (xss_one (xs_expr (ke_bm K PySem.F.slot_list_append PySem.F.type_list_append mt_append opm_append (xe_v 3) (xa_cons (ke_bm K PySem.F.slot_list_pop PySem.F.type_list_pop mt_popAt opm_popAt (xe_v 2) (xa_cons (ke_call K mg C__law_draw (hr.mono (by decide)) tk (xa_cons (xe_v 0) (xa_cons (xe_callB (r := rLenC K) call_len_seq opc_len z_len PySem.boot_len (xa_cons (xe_v 2) (xa_nil))) (xa_nil)))) (xa_nil))) (xa_nil))))))
    (xss_one (xs_ret (xe_v 3)))))⟩
abbrev s__law_minus : Stmt := topS 29
abbrev n__law_minus : List Str := ["one", "other"]
theorem sc__law_minus : FnScope ["one", "other"] ["one", "other"] (defScope s__law_minus) := ⟨rfl, rfl, rfl, by decide +kernel, rfl, by decide +kernel, by decide +kernel⟩
theorem ok__law_minus {f : Addr} {fd : FuncData} (F : Fun K "_law_minus" "_law_minus" s__law_minus f fd) (T : Txt K mg) (C__law_f : Callee P w K mg base "_law_f" 2 2 m__law_f) :
    FnOk P w K mg base (L2.CX P w) 3 f fd ["one", "other"] (spM K mg 2 m__law_minus) := by

  have nd := sc__law_minus.nd
  refine FnOk.cut (fn_okM F sc__law_minus fun cdv A outer s H E hr tk po => ?_)
  exact ⟨_, xss_one (xs_ret (ke_call K mg C__law_f (hr.mono (by decide)) tk (xa_cons (xe_op op_sub opd_sub (xe_op (r := rMulA K) op_mulA opd_mul (xe_ix (r := rIx K) ix_seq opd_ix (xe_v 0) (xe_int)) (xe_ix (r := rIx K) ix_seq opd_ix (xe_v 1) (xe_int))) (xe_op (r := rMulA K) op_mulA opd_mul (xe_ix (r := rIx K) ix_seq opd_ix (xe_v 1) (xe_int)) (xe_ix (r := rIx K) ix_seq opd_ix (xe_v 0) (xe_int)))) (xa_cons (xe_op (r := rMulA K) op_mulA opd_mul (xe_ix (r := rIx K) ix_seq opd_ix (xe_v 0) (xe_int)) (xe_ix (r := rIx K) ix_seq opd_ix (xe_v 1) (xe_int))) (xa_nil)))))⟩
abbrev s__law_less : Stmt := topS 31
abbrev n__law_less : List Str := ["one", "other"]
theorem sc__law_less : FnScope ["one", "other"] ["one", "other"] (defScope s__law_less) := ⟨rfl, rfl, rfl, by decide +kernel, rfl, by decide +kernel, by decide +kernel⟩
theorem ok__law_less {f : Addr} {fd : FuncData} (F : Fun K "_law_less" "_law_less" s__law_less f fd) (T : Txt K mg)  :
    FnOk P w K mg base (L2.CX P w) 1 f fd ["one", "other"] (spM K mg 2 m__law_less) := by

  have nd := sc__law_less.nd
  refine FnOk.cut (fn_okM F sc__law_less fun cdv A outer s H E hr tk po => ?_)
  exact ⟨_, xss_one (xs_ret (xe_cmp op_lt opd_lt (xe_op (r := rMulA K) op_mulA opd_mul (xe_ix (r := rIx K) ix_seq opd_ix (xe_v 0) (xe_int)) (xe_ix (r := rIx K) ix_seq opd_ix (xe_v 1) (xe_int))) (xe_op (r := rMulA K) op_mulA opd_mul (xe_ix (r := rIx K) ix_seq opd_ix (xe_v 1) (xe_int)) (xe_ix (r := rIx K) ix_seq opd_ix (xe_v 0) (xe_int)))))⟩
abbrev s__law_plus : Stmt := topS 28
abbrev n__law_plus : List Str := ["one", "other"]
theorem sc__law_plus : FnScope ["one", "other"] ["one", "other"] (defScope s__law_plus) := ⟨rfl, rfl, rfl, by decide +kernel, rfl, by decide +kernel, by decide +kernel⟩
theorem ok__law_plus {f : Addr} {fd : FuncData} (F : Fun K "_law_plus" "_law_plus" s__law_plus f fd) (T : Txt K mg) (C__law_f : Callee P w K mg base "_law_f" 2 2 m__law_f) :
    FnOk P w K mg base (L2.CX P w) 3 f fd ["one", "other"] (spM K mg 2 m__law_plus) := by

  have nd := sc__law_plus.nd
  refine FnOk.cut (fn_okM F sc__law_plus fun cdv A outer s H E hr tk po => ?_)
  exact ⟨_, xss_one (xs_ret (ke_call K mg C__law_f (hr.mono (by decide)) tk (xa_cons (xe_op (r := rAddG K) op_addG opd_add (xe_op (r := rMulA K) op_mulA opd_mul (xe_ix (r := rIx K) ix_seq opd_ix (xe_v 0) (xe_int)) (xe_ix (r := rIx K) ix_seq opd_ix (xe_v 1) (xe_int))) (xe_op (r := rMulA K) op_mulA opd_mul (xe_ix (r := rIx K) ix_seq opd_ix (xe_v 1) (xe_int)) (xe_ix (r := rIx K) ix_seq opd_ix (xe_v 0) (xe_int)))) (xa_cons (xe_op (r := rMulA K) op_mulA opd_mul (xe_ix (r := rIx K) ix_seq opd_ix (xe_v 0) (xe_int)) (xe_ix (r := rIx K) ix_seq opd_ix (xe_v 1) (xe_int))) (xa_nil)))))⟩
abbrev s_top_over : Stmt := topS 13
abbrev n_top_over : List Str := ["fraction", "bottom"]
theorem sc_top_over : FnScope ["fraction", "bottom"] ["fraction", "bottom"] (defScope s_top_over) := ⟨rfl, rfl, rfl, by decide +kernel, rfl, by decide +kernel, by decide +kernel⟩
theorem ok_top_over {f : Addr} {fd : FuncData} (F : Fun K "top_over" "top_over" s_top_over f fd) (T : Txt K mg)  :
    FnOk P w K mg base (L2.CX P w) 1 f fd ["fraction", "bottom"] (spM K mg 2 m_top_over) := by

  have nd := sc_top_over.nd
  refine FnOk.cut (fn_okM F sc_top_over fun cdv A outer s H E hr tk po => ?_)
  exact ⟨_, xss_one (xs_ret (xe_op (r := rMulA K) op_mulA opd_mul (xe_ix (r := rIx K) ix_seq opd_ix (xe_v 0) (xe_int)) (xe_op op_fdivW opd_div (xe_v 1) (xe_ix (r := rIx K) ix_seq opd_ix (xe_v 0) (xe_int)))))⟩
abbrev s_common : Stmt := topS 14
abbrev n_common : List Str := ["fractions", "bottom", "fraction"]
theorem sc_common : FnScope ["fractions", "bottom", "fraction"] ["fractions"] (defScope s_common) := ⟨rfl, rfl, rfl, by decide +kernel, rfl, by decide +kernel, by decide +kernel⟩
theorem ok_common {f : Addr} {fd : FuncData} (F : Fun K "common" "common" s_common f fd) (T : Txt K mg) (C_top_over : Callee P w K mg base "top_over" 1 2 m_top_over) :
    FnOk P w K mg base (L2.CX P w) 2 f fd ["fractions"] (spM K mg 1 m_common) := by
  have z_lcm := T.z_lcm
  have nd := sc_common.nd
  refine FnOk.cut (fn_okM F sc_common fun cdv A outer s H E hr tk po => ?_)
  exact ⟨_, xss_cons (xs_set 1 nd (xe_int))
    (xss_cons (xs_for po rfl (ki_seq K (xe_v 0)) (xg_name 2 nd) (xss_one (xs_set 1 nd (xe_callBfun cr_lcm opc_lcm z_lcm (xa_cons (xe_v 1) (xa_cons (xe_ix (r := rIx K) ix_seq opd_ix (xe_v 2) (xe_int)) (xa_nil)))))))
    (xss_one (xs_ret (xe_tup (xa_cons (xe_lc [("fraction", 2)] fin_I rfl nd (ki_seq K (xe_v 0)) (blkOk_by (N := n_common) (sc := defScope s_common) (by decide +kernel)) (fun _ _ _ _ _ => xg_name 2 nd) (fun _ _ _ _ _ => xts_nil) (fun _ _ _ _ _ => ke_call K mg C_top_over (hr.mono (by decide)) takes0 (xa_cons (xe_v 2) (xa_cons (xe_v 1) (xa_nil))))) (xa_cons (xe_v 1) (xa_nil)))))))⟩
abbrev s_best_lot : Stmt := topS 17
abbrev n_best_lot : List Str := ["tops", "bottom", "lot", "most", "drop", "letter", "top", "more"]
theorem sc_best_lot : FnScope ["tops", "bottom", "lot", "most", "drop", "letter", "top", "more"] ["tops", "bottom"] (defScope s_best_lot) := ⟨rfl, rfl, rfl, by decide +kernel, rfl, by decide +kernel, by decide +kernel⟩
theorem ok_best_lot {f : Addr} {fd : FuncData} (F : Fun K "best_lot" "best_lot" s_best_lot f fd) (T : Txt K mg)  :
    FnOk P w K mg base (L2.CX P w) 1 f fd ["tops", "bottom"] (spM K mg 2 m_best_lot) := by
  have z_sorted := T.z_sorted
  have z_tuple := T.z_tuple
  have z_enumerate := T.z_enumerate
  have z_len := T.z_len
  have nd := sc_best_lot.nd
  refine FnOk.cut (fn_okM F sc_best_lot fun cdv A outer s H E hr tk po => ?_)
  exact ⟨_, xss_cons (xs_set 2 nd (xe_lstM (xa_nil)))
    (xss_cons (xs_set 3 nd (xe_un un_neg opu_neg (xe_v 1)))
    (xss_cons (xs_for po rfl (ki_seq K (xe_callB (r := rSortedPT K) cr_sortedPT opc_sortedP z_sorted (by decide +kernel) (xa_cons (xe_lc [("letter", 5), ("top", 6)] fin_I rfl nd (ki_enum K z_enumerate (xa_cons (xe_v 0) (xa_nil))) (blkOk_by (N := n_best_lot) (sc := defScope s_best_lot) (by decide +kernel)) (fun _ _ _ _ _ => kg_tup K rfl (xgs_cons (xg_name 5 nd) (xgs_cons (xg_name 6 nd) (xgs_nil)))) (fun _ _ _ _ _ => xts_nil) (fun _ _ _ _ _ => xe_tup (xa_cons (xe_un un_neg opu_neg (xe_v 6)) (xa_cons (xe_v 5) (xa_nil))))) (xa_nil)))) (kg_tup K rfl (xgs_cons (xg_name 4 nd) (xgs_cons (xg_name 5 nd) (xgs_nil)))) (xss_cons (xs_set 7 nd (xe_op op_sub opd_sub (xe_v 1) (xe_v 4)))
    (xss_cons (xs_if (xw_pt (xw_and (kt_tru K (xe_v 2)) (xw_and1 (xt_cmp op_le opd_le (xe_op (r := rMulA K) op_mulA opd_mul (xe_v 7) (xe_callB (r := rLenC K) call_len_seq opc_len z_len PySem.boot_len (xa_cons (xe_v 2) (xa_nil)))) (xe_v 3))))) (xss_one (xs_break)) (xss_nil))
    (xss_cons (xs_expr (ke_bm K PySem.F.slot_list_append PySem.F.type_list_append mt_append opm_append (xe_v 2) (xa_cons (xe_v 5) (xa_nil))))
    (xss_one (xs_set 3 nd (xe_op (r := rAddG K) op_addG opd_add (xe_v 3) (xe_v 7))))))))
    (xss_one (xs_ret (xe_tup (xa_cons (xe_callTy (r := rTupleC K) call_tuple_of opc_tuple z_tuple (by decide +kernel) (xa_cons (xe_callB (r := rSortedI K) cr_sortedI opc_sorted z_sorted (by decide +kernel) (xa_cons (xe_v 2) (xa_nil))) (xa_nil))) (xa_cons (xe_v 3) (xa_nil))))))))⟩
abbrev s_reduced : Stmt := topS 9
abbrev n_reduced : List Str := ["top", "bottom", "divisor"]
theorem sc_reduced : FnScope ["top", "bottom", "divisor"] ["top", "bottom"] (defScope s_reduced) := ⟨rfl, rfl, rfl, by decide +kernel, rfl, by decide +kernel, by decide +kernel⟩
theorem ok_reduced {f : Addr} {fd : FuncData} (F : Fun K "reduced" "reduced" s_reduced f fd) (T : Txt K mg)  :
    FnOk P w K mg base (L2.CX P w) 1 f fd ["top", "bottom"] (spM K mg 2 m_reduced) := by
  have z_gcd := T.z_gcd
  have nd := sc_reduced.nd
  refine FnOk.cut (fn_okM F sc_reduced fun cdv A outer s H E hr tk po => ?_)
  exact ⟨_, xss_cons (xs_set 2 nd (xe_callBfun cr_gcd opc_gcd z_gcd (xa_cons (xe_v 0) (xa_cons (xe_v 1) (xa_nil)))))
    (xss_one (xs_ret (xe_tup (xa_cons (xe_op op_fdivW opd_div (xe_v 0) (xe_v 2)) (xa_cons (xe_op op_fdivW opd_div (xe_v 1) (xe_v 2)) (xa_nil))))))⟩
abbrev s_is_whole : Stmt := topS 7
abbrev n_is_whole : List Str := ["thing"]
theorem sc_is_whole : FnScope ["thing"] ["thing"] (defScope s_is_whole) := ⟨rfl, rfl, rfl, by decide +kernel, rfl, by decide +kernel, by decide +kernel⟩
theorem ok_is_whole {f : Addr} {fd : FuncData} (F : Fun K "is_whole" "is_whole" s_is_whole f fd) (T : Txt K mg)  :
    FnOk P w K mg base (L2.CX P w) 1 f fd ["thing"] (spM K mg 1 m_is_whole) := by
  have z_isinstance := T.z_isinstance
  have z_int := T.z_int
  have z_bool := T.z_bool
  have nd := sc_is_whole.nd
  refine FnOk.cut (fn_okM F sc_is_whole fun cdv A outer s H E hr tk po => ?_)
  exact ⟨_, xss_one (xs_ret (xe_and (ke_isi K (T := "int") z_isinstance z_int (by decide +kernel) (xe_v 0)) (xe_one (xe_not (ke_isi K (T := "bool") z_isinstance z_bool (by decide +kernel) (xe_v 0))))))⟩
abbrev s_is_fraction : Stmt := topS 8
abbrev n_is_fraction : List Str := ["thing", "top", "bottom"]
theorem sc_is_fraction : FnScope ["thing", "top", "bottom"] ["thing"] (defScope s_is_fraction) := ⟨rfl, rfl, rfl, by decide +kernel, rfl, by decide +kernel, by decide +kernel⟩
theorem ok_is_fraction {f : Addr} {fd : FuncData} (F : Fun K "is_fraction" "is_fraction" s_is_fraction f fd) (T : Txt K mg) (C_is_whole : Callee P w K mg base "is_whole" 1 1 m_is_whole) :
    FnOk P w K mg base (L2.CX P w) 2 f fd ["thing"] (spM K mg 1 m_is_fraction) := by
  have z_isinstance := T.z_isinstance
  have z_tuple := T.z_tuple
  have z_len := T.z_len
  have z_gcd := T.z_gcd
  have nd := sc_is_fraction.nd
  refine FnOk.cut (fn_okM F sc_is_fraction fun cdv A outer s H E hr tk po => ?_)
  exact ⟨_, xss_cons (xs_if (xw_pt (xw_or (xt_not (kt_tru K (ke_isi K (T := "tuple") z_isinstance z_tuple (by decide +kernel) (xe_v 0)))) (xw_or1 (xt_cmp (r := rNeD K) (op_neD hr.units) opd_ne (xe_callB (r := rLenC K) call_len_seq opc_len z_len PySem.boot_len (xa_cons (xe_v 0) (xa_nil))) (xe_int))))) (xss_one (xs_ret (xe_bl))) (xss_nil))
    (xss_cons (xs_asg (xe_v 0) (kg_tup K rfl (xgs_cons (xg_name 1 nd) (xgs_cons (xg_name 2 nd) (xgs_nil)))))
    (xss_cons (xs_if (xw_pt (xw_or (xt_not (kt_tru K (ke_call K mg C_is_whole (hr.mono (by decide)) tk (xa_cons (xe_v 1) (xa_nil))))) (xw_or1 (xt_not (kt_tru K (ke_call K mg C_is_whole (hr.mono (by decide)) tk (xa_cons (xe_v 2) (xa_nil)))))))) (xss_one (xs_ret (xe_bl))) (xss_nil))
    (xss_one (xs_ret (xe_and (xe_cmp op_ge opd_ge (xe_v 2) (xe_int)) (xe_one (xe_cmp (r := rEqD K) (op_eqD hr.units) opd_eq (xe_callBfun cr_gcd opc_gcd z_gcd (xa_cons (xe_v 1) (xa_cons (xe_v 2) (xa_nil)))) (xe_int))))))))⟩
abbrev s_is_worths : Stmt := topS 16
abbrev n_is_worths : List Str := ["thing", "worth"]
theorem sc_is_worths : FnScope ["thing", "worth"] ["thing"] (defScope s_is_worths) := ⟨rfl, rfl, rfl, by decide +kernel, rfl, by decide +kernel, by decide +kernel⟩
theorem ok_is_worths {f : Addr} {fd : FuncData} (F : Fun K "is_worths" "is_worths" s_is_worths f fd) (T : Txt K mg) (C_is_fraction : Callee P w K mg base "is_fraction" 2 1 m_is_fraction) :
    FnOk P w K mg base (L2.CX P w) 3 f fd ["thing"] (spM K mg 1 m_is_worths) := by
  have z_all := T.z_all
  have z_isinstance := T.z_isinstance
  have z_tuple := T.z_tuple
  have z_len := T.z_len
  have nd := sc_is_worths.nd
  refine FnOk.cut (fn_okM F sc_is_worths fun cdv A outer s H E hr tk po => ?_)
  exact ⟨_, xss_cons (xs_if (xw_pt (xw_or (xt_not (kt_tru K (ke_isi K (T := "tuple") z_isinstance z_tuple (by decide +kernel) (xe_v 0)))) (xw_or1 (xt_not (xt_chain op_le op_le opd_le opd_le (xe_int) (xe_callB (r := rLenC K) call_len_seq opc_len z_len PySem.boot_len (xa_cons (xe_v 0) (xa_nil))) (xe_int)))))) (xss_one (xs_ret (xe_bl))) (xss_nil))
    (xss_one (xs_ret (xe_callB (r := rAll K) (cr_all rfl) opc_all z_all (by decide +kernel) (xa_cons (xe_lc [("worth", 1)] fin_I rfl nd (ki_seq K (xe_v 0)) (blkOk_by (N := n_is_worths) (sc := defScope s_is_worths) (by decide +kernel)) (fun _ _ _ _ _ => xg_name 1 nd) (fun _ _ _ _ _ => xts_nil) (fun _ _ _ _ _ => ke_call K mg C_is_fraction (hr.mono (by decide)) takes0 (xa_cons (xe_v 1) (xa_nil)))) (xa_nil)))))⟩
abbrev s_level : Stmt := topS 19
abbrev n_level : List Str := ["worths", "tops", "bottom", "lot", "most"]
theorem sc_level : FnScope ["worths", "tops", "bottom", "lot", "most"] ["worths"] (defScope s_level) := ⟨rfl, rfl, rfl, by decide +kernel, rfl, by decide +kernel, by decide +kernel⟩
theorem ok_level {f : Addr} {fd : FuncData} (F : Fun K "level" "level" s_level f fd) (T : Txt K mg) (C_common : Callee P w K mg base "common" 2 1 m_common) (C_best_lot : Callee P w K mg base "best_lot" 1 2 m_best_lot) (C_reduced : Callee P w K mg base "reduced" 1 2 m_reduced) (C_is_worths : Callee P w K mg base "is_worths" 3 1 m_is_worths) :
    FnOk P w K mg base (L2.CX P w) 4 f fd ["worths"] (spM K mg 1 m_level) := by
  have z_len := T.z_len
  obtain ⟨xa_NoWorths, gx_NoWorths, qx_NoWorths, kx_NoWorths, bx_NoWorths, tx_NoWorths⟩ := T.x_NoWorths.ex
  have nd := sc_level.nd
  refine FnOk.cut (fn_okM F sc_level fun cdv A outer s H E hr tk po => ?_)
  exact ⟨_, xss_cons (xs_if (xt_not (kt_tru K (ke_call K mg C_is_worths (hr.mono (by decide)) tk (xa_cons (xe_v 0) (xa_nil))))) (xss_one (xs_raise rfl tk gx_NoWorths qx_NoWorths kx_NoWorths bx_NoWorths tx_NoWorths)) (xss_nil))
    (xss_cons (xs_asg (ke_call K mg C_common (hr.mono (by decide)) tk (xa_cons (xe_v 0) (xa_nil))) (kg_tup K rfl (xgs_cons (xg_name 1 nd) (xgs_cons (xg_name 2 nd) (xgs_nil)))))
    (xss_cons (xs_asg (ke_call K mg C_best_lot (hr.mono (by decide)) tk (xa_cons (xe_v 1) (xa_cons (xe_v 2) (xa_nil)))) (kg_tup K rfl (xgs_cons (xg_name 3 nd) (xgs_cons (xg_name 4 nd) (xgs_nil)))))
    (xss_one (xs_ret (ke_call K mg C_reduced (hr.mono (by decide)) tk (xa_cons (xe_v 4) (xa_cons (xe_op (r := rMulA K) op_mulA opd_mul (xe_callB (r := rLenC K) call_len_seq opc_len z_len PySem.boot_len (xa_cons (xe_v 3) (xa_nil))) (xe_v 2)) (xa_nil))))))))⟩
abbrev s__law_times : Stmt := topS 30
abbrev n__law_times : List Str := ["one", "other"]
theorem sc__law_times : FnScope ["one", "other"] ["one", "other"] (defScope s__law_times) := ⟨rfl, rfl, rfl, by decide +kernel, rfl, by decide +kernel, by decide +kernel⟩
theorem ok__law_times {f : Addr} {fd : FuncData} (F : Fun K "_law_times" "_law_times" s__law_times f fd) (T : Txt K mg) (C__law_f : Callee P w K mg base "_law_f" 2 2 m__law_f) :
    FnOk P w K mg base (L2.CX P w) 3 f fd ["one", "other"] (spM K mg 2 m__law_times) := by

  have nd := sc__law_times.nd
  refine FnOk.cut (fn_okM F sc__law_times fun cdv A outer s H E hr tk po => ?_)
  exact ⟨_, xss_one (xs_ret (ke_call K mg C__law_f (hr.mono (by decide)) tk (xa_cons (xe_op (r := rMulA K) op_mulA opd_mul (xe_ix (r := rIx K) ix_seq opd_ix (xe_v 0) (xe_int)) (xe_ix (r := rIx K) ix_seq opd_ix (xe_v 1) (xe_int))) (xa_cons (xe_op (r := rMulA K) op_mulA opd_mul (xe_ix (r := rIx K) ix_seq opd_ix (xe_v 0) (xe_int)) (xe_ix (r := rIx K) ix_seq opd_ix (xe_v 1) (xe_int))) (xa_nil)))))⟩
abbrev s__law_mix_right : Stmt := topS 38
abbrev n__law_mix_right : List Str := ["hat", "worths", "told", "other", "one", "part", "rest", "mix", "two"]
theorem sc__law_mix_right : FnScope ["hat", "worths", "told", "other", "one", "part", "rest", "mix", "two"] ["hat", "worths", "told"] (defScope s__law_mix_right) := ⟨rfl, rfl, rfl, by decide +kernel, rfl, by decide +kernel, by decide +kernel⟩
theorem ok__law_mix_right {f : Addr} {fd : FuncData} (F : Fun K "_law_mix_right" "_law_mix_right" s__law_mix_right f fd) (T : Txt K mg) (C__law_any : Callee P w K mg base "_law_any" 2 2 m__law_any) (C__law_minus : Callee P w K mg base "_law_minus" 3 2 m__law_minus) (C__law_less : Callee P w K mg base "_law_less" 1 2 m__law_less) (C__law_worth : Callee P w K mg base "_law_worth" 3 1 m__law_worth) (C__law_plus : Callee P w K mg base "_law_plus" 3 2 m__law_plus) (C_level : Callee P w K mg base "level" 4 1 m_level) (C__law_times : Callee P w K mg base "_law_times" 3 2 m__law_times) :
    FnOk P w K mg base (L2.CX P w) 5 f fd ["hat", "worths", "told"] (spM K mg 3 m__law_mix_right) := by
  have z_tuple := T.z_tuple
  have z_zip := T.z_zip
  have nd := sc__law_mix_right.nd
  refine FnOk.cut (fn_okM F sc__law_mix_right fun cdv A outer s H E hr tk po => ?_)
  exact ⟨_, xss_cons (xs_set 3 nd (xe_callTy (r := rTupleC K) call_tuple_of opc_tuple z_tuple (by decide +kernel) (xa_cons (xe_lc [("one", 4)] fin_I rfl nd (ki_seq K (xe_v 1)) (blkOk_by (N := n__law_mix_right) (sc := defScope s__law_mix_right) (by decide +kernel)) (fun _ _ _ _ _ => xg_name 4 nd) (fun _ _ _ _ _ => xts_nil) (fun _ _ _ _ _ => ke_call K mg C__law_worth (hr.mono (by decide)) takes0 (xa_cons (xe_v 0) (xa_nil)))) (xa_nil))))
    (xss_cons (xs_set 5 nd (ke_call K mg C__law_any (hr.mono (by decide)) tk (xa_cons (xe_v 0) (xa_cons (xe_lst (xa_cons (xe_tup (xa_cons (xe_int) (xa_cons (xe_int) (xa_nil)))) (xa_cons (xe_tup (xa_cons (xe_int) (xa_cons (xe_int) (xa_nil)))) (xa_cons (xe_tup (xa_cons (xe_int) (xa_cons (xe_int) (xa_nil)))) (xa_nil))))) (xa_nil)))))
    (xss_cons (xs_set 6 nd (ke_call K mg C__law_minus (hr.mono (by decide)) tk (xa_cons (xe_tup (xa_cons (xe_int) (xa_cons (xe_int) (xa_nil)))) (xa_cons (xe_v 5) (xa_nil)))))
    (xss_cons (xs_set 7 nd (xe_callTy (r := rTupleC K) call_tuple_of opc_tuple z_tuple (by decide +kernel) (xa_cons (xe_lc [("one", 4), ("two", 8)] fin_I rfl nd (ki_zip K z_zip (xa_cons (xe_v 1) (xa_cons (xe_v 3) (xa_nil)))) (blkOk_by (N := n__law_mix_right) (sc := defScope s__law_mix_right) (by decide +kernel)) (fun _ _ _ _ _ => kg_tup K rfl (xgs_cons (xg_name 4 nd) (xgs_cons (xg_name 8 nd) (xgs_nil)))) (fun _ _ _ _ _ => xts_nil) (fun _ _ _ _ _ => ke_call K mg C__law_plus (hr.mono (by decide)) takes0 (xa_cons (ke_call K mg C__law_times (hr.mono (by decide)) takes0 (xa_cons (xe_v 6) (xa_cons (xe_v 4) (xa_nil)))) (xa_cons (ke_call K mg C__law_times (hr.mono (by decide)) takes0 (xa_cons (xe_v 5) (xa_cons (xe_v 8) (xa_nil)))) (xa_nil))))) (xa_nil))))
    (xss_one (xs_ret (xe_not (ke_call K mg C__law_less (hr.mono (by decide)) tk (xa_cons (ke_call K mg C__law_plus (hr.mono (by decide)) tk (xa_cons (ke_call K mg C__law_times (hr.mono (by decide)) tk (xa_cons (xe_v 6) (xa_cons (xe_v 2) (xa_nil)))) (xa_cons (ke_call K mg C__law_times (hr.mono (by decide)) tk (xa_cons (xe_v 5) (xa_cons (ke_call K mg C_level (hr.mono (by decide)) tk (xa_cons (xe_v 3) (xa_nil))) (xa_nil)))) (xa_nil)))) (xa_cons (ke_call K mg C_level (hr.mono (by decide)) tk (xa_cons (xe_v 7) (xa_nil))) (xa_nil))))))))))⟩
abbrev s_total : Stmt := topS 10
abbrev n_total : List Str := ["parts", "top", "bottom", "part_top", "part_bottom", "both"]
theorem sc_total : FnScope ["parts", "top", "bottom", "part_top", "part_bottom", "both"] ["parts"] (defScope s_total) := ⟨rfl, rfl, rfl, by decide +kernel, rfl, by decide +kernel, by decide +kernel⟩
theorem ok_total {f : Addr} {fd : FuncData} (F : Fun K "total" "total" s_total f fd) (T : Txt K mg) (C_reduced : Callee P w K mg base "reduced" 1 2 m_reduced) :
    FnOk P w K mg base (L2.CX P w) 2 f fd ["parts"] (spM K mg 1 m_total) := by
  have z_lcm := T.z_lcm
  have nd := sc_total.nd
  refine FnOk.cut (fn_okM F sc_total fun cdv A outer s H E hr tk po => ?_)
  exact ⟨_, xss_cons (xs_set 1 nd (xe_int))
    (xss_cons (xs_set 2 nd (xe_int))
    (xss_cons (xs_for po rfl (ki_seq K (xe_v 0)) (kg_tup K rfl (xgs_cons (xg_name 3 nd) (xgs_cons (xg_name 4 nd) (xgs_nil)))) (xss_cons (xs_set 5 nd (xe_callBfun cr_lcm opc_lcm z_lcm (xa_cons (xe_v 2) (xa_cons (xe_v 4) (xa_nil)))))
    (xss_cons (xs_set 1 nd (xe_op (r := rAddG K) op_addG opd_add (xe_op (r := rMulA K) op_mulA opd_mul (xe_v 1) (xe_op op_fdivW opd_div (xe_v 5) (xe_v 2))) (xe_op (r := rMulA K) op_mulA opd_mul (xe_v 3) (xe_op op_fdivW opd_div (xe_v 5) (xe_v 4)))))
    (xss_one (xs_set 2 nd (xe_v 5))))))
    (xss_one (xs_ret (ke_call K mg C_reduced (hr.mono (by decide)) tk (xa_cons (xe_v 1) (xa_cons (xe_v 2) (xa_nil))))))))⟩
abbrev s_negated : Stmt := topS 11
abbrev n_negated : List Str := ["fraction", "top", "bottom"]
theorem sc_negated : FnScope ["fraction", "top", "bottom"] ["fraction"] (defScope s_negated) := ⟨rfl, rfl, rfl, by decide +kernel, rfl, by decide +kernel, by decide +kernel⟩
theorem ok_negated {f : Addr} {fd : FuncData} (F : Fun K "negated" "negated" s_negated f fd) (T : Txt K mg)  :
    FnOk P w K mg base (L2.CX P w) 1 f fd ["fraction"] (spM K mg 1 m_negated) := by

  have nd := sc_negated.nd
  refine FnOk.cut (fn_okM F sc_negated fun cdv A outer s H E hr tk po => ?_)
  exact ⟨_, xss_cons (xs_asg (xe_v 0) (kg_tup K rfl (xgs_cons (xg_name 1 nd) (xgs_cons (xg_name 2 nd) (xgs_nil)))))
    (xss_one (xs_ret (xe_tup (xa_cons (xe_un un_neg opu_neg (xe_v 1)) (xa_cons (xe_v 2) (xa_nil))))))⟩
abbrev s_minus : Stmt := topS 12
abbrev n_minus : List Str := ["one", "other"]
theorem sc_minus : FnScope ["one", "other"] ["one", "other"] (defScope s_minus) := ⟨rfl, rfl, rfl, by decide +kernel, rfl, by decide +kernel, by decide +kernel⟩
theorem ok_minus {f : Addr} {fd : FuncData} (F : Fun K "minus" "minus" s_minus f fd) (T : Txt K mg) (C_total : Callee P w K mg base "total" 2 1 m_total) (C_negated : Callee P w K mg base "negated" 1 1 m_negated) :
    FnOk P w K mg base (L2.CX P w) 3 f fd ["one", "other"] (spM K mg 2 m_minus) := by

  have nd := sc_minus.nd
  refine FnOk.cut (fn_okM F sc_minus fun cdv A outer s H E hr tk po => ?_)
  exact ⟨_, xss_one (xs_ret (ke_call K mg C_total (hr.mono (by decide)) tk (xa_cons (xe_lst (xa_cons (xe_v 0) (xa_cons (ke_call K mg C_negated (hr.mono (by decide)) tk (xa_cons (xe_v 1) (xa_nil))) (xa_nil)))) (xa_nil))))⟩
abbrev s_filled : Stmt := topS 20
abbrev n_filled : List Str := ["worths", "height", "chances", "worth", "chance"]
theorem sc_filled : FnScope ["worths", "height", "chances", "worth", "chance"] ["worths"] (defScope s_filled) := ⟨rfl, rfl, rfl, by decide +kernel, rfl, by decide +kernel, by decide +kernel⟩
theorem ok_filled {f : Addr} {fd : FuncData} (F : Fun K "filled" "filled" s_filled f fd) (T : Txt K mg) (C_level : Callee P w K mg base "level" 4 1 m_level) (C_minus : Callee P w K mg base "minus" 3 2 m_minus) (C_total : Callee P w K mg base "total" 2 1 m_total) :
    FnOk P w K mg base (L2.CX P w) 5 f fd ["worths"] (spM K mg 1 m_filled) := by
  have z_tuple := T.z_tuple
  obtain ⟨v_ZERO, u_ZERO, c1_ZERO, c2_ZERO, c3_ZERO⟩ := T.c_ZERO.ex
  obtain ⟨v_ONE, u_ONE, c1_ONE, c2_ONE, c3_ONE⟩ := T.c_ONE.ex
  have nd := sc_filled.nd
  refine FnOk.cut (fn_okM F sc_filled fun cdv A outer s H E hr tk po => ?_)
  exact ⟨_, xss_cons (xs_set 1 nd (ke_call K mg C_level (hr.mono (by decide)) tk (xa_cons (xe_v 0) (xa_nil))))
    (xss_cons (xs_set 2 nd (xe_lstM (xa_nil)))
    (xss_cons (xs_for po rfl (ki_seq K (xe_v 0)) (xg_name 3 nd) (xss_cons (xs_set 4 nd (ke_call K mg C_minus (hr.mono (by decide)) tk (xa_cons (ke_call K mg C_total (hr.mono (by decide)) tk (xa_cons (xe_lst (xa_cons (xe_v 3) (xa_cons (xe_glob c1_ONE c2_ONE c3_ONE) (xa_nil)))) (xa_nil))) (xa_cons (xe_v 1) (xa_nil)))))
    (xss_one (xs_expr (ke_bm K PySem.F.slot_list_append PySem.F.type_list_append mt_append opm_append (xe_v 2) (xa_cons (xe_if (xt_cmp op_gt opd_gt (xe_ix (r := rIx K) ix_seq opd_ix (xe_v 4) (xe_int)) (xe_int)) (xe_v 4) (xe_glob c1_ZERO c2_ZERO c3_ZERO)) (xa_nil)))))))
    (xss_one (xs_ret (xe_callTy (r := rTupleC K) call_tuple_of opc_tuple z_tuple (by decide +kernel) (xa_cons (xe_v 2) (xa_nil)))))))⟩
abbrev s_even_lot : Stmt := topS 18
abbrev n_even_lot : List Str := ["worths", "tops", "bottom"]
theorem sc_even_lot : FnScope ["worths", "tops", "bottom"] ["worths"] (defScope s_even_lot) := ⟨rfl, rfl, rfl, by decide +kernel, rfl, by decide +kernel, by decide +kernel⟩
theorem ok_even_lot {f : Addr} {fd : FuncData} (F : Fun K "even_lot" "even_lot" s_even_lot f fd) (T : Txt K mg) (C_common : Callee P w K mg base "common" 2 1 m_common) (C_is_worths : Callee P w K mg base "is_worths" 3 1 m_is_worths) (C_best_lot : Callee P w K mg base "best_lot" 1 2 m_best_lot) :
    FnOk P w K mg base (L2.CX P w) 4 f fd ["worths"] (spM K mg 1 m_even_lot) := by
  obtain ⟨xa_NoWorths, gx_NoWorths, qx_NoWorths, kx_NoWorths, bx_NoWorths, tx_NoWorths⟩ := T.x_NoWorths.ex
  have nd := sc_even_lot.nd
  refine FnOk.cut (fn_okM F sc_even_lot fun cdv A outer s H E hr tk po => ?_)
  exact ⟨_, xss_cons (xs_if (xt_not (kt_tru K (ke_call K mg C_is_worths (hr.mono (by decide)) tk (xa_cons (xe_v 0) (xa_nil))))) (xss_one (xs_raise rfl tk gx_NoWorths qx_NoWorths kx_NoWorths bx_NoWorths tx_NoWorths)) (xss_nil))
    (xss_cons (xs_asg (ke_call K mg C_common (hr.mono (by decide)) tk (xa_cons (xe_v 0) (xa_nil))) (kg_tup K rfl (xgs_cons (xg_name 1 nd) (xgs_cons (xg_name 2 nd) (xgs_nil)))))
    (xss_one (xs_ret (xe_ix (r := rIx K) ix_seq opd_ix (ke_call K mg C_best_lot (hr.mono (by decide)) tk (xa_cons (xe_v 1) (xa_cons (xe_v 2) (xa_nil)))) (xe_int)))))⟩
abbrev s__law_same : Stmt := topS 24
abbrev n__law_same : List Str := ["actual", "due", "one", "other"]
theorem sc__law_same : FnScope ["actual", "due", "one", "other"] ["actual", "due"] (defScope s__law_same) := ⟨rfl, rfl, rfl, by decide +kernel, rfl, by decide +kernel, by decide +kernel⟩
theorem ok__law_same {f : Addr} {fd : FuncData} (F : Fun K "_law_same" "_law_same" s__law_same f fd) (T : Txt K mg)  (h1 : mg "_law_same" = some (.ref f)) (h2 : PySem.W.keepIn K (.ref f) = true) (h3 : Binds K fd ["actual", "due"] []) (h4 : PySem.W.nsIn K mainGlobals "_law_same" = some (some (.ref f))) :
    ∀ j : Nat, FnOk P w K mg base (L2.CX P w) (1 + j) f fd ["actual", "due"] (spM K mg 2 (f__law_same j)) := by
  have z_isinstance := T.z_isinstance
  have z_tuple := T.z_tuple
  have z_str := T.z_str
  have z_zip := T.z_zip
  have z_int := T.z_int
  have z_bool := T.z_bool
  have z_len := T.z_len
  have nd := sc__law_same.nd
  intro j
  induction j with
  | zero => exact fn_bad rfl
  | succ j ih =>
  have C_self : Callee P w K mg base "_law_same" (1 + j) 2 (f__law_same j) := FnOk.toC ih h1 h2 h3 h4
  refine FnOk.cut (fn_okM F sc__law_same fun cdv A outer s H E hr tk po => ?_)
  exact ⟨_, xss_cons (xs_if (kt_tru K (ke_isi K (T := "tuple") z_isinstance z_tuple (by decide +kernel) (xe_v 1))) (xss_cons (xs_if (xw_pt (xw_or (xt_not (kt_tru K (ke_isi K (T := "tuple") z_isinstance z_tuple (by decide +kernel) (xe_v 0)))) (xw_or1 (xt_cmp (r := rNeD K) (op_neD hr.units) opd_ne (xe_callB (r := rLenC K) call_len_seq opc_len z_len PySem.boot_len (xa_cons (xe_v 0) (xa_nil))) (xe_callB (r := rLenC K) call_len_seq opc_len z_len PySem.boot_len (xa_cons (xe_v 1) (xa_nil))))))) (xss_one (xs_ret (xe_bl))) (xss_nil))
    (xss_cons (xs_for po rfl (ki_zip K z_zip (xa_cons (xe_v 0) (xa_cons (xe_v 1) (xa_nil)))) (kg_tup K rfl (xgs_cons (xg_name 2 nd) (xgs_cons (xg_name 3 nd) (xgs_nil)))) (xss_one (xs_if (xt_not (kt_tru K (ke_call K mg C_self (hr.mono (Nat.le_refl _)) tk (xa_cons (xe_v 2) (xa_cons (xe_v 3) (xa_nil)))))) (xss_one (xs_ret (xe_bl))) (xss_nil))))
    (xss_one (xs_ret (xe_bl))))) (xss_nil))
    (xss_cons (xs_if (xt_isN (xe_v 1)) (xss_one (xs_ret (xe_isN (xe_v 0)))) (xss_nil))
    (xss_cons (xs_if (kt_tru K (ke_isi K (T := "str") z_isinstance z_str (by decide +kernel) (xe_v 1))) (xss_one (xs_ret (xe_and (ke_isi K (T := "str") z_isinstance z_str (by decide +kernel) (xe_v 0)) (xe_one (xe_cmp (r := rEqD K) (op_eqD hr.units) opd_eq (xe_v 0) (xe_v 1)))))) (xss_nil))
    (xss_one (xs_ret (xe_and (ke_isi K (T := "int") z_isinstance z_int (by decide +kernel) (xe_v 0)) (xe_and (xe_not (ke_isi K (T := "bool") z_isinstance z_bool (by decide +kernel) (xe_v 0))) (xe_one (xe_cmp (r := rEqD K) (op_eqD hr.units) opd_eq (xe_v 0) (xe_v 1)))))))))⟩
abbrev s__law_is_fraction : Stmt := topS 35
abbrev n__law_is_fraction : List Str := ["thing", "one"]
theorem sc__law_is_fraction : FnScope ["thing", "one"] ["thing"] (defScope s__law_is_fraction) := ⟨rfl, rfl, rfl, by decide +kernel, rfl, by decide +kernel, by decide +kernel⟩
theorem ok__law_is_fraction {f : Addr} {fd : FuncData} (F : Fun K "_law_is_fraction" "_law_is_fraction" s__law_is_fraction f fd) (T : Txt K mg) (C__law_gcd : Callee P w K mg base "_law_gcd" 1 2 m__law_gcd) :
    FnOk P w K mg base (L2.CX P w) 2 f fd ["thing"] (spM K mg 1 m__law_is_fraction) := by
  have z_all := T.z_all
  have z_isinstance := T.z_isinstance
  have z_tuple := T.z_tuple
  have z_len := T.z_len
  have z_int := T.z_int
  have z_bool := T.z_bool
  have nd := sc__law_is_fraction.nd
  refine FnOk.cut (fn_okM F sc__law_is_fraction fun cdv A outer s H E hr tk po => ?_)
  exact ⟨_, xss_cons (xs_if (xw_pt (xw_or (xt_not (kt_tru K (ke_isi K (T := "tuple") z_isinstance z_tuple (by decide +kernel) (xe_v 0)))) (xw_or1 (xt_cmp (r := rNeD K) (op_neD hr.units) opd_ne (xe_callB (r := rLenC K) call_len_seq opc_len z_len PySem.boot_len (xa_cons (xe_v 0) (xa_nil))) (xe_int))))) (xss_one (xs_ret (xe_bl))) (xss_nil))
    (xss_cons (xs_if (xt_not (kt_tru K (xe_callB (r := rAll K) (cr_all rfl) opc_all z_all (by decide +kernel) (xa_cons (xe_lc [("one", 1)] fin_I rfl nd (ki_seq K (xe_v 0)) (blkOk_by (N := n__law_is_fraction) (sc := defScope s__law_is_fraction) (by decide +kernel)) (fun _ _ _ _ _ => xg_name 1 nd) (fun _ _ _ _ _ => xts_nil) (fun _ _ _ _ _ => xe_and (ke_isi K (T := "int") z_isinstance z_int (by decide +kernel) (xe_v 1)) (xe_one (xe_not (ke_isi K (T := "bool") z_isinstance z_bool (by decide +kernel) (xe_v 1)))))) (xa_nil))))) (xss_one (xs_ret (xe_bl))) (xss_nil))
    (xss_one (xs_ret (xe_and (xe_cmp op_gt opd_gt (xe_ix (r := rIx K) ix_seq opd_ix (xe_v 0) (xe_int)) (xe_int)) (xe_one (xe_cmp (r := rEqD K) (op_eqD hr.units) opd_eq (ke_call K mg C__law_gcd (hr.mono (by decide)) tk (xa_cons (xe_ix (r := rIx K) ix_seq opd_ix (xe_v 0) (xe_int)) (xa_cons (xe_ix (r := rIx K) ix_seq opd_ix (xe_v 0) (xe_int)) (xa_nil)))) (xe_int)))))))⟩
abbrev s__law_raised_right : Stmt := topS 36
abbrev n__law_raised_right : List Str := ["hat", "worths", "told", "chances", "at", "more", "later", "there", "drawn", "letter"]
theorem sc__law_raised_right : FnScope ["hat", "worths", "told", "chances", "at", "more", "later", "there", "drawn", "letter"] ["hat", "worths", "told", "chances"] (defScope s__law_raised_right) := ⟨rfl, rfl, rfl, by decide +kernel, rfl, by decide +kernel, by decide +kernel⟩
theorem ok__law_raised_right {f : Addr} {fd : FuncData} (F : Fun K "_law_raised_right" "_law_raised_right" s__law_raised_right f fd) (T : Txt K mg) (C__law_draw : Callee P w K mg base "_law_draw" 1 2 m__law_draw) (C__law_f : Callee P w K mg base "_law_f" 2 2 m__law_f) (C__law_any : Callee P w K mg base "_law_any" 2 2 m__law_any) (C_level : Callee P w K mg base "level" 4 1 m_level) (C_filled : Callee P w K mg base "filled" 5 1 m_filled) (C__law_less : Callee P w K mg base "_law_less" 1 2 m__law_less) (C__law_plus : Callee P w K mg base "_law_plus" 3 2 m__law_plus) :
    FnOk P w K mg base (L2.CX P w) 6 f fd ["hat", "worths", "told", "chances"] (spM K mg 4 m__law_raised_right) := by
  have z_len := T.z_len
  have z_any := T.z_any
  have z_range := T.z_range
  have nd := sc__law_raised_right.nd
  refine FnOk.cut (fn_okM F sc__law_raised_right fun cdv A outer s H E hr tk po => ?_)
  exact ⟨_, xss_cons (xs_set 4 nd (ke_call K mg C__law_draw (hr.mono (by decide)) tk (xa_cons (xe_v 0) (xa_cons (xe_callB (r := rLenC K) call_len_seq opc_len z_len PySem.boot_len (xa_cons (xe_v 1) (xa_nil))) (xa_nil)))))
    (xss_cons (xs_set 5 nd (ke_call K mg C__law_f (hr.mono (by decide)) tk (xa_cons (xe_op (r := rAddG K) op_addG opd_add (xe_int) (ke_call K mg C__law_draw (hr.mono (by decide)) tk (xa_cons (xe_v 0) (xa_cons (xe_int) (xa_nil))))) (xa_cons (ke_call K mg C__law_any (hr.mono (by decide)) tk (xa_cons (xe_v 0) (xa_cons (xe_lst (xa_cons (xe_int) (xa_cons (xe_int) (xa_cons (xe_int) (xa_nil))))) (xa_nil)))) (xa_nil)))))
    (xss_cons (xs_set 6 nd (xe_op (r := rAddG K) op_addG opd_add (xe_op (r := rAddG K) op_addG opd_add (ke_slice K (xe_v 1) (xo_none) (xo_some (xe_v 4))) (xe_tup (xa_cons (ke_call K mg C__law_plus (hr.mono (by decide)) tk (xa_cons (xe_ix (r := rIx K) ix_seq opd_ix (xe_v 1) (xe_v 4)) (xa_cons (xe_v 5) (xa_nil)))) (xa_nil)))) (ke_slice K (xe_v 1) (xo_some (xe_op (r := rAddG K) op_addG opd_add (xe_v 4) (xe_int))) (xo_none))))
    (xss_cons (xs_asg (xe_tup (xa_cons (ke_call K mg C_level (hr.mono (by decide)) tk (xa_cons (xe_v 6) (xa_nil))) (xa_cons (ke_call K mg C_filled (hr.mono (by decide)) tk (xa_cons (xe_v 6) (xa_nil))) (xa_nil)))) (kg_tup K rfl (xgs_cons (xg_name 7 nd) (xgs_cons (xg_name 8 nd) (xgs_nil)))))
    (xss_cons (xs_if (xw_pt (xw_or (kt_tru K (ke_call K mg C__law_less (hr.mono (by decide)) tk (xa_cons (xe_v 7) (xa_cons (xe_v 2) (xa_nil))))) (xw_or (kt_tru K (ke_call K mg C__law_less (hr.mono (by decide)) tk (xa_cons (ke_call K mg C__law_plus (hr.mono (by decide)) tk (xa_cons (xe_v 2) (xa_cons (xe_v 5) (xa_nil)))) (xa_cons (xe_v 7) (xa_nil))))) (xw_or1 (kt_tru K (ke_call K mg C__law_less (hr.mono (by decide)) tk (xa_cons (xe_ix (r := rIx K) ix_seq opd_ix (xe_v 8) (xe_v 4)) (xa_cons (xe_ix (r := rIx K) ix_seq opd_ix (xe_v 3) (xe_v 4)) (xa_nil))))))))) (xss_one (xs_ret (xe_bl))) (xss_nil))
    (xss_one (xs_ret (xe_not (xe_callB (r := rAny K) (cr_any rfl) opc_any z_any (by decide +kernel) (xa_cons (xe_lc [("letter", 9)] fin_I rfl nd (xi_rng1 z_range (xa_cons (xe_callB (r := rLenC K) call_len_seq opc_len z_len PySem.boot_len (xa_cons (xe_v 1) (xa_nil))) (xa_nil))) (blkOk_by (N := n__law_raised_right) (sc := defScope s__law_raised_right) (by decide +kernel)) (fun _ _ _ _ _ => xg_name 9 nd) (fun _ _ _ _ _ => xts_nil) (fun _ _ _ _ _ => xe_and (xe_cmp (r := rNeD K) (op_neD hr.units) opd_ne (xe_v 9) (xe_v 4)) (xe_one (ke_call K mg C__law_less (hr.mono (by decide)) takes0 (xa_cons (xe_ix (r := rIx K) ix_seq opd_ix (xe_v 3) (xe_v 9)) (xa_cons (xe_ix (r := rIx K) ix_seq opd_ix (xe_v 8) (xe_v 9)) (xa_nil))))))) (xa_nil))))))))))⟩
abbrev s__law_low_right : Stmt := topS 37
abbrev n__law_low_right : List Str := ["worths", "told", "low", "later"]
theorem sc__law_low_right : FnScope ["worths", "told", "low", "later"] ["worths", "told"] (defScope s__law_low_right) := ⟨rfl, rfl, rfl, by decide +kernel, rfl, by decide +kernel, by decide +kernel⟩
theorem ok__law_low_right {f : Addr} {fd : FuncData} (F : Fun K "_law_low_right" "_law_low_right" s__law_low_right f fd) (T : Txt K mg) (C__law_minus : Callee P w K mg base "_law_minus" 3 2 m__law_minus) (C__law_same : Callee P w K mg base "_law_same" 4 2 m__law_same) (C_even_lot : Callee P w K mg base "even_lot" 4 1 m_even_lot) (C_level : Callee P w K mg base "level" 4 1 m_level) (C_filled : Callee P w K mg base "filled" 5 1 m_filled) :
    FnOk P w K mg base (L2.CX P w) 6 f fd ["worths", "told"] (spM K mg 2 m__law_low_right) := by
  have z_len := T.z_len
  have nd := sc__law_low_right.nd
  refine FnOk.cut (fn_okM F sc__law_low_right fun cdv A outer s H E hr tk po => ?_)
  exact ⟨_, xss_cons (xs_if (xt_cmp (r := rEqD K) (op_eqD hr.units) opd_eq (xe_callB (r := rLenC K) call_len_seq opc_len z_len PySem.boot_len (xa_cons (xe_v 0) (xa_nil))) (xe_int)) (xss_one (xs_ret (xe_bl))) (xss_nil))
    (xss_cons (xs_set 2 nd (ke_call K mg C__law_minus (hr.mono (by decide)) tk (xa_cons (xe_v 1) (xa_cons (xe_tup (xa_cons (xe_int) (xa_cons (xe_int) (xa_nil)))) (xa_nil)))))
    (xss_cons (xs_set 3 nd (xe_op (r := rAddG K) op_addG opd_add (xe_v 0) (xe_tup (xa_cons (xe_v 2) (xa_nil)))))
    (xss_cons (xs_if (xw_pt (xw_or (xt_not (kt_tru K (ke_call K mg C__law_same (hr.mono (by decide)) tk (xa_cons (ke_call K mg C_level (hr.mono (by decide)) tk (xa_cons (xe_v 3) (xa_nil))) (xa_cons (xe_v 1) (xa_nil)))))) (xw_or1 (xt_not (kt_tru K (ke_call K mg C__law_same (hr.mono (by decide)) tk (xa_cons (ke_call K mg C_filled (hr.mono (by decide)) tk (xa_cons (xe_v 3) (xa_nil))) (xa_cons (xe_op (r := rAddG K) op_addG opd_add (ke_call K mg C_filled (hr.mono (by decide)) tk (xa_cons (xe_v 0) (xa_nil))) (xe_tup (xa_cons (xe_tup (xa_cons (xe_int) (xa_cons (xe_int) (xa_nil)))) (xa_nil)))) (xa_nil))))))))) (xss_one (xs_ret (xe_bl))) (xss_nil))
    (xss_one (xs_ret (ke_call K mg C__law_same (hr.mono (by decide)) tk (xa_cons (ke_call K mg C_even_lot (hr.mono (by decide)) tk (xa_cons (xe_v 3) (xa_nil))) (xa_cons (ke_call K mg C_even_lot (hr.mono (by decide)) tk (xa_cons (xe_v 0) (xa_nil))) (xa_nil)))))))))⟩
abbrev s__law_one : Stmt := topS 39
abbrev n__law_one : List Str := ["hat", "worths", "k", "told", "chances", "lot", "one", "more", "raised", "worth", "order", "turned", "at"]
theorem sc__law_one : FnScope ["hat", "worths", "k", "told", "chances", "lot", "one", "more", "raised", "worth", "order", "turned", "at"] ["hat"] (defScope s__law_one) := ⟨rfl, rfl, rfl, by decide +kernel, rfl, by decide +kernel, by decide +kernel⟩
theorem ok__law_one {f : Addr} {fd : FuncData} (F : Fun K "_law_one" "_law_one" s__law_one f fd) (T : Txt K mg) (C__law_worth : Callee P w K mg base "_law_worth" 3 1 m__law_worth) (C__law_mixed_order : Callee P w K mg base "_law_mixed_order" 2 2 m__law_mixed_order) (C__law_mix_right : Callee P w K mg base "_law_mix_right" 5 3 m__law_mix_right) (C_level : Callee P w K mg base "level" 4 1 m_level) (C_filled : Callee P w K mg base "filled" 5 1 m_filled) (C_even_lot : Callee P w K mg base "even_lot" 4 1 m_even_lot) (C__law_same : Callee P w K mg base "_law_same" 4 2 m__law_same) (C__law_is_fraction : Callee P w K mg base "_law_is_fraction" 2 1 m__law_is_fraction) (C__law_plus : Callee P w K mg base "_law_plus" 3 2 m__law_plus) (C__law_raised_right : Callee P w K mg base "_law_raised_right" 6 4 m__law_raised_right) (C__law_low_right : Callee P w K mg base "_law_low_right" 6 2 m__law_low_right) (C__law_draw : Callee P w K mg base "_law_draw" 1 2 m__law_draw) :
    FnOk P w K mg base (L2.CX P w) 7 f fd ["hat"] (spM K mg 1 m__law_one) := by
  have z_tuple := T.z_tuple
  have z_len := T.z_len
  have z_isinstance := T.z_isinstance
  have z_all := T.z_all
  have z_range := T.z_range
  have nd := sc__law_one.nd
  refine FnOk.cut (fn_okM F sc__law_one fun cdv A outer s H E hr tk po => ?_)
  exact ⟨_, xss_cons (xs_set 1 nd (xe_callTy (r := rTupleC K) call_tuple_of opc_tuple z_tuple (by decide +kernel) (xa_cons (xe_lc [("k", 2)] fin_I rfl nd (xi_rng1 z_range (xa_cons (xe_op (r := rAddG K) op_addG opd_add (xe_int) (ke_call K mg C__law_draw (hr.mono (by decide)) tk (xa_cons (xe_v 0) (xa_cons (xe_int) (xa_nil))))) (xa_nil))) (blkOk_by (N := n__law_one) (sc := defScope s__law_one) (by decide +kernel)) (fun _ _ _ _ _ => xg_name 2 nd) (fun _ _ _ _ _ => xts_nil) (fun _ _ _ _ _ => ke_call K mg C__law_worth (hr.mono (by decide)) takes0 (xa_cons (xe_v 0) (xa_nil)))) (xa_nil))))
    (xss_cons (xs_asg (xe_tup (xa_cons (ke_call K mg C_level (hr.mono (by decide)) tk (xa_cons (xe_v 1) (xa_nil))) (xa_cons (ke_call K mg C_filled (hr.mono (by decide)) tk (xa_cons (xe_v 1) (xa_nil))) (xa_cons (ke_call K mg C_even_lot (hr.mono (by decide)) tk (xa_cons (xe_v 1) (xa_nil))) (xa_nil))))) (kg_tup K rfl (xgs_cons (xg_name 3 nd) (xgs_cons (xg_name 4 nd) (xgs_cons (xg_name 5 nd) (xgs_nil))))))
    (xss_cons (xs_if (xw_pt (xw_or (xt_not (kt_tru K (ke_call K mg C__law_is_fraction (hr.mono (by decide)) tk (xa_cons (xe_v 3) (xa_nil))))) (xw_or (xt_not (kt_tru K (ke_isi K (T := "tuple") z_isinstance z_tuple (by decide +kernel) (xe_v 4)))) (xw_or1 (xt_not (kt_tru K (xe_callB (r := rAll K) (cr_all rfl) opc_all z_all (by decide +kernel) (xa_cons (xe_lc [("one", 6)] fin_I rfl nd (ki_seq K (xe_v 4)) (blkOk_by (N := n__law_one) (sc := defScope s__law_one) (by decide +kernel)) (fun _ _ _ _ _ => xg_name 6 nd) (fun _ _ _ _ _ => xts_nil) (fun _ _ _ _ _ => ke_call K mg C__law_is_fraction (hr.mono (by decide)) takes0 (xa_cons (xe_v 6) (xa_nil)))) (xa_nil))))))))) (xss_one (xs_ret (xe_bl))) (xss_nil))
    (xss_cons (xs_set 7 nd (ke_call K mg C__law_worth (hr.mono (by decide)) tk (xa_cons (xe_v 0) (xa_nil))))
    (xss_cons (xs_set 8 nd (xe_callTy (r := rTupleC K) call_tuple_of opc_tuple z_tuple (by decide +kernel) (xa_cons (xe_lc [("worth", 9)] fin_I rfl nd (ki_seq K (xe_v 1)) (blkOk_by (N := n__law_one) (sc := defScope s__law_one) (by decide +kernel)) (fun _ _ _ _ _ => xg_name 9 nd) (fun _ _ _ _ _ => xts_nil) (fun _ _ _ _ _ => ke_call K mg C__law_plus (hr.mono (by decide)) takes0 (xa_cons (xe_v 9) (xa_cons (xe_v 7) (xa_nil))))) (xa_nil))))
    (xss_cons (xs_if (xw_pt (xw_or (xt_not (kt_tru K (ke_call K mg C__law_same (hr.mono (by decide)) tk (xa_cons (ke_call K mg C_level (hr.mono (by decide)) tk (xa_cons (xe_v 8) (xa_nil))) (xa_cons (ke_call K mg C__law_plus (hr.mono (by decide)) tk (xa_cons (xe_v 3) (xa_cons (xe_v 7) (xa_nil)))) (xa_nil)))))) (xw_or1 (xt_not (kt_tru K (ke_call K mg C__law_same (hr.mono (by decide)) tk (xa_cons (ke_call K mg C_filled (hr.mono (by decide)) tk (xa_cons (xe_v 8) (xa_nil))) (xa_cons (xe_v 4) (xa_nil))))))))) (xss_one (xs_ret (xe_bl))) (xss_nil))
    (xss_cons (xs_if (xt_not (kt_tru K (ke_call K mg C__law_same (hr.mono (by decide)) tk (xa_cons (ke_call K mg C_even_lot (hr.mono (by decide)) tk (xa_cons (xe_v 8) (xa_nil))) (xa_cons (xe_v 5) (xa_nil)))))) (xss_one (xs_ret (xe_bl))) (xss_nil))
    (xss_cons (xs_set 10 nd (ke_call K mg C__law_mixed_order (hr.mono (by decide)) tk (xa_cons (xe_v 0) (xa_cons (xe_callB (r := rLenC K) call_len_seq opc_len z_len PySem.boot_len (xa_cons (xe_v 1) (xa_nil))) (xa_nil)))))
    (xss_cons (xs_set 11 nd (xe_callTy (r := rTupleC K) call_tuple_of opc_tuple z_tuple (by decide +kernel) (xa_cons (xe_lc [("at", 12)] fin_I rfl nd (ki_seq K (xe_v 10)) (blkOk_by (N := n__law_one) (sc := defScope s__law_one) (by decide +kernel)) (fun _ _ _ _ _ => xg_name 12 nd) (fun _ _ _ _ _ => xts_nil) (fun _ _ _ _ _ => xe_ix (r := rIx K) ix_seq opd_ix (xe_v 1) (xe_v 12))) (xa_nil))))
    (xss_cons (xs_if (xw_pt (xw_or (xt_not (kt_tru K (ke_call K mg C__law_same (hr.mono (by decide)) tk (xa_cons (ke_call K mg C_level (hr.mono (by decide)) tk (xa_cons (xe_v 11) (xa_nil))) (xa_cons (xe_v 3) (xa_nil)))))) (xw_or1 (xt_not (kt_tru K (ke_call K mg C__law_same (hr.mono (by decide)) tk (xa_cons (ke_call K mg C_filled (hr.mono (by decide)) tk (xa_cons (xe_v 11) (xa_nil))) (xa_cons (xe_callTy (r := rTupleC K) call_tuple_of opc_tuple z_tuple (by decide +kernel) (xa_cons (xe_lc [("at", 12)] fin_I rfl nd (ki_seq K (xe_v 10)) (blkOk_by (N := n__law_one) (sc := defScope s__law_one) (by decide +kernel)) (fun _ _ _ _ _ => xg_name 12 nd) (fun _ _ _ _ _ => xts_nil) (fun _ _ _ _ _ => xe_ix (r := rIx K) ix_seq opd_ix (xe_v 4) (xe_v 12))) (xa_nil))) (xa_nil))))))))) (xss_one (xs_ret (xe_bl))) (xss_nil))
    (xss_cons (xs_if (xw_pt (xw_or (xt_not (kt_tru K (ke_call K mg C__law_raised_right (hr.mono (by decide)) tk (xa_cons (xe_v 0) (xa_cons (xe_v 1) (xa_cons (xe_v 3) (xa_cons (xe_v 4) (xa_nil)))))))) (xw_or1 (xt_not (kt_tru K (ke_call K mg C__law_low_right (hr.mono (by decide)) tk (xa_cons (xe_v 1) (xa_cons (xe_v 3) (xa_nil))))))))) (xss_one (xs_ret (xe_bl))) (xss_nil))
    (xss_one (xs_ret (ke_call K mg C__law_mix_right (hr.mono (by decide)) tk (xa_cons (xe_v 0) (xa_cons (xe_v 1) (xa_cons (xe_v 3) (xa_nil)))))))))))))))))⟩
abbrev s__law_hat : Stmt := topS 22
abbrev n__law_hat : List Str := ["cell", "k", "wide", "number"]
theorem sc__law_hat : FnScope ["cell", "k", "wide", "number"] ["cell", "k"] (defScope s__law_hat) := ⟨rfl, rfl, rfl, by decide +kernel, rfl, by decide +kernel, by decide +kernel⟩
theorem ok__law_hat {f : Addr} {fd : FuncData} (F : Fun K "_law_hat" "_law_hat" s__law_hat f fd) (T : Txt K mg)  :
    FnOk P w K mg base (L2.CX P w) 1 f fd ["cell", "k"] (spM K mg 2 m__law_hat) := by
  have z_int := T.z_int
  have nd := sc__law_hat.nd
  refine (fn_okM F sc__law_hat fun cdv A outer s H E hr tk po => ?_)
  exact ⟨_, xss_cons (xs_set 2 nd (xe_op (r := rMulA K) op_mulA opd_mul (xe_op (r := rMulA K) op_mulA opd_mul (xe_op (r := rMulA K) op_mulA opd_mul (xe_op op_pow opd_pow (xe_int) (xe_int)) (xe_op op_pow opd_pow (xe_int) (xe_int))) (xe_op op_pow opd_pow (xe_int) (xe_int))) (xe_op op_pow opd_pow (xe_int) (xe_int))))
    (xss_cons (xs_set 3 nd (xe_op op_mod opd_mod (xe_callTy call_int1 opc_int z_int (by decide +kernel) (xa_cons (xe_v 0) (xa_nil))) (xe_v 2)))
    (xss_cons (xs_if (xt_cmp op_ge opd_ge (xe_v 3) (xe_op op_pow opd_pow (xe_int) (xe_int))) (xss_one (xs_ret (xe_lstM (xa_cons (xe_v 3) (xa_cons (xe_op (r := rAddG K) op_addG opd_add (xe_op op_mod opd_mod (xe_callTy call_int1 opc_int z_int (by decide +kernel) (xa_cons (xe_v 3) (xa_nil))) (xe_int)) (xe_v 1)) (xa_nil)))))) (xss_nil))
    (xss_one (xs_ret (xe_lstM (xa_cons (xe_int) (xa_cons (xe_op op_mod opd_mod (xe_op (r := rAddG K) op_addG opd_add (xe_op (r := rAddG K) op_addG opd_add (xe_op (r := rMulA K) op_mulA opd_mul (xe_op op_mod opd_mod (xe_callTy call_int1 opc_int z_int (by decide +kernel) (xa_cons (xe_v 3) (xa_nil))) (xe_int)) (xe_int)) (xe_op (r := rMulA K) op_mulA opd_mul (xe_int) (xe_v 1))) (xe_int)) (xe_int)) (xa_nil))))))))⟩
abbrev s_law : Stmt := topS 40
abbrev n_law : List Str := ["script", "k", "cell"]
theorem sc_law : FnScope ["script", "k", "cell"] ["script"] (defScope s_law) := ⟨rfl, rfl, rfl, by decide +kernel, rfl, by decide +kernel, by decide +kernel⟩
theorem ok_law {f : Addr} {fd : FuncData} (F : Fun K "law" "law" s_law f fd) (T : Txt K mg) (C__law_one : Callee P w K mg base "_law_one" 7 1 m__law_one) (C__law_hat : Callee P w K mg base "_law_hat" 1 2 m__law_hat) :
    FnOk P w K mg base (L2.CX P w) 8 f fd ["script"] (spM K mg 1 m_law) := by
  have z_enumerate := T.z_enumerate
  have z_list := T.z_list
  have nd := sc_law.nd
  refine (fn_okM F sc_law fun cdv A outer s H E hr tk po => ?_)
  exact ⟨_, xss_cons (xs_for po rfl (ki_enum K z_enumerate (xa_cons (ke_slice K (xe_op (r := rAddG K) op_addG opd_add (xe_callTy (r := rListC K) call_list_of opc_list z_list (by decide +kernel) (xa_cons (xe_v 0) (xa_nil))) (xe_lst (xa_cons (xe_int) (xa_cons (xe_int) (xa_cons (xe_int) (xa_nil)))))) (xo_none) (xo_some (xe_int))) (xa_nil))) (kg_tup K rfl (xgs_cons (xg_name 1 nd) (xgs_cons (xg_name 2 nd) (xgs_nil)))) (xss_one (xs_if (xt_not (kt_tru K (ke_call K mg C__law_one (hr.mono (by decide)) tk (xa_cons (ke_call K mg C__law_hat (hr.mono (by decide)) tk (xa_cons (xe_v 2) (xa_cons (xe_v 1) (xa_nil)))) (xa_nil))))) (xss_one (xs_ret (xe_bl))) (xss_nil))))
    (xss_one (xs_ret (xe_bl)))⟩
end
end K11
set_option Elab.async false
set_option linter.all false
set_option maxRecDepth 100000
set_option maxHeartbeats 2000000
/-! What the pieces come to, in words of plain mathematics. -/
namespace KM
open PySem L2
def WF (M : List MO) : Prop := M.all (MO.lo M.length) = true
theorem WF.nil : WF [] := rfl
theorem cut_same {M : List MO} (h : WF M) {d : D} (hd : D.lo M.length d = true) : cutR M.length (.ok d M) = .ok d M := by
  unfold cutR
  simp only [List.take_length]
  rw [if_pos]
  rw [Bool.and_eq_true]
  exact ⟨hd, h⟩
/-- the objects that came to be are dropped -/
theorem cut_to {M M' : List MO} {n : Nat} (hn : M.length = n) (h : WF M) {d : D} (hd : D.lo n d = true) (hM : M'.take n = M) : cutR n (.ok d M') = .ok d M := by
  subst hn
  unfold cutR
  simp only [hM]
  rw [if_pos]
  rw [Bool.and_eq_true]
  exact ⟨hd, h⟩
mutual
theorem D.lo_mono {n m : Nat} (h : n ≤ m) : ∀ d : D, D.lo n d = true → D.lo m d = true
  | .non, _ => rfl
  | .bl _, _ => rfl
  | .int _, _ => rfl
  | .str _, _ => rfl
  | .obj _, _ => rfl
  | .fn _, _ => rfl
  | .dct, _ => rfl
  | .ref k, e => decide_eq_true (Nat.lt_of_lt_of_le (of_decide_eq_true e) h)
  | .tup xs, e => D.los_mono h xs e
  | .lst xs, e => D.los_mono h xs e
  | .rol xs, e => D.los_mono h xs e
theorem D.los_mono {n m : Nat} (h : n ≤ m) : ∀ ds : List D, D.los n ds = true → D.los m ds = true
  | [], _ => rfl
  | d :: ds, e => by
    unfold D.los at e ⊢
    rw [Bool.and_eq_true] at e ⊢
    exact ⟨D.lo_mono h d e.1, D.los_mono h ds e.2⟩
end
theorem D.los_all {n : Nat} : ∀ {ds : List D}, D.los n ds = true ↔ ∀ d ∈ ds, D.lo n d = true
  | [] => by simp [D.los]
  | d :: ds => by
    unfold D.los
    rw [Bool.and_eq_true, D.los_all]
    simp
theorem MO.lo_mono {n m : Nat} (h : n ≤ m) (o : MO) (e : MO.lo n o = true) : MO.lo m o = true := by
  cases o with
  | lst xs => exact D.los_mono h xs e
  | dct xs => exact D.los_mono h _ e
theorem WF.app {M : List MO} (h : WF M) {o : MO} (ho : MO.lo (M.length + 1) o = true) : WF (M ++ [o]) := by
  unfold WF at h ⊢
  rw [List.all_append, Bool.and_eq_true, List.length_append]
  refine ⟨List.all_eq_true.mpr fun x hx => MO.lo_mono (Nat.le_succ _) x (List.all_eq_true.mp h x hx), ?_⟩
  simpa using ho
theorem WF.set {M : List MO} (h : WF M) {o : MO} {k : Nat} (ho : MO.lo M.length o = true) : WF (M.set k o) := by
  unfold WF at h ⊢
  rw [List.length_set]
  refine List.all_eq_true.mpr fun x hx => ?_
  rcases List.mem_or_eq_of_mem_set hx with hm | e
  · exact List.all_eq_true.mp h x hm
  · subst e; exact ho
theorem WF.at {M : List MO} (h : WF M) {o : MO} {k : Nat} (ho : M[k]? = some o) : MO.lo M.length o = true := List.all_eq_true.mp h o (List.mem_of_getElem? ho)

/-! ### loops -/
/-- I: what holds ahead of the items that are left; a turn may go on, leave with a value, or break -/
theorem forL_ind {gd : List MO → Prop} {gg : GG} {gb : GS} (I : List D → Ctx → List MO → Prop) (B : Ctx → List MO → Prop) (Rt : D → List MO → Prop)
    (hd : ∀ δ M, I [] δ M → gd M)
    (hs : ∀ x xs δ M, I (x :: xs) δ M → gd M ∧ ∃ δ1 M1, gg x δ M = .nx δ1 M1 ∧
      ((∃ δ2 M2, (gb δ1 M1 = .nx δ2 M2 ∨ gb δ1 M1 = .ct δ2 M2) ∧ I xs δ2 M2) ∨ (∃ d M2, gb δ1 M1 = .rt d M2 ∧ Rt d M2) ∨ (∃ δ2 M2, gb δ1 M1 = .bk δ2 M2 ∧ B δ2 M2))) :
    ∀ xs δ M, I xs δ M → (∃ δ' M', forL gd gg gb xs δ M = .nx δ' M' ∧ (I [] δ' M' ∨ B δ' M')) ∨ (∃ d M', forL gd gg gb xs δ M = .rt d M' ∧ Rt d M')
  | [], δ, M, h => .inl ⟨δ, M, by unfold forL; rw [if_pos (hd δ M h)], .inl h⟩
  | x :: xs, δ, M, h => by
    obtain ⟨g, δ1, M1, e1, q⟩ := hs x xs δ M h
    unfold forL
    rw [if_pos g, e1]
    rcases q with ⟨δ2, M2, e2, h2⟩ | ⟨d, M2, e2, h2⟩ | ⟨δ2, M2, e2, h2⟩
    · rcases e2 with e2 | e2
      · simp only [e2]
        exact forL_ind I B Rt hd hs xs δ2 M2 h2
      · simp only [e2]
        exact forL_ind I B Rt hd hs xs δ2 M2 h2
    · simp only [e2]
      exact .inr ⟨d, M2, rfl, h2⟩
    · simp only [e2]
      exact .inl ⟨δ2, M2, rfl, .inr h2⟩
/-- a loop that always runs through -/
theorem forL_thru {gd : List MO → Prop} {gg : GG} {gb : GS} (I : List D → Ctx → List MO → Prop)
    (hd : ∀ δ M, I [] δ M → gd M)
    (hs : ∀ x xs δ M, I (x :: xs) δ M → gd M ∧ ∃ δ1 M1, gg x δ M = .nx δ1 M1 ∧ ∃ δ2 M2, (gb δ1 M1 = .nx δ2 M2 ∨ gb δ1 M1 = .ct δ2 M2) ∧ I xs δ2 M2) (xs : List D) (δ : Ctx) (M : List MO) (h : I xs δ M) :
    ∃ δ' M', forL gd gg gb xs δ M = .nx δ' M' ∧ I [] δ' M' := by
  rcases forL_ind (gd := gd) (gg := gg) (gb := gb) I (fun _ _ => False) (fun _ _ => False) hd (fun x xs δ M h => by
    obtain ⟨g, δ1, M1, e1, δ2, M2, e2, h2⟩ := hs x xs δ M h
    exact ⟨g, δ1, M1, e1, .inl ⟨δ2, M2, e2, h2⟩⟩) xs δ M h with ⟨δ', M', e, q | q⟩ | ⟨d, M', e, q⟩
  · exact ⟨δ', M', e, q⟩
  · exact q.elim
  · exact q.elim
/-- a comprehension without ifs: I left acc M -/
theorem lcL_ind {gd : List MO → Prop} {gg : GG} {ge : GE} {δ : Ctx} (I : List D → List D → List MO → Prop)
    (hd : ∀ acc M, I [] acc M → gd M)
    (hs : ∀ x xs acc M, I (x :: xs) acc M → gd M ∧ acc.length < 100000 ∧ ∃ δ1 M1 d M2, gg x δ M = .nx δ1 M1 ∧ ge δ1 M1 = .ok d M2 ∧ I xs (acc ++ [d]) M2) :
    ∀ xs acc M, I xs acc M → ∃ acc' M', lcL gd gg gYes ge δ xs acc M = .ok acc' M' ∧ I [] acc' M'
  | [], acc, M, h => ⟨acc, M, by unfold lcL; rw [if_pos (hd acc M h)], h⟩
  | x :: xs, acc, M, h => by
    obtain ⟨g, hl, δ1, M1, d, M2, e1, e2, h2⟩ := hs x xs acc M h
    unfold lcL
    rw [if_pos g, e1]
    simp only [gYes, if_true, e2]
    rw [if_pos (show bigS acc.length from hl)]
    exact lcL_ind I hd hs xs (acc ++ [d]) M2 h2
/-- .. that changes nothing: a map -/
theorem lcL_map {α : Type} {gd : List MO → Prop} {gg : GG} {ge : GE} {δ : Ctx} {M : List MO} {em : α → D} {f : α → D} (hgd : gd M := by trivial) : ∀ (xs : List α) (acc : List D), acc.length + xs.length ≤ 100000 →
    (∀ x ∈ xs, ∃ δ1, gg (em x) δ M = .nx δ1 M ∧ ge δ1 M = .ok (f x) M) → lcL gd gg gYes ge δ (xs.map em) acc M = .ok (acc ++ xs.map f) M
  | [], acc, _, _ => by simp [lcL, hgd]
  | x :: xs, acc, hl, h => by
    obtain ⟨δ1, e1, e2⟩ := h x (List.mem_cons_self ..)
    rw [List.length_cons] at hl
    rw [List.map_cons]
    unfold lcL
    rw [if_pos hgd, e1]
    simp only [gYes, if_true, e2]
    rw [if_pos (show bigS acc.length from (by unfold bigS; omega))]
    rw [lcL_map hgd xs (acc ++ [f x]) (by simp; omega) (fun y hy => h y (List.mem_cons_of_mem _ hy))]
    simp
/-! ### fractions -/
def fD (q : Rat) : D := .tup [.int q.num, .int q.den]
theorem fD_inj {p q : Rat} (h : fD p = fD q) : p = q := by
  unfold fD at h
  simp only [D.tup.injEq, List.cons.injEq, D.int.injEq, and_true] at h
  exact Rat.ext h.1 (by exact_mod_cast h.2)
@[simp] theorem fD_lo (n : Nat) (q : Rat) : D.lo n (fD q) = true := rfl
theorem eqPy_int (i j : Int) (M : List MO) : eqPy (.int i) (.int j) M = some (i == j) := rfl
theorem oEq_int (i j : Int) (M : List MO) : oEq (.int i) (.int j) M = .ok (.bl (i == j)) M := rfl
theorem oNe_int (i j : Int) (M : List MO) : oNe (.int i) (.int j) M = .ok (.bl (!(i == j))) M := rfl
theorem eqPy_fr (p q : Rat) (M : List MO) : eqPy (fD p) (fD q) M = some (decide (p = q)) := by
  have h1 : eqPy (fD p) (fD q) M = some ((p.num == q.num) && ((p.den : Int) == (q.den : Int)) && true) := by
    unfold fD
    simp [eqPy, pyM, D.py, D.pys, SeqAt.shaped, PyData.canLay0, PyData.canLayAll0, PyData.depth, PyData.depthAll, PyData.eqv, PyData.eqvAll]
  rw [h1]
  congr 1
  by_cases e : p = q
  · subst e; simp
  · rw [decide_eq_false e]
    by_cases e1 : p.num = q.num
    · by_cases e2 : p.den = q.den
      · exact absurd (Rat.ext e1 e2) e
      · simp [e1]
        omega
    · simp [e1]
theorem oEq_fr (p q : Rat) (M : List MO) : oEq (fD p) (fD q) M = .ok (.bl (decide (p = q))) M := by unfold oEq; rw [eqPy_fr]
theorem oNe_fr (p q : Rat) (M : List MO) : oNe (fD p) (fD q) M = .ok (.bl (!decide (p = q))) M := by unfold oNe; rw [eqPy_fr]
/-- top by bottom, reduced -/
theorem norm_fr (t : Int) (b : Nat) (hb : b ≠ 0) : fD (Rat.normalize t b hb) = .tup [.int (t / ((t.natAbs.gcd b : Nat) : Int)), .int ((b : Int) / ((t.natAbs.gcd b : Nat) : Int))] := by
  rw [Rat.normalize_eq]
  unfold fD
  simp
theorem tyOk_int : tyOk "int" = true := by decide +kernel
theorem tyOk_bool : tyOk "bool" = true := by decide +kernel
theorem tyOk_tuple : tyOk "tuple" = true := by decide +kernel
theorem tyOk_list : tyOk "list" = true := by decide +kernel
theorem tyOk_str : tyOk "str" = true := by decide +kernel
end KM
namespace KM
open PySem L2
open Classical
section
variable (δ : Ctx) (M : List MO) (ga gb gc : GE) (gA gB : GB) (g h : GS) (o o' : OD) (u : OU) (m : OC) (a : GA) (gi : GI) (gg : GG) (os : OSet) (om : OM)
@[simp] theorem s_gVar (i : Nat) : gVar i δ M = match δ[i]? with | some (some d) => .ok d M | _ => .bad := rfl
@[simp] theorem s_gC (d : D) : gC d δ M = .ok d M := rfl
@[simp] theorem s_gOp : gOp o ga gb δ M = (ga δ M).bind fun x M1 => (gb δ M1).bind fun y M2 => o x y M2 := rfl
@[simp] theorem s_gUn : gUn u ga δ M = (ga δ M).bind fun x M1 => u x M1 := rfl
@[simp] theorem s_gANil : gANil δ M = .ok [] M := rfl
@[simp] theorem s_gACons : gACons ga a δ M = (ga δ M).bind fun x M1 => (a δ M1).bind fun xs M2 => .ok (x :: xs) M2 := rfl
@[simp] theorem s_gCall : gCall m a δ M = (a δ M).bind fun ds M1 => m ds M1 := rfl
@[simp] theorem s_gETup : gETup a δ M = (a δ M).bind fun ds M1 => if bigN ds.length then .ok (.tup ds) M1 else .bad := rfl
@[simp] theorem s_gLst : gLst a δ M = (a δ M).bind fun ds M1 => if bigN ds.length then .ok (.lst ds) M1 else .bad := rfl
@[simp] theorem s_gLstM : gLstM a δ M = (a δ M).bind fun ds M1 => if bigN ds.length then .ok (.ref M1.length) (M1 ++ [.lst ds]) else .bad := rfl
@[simp] theorem s_gTest : gTest ga δ M = (ga δ M).bind fun x M1 => match x with | .bl b => .ok b M1 | _ => .bad := rfl
@[simp] theorem s_gTru : gTru ga δ M = (ga δ M).bind fun x M1 => match trD M1 x with | some b => .ok b M1 | none => .bad := rfl
@[simp] theorem s_gAnd : gAnd gA gB δ M = (gA δ M).bind fun x M1 => if x = true then gB δ M1 else .ok false M1 := rfl
@[simp] theorem s_gOr : gOr gA gB δ M = (gA δ M).bind fun x M1 => if x = true then .ok true M1 else gB δ M1 := rfl
@[simp] theorem s_gNot : gNot gA δ M = (gA δ M).bind fun x M1 => .ok (!x) M1 := rfl
@[simp] theorem s_gAndV : gAndV ga gb δ M = (ga δ M).bind fun x M1 => match x with | .bl true => gb δ M1 | .bl false => .ok (.bl false) M1 | _ => .bad := rfl
@[simp] theorem s_gOrV : gOrV ga gb δ M = (ga δ M).bind fun x M1 => match x with | .bl true => .ok (.bl true) M1 | .bl false => gb δ M1 | _ => .bad := rfl
@[simp] theorem s_gNotV : gNotV ga δ M = (ga δ M).bind fun x M1 => match x with | .bl b => .ok (.bl (!b)) M1 | _ => .bad := rfl
@[simp] theorem s_gIfE : gIfE gA ga gb δ M = (gA δ M).bind fun x M1 => if x = true then ga δ M1 else gb δ M1 := rfl
@[simp] theorem s_gChain : gChain o o' ga gb gc δ M = (ga δ M).bind fun x M1 => (gb δ M1).bind fun y M2 => (o x y M2).bind fun z M3 => match z with
  | .bl true => (gc δ M3).bind fun u M4 => o' y u M4
  | .bl false => .ok (.bl false) M3
  | _ => .bad := rfl
@[simp] theorem s_gNoP : gNoP δ M = .ok none M := rfl
@[simp] theorem s_gP : gP ga δ M = (ga δ M).bind fun x M1 => match x with | .int i => .ok (some i) M1 | _ => .bad := rfl
@[simp] theorem s_gSl (gl gh : GO) : gSl ga gl gh δ M = (ga δ M).bind fun x M1 => (gl δ M1).bind fun lo M2 => (gh δ M2).bind fun hi M3 => oSl x lo hi M3 := rfl
@[simp] theorem s_gNext : gNext δ M = .nx δ M := rfl
@[simp] theorem s_gSeq : gSeq g h δ M = (g δ M).then h := rfl
@[simp] theorem s_gSet (i : Nat) : gSet i ga δ M = (ga δ M).toS δ fun d M1 => .nx (δ.set i (some d)) M1 := rfl
@[simp] theorem s_gDrop : gDrop ga δ M = (ga δ M).toS δ fun _ M1 => .nx δ M1 := rfl
@[simp] theorem s_gRet : gRet ga δ M = (ga δ M).toS δ fun d M1 => .rt d M1 := rfl
@[simp] theorem s_gRetN : gRetN δ M = .rt .non M := rfl
@[simp] theorem s_gIf : gIf gA g h δ M = (gA δ M).toS δ fun b M1 => if b = true then g δ M1 else h δ M1 := rfl
@[simp] theorem s_gBreak : gBreak δ M = .bk δ M := rfl
@[simp] theorem s_gCont : gCont δ M = .ct δ M := rfl
@[simp] theorem s_gNever : gNever δ M = .bad := rfl
@[simp] theorem s_gtName (i : Nat) (d : D) : gtName i d δ M = .nx (δ.set i (some d)) M := rfl
@[simp] theorem s_gtNil : gtNil [] δ M = .nx δ M := rfl
@[simp] theorem s_gtCons (r : List D → GS) (d : D) (ds : List D) : gtCons gg r (d :: ds) δ M = match gg d δ M with
    | .nx δ1 M1 => match r ds δ1 M1 with
      | .nx δ2 M2 => .nx δ2 M2
      | _ => .bad
    | _ => .bad := rfl
@[simp] theorem s_gtTup (n : Nat) (r : List D → GS) (ds : List D) : gtTup n r (.tup ds) δ M = if ds.length = n then r ds δ M else .bad := rfl
@[simp] theorem s_gtSub (d : D) : gtSub ga gb os d δ M = (ga δ M).toS δ fun x M1 => (gb δ M1).toS δ fun i M2 => match os x i d M2 with
  | some M3 => .nx δ M3
  | none => .bad := rfl
@[simp] theorem s_gAsg : gAsg ga gg δ M = (ga δ M).toS δ fun d M1 => match gg d δ M1 with
  | .nx δ2 M2 => .nx δ2 M2
  | .ex c _ M2 => .ex c δ M2
  | _ => .bad := rfl
@[simp] theorem s_gPar (i j : Nat) : gPar i j ga gb δ M = (ga δ M).toS δ fun x M1 => (gb δ M1).toS δ fun y M2 => .nx ((δ.set i (some x)).set j (some y)) M2 := rfl
@[simp] theorem s_gFor : gFor gi gg g δ M = (gi δ M).toS δ fun it M1 => forL it.gd gg g it.items δ M1 := rfl
@[simp] theorem s_gLcG (fin : List D → List MO → R D) (vs : List Nat) : gLcG fin gi gg gA ga vs δ M = (gi δ M).bind fun it M1 => (lcL it.gd gg gA ga (wipeD δ vs) it.items [] M1).bind fin := rfl
@[simp] theorem s_giRng1 : giRng1 a δ M = (a δ M).bind fun xs M1 => match xs with
  | [.int j] => if rngB j then .ok (itT (rngD 0 j.toNat)) M1 else .bad
  | _ => .bad := rfl
@[simp] theorem s_giRng2 : giRng2 a δ M = (a δ M).bind fun xs M1 => match xs with
  | [.int i, .int j] => if rngB i ∧ rngB j then .ok (itT (rngD i (j - i).toNat)) M1 else .bad
  | _ => .bad := rfl
@[simp] theorem s_giSeq : giSeq ga δ M = (ga δ M).bind fun x M1 => match tupOf x with
  | some xs => .ok (itT xs) M1
  | none => match listOf M1 x with
    | some xs => .ok ⟨xs, gdOf x xs⟩ M1
    | none => .bad := rfl
@[simp] theorem s_gBM : gBM om ga a δ M = (ga δ M).bind fun x M1 => match listOf M1 x with
  | some _ => (a δ M1).bind fun ds M2 => om x ds M2
  | none => .bad := rfl
@[simp] theorem s_itT (xs : List D) : (itT xs).items = xs := rfl
@[simp] theorem s_itTg (xs : List D) : (itT xs).gd = fun _ => True := rfl
@[simp] theorem s_tupOf (xs : List D) : tupOf (.tup xs) = some xs := rfl
@[simp] theorem s_tupOf_int (i : Int) : tupOf (.int i) = none := rfl
@[simp] theorem s_tupOf_lst (xs : List D) : tupOf (.lst xs) = none := rfl
@[simp] theorem s_tupOf_rol (xs : List D) : tupOf (.rol xs) = none := rfl
@[simp] theorem s_tupOf_ref (k : Nat) : tupOf (.ref k) = none := rfl
@[simp] theorem s_listOf_lst (xs : List D) : listOf M (.lst xs) = some xs := rfl
@[simp] theorem s_listOf_rol (xs : List D) : listOf M (.rol xs) = some xs := rfl
theorem s_listOf_ref {k : Nat} {xs : List D} (h : M[k]? = some (.lst xs)) : listOf M (.ref k) = some xs := by unfold listOf; simp only [h]
@[simp] theorem s_oLen_tup (xs : List D) : oLen [.tup xs] M = .ok (.int (xs.length : Int)) M := rfl
@[simp] theorem s_oLen_lst (xs : List D) : oLen [.lst xs] M = .ok (.int (xs.length : Int)) M := rfl
@[simp] theorem s_oLen_rol (xs : List D) : oLen [.rol xs] M = .ok (.int (xs.length : Int)) M := rfl
@[simp] theorem s_oTuple_lst (xs : List D) : oTuple [.lst xs] M = .ok (.tup xs) M := rfl
@[simp] theorem s_oInt (i : Int) : oInt [.int i] M = .ok (.int i) M := rfl
@[simp] theorem s_oIntB (b : Bool) : oInt [.bl b] M = .ok (.int (if b then 1 else 0)) M := rfl
@[simp] theorem s_oAbs (i : Int) : oAbs [.int i] M = .ok (.int (if i < 0 then -i else i)) M := rfl
@[simp] theorem s_oGcd (i j : Int) : oGcd [.int i, .int j] M = .ok (.int ((Nat.gcd i.natAbs j.natAbs : Nat) : Int)) M := rfl
@[simp] theorem s_trB (b : Bool) : trD M (.bl b) = some b := rfl
@[simp] theorem s_addI (i j : Int) : oAdd (.int i) (.int j) M = .ok (.int (i + j)) M := rfl
@[simp] theorem s_subI (i j : Int) : oSub (.int i) (.int j) M = .ok (.int (i - j)) M := rfl
@[simp] theorem s_mulI (i j : Int) : oMul (.int i) (.int j) M = if CMulB i j then .ok (.int (i * j)) M else .bad := rfl
@[simp] theorem s_divI (i j : Int) : oDiv (.int i) (.int j) M = if CDivB i j then .ok (.int (i / j)) M else .bad := rfl
@[simp] theorem s_modI (i j : Int) : oMod (.int i) (.int j) M = if CModB i j then .ok (.int (i % j)) M else .bad := rfl
@[simp] theorem s_powI (i j : Int) : oPow (.int i) (.int j) M = if CPowB i j then .ok (.int (i ^ j.toNat)) M else .bad := rfl
@[simp] theorem s_ltI (i j : Int) : oLt (.int i) (.int j) M = .ok (.bl (decide (i < j))) M := rfl
@[simp] theorem s_leI (i j : Int) : oLe (.int i) (.int j) M = .ok (.bl (decide (i ≤ j))) M := rfl
@[simp] theorem s_gtI (i j : Int) : oGt (.int i) (.int j) M = .ok (.bl (decide (j < i))) M := rfl
@[simp] theorem s_geI (i j : Int) : oGe (.int i) (.int j) M = .ok (.bl (decide (j ≤ i))) M := rfl
@[simp] theorem s_eqI (i j : Int) : oEq (.int i) (.int j) M = .ok (.bl (i == j)) M := rfl
@[simp] theorem s_neI (i j : Int) : oNe (.int i) (.int j) M = .ok (.bl (!(i == j))) M := rfl
@[simp] theorem s_negI (i : Int) : oNeg (.int i) M = .ok (.int (-i)) M := rfl
@[simp] theorem s_isi_tup (xs : List D) : oIsi "tuple" (.tup xs) M = .ok (.bl true) M := by simp [oIsi, tyM, tyN, isiB, tyOk_tuple]
@[simp] theorem s_isi_int (i : Int) : oIsi "int" (.int i) M = .ok (.bl true) M := by simp [oIsi, tyM, tyN, isiB, tyOk_int]
@[simp] theorem s_isi_intb (i : Int) : oIsi "bool" (.int i) M = .ok (.bl false) M := by simp [oIsi, tyM, tyN, isiB, tyOk_bool]
theorem s_ixT {xs : List D} {n : Nat} {d : D} (h : xs[n]? = some d) : oIx (.tup xs) (.int (n : Int)) M = .ok d M := by
  unfold oIx
  simp only [s_tupOf]
  rw [atI_nat h]
theorem s_ixL {x : D} {xs : List D} {n : Nat} {d : D} (ht : tupOf x = none) (hl : listOf M x = some xs) (h : xs[n]? = some d) : oIx x (.int (n : Int)) M = .ok d M := by
  unfold oIx
  simp only [ht, hl]
  rw [atI_nat h]
theorem s_fnM {N : Nat} {ds : List D} {d : D} {M' : List MO} (h : g (startD N ds) M = .rt d M') : fnM N g ds M = .ok d M' := by unfold fnM; rw [h]
end

theorem ixT_map {α : Type} {f : α → D} {xs : List α} {n : Nat} {x : α} (h : xs[n]? = some x) (M : List MO) : oIx (.tup (xs.map f)) (.int (n : Int)) M = .ok (f x) M := s_ixT M (by rw [List.getElem?_map, h]; rfl)
theorem put_last (M : List MO) (a b : MO) : (M ++ [a]).set M.length b = M ++ [b] := by simp
theorem get_last (M : List MO) (a : MO) : (M ++ [a])[M.length]? = some a := by simp
theorem oAppend_eq {M : List MO} {k : Nat} {xs : List D} (h : M[k]? = some (.lst xs)) (hl : xs.length < 100000) (d : D) : oAppend (.ref k) [d] M = .ok .non (M.set k (.lst (xs ++ [d]))) := by
  unfold oAppend
  simp only [h]
  rw [if_pos (show bigS xs.length from hl)]
theorem cmul_ok {i j : Int} {a b : Nat} (ha : i.natAbs < 2 ^ a) (hb : j.natAbs < 2 ^ b) (h : a + b < 999998) : CMulB i j := by
  have h1 : i.natAbs.log2 ≤ a := by
    by_cases h0 : i.natAbs = 0
    · rw [h0, Nat.log2_zero]; omega
    · exact Nat.le_of_lt ((Nat.log2_lt h0).mpr ha)
  have h2 : j.natAbs.log2 ≤ b := by
    by_cases h0 : j.natAbs = 0
    · rw [h0, Nat.log2_zero]; omega
    · exact Nat.le_of_lt ((Nat.log2_lt h0).mpr hb)
  exact .inr (by omega)
theorem cmul_l {i j : Int} (h1 : -1000000000000000000 ≤ i) (h2 : i ≤ 1000000000000000000) : CMulB i j := .inl (.inl ⟨by omega, by omega⟩)
theorem cmul_r {i j : Int} (h1 : -1000000000000000000 ≤ j) (h2 : j ≤ 1000000000000000000) : CMulB i j := .inl (.inr ⟨by omega, by omega⟩)
theorem cdiv_ok {i j : Int} (h0 : 0 < j) (h : j.natAbs < 2 ^ 8999) : CDivB i j := by
  refine ⟨h0, ?_⟩
  have : j.natAbs.log2 < 8999 := (Nat.log2_lt (by omega)).mpr h
  omega
theorem cdiv_s {i j : Int} (h0 : 0 < j) (h : j ≤ 1000000000000000000) : CDivB i j := cdiv_ok h0 (Nat.lt_of_lt_of_le (show j.natAbs < 2 ^ 64 by omega) (Nat.pow_le_pow_right (by decide) (by decide)))
theorem cmod_ok {i j : Int} (h0 : 0 < j) : CModB i j := h0
theorem bigN_ok {n : Nat} (h : n ≤ 100000) : bigN n := h
theorem rngB_ok {i : Int} (h1 : -1000000000000000000 ≤ i) (h2 : i ≤ 1000000000000000000) : rngB i := ⟨by omega, by omega⟩
/-- sums of fractions -/
def sq : List Rat → Rat
  | [] => 0
  | q :: qs => q + sq qs
theorem sq_append (xs ys : List Rat) : sq (xs ++ ys) = sq xs + sq ys := by
  induction xs with
  | nil => simp [sq, Rat.zero_add]
  | cons x xs ih => simp [sq, ih, Rat.add_assoc]
theorem divInt_same {a b c : Int} (hc : c ≠ 0) : Rat.divInt a c + Rat.divInt b c = Rat.divInt (a + b) c := by
  rw [Rat.divInt_add_divInt _ _ hc hc, ← Int.add_mul, Rat.divInt_mul_right hc]
theorem norm_div {t : Int} {b : Nat} (hb : b ≠ 0) : Rat.normalize t b hb = Rat.divInt t b := by
  first
    | rw [Rat.normalize_eq_mkRat, Rat.mkRat_eq_divInt]
    | (rw [← Rat.mkRat_eq_normalize]; rfl)
    | (unfold Rat.divInt; simp [mkRat, hb])
end KM
set_option Elab.async false
set_option linter.all false
set_option maxRecDepth 100000
set_option maxHeartbeats 2000000
namespace KM
open PySem L2
section
variable (δ : Ctx) (M : List MO) (ga gb gc : GE) (g : GS) (a : GA)
@[simp] theorem s_gRaise (c : Str) : gRaise c δ M = .ex c δ M := rfl
@[simp] theorem s_gTry (cs : List Str) (hs : List (Str × GS)) : gTry cs hs g δ M = match g δ M with
  | .ex c δ1 M1 => if cs.contains c = true then handL hs c δ1 M1 else .bad
  | r => r := rfl
@[simp] theorem s_gCallL (i : Nat) (tb : List (Str × OC)) : gCallL i tb a δ M = match δ[i]? with
  | some (some (.fn x)) => match tb.lookup x with
    | some m => (a δ M).bind fun ds M1 => m ds M1
    | none => .bad
  | _ => .bad := rfl
@[simp] theorem s_gDct2 : gDct2 ga gb δ M = match ga δ M with
  | .ok _ M1 => match gb δ M1 with
    | .ok _ M2 => .ok .dct M2
    | _ => .bad
  | _ => .bad := rfl
end
theorem tyOk_dict : tyOk "dict" = true := by decide +kernel
end KM
set_option linter.all false
set_option maxRecDepth 100000
set_option maxHeartbeats 1000000
namespace LV
open KM
def mx (x : Rat) : Rat := if 0 < x then x else 0
theorem mx_mono {x y : Rat} (h : x ≤ y) : mx x ≤ mx y := by
  unfold mx
  grind
theorem mx_nn (x : Rat) : 0 ≤ mx x := by
  unfold mx
  grind
theorem mx_strict {x y : Rat} (h : x < y) (hx : 0 < mx x) : mx x < mx y := by
  unfold mx at *
  grind
def Fv (ws : List Rat) (v : Rat) : Rat := sq (ws.map fun w => mx (w + 1 - v))
theorem Fv_nn : ∀ (ws : List Rat) (v : Rat), 0 ≤ Fv ws v
  | [], v => by simp [Fv, sq]
  | w :: ws, v => by
    have h1 := Fv_nn ws v
    have h2 := mx_nn (w + 1 - v)
    show 0 ≤ mx (w + 1 - v) + Fv ws v
    grind
theorem Fv_mono : ∀ (ws : List Rat) {v v' : Rat}, v ≤ v' → Fv ws v' ≤ Fv ws v
  | [], v, v', h => by simp [Fv, sq]
  | w :: ws, v, v', h => by
    have h1 := Fv_mono ws h
    have h2 := mx_mono (x := w + 1 - v') (y := w + 1 - v) (by grind)
    show mx (w + 1 - v') + Fv ws v' ≤ mx (w + 1 - v) + Fv ws v
    grind
theorem Fv_strict : ∀ (ws : List Rat) {v v' : Rat}, v < v' → 0 < Fv ws v' → Fv ws v' < Fv ws v
  | [], v, v', h, hp => by simp [Fv, sq] at hp
  | w :: ws, v, v', h, hp => by
    have e : ∀ v, Fv (w :: ws) v = mx (w + 1 - v) + Fv ws v := fun _ => rfl
    rw [e] at hp ⊢
    rw [e]
    have m1 := Fv_mono ws (show v ≤ v' by grind)
    have m2 := mx_mono (x := w + 1 - v') (y := w + 1 - v) (by grind)
    by_cases c : 0 < mx (w + 1 - v')
    · have := mx_strict (x := w + 1 - v') (y := w + 1 - v) (by grind) c
      grind
    · have := Fv_strict ws h (by have := mx_nn (w + 1 - v'); grind)
      grind
theorem Fv_uniq {ws : List Rat} {v v' : Rat} (h : Fv ws v = 1) (h' : Fv ws v' = 1) : v = v' := by
  apply Classical.byContradiction
  intro n
  rcases (show v < v' ∨ v' < v by grind) with c | c
  · have := Fv_strict ws c (by rw [h']; decide)
    grind
  · have := Fv_strict ws c (by rw [h]; decide)
    grind
/-! ### the lot, by integers -/
def lotF (B : Int) : List (Int × Int) → List Int → Int → List Int × Int
  | [], lot, most => (lot, most)
  | p :: r, lot, most => if lot ≠ [] ∧ (B - p.1) * (lot.length : Int) ≤ most then (lot, most) else lotF B r (lot ++ [p.2]) (most + (B - p.1))
def sumB (B : Int) : List (Int × Int) → Int
  | [] => 0
  | p :: r => (B - p.1) + sumB B r
theorem sumB_snoc (B : Int) (p : Int × Int) : ∀ xs : List (Int × Int), sumB B (xs ++ [p]) = sumB B xs + (B - p.1)
  | [] => by simp [sumB]
  | x :: xs => by
    show (B - x.1) + sumB B (xs ++ [p]) = (B - x.1) + sumB B xs + (B - p.1)
    rw [sumB_snoc B p xs]
    omega
structure LotOk (B : Int) (S1 S2 : List (Int × Int)) : Prop where
  ne : S1 ≠ []
  gt : ∀ p ∈ S1, sumB B S1 - B < (B - p.1) * (S1.length : Int)
  le : ∀ p ∈ S2, (B - p.1) * (S1.length : Int) ≤ sumB B S1 - B
theorem lotF_spec {B : Int} (hB : 0 < B) : ∀ (r done : List (Int × Int)), (∀ p ∈ done, ∀ q ∈ r, p.1 ≤ q.1) → r.Pairwise (fun p q => p.1 ≤ q.1) → (∀ p ∈ done, sumB B done - B < (B - p.1) * (done.length : Int)) → done ++ r ≠ [] →
    ∃ S1 S2, done ++ r = S1 ++ S2 ∧ lotF B r (done.map fun p => p.2) (sumB B done - B) = (S1.map fun p => p.2, sumB B S1 - B) ∧ LotOk B S1 S2
  | [], done, h1, h2, h3, h4 => ⟨done, [], rfl, rfl, by simpa using h4, h3, fun p hp => by cases hp⟩
  | q :: r, done, h1, h2, h3, h4 => by
    unfold lotF
    rw [List.length_map]
    by_cases c : (done.map fun p => p.2) ≠ [] ∧ (B - q.1) * (done.length : Int) ≤ sumB B done - B
    · rw [if_pos c]
      refine ⟨done, q :: r, rfl, rfl, fun e => c.1 (by rw [e]; rfl), h3, fun p hp => ?_⟩
      have hk : (0 : Int) ≤ (done.length : Int) := by omega
      rcases List.mem_cons.mp hp with e | e
      · rw [e]; exact c.2
      · have hq := (List.pairwise_cons.mp h2).1 p e
        have : (B - p.1) * (done.length : Int) ≤ (B - q.1) * (done.length : Int) := Int.mul_le_mul_of_nonneg_right (by omega) hk
        exact Int.le_trans this c.2
    · rw [if_neg c]
      have e1 : (done.map fun p => p.2) ++ [q.2] = (done ++ [q]).map fun p => p.2 := by simp
      have e2 : sumB B done - B + (B - q.1) = sumB B (done ++ [q]) - B := by rw [sumB_snoc]; omega
      have el : ((done ++ [q]).length : Int) = (done.length : Int) + 1 := by simp
      rw [e1, e2]
      have hq : sumB B done - B < (B - q.1) * (done.length : Int) := by
        by_cases hd : done = []
        · subst hd
          show (0 : Int) - B < (B - q.1) * ((0 : Nat) : Int)
          simp
          omega
        · apply Classical.byContradiction
          intro n
          exact c ⟨fun e => hd (List.map_eq_nil_iff.mp e), by omega⟩
      obtain ⟨S1, S2, g1, g2, g3⟩ := lotF_spec hB r (done ++ [q]) (fun p hp z hz => by
        rcases List.mem_append.mp hp with e | e
        · exact h1 p e z (List.mem_cons_of_mem _ hz)
        · rw [List.mem_singleton.mp e]
          exact (List.pairwise_cons.mp h2).1 z hz) (List.pairwise_cons.mp h2).2 (fun p hp => by
        rw [sumB_snoc, el, Int.mul_add, Int.mul_one]
        rcases List.mem_append.mp hp with e | e
        · have a1 := h3 p e
          have a2 := h1 p e q (List.mem_cons_self ..)
          omega
        · rw [List.mem_singleton.mp e]
          omega) (by simp)
      exact ⟨S1, S2, by rw [← g1]; simp, g2, g3⟩
/-! ### by fractions -/
theorem sq_perm {xs ys : List Rat} (h : xs.Perm ys) : sq xs = sq ys := by
  induction h with
  | nil => rfl
  | cons x _ ih =>
    show x + sq _ = x + sq _
    rw [ih]
  | swap x y l =>
    show y + (x + sq l) = x + (y + sq l)
    grind
  | trans _ _ h1 h2 => exact h1.trans h2
def rp (B : Int) (p : Int × Int) : Rat := ((B - p.1 : Int) : Rat) / (B : Rat)
theorem sq_rp {B : Int} (v : Rat) : ∀ xs : List (Int × Int), sq (xs.map fun p => rp B p - v) = (sumB B xs : Rat) / (B : Rat) - v * ((xs.length : Int) : Rat)
  | [] => by
    simp [sq, sumB, Rat.div_def]
    try grind
  | p :: xs => by
    show (rp B p - v) + sq (xs.map fun p => rp B p - v) = _
    rw [sq_rp v xs]
    have e1 : ((sumB B (p :: xs) : Int) : Rat) = ((B - p.1 : Int) : Rat) + ((sumB B xs : Int) : Rat) := by
      show (((B - p.1) + sumB B xs : Int) : Rat) = _
      rw [Rat.intCast_add]
    have e2 : ((((p :: xs).length : Nat) : Int) : Rat) = (((xs.length : Nat) : Int) : Rat) + 1 := by
      rw [List.length_cons, show ((xs.length + 1 : Nat) : Int) = (xs.length : Int) + 1 by omega, Rat.intCast_add]
      rfl
    rw [e1, e2]
    unfold rp
    rw [Rat.div_def, Rat.div_def, Rat.div_def]
    grind
theorem root {B : Int} (hB : 0 < B) {S1 S2 : List (Int × Int)} (h : LotOk B S1 S2) {v : Rat} (hv : v * (((S1.length : Int) : Rat) * (B : Rat)) = ((sumB B S1 - B : Int) : Rat)) :
    sq ((S1 ++ S2).map fun p => mx (rp B p - v)) = 1 ∧ (∀ p ∈ S1, v < rp B p) ∧ ∀ p ∈ S2, rp B p ≤ v := by
  have hb : (0 : Rat) < (B : Rat) := by exact_mod_cast hB
  have hk0 : 0 < S1.length := List.length_pos_iff.mpr h.ne
  have hk : (0 : Rat) < ((S1.length : Int) : Rat) := by exact_mod_cast (show (0 : Int) < (S1.length : Int) by omega)
  have hkb : (0 : Rat) < ((S1.length : Int) : Rat) * (B : Rat) := Rat.mul_pos hk hb
  have er : ∀ p, rp B p * (((S1.length : Int) : Rat) * (B : Rat)) = (((B - p.1) * (S1.length : Int) : Int) : Rat) := fun p => by
    unfold rp
    rw [Rat.intCast_mul, Rat.div_def]
    have : (B : Rat) * (B : Rat)⁻¹ = 1 := Rat.mul_inv_cancel _ (by grind)
    grind
  have g1 : ∀ p ∈ S1, v < rp B p := fun p hp => by
    have q : ((sumB B S1 - B : Int) : Rat) < (((B - p.1) * (S1.length : Int) : Int) : Rat) := by exact_mod_cast h.gt p hp
    rw [← hv, ← er p] at q
    exact (Rat.mul_lt_mul_right hkb).mp q
  have g2 : ∀ p ∈ S2, rp B p ≤ v := fun p hp => by
    have q : (((B - p.1) * (S1.length : Int) : Int) : Rat) ≤ ((sumB B S1 - B : Int) : Rat) := by exact_mod_cast h.le p hp
    rw [← hv, ← er p] at q
    apply Classical.byContradiction
    intro n
    have c : v < rp B p := by grind
    have := (Rat.mul_lt_mul_right hkb).mpr c
    grind
  refine ⟨?_, g1, g2⟩
  rw [List.map_append, sq_append]
  have e1 : (S1.map fun p => mx (rp B p - v)) = S1.map fun p => rp B p - v := List.map_congr_left fun p hp => by
    have := g1 p hp
    unfold mx
    grind
  have e2 : sq (S2.map fun p => mx (rp B p - v)) = 0 := by
    have : ∀ l : List (Int × Int), (∀ p ∈ l, rp B p ≤ v) → sq (l.map fun p => mx (rp B p - v)) = 0 := by
      intro l
      induction l with
      | nil => intro _; rfl
      | cons p l ih =>
        intro hl
        show mx (rp B p - v) + sq (l.map fun p => mx (rp B p - v)) = 0
        rw [ih fun q hq => hl q (List.mem_cons_of_mem _ hq)]
        have := hl p (List.mem_cons_self ..)
        unfold mx
        grind
    exact this S2 g2
  rw [e1, e2, sq_rp]
  have e3 : ((sumB B S1 : Int) : Rat) = v * (((S1.length : Int) : Rat) * (B : Rat)) + (B : Rat) := by
    rw [hv, Rat.intCast_sub]
    grind
  rw [e3, Rat.div_def]
  have : (B : Rat) * (B : Rat)⁻¹ = 1 := Rat.mul_inv_cancel _ (by grind)
  grind
end LV
set_option linter.all false
set_option maxRecDepth 100000
set_option maxHeartbeats 2000000
namespace K11
open PySem L2 KM LV
def isWh : D → Bool
  | .int _ => true
  | _ => false
def notObj : D → Bool
  | .obj _ => false
  | .ref _ => false
  | .fn _ => false
  | _ => true
theorem is_whole_eq {d : D} {M : List MO} (h : WF M) (hd : notObj d = true) : m_is_whole [d] M = .ok (.bl (isWh d)) M := by
  unfold m_is_whole cutM
  have e : fnM 1 g_is_whole [d] M = .ok (.bl (isWh d)) M := by
    cases d <;> first
      | (simp [fnM, g_is_whole, startD, oIsi, tyM, tyN, isiB, tyOk_int, tyOk_bool, isWh]; done)
      | (simp [notObj] at hd)
  rw [e, cut_same h rfl]
theorem is_whole_int {i : Int} {M : List MO} (h : WF M) : m_is_whole [.int i] M = .ok (.bl true) M := is_whole_eq h rfl
theorem is_fraction_fr {q : Rat} {M : List MO} (h : WF M) : m_is_fraction [fD q] M = .ok (.bl true) M := by
  unfold m_is_fraction cutM
  have h1 : (1 : Int) ≤ q.den := by have := q.den_pos; omega
  have h2 : q.num.natAbs.gcd q.den = 1 := q.reduced
  have e : fnM 3 g_is_fraction [fD q] M = .ok (.bl true) M := by
    simp [fnM, g_is_fraction, startD, fD, is_whole_int h, h1, h2]
  rw [e, cut_same h rfl]
theorem reduced_eq {t : Int} {b : Nat} (hb : b ≠ 0) (hz : b.log2 < 9000) {M : List MO} (h : WF M) : m_reduced [.int t, .int b] M = .ok (fD (Rat.normalize t b hb)) M := by
  unfold m_reduced cutM
  have hg : 0 < t.natAbs.gcd b := Nat.gcd_pos_of_pos_right _ (Nat.pos_of_ne_zero hb)
  have hle : t.natAbs.gcd b ≤ b := Nat.gcd_le_right _ (Nat.pos_of_ne_zero hb)
  have hc : ∀ i : Int, CDivB i ((t.natAbs.gcd b : Nat) : Int) := fun i => by
    refine ⟨by omega, ?_⟩
    rw [Int.natAbs_natCast]
    have : (t.natAbs.gcd b).log2 ≤ b.log2 := by
      rw [Nat.le_log2 hb]
      exact Nat.le_trans (Nat.log2_self_le (by omega)) hle
    omega
  have e : fnM 3 g_reduced [.int t, .int b] M = .ok (fD (Rat.normalize t b hb)) M := by
    rw [norm_fr]
    simp [fnM, g_reduced, startD, hc, bigN]
  rw [e, cut_same h rfl]
theorem bls_map {α : Type} (f : α → Bool) : ∀ xs : List α, bls (xs.map fun x => D.bl (f x)) = some (xs.map f)
  | [] => rfl
  | x :: xs => by
    rw [List.map_cons, List.map_cons]
    unfold bls
    rw [bls_map f xs]
    rfl
theorem oAll_map {α : Type} (f : α → Bool) (xs : List α) (M : List MO) : oAll [.lst (xs.map fun x => D.bl (f x))] M = .ok (.bl ((xs.map f).all id)) M := by
  unfold oAll
  simp only [s_listOf_lst, bls_map]
structure Bnd (L : Nat) (A : Nat) (q : Rat) : Prop where
  den : q.den ∣ L
  num : q.num.natAbs ≤ A * q.den
theorem total_loop {L A : Nat} (hL : L ≠ 0) (hL2 : L < 2 ^ 5000) (hA : A < 2 ^ 1000) {M : List MO} (parts : D) : ∀ (qs : List Rat) (n : Nat) (t : Int) (b : Nat) (x3 x4 x5 : Option D), n + qs.length ≤ 100000 → (∀ q ∈ qs, Bnd L A q) → b ≠ 0 → b ∣ L → t.natAbs ≤ n * A * b →
    ∃ (t' : Int) (b' : Nat) (y3 y4 y5 : Option D), forL (fun _ => True) (gtTup 2 (gtCons (gtName 3) (gtCons (gtName 4) gtNil)))
      (gSeq (gSet 5 (gCall oLcm (gACons (gVar 2) (gACons (gVar 4) gANil)))) (gSeq (gSet 1 (gOp oAdd (gOp oMul (gVar 1) (gOp oDiv (gVar 5) (gVar 2))) (gOp oMul (gVar 3) (gOp oDiv (gVar 5) (gVar 4))))) (gSet 2 (gVar 5))))
      (qs.map fD) [some parts, some (.int t), some (.int b), x3, x4, x5] M = .nx [some parts, some (.int t'), some (.int b'), y3, y4, y5] M ∧ b' ≠ 0 ∧ b' ∣ L ∧ Rat.divInt t' b' = Rat.divInt t b + sq qs
  | [], n, t, b, x3, x4, x5, hn, hq, hb, hbl, ht => ⟨t, b, x3, x4, x5, by simp [forL], hb, hbl, by simp [sq, Rat.add_zero]⟩
  | q :: qs, n, t, b, x3, x4, x5, hn, hq, hb, hbl, ht => by
    have Q := hq q (List.mem_cons_self ..)
    have hd : q.den ≠ 0 := q.den_nz
    have lp : ∀ {x : Nat}, x ∣ L → x < 2 ^ 5000 := fun h => Nat.lt_of_le_of_lt (Nat.le_of_dvd (Nat.pos_of_ne_zero hL) h) hL2
    have lg : ∀ {x : Nat}, x ≠ 0 → x ∣ L → x.log2 < 6000 := fun h0 h => Nat.lt_of_lt_of_le ((Nat.log2_lt h0).mpr (lp h)) (by decide)
    have hc : b.lcm q.den ∣ L := Nat.lcm_dvd hbl Q.den
    have hc0 : b.lcm q.den ≠ 0 := Nat.lcm_ne_zero hb hd
    obtain ⟨k1, e1⟩ := Nat.dvd_lcm_left b q.den
    obtain ⟨k2, e2⟩ := Nat.dvd_lcm_right b q.den
    have hk1 : k1 ≠ 0 := fun e => hc0 (by rw [e1, e, Nat.mul_zero])
    have hk2 : k2 ≠ 0 := fun e => hc0 (by rw [e2, e, Nat.mul_zero])
    have d1 : ((b.lcm q.den : Nat) : Int) / (b : Int) = k1 := by
      rw [e1, Int.natCast_mul]
      exact Int.mul_ediv_cancel_left _ (by omega)
    have d2 : ((b.lcm q.den : Nat) : Int) / (q.den : Int) = k2 := by
      rw [e2, Int.natCast_mul]
      exact Int.mul_ediv_cancel_left _ (by omega)
    have k1L : k1 < 2 ^ 5000 := Nat.lt_of_le_of_lt (by rw [e1]; exact Nat.le_mul_of_pos_left _ (Nat.pos_of_ne_zero hb)) (lp hc)
    have k2L : k2 < 2 ^ 5000 := Nat.lt_of_le_of_lt (by rw [e2]; exact Nat.le_mul_of_pos_left _ (Nat.pos_of_ne_zero hd)) (lp hc)
    have n17 : n < 2 ^ 17 := by rw [List.length_cons] at hn; omega
    have tb : t.natAbs < 2 ^ 7000 := Nat.lt_of_le_of_lt ht (Nat.lt_of_lt_of_le (Nat.mul_lt_mul'' (Nat.mul_lt_mul'' n17 hA) (lp hbl)) (by rw [← Nat.pow_add, ← Nat.pow_add]; exact Nat.pow_le_pow_right (by decide) (by decide)))
    have nb : q.num.natAbs < 2 ^ 7000 := Nat.lt_of_le_of_lt Q.num (Nat.lt_of_lt_of_le (Nat.mul_lt_mul'' hA (lp Q.den)) (by rw [← Nat.pow_add]; exact Nat.pow_le_pow_right (by decide) (by decide)))
    have c1 : CMulB t (k1 : Int) := cmul_ok tb (show (k1 : Int).natAbs < 2 ^ 5000 by rw [Int.natAbs_natCast]; exact k1L) (by decide)
    have c2 : CMulB q.num (k2 : Int) := cmul_ok nb (show (k2 : Int).natAbs < 2 ^ 5000 by rw [Int.natAbs_natCast]; exact k2L) (by decide)
    have v1 : CDivB ((b.lcm q.den : Nat) : Int) (b : Int) := cdiv_ok (by omega) (by rw [Int.natAbs_natCast]; exact Nat.lt_of_lt_of_le (lp hbl) (Nat.pow_le_pow_right (by decide) (by decide)))
    have v2 : CDivB ((b.lcm q.den : Nat) : Int) (q.den : Int) := cdiv_ok (by omega) (by rw [Int.natAbs_natCast]; exact Nat.lt_of_lt_of_le (lp Q.den) (Nat.pow_le_pow_right (by decide) (by decide)))
    have cl : CLcm (b : Int) (q.den : Int) := by
      exact ⟨by rw [Int.natAbs_natCast]; exact lg hb hbl, by rw [Int.natAbs_natCast]; exact lg hd Q.den⟩
    have ht2 : (t * k1 + q.num * k2).natAbs ≤ (n + 1) * A * (b.lcm q.den) := by
      have a1 : (t * k1).natAbs ≤ n * A * (b.lcm q.den) := by
        rw [Int.natAbs_mul, Int.natAbs_natCast, e1, ← Nat.mul_assoc]
        exact Nat.mul_le_mul_right _ ht
      have a2 : (q.num * k2).natAbs ≤ A * (b.lcm q.den) := by
        rw [Int.natAbs_mul, Int.natAbs_natCast, e2, ← Nat.mul_assoc]
        exact Nat.mul_le_mul_right _ Q.num
      have a3 := Int.natAbs_add_le (t * k1) (q.num * k2)
      have a4 : (n + 1) * A * (b.lcm q.den) = n * A * (b.lcm q.den) + A * (b.lcm q.den) := by
        rw [Nat.add_mul, Nat.add_mul, Nat.one_mul]
      omega
    obtain ⟨t', b', y3, y4, y5, e, h1, h2, h3⟩ := total_loop hL hL2 hA (M := M) parts qs (n + 1) (t * k1 + q.num * k2) (b.lcm q.den) (some (.int q.num)) (some (.int q.den)) (some (.int (b.lcm q.den : Nat))) (by rw [List.length_cons] at hn; omega) (fun p hp => hq p (List.mem_cons_of_mem _ hp)) hc0 hc ht2
    refine ⟨t', b', y3, y4, y5, ?_, h1, h2, ?_⟩
    · rw [List.map_cons]
      unfold forL
      rw [if_pos trivial]
      unfold fD
      simp [oLcm, cl, v1, v2, d1, d2, c1, c2]
      exact e
    · rw [h3]
      show _ = Rat.divInt t b + (q + sq qs)
      rw [← Rat.add_assoc]
      congr 1
      have b0 : (b : Int) ≠ 0 := by omega
      have dd0 : (q.den : Int) ≠ 0 := by omega
      have x1 : Rat.divInt t b = Rat.divInt (t * k1) ((b.lcm q.den : Nat) : Int) := by
        rw [e1, Int.natCast_mul, Rat.divInt_mul_right (by omega)]
      have x2 : q = Rat.divInt (q.num * k2) ((b.lcm q.den : Nat) : Int) := by
        rw [e2, Int.natCast_mul, Rat.divInt_mul_right (by omega)]
        exact (Rat.num_divInt_den q).symm
      rw [x1]
      refine Eq.trans (divInt_same (c := ((b.lcm q.den : Nat) : Int)) (by omega)).symm ?_
      rw [← x2]
theorem total_eq {L A : Nat} (hL : L ≠ 0) (hL2 : L < 2 ^ 5000) (hA : A < 2 ^ 1000) {M : List MO} (h : WF M) {qs : List Rat} (hn : qs.length ≤ 100000) (hq : ∀ q ∈ qs, Bnd L A q) : m_total [.lst (qs.map fD)] M = .ok (fD (sq qs)) M := by
  unfold m_total cutM
  obtain ⟨t', b', y3, y4, y5, e, h1, h2, h3⟩ := total_loop hL hL2 hA (M := M) (.lst (qs.map fD)) qs 0 0 1 none none none (by omega) hq (by decide) (Nat.one_dvd _) (by simp)
  have hz : b'.log2 < 9000 := Nat.lt_of_lt_of_le ((Nat.log2_lt h1).mpr (Nat.lt_of_le_of_lt (Nat.le_of_dvd (Nat.pos_of_ne_zero hL) h2) hL2)) (by decide)
  have e2 : fnM 6 g_total [.lst (qs.map fD)] M = .ok (fD (sq qs)) M := by
    have hs : Rat.normalize t' b' h1 = sq qs := by
      rw [norm_div, h3]
      simp [Rat.zero_add]
    have hr := reduced_eq (t := t') h1 hz h
    rw [hs] at hr
    have e' : forL (fun _ => True) (gtTup 2 (gtCons (gtName 3) (gtCons (gtName 4) gtNil)))
      (gSeq (gSet 5 (gCall oLcm (gACons (gVar 2) (gACons (gVar 4) gANil)))) (gSeq (gSet 1 (gOp oAdd (gOp oMul (gVar 1) (gOp oDiv (gVar 5) (gVar 2))) (gOp oMul (gVar 3) (gOp oDiv (gVar 5) (gVar 4))))) (gSet 2 (gVar 5))))
      (qs.map fD) [some (.lst (qs.map fD)), some (.int 0), some (.int 1), none, none, none] M = .nx [some (.lst (qs.map fD)), some (.int t'), some (.int b'), y3, y4, y5] M := e
    have gdl : gdOf (.lst (qs.map fD)) (qs.map fD) = fun _ => True := rfl
    simp [fnM, g_total, startD, gdl, e', hr]
  rw [e2, cut_same h rfl]
end K11
set_option linter.all false
set_option maxRecDepth 100000
set_option maxHeartbeats 4000000
namespace K11
open PySem L2 KM LV
/-! ### one bottom -/
def lcmF (b : Nat) (ws : List Rat) : Nat := ws.foldl (fun b w => b.lcm w.den) b
theorem lcmF_dvd {L : Nat} : ∀ (ws : List Rat) (b : Nat), b ∣ L → (∀ w ∈ ws, w.den ∣ L) → lcmF b ws ∣ L
  | [], b, h, _ => h
  | w :: ws, b, h, hw => lcmF_dvd ws (b.lcm w.den) (Nat.lcm_dvd h (hw w (List.mem_cons_self ..))) fun x hx => hw x (List.mem_cons_of_mem _ hx)
theorem lcmF_ne : ∀ (ws : List Rat) (b : Nat), b ≠ 0 → lcmF b ws ≠ 0
  | [], b, h => h
  | w :: ws, b, h => lcmF_ne ws (b.lcm w.den) (Nat.lcm_ne_zero h w.den_nz)
theorem lcmF_b : ∀ (ws : List Rat) (b : Nat), b ∣ lcmF b ws
  | [], b => Nat.dvd_refl _
  | w :: ws, b => Nat.dvd_trans (Nat.dvd_lcm_left _ _) (lcmF_b ws (b.lcm w.den))
theorem lcmF_all : ∀ (ws : List Rat) (b : Nat), ∀ w ∈ ws, w.den ∣ lcmF b ws
  | w :: ws, b, x, hx => by
    rcases List.mem_cons.mp hx with e | e
    · subst e
      exact Nat.dvd_trans (Nat.dvd_lcm_right _ _) (lcmF_b ws (b.lcm x.den))
    · exact lcmF_all ws _ x e
def topOf (B : Nat) (w : Rat) : Int := w.num * ((B / w.den : Nat) : Int)
theorem log_lt {L x : Nat} (hL : L ≠ 0) (hL2 : L < 2 ^ 5000) (h : x ∣ L) : x < 2 ^ 5000 := Nat.lt_of_le_of_lt (Nat.le_of_dvd (Nat.pos_of_ne_zero hL) h) hL2
theorem log_lt2 {x : Nat} (h : x < 2 ^ 5000) : x.log2 < 6000 := by
  by_cases h0 : x = 0
  · rw [h0, Nat.log2_zero]; omega
  · exact Nat.lt_of_lt_of_le ((Nat.log2_lt h0).mpr h) (by decide)
section
variable {L A : Nat} {M : List MO}
theorem common_loop (hL : L ≠ 0) (hL2 : L < 2 ^ 5000) (x0 : Option D) : ∀ (ws : List Rat) (b : Nat) (x2 : Option D), b ∣ L → (∀ w ∈ ws, w.den ∣ L) →
    ∃ y2, forL (fun _ => True) (gtName 2) (gSet 1 (gCall oLcm (gACons (gVar 1) (gACons (gOp oIx (gVar 2) (gC (.int 1))) (gANil))))) (ws.map fD) [x0, some (.int (b : Int)), x2] M = .nx [x0, some (.int ((lcmF b ws : Nat) : Int)), y2] M
  | [], b, x2, _, _ => ⟨x2, by simp [forL, lcmF]⟩
  | w :: ws, b, x2, hb, hw => by
    have hwd := hw w (List.mem_cons_self ..)
    obtain ⟨y2, e⟩ := common_loop hL hL2 x0 ws (b.lcm w.den) (some (fD w)) (Nat.lcm_dvd hb hwd) fun x hx => hw x (List.mem_cons_of_mem _ hx)
    refine ⟨y2, ?_⟩
    have i1 : oIx (fD w) (.int 1) M = .ok (.int (w.den : Int)) M := s_ixT M (n := 1) rfl
    have cl : CLcm (b : Int) (w.den : Int) := ⟨by rw [Int.natAbs_natCast]; exact log_lt2 (log_lt hL hL2 hb), by rw [Int.natAbs_natCast]; exact log_lt2 (log_lt hL hL2 hwd)⟩
    have ol : oLcm [.int (b : Int), .int (w.den : Int)] M = .ok (.int ((b.lcm w.den : Nat) : Int)) M := by
      unfold oLcm
      simp only
      rw [if_pos cl, Int.natAbs_natCast, Int.natAbs_natCast]
    rw [List.map_cons]
    unfold forL
    rw [if_pos trivial]
    simp only [s_gtName, s_gSet, s_gCall, s_gACons, s_gVar, s_gOp, s_gC, s_gANil, List.set, List.getElem?_cons_zero, List.getElem?_cons_succ, KM.R.bind_ok, i1, ol, KM.R.toS_ok]
    exact e
theorem top_over_eq (hL : L ≠ 0) (hL2 : L < 2 ^ 5000) (hA : A < 2 ^ 1000) {w : Rat} (hw : Bnd L A w) {B : Nat} (hB : B ∣ L) (hB0 : B ≠ 0) (hd : w.den ∣ B) (wf : WF M) : m_top_over [fD w, .int (B : Int)] M = .ok (.int (topOf B w)) M := by
  have i0 : oIx (fD w) (.int 0) M = .ok (.int w.num) M := s_ixT M (n := 0) rfl
  have i1 : oIx (fD w) (.int 1) M = .ok (.int (w.den : Int)) M := s_ixT M (n := 1) rfl
  have hw0 : w.den ≠ 0 := w.den_nz
  have cd : CDivB (B : Int) (w.den : Int) := cdiv_ok (by omega) (by rw [Int.natAbs_natCast]; exact Nat.lt_of_lt_of_le (log_lt hL hL2 hw.den) (Nat.pow_le_pow_right (by decide) (by decide)))
  have nb : w.num.natAbs < 2 ^ 7000 := Nat.lt_of_le_of_lt hw.num (Nat.lt_of_lt_of_le (Nat.mul_lt_mul'' hA (log_lt hL hL2 hw.den)) (by rw [← Nat.pow_add]; exact Nat.pow_le_pow_right (by decide) (by decide)))
  have qb : B / w.den < 2 ^ 5000 := Nat.lt_of_le_of_lt (Nat.div_le_self _ _) (log_lt hL hL2 hB)
  have cm : CMulB w.num ((B : Int) / (w.den : Int)) := by
    rw [← Int.natCast_ediv]
    exact cmul_ok nb (by rw [Int.natAbs_natCast]; exact qb) (by decide)
  have q : fnM 2 g_top_over [fD w, .int (B : Int)] M = .ok (.int (topOf B w)) M := by
    unfold topOf
    rw [Int.natCast_ediv]
    simp [fnM, g_top_over, startD, i0, i1, cd, cm]
  have e9 : m_top_over [fD w, .int (B : Int)] M = cutR M.length (fnM 2 g_top_over [fD w, .int (B : Int)] M) := rfl
  rw [e9, q]
  exact cut_same wf rfl
theorem common_eq (hL : L ≠ 0) (hL2 : L < 2 ^ 5000) (hA : A < 2 ^ 1000) {ws : List Rat} (hn : ws.length ≤ 1000) (hw : ∀ w ∈ ws, Bnd L A w) (wf : WF M) :
    m_common [.tup (ws.map fD)] M = .ok (.tup [.lst ((ws.map (topOf (lcmF 1 ws))).map D.int), .int ((lcmF 1 ws : Nat) : Int)]) M := by
  have hd := lcmF_dvd ws 1 (Nat.one_dvd L) fun w h => (hw w h).den
  have h0 := lcmF_ne ws 1 (by decide)
  obtain ⟨y2, e⟩ := common_loop hL hL2 (some (.tup (ws.map fD))) (M := M) ws 1 none (Nat.one_dvd L) fun w h => (hw w h).den
  have e' : forL (fun _ => True) (gtName 2) (gSet 1 (gCall oLcm (gACons (gVar 1) (gACons (gOp oIx (gVar 2) (gC (.int 1))) (gANil))))) (ws.map fD) [some (.tup (ws.map fD)), some (.int 1), none] M = .nx [some (.tup (ws.map fD)), some (.int ((lcmF 1 ws : Nat) : Int)), y2] M := e
  have lm := lcL_map (gd := fun _ => True) (gg := gtName 2) (ge := gCall m_top_over (gACons (gVar 2) (gACons (gVar 1) (gANil)))) (δ := [some (.tup (ws.map fD)), some (.int ((lcmF 1 ws : Nat) : Int)), none]) (M := M) (em := fD) (f := fun w => D.int (topOf (lcmF 1 ws) w)) trivial ws [] (by simp; omega) (fun w h => ⟨[some (.tup (ws.map fD)), some (.int ((lcmF 1 ws : Nat) : Int)), some (fD w)], rfl, by
    have := top_over_eq hL hL2 hA (hw w h) hd h0 (lcmF_all ws 1 w h) wf
    simp only [s_gCall, s_gACons, s_gVar, s_gANil, List.getElem?_cons_zero, List.getElem?_cons_succ, KM.R.bind_ok, this]⟩)
  rw [List.nil_append] at lm
  have q : g_common (startD 3 [.tup (ws.map fD)]) M = .rt (.tup [.lst ((ws.map (topOf (lcmF 1 ws))).map D.int), .int ((lcmF 1 ws : Nat) : Int)]) M := by
    have st : startD 3 [.tup (ws.map fD)] = [some (.tup (ws.map fD)), none, none] := rfl
    have em : (ws.map fun w => D.int (topOf (lcmF 1 ws) w)) = (ws.map (topOf (lcmF 1 ws))).map D.int := by rw [List.map_map]; rfl
    rw [em] at lm
    have b2 : ∀ x y : D, bigN [x, y].length := fun x y => by unfold bigN; simp
    rw [st]
    simp only [g_common, s_gSeq, s_gSet, s_gC, KM.R.toS_ok, List.set, SR.then_nx, s_gFor, s_giSeq, s_gVar, List.getElem?_cons_zero, List.getElem?_cons_succ, KM.R.bind_ok, s_tupOf, s_itT, s_itTg, e', s_gRet, s_gETup, s_gACons, s_gLcG, s_gANil, wipeD]
    simp only [wipeD, List.set, lm, KM.R.bind_ok, finI, if_pos (b2 _ _), KM.R.toS_ok]
  have e9 : m_common [.tup (ws.map fD)] M = cutR M.length (fnM 3 g_common [.tup (ws.map fD)] M) := rfl
  rw [e9]
  unfold fnM
  rw [q]
  refine cut_same wf ?_
  show (D.los M.length ((ws.map (topOf (lcmF 1 ws))).map D.int) && true) = true
  have : ∀ xs : List Int, D.los M.length (xs.map D.int) = true := by
    intro xs
    induction xs with
    | nil => rfl
    | cons x xs ih =>
      rw [List.map_cons]
      unfold D.los
      rw [ih]
      rfl
  rw [this]
  rfl
/-! ### the lot -/
def enumP : Nat → List Int → List (Int × Int)
  | _, [] => []
  | i, t :: ts => (-t, (i : Int)) :: enumP (i + 1) ts
theorem enumP_len : ∀ (ts : List Int) (i : Nat), (enumP i ts).length = ts.length
  | [], _ => rfl
  | t :: ts, i => by
    unfold enumP
    rw [List.length_cons, List.length_cons, enumP_len ts]
theorem enum_comp {δ : KM.Ctx} (d5 : 6 < δ.length) : ∀ (ts : List Int) (i : Nat) (acc : List (Int × Int)), acc.length + ts.length ≤ 1000 →
    lcL (fun _ => True) (gtTup 2 (gtCons (gtName 5) (gtCons (gtName 6) (gtNil)))) gYes (gETup (gACons (gUn oNeg (gVar 6)) (gACons (gVar 5) (gANil)))) δ (enumD i (ts.map D.int)) (acc.map pD) M = .ok ((acc ++ enumP i ts).map pD) M
  | [], i, acc, _ => by simp [enumD, enumP, lcL]
  | t :: ts, i, acc, hl => by
    rw [List.length_cons] at hl
    have ih := enum_comp d5 ts (i + 1) (acc ++ [(-t, (i : Int))]) (by simp; omega)
    have g6 : ((δ.set 5 (some (.int (i : Int)))).set 6 (some (.int t)))[6]? = some (some (.int t)) := List.getElem?_set_self (by rw [List.length_set]; exact d5)
    have g5 : ((δ.set 5 (some (.int (i : Int)))).set 6 (some (.int t)))[5]? = some (some (.int (i : Int))) := by
      rw [List.getElem?_set_ne (by decide)]
      exact List.getElem?_set_self (by omega)
    have b2 : ∀ x y : D, bigN [x, y].length := fun x y => by unfold bigN; simp
    have b2n : bigN (0 + 1 + 1) := by unfold bigN; omega
    have bs : bigS (acc.map pD).length := by rw [List.length_map]; unfold bigS; omega
    rw [List.map_cons]
    unfold enumD enumP lcL
    rw [if_pos trivial]
    simp only [s_gtTup, s_gtCons, s_gtName, s_gtNil, gYes, if_true, s_gETup, s_gACons, s_gUn, s_gVar, g6, g5, KM.R.bind_ok, s_negI, s_gANil, List.length_cons, List.length_nil, if_pos b2n, if_pos bs]
    rw [List.map_append, List.map_singleton] at ih
    rw [show acc ++ (-t, (i : Int)) :: enumP (i + 1) ts = acc ++ [(-t, (i : Int))] ++ enumP (i + 1) ts by simp]
    exact ih
theorem prsD_map : ∀ ps : List (Int × Int), prsD (ps.map pD) = some ps
  | [] => rfl
  | p :: ps => by
    rw [List.map_cons]
    show (prsD (ps.map pD)).map _ = _
    rw [prsD_map ps]
    rfl
noncomputable abbrev lB : GS := gSeq (gSet 7 (gOp oSub (gVar 1) (gVar 4)))
    (gSeq (gIf (gAnd (gTru (gVar 2)) (gTest (gOp oLe (gOp oMul (gVar 7) (gCall oLen (gACons (gVar 2) (gANil)))) (gVar 3)))) (gBreak) (gNext))
    (gSeq (gDrop (gBM oAppend (gVar 2) (gACons (gVar 5) (gANil))))
    (gSet 3 (gOp oAdd (gVar 3) (gVar 7)))))
theorem lot_loop (B : Int) (x0 x6 : Option D) : ∀ (r : List (Int × Int)) (lot : List Int) (most : Int) (x4 x5 x7 : Option D), lot.length + r.length ≤ 1000 →
    ∃ y4 y5 y7, forL (fun _ => True) (gtTup 2 (gtCons (gtName 4) (gtCons (gtName 5) (gtNil)))) lB (r.map pD) [x0, some (.int B), some (.ref M.length), some (.int most), x4, x5, x6, x7] (M ++ [.lst (lot.map D.int)]) =
      .nx [x0, some (.int B), some (.ref M.length), some (.int (lotF B r lot most).2), y4, y5, x6, y7] (M ++ [.lst ((lotF B r lot most).1.map D.int)])
  | [], lot, most, x4, x5, x7, _ => ⟨x4, x5, x7, by simp [forL, lotF]⟩
  | p :: r, lot, most, x4, x5, x7, hl => by
    rw [List.length_cons] at hl
    have lo := s_listOf_ref (M ++ [.lst (lot.map D.int)]) (get_last M _)
    have ln : oLen [.ref M.length] (M ++ [.lst (lot.map D.int)]) = .ok (.int (lot.length : Int)) (M ++ [.lst (lot.map D.int)]) := by
      unfold oLen
      simp only [s_tupOf_ref, lo, List.length_map]
    have cm : CMulB (B - p.1) (lot.length : Int) := cmul_r (by omega) (by omega)
    have tr : trD (M ++ [.lst (lot.map D.int)]) (.ref M.length) = some (!lot.isEmpty) := by
      unfold trD
      simp only [lo]
      cases lot <;> rfl
    unfold lotF
    rw [List.map_cons]
    by_cases c : lot ≠ [] ∧ (B - p.1) * (lot.length : Int) ≤ most
    · refine ⟨some (.int p.1), some (.int p.2), some (.int (B - p.1)), ?_⟩
      rw [if_pos c]
      have te : (!lot.isEmpty) = true := by
        cases lot with
        | nil => exact absurd rfl c.1
        | cons _ _ => rfl
      rw [te] at tr
      unfold forL
      rw [if_pos trivial]
      simp only [pD, s_gtTup, s_gtCons, s_gtName, s_gtNil, List.length_cons, List.length_nil, if_true, lB, s_gSeq, s_gSet, s_gOp, s_gVar, List.set, List.getElem?_cons_zero, List.getElem?_cons_succ, KM.R.bind_ok, s_subI, KM.R.toS_ok, SR.then_nx, s_gIf, s_gAnd, s_gTru, tr, s_gTest, s_gCall, s_gACons, s_gANil, ln, s_mulI, if_pos cm, s_leI, decide_eq_true c.2, s_gBreak, SR.then_bk]
    · rw [if_neg c]
      obtain ⟨y4, y5, y7, e⟩ := lot_loop B x0 x6 r (lot ++ [p.2]) (most + (B - p.1)) (some (.int p.1)) (some (.int p.2)) (some (.int (B - p.1))) (by simp; omega)
      refine ⟨y4, y5, y7, ?_⟩
      have ap := oAppend_eq (M := M ++ [.lst (lot.map D.int)]) (k := M.length) (get_last M _) (by simp; omega) (.int p.2)
      rw [put_last] at ap
      rw [List.map_append, List.map_singleton] at e
      unfold forL
      rw [if_pos trivial]
      by_cases te : lot = []
      · subst te
        have tr' : trD (M ++ [.lst (([] : List Int).map D.int)]) (.ref M.length) = some false := tr
        simp only [pD, s_gtTup, s_gtCons, s_gtName, s_gtNil, List.length_cons, List.length_nil, if_true, lB, s_gSeq, s_gSet, s_gOp, s_gVar, List.set, List.getElem?_cons_zero, List.getElem?_cons_succ, KM.R.bind_ok, s_subI, KM.R.toS_ok, SR.then_nx, s_gIf, s_gAnd, s_gTru, tr', Bool.false_eq_true, if_false, s_gNext, s_gDrop, s_gBM, lo, s_gACons, s_gANil, ap, s_addI]
        exact e
      · have te2 : (!lot.isEmpty) = true := by
          cases lot with
          | nil => exact absurd rfl te
          | cons _ _ => rfl
        have nc : ¬ (B - p.1) * (lot.length : Int) ≤ most := fun h => c ⟨te, h⟩
        rw [te2] at tr
        simp only [pD, s_gtTup, s_gtCons, s_gtName, s_gtNil, List.length_cons, List.length_nil, if_true, lB, s_gSeq, s_gSet, s_gOp, s_gVar, List.set, List.getElem?_cons_zero, List.getElem?_cons_succ, KM.R.bind_ok, s_subI, KM.R.toS_ok, SR.then_nx, s_gIf, s_gAnd, s_gTru, tr, s_gTest, s_gCall, s_gACons, s_gANil, ln, s_mulI, if_pos cm, s_leI, decide_eq_false nc, Bool.false_eq_true, if_false, s_gNext, s_gDrop, s_gBM, lo, ap, s_addI]
        exact e
end
end K11
set_option linter.all false
set_option maxRecDepth 100000
set_option maxHeartbeats 4000000
namespace K11
open PySem L2 KM LV
theorem los_mapD {α : Type} {f : α → D} {n : Nat} (h : ∀ x, D.lo n (f x) = true) (xs : List α) : D.los n (xs.map f) = true := by
  induction xs with
  | nil => rfl
  | cons x xs ih =>
    rw [List.map_cons]
    unfold D.los
    rw [h x, ih]
    rfl
theorem intsD_lst (xs : List Int) : intsD (xs.map D.int) = some xs := by
  induction xs with
  | nil => rfl
  | cons x xs ih =>
    rw [List.map_cons]
    unfold intsD
    rw [ih]
    rfl
section
variable {L A : Nat} {M : List MO}
/-- best_lot tells the letters of the first part of the sorted pairs -/
theorem best_lot_eq {B : Int} (hB : 0 < B) {ts : List Int} (h1 : ts ≠ []) (hn : ts.length ≤ 100) (wf : WF M) : ∃ S1 S2, srtP (enumP 0 ts) = S1 ++ S2 ∧ LotOk B S1 S2 ∧
    m_best_lot [.lst (ts.map D.int), .int B] M = .ok (.tup [.tup ((srtI (S1.map fun p => p.2)).map D.int), .int (sumB B S1 - B)]) M := by
  have hs := srtP_sorted (enumP 0 ts)
  have hs2 : (srtP (enumP 0 ts)).Pairwise (fun p q => p.1 ≤ q.1) := hs.imp fun h => by
    rw [SrtO.lexB_no] at h
    omega
  have hl : (srtP (enumP 0 ts)).length = ts.length := by rw [(srtP_perm _).length_eq, enumP_len]
  obtain ⟨S1, S2, g1, g2, g3⟩ := lotF_spec hB (srtP (enumP 0 ts)) [] (fun p hp => by cases hp) hs2 (fun p hp => by cases hp) (by
    intro e
    rw [List.nil_append] at e
    rw [e] at hl
    exact h1 (List.eq_nil_of_length_eq_zero hl.symm))
  refine ⟨S1, S2, by simpa using g1, g3, ?_⟩
  have g2' : lotF B (srtP (enumP 0 ts)) [] (-B) = (S1.map fun p => p.2, sumB B S1 - B) := by
    have : sumB B [] - B = -B := by simp [sumB]
    rw [← this]
    exact g2
  have ec := enum_comp (M := M ++ [.lst []]) (δ := [some (.lst (ts.map D.int)), some (.int B), some (.ref M.length), some (.int (-B)), none, none, none, none]) (show 6 < 8 by decide) ts 0 [] (by simp; omega)
  rw [List.nil_append, List.map_nil] at ec
  obtain ⟨y4, y5, y7, el⟩ := lot_loop (M := M) B (some (.lst (ts.map D.int))) none (srtP (enumP 0 ts)) [] (-B) none none none (by simp; omega)
  rw [g2'] at el
  have el' : forL (fun _ => True) (gtTup 2 (gtCons (gtName 4) (gtCons (gtName 5) (gtNil)))) lB ((srtP (enumP 0 ts)).map pD) [some (.lst (ts.map D.int)), some (.int B), some (.ref M.length), some (.int (-B)), none, none, none, none] (M ++ [.lst []]) =
      .nx [some (.lst (ts.map D.int)), some (.int B), some (.ref M.length), some (.int (sumB B S1 - B)), y4, y5, none, y7] (M ++ [.lst ((S1.map fun p => p.2).map D.int)]) := el
  have sp : oSortedP [.lst ((enumP 0 ts).map pD)] (M ++ [.lst []]) = .ok (.lst ((srtP (enumP 0 ts)).map pD)) (M ++ [.lst []]) := by
    unfold oSortedP
    simp only [s_listOf_lst, prsD_map]
  have lo := s_listOf_ref (M ++ [.lst ((S1.map fun p => p.2).map D.int)]) (get_last M _)
  have so : oSorted [.ref M.length] (M ++ [.lst ((S1.map fun p => p.2).map D.int)]) = .ok (.lst ((srtI (S1.map fun p => p.2)).map D.int)) (M ++ [.lst ((S1.map fun p => p.2).map D.int)]) := by
    unfold oSorted
    simp only [lo, intsD_lst]
  have ln1 : KM.listOf (M ++ [.lst []]) (.lst ((srtP (enumP 0 ts)).map pD)) = some ((srtP (enumP 0 ts)).map pD) := rfl
  have gd1 : gdOf (.lst ((srtP (enumP 0 ts)).map pD)) ((srtP (enumP 0 ts)).map pD) = fun _ => True := rfl
  have b0 : bigN ([] : List D).length := by unfold bigN; simp
  have b2 : ∀ x y : D, bigN [x, y].length := fun x y => by unfold bigN; simp
  have st : startD 8 [.lst (ts.map D.int), .int B] = [some (.lst (ts.map D.int)), some (.int B), none, none, none, none, none, none] := rfl
  have ge : ∀ δ M', giEnum (gACons (gVar 0) gANil) ((some (.lst (ts.map D.int))) :: δ) M' = .ok (itT (enumD 0 (ts.map D.int))) M' := fun δ M' => rfl
  have q : g_best_lot (startD 8 [.lst (ts.map D.int), .int B]) M = .rt (.tup [.tup ((srtI (S1.map fun p => p.2)).map D.int), .int (sumB B S1 - B)]) (M ++ [.lst ((S1.map fun p => p.2).map D.int)]) := by
    rw [st]
    simp only [g_best_lot, s_gSeq, s_gSet, s_gLstM, s_gANil, KM.R.bind_ok, if_pos b0, KM.R.toS_ok, List.set, SR.then_nx, s_gUn, s_gVar, List.getElem?_cons_zero, List.getElem?_cons_succ, s_negI, s_gFor, s_giSeq, s_gCall, s_gACons, s_gLcG, ge, s_itT, s_itTg, wipeD]
    simp only [wipeD, List.set, ec, KM.R.bind_ok, finI, sp, s_tupOf_lst, ln1, gd1, KM.R.toS_ok, el', SR.then_nx, s_gRet, s_gETup, s_gACons, s_gCall, s_gVar, s_gANil, List.getElem?_cons_zero, List.getElem?_cons_succ, so, s_oTuple_lst, if_pos (b2 _ _)]
  have e9 : m_best_lot [.lst (ts.map D.int), .int B] M = cutR M.length (fnM 8 g_best_lot [.lst (ts.map D.int), .int B] M) := rfl
  rw [e9]
  unfold fnM
  rw [q]
  refine cut_to rfl wf ?_ (by simp)
  show (D.los M.length ((srtI (S1.map fun p => p.2)).map D.int) && (true && true)) = true
  rw [los_mapD (fun _ => rfl)]
  rfl
/-! ### worths -/
theorem is_worths_eq {ws : List Rat} (h2 : 2 ≤ ws.length) (h4 : ws.length ≤ 4) (wf : WF M) : m_is_worths [.tup (ws.map fD)] M = .ok (.bl true) M := by
  have lm := lcL_map (gd := fun _ => True) (gg := gtName 1) (ge := gCall m_is_fraction (gACons (gVar 1) (gANil))) (δ := [some (.tup (ws.map fD)), none]) (M := M) (em := fD) (f := fun _ => D.bl true) trivial ws [] (by simp; omega) (fun w _ => ⟨[some (.tup (ws.map fD)), some (fD w)], rfl, by
    simp only [s_gCall, s_gACons, s_gVar, s_gANil, List.getElem?_cons_zero, List.getElem?_cons_succ, KM.R.bind_ok, is_fraction_fr wf]⟩)
  rw [List.nil_append] at lm
  have al := oAll_map (fun _ : Rat => true) ws M
  have at_ : (ws.map fun _ => true).all id = true := by simp
  rw [at_] at al
  have l1 : (2 : Int) ≤ (ws.length : Int) := by omega
  have l2 : (ws.length : Int) ≤ 4 := by omega
  have ln : oLen [.tup (ws.map fD)] M = .ok (.int (ws.length : Int)) M := by rw [s_oLen_tup, List.length_map]
  have q : fnM 2 g_is_worths [.tup (ws.map fD)] M = .ok (.bl true) M := by
    simp [fnM, g_is_worths, startD, ln, l1, l2, wipeD, lm, finI, al]
  have e9 : m_is_worths [.tup (ws.map fD)] M = cutR M.length (fnM 2 g_is_worths [.tup (ws.map fD)] M) := rfl
  rw [e9, q]
  exact cut_same wf rfl
/-- the worths over one bottom -/
theorem rp_top {B : Nat} (hB : B ≠ 0) {w : Rat} (hd : w.den ∣ B) (i : Int) : rp (B : Int) (-(topOf B w), i) = w + 1 := by
  unfold rp topOf
  obtain ⟨k, hk⟩ := hd
  have hw : w.den ≠ 0 := w.den_nz
  have ek : B / w.den = k := by rw [hk]; exact Nat.mul_div_cancel_left k (Nat.pos_of_ne_zero hw)
  rw [ek]
  have hb : ((B : Int) : Rat) ≠ 0 := by exact_mod_cast hB
  have e1 : (((B : Int) - (-(w.num * (k : Int)), i).1 : Int) : Rat) = ((B : Int) : Rat) + (w.num : Rat) * ((k : Int) : Rat) := by
    show (((B : Int) - -(w.num * (k : Int)) : Int) : Rat) = _
    rw [Int.sub_neg, Rat.intCast_add, Rat.intCast_mul]
  have e2 : ((B : Int) : Rat) = ((w.den : Int) : Rat) * ((k : Int) : Rat) := by
    rw [← Rat.intCast_mul, ← Int.natCast_mul, ← hk]
  have e3 : (w.num : Rat) = w * ((w.den : Int) : Rat) := by
    have hd : ((w.den : Int) : Rat) ≠ 0 := by exact_mod_cast hw
    have h4 : (w.num : Rat) / ((w.den : Int) : Rat) = w := (Rat.divInt_eq_div w.num (w.den : Int)).symm.trans (Rat.num_divInt_den w)
    rw [Rat.div_def] at h4
    have h6 : ((w.den : Int) : Rat) * ((w.den : Int) : Rat)⁻¹ = 1 := Rat.mul_inv_cancel _ hd
    grind
  rw [e1, Rat.div_def, e3]
  have h6 : ((B : Int) : Rat) * ((B : Int) : Rat)⁻¹ = 1 := Rat.mul_inv_cancel _ hb
  grind
end
end K11
set_option linter.all false
set_option maxRecDepth 100000
set_option maxHeartbeats 4000000
namespace K11
open PySem L2 KM LV
def lotFrom : Int → List Rat → Rat → List Int
  | _, [], _ => []
  | i, w :: ws, v => if v < w + 1 then i :: lotFrom (i + 1) ws v else lotFrom (i + 1) ws v
theorem lotFrom_ge : ∀ (ws : List Rat) (i : Int) (v : Rat), ∀ x ∈ lotFrom i ws v, i ≤ x
  | [], i, v, x, h => by cases h
  | w :: ws, i, v, x, h => by
    unfold lotFrom at h
    split at h
    · rcases List.mem_cons.mp h with e | e
      · omega
      · have := lotFrom_ge ws (i + 1) v x e
        omega
    · have := lotFrom_ge ws (i + 1) v x h
      omega
theorem lotFrom_srt : ∀ (ws : List Rat) (i : Int) (v : Rat), (lotFrom i ws v).Pairwise (· ≤ ·)
  | [], i, v => List.Pairwise.nil
  | w :: ws, i, v => by
    unfold lotFrom
    split
    · exact List.pairwise_cons.mpr ⟨fun x hx => by have := lotFrom_ge ws (i + 1) v x hx; omega, lotFrom_srt ws (i + 1) v⟩
    · exact lotFrom_srt ws (i + 1) v
theorem add_eq (p q : Rat) : p + q = Rat.divInt (p.num * q.den + q.num * p.den) ((p.den * q.den : Nat) : Int) := by
  have h1 : (p.den : Int) ≠ 0 := by have := p.den_pos; omega
  have h2 : (q.den : Int) ≠ 0 := by have := q.den_pos; omega
  have := Rat.divInt_add_divInt p.num q.num h1 h2
  rw [Rat.num_divInt_den, Rat.num_divInt_den] at this
  rw [this, Int.natCast_mul]
theorem dd_ne (p q : Rat) : p.den * q.den ≠ 0 := Nat.mul_ne_zero p.den_nz q.den_nz
theorem Bnd.zero (L : Nat) : Bnd L 0 0 := ⟨Nat.one_dvd _, by decide⟩
theorem Bnd.mono {L A A' : Nat} {q : Rat} (h : Bnd L A q) (hA : A ≤ A') : Bnd L A' q := ⟨h.den, Nat.le_trans h.num (Nat.mul_le_mul_right _ hA)⟩
theorem divInt_dvd {t : Int} {L : Nat} (hL : L ≠ 0) : (Rat.divInt t L).den ∣ L := by
  rw [← norm_div hL, Rat.normalize_eq]
  exact Nat.div_dvd_of_dvd (Nat.gcd_dvd_right _ _)
theorem divInt_num {t : Int} {b A : Nat} (hb : b ≠ 0) (h : t.natAbs ≤ A * b) : (Rat.divInt t b).num.natAbs ≤ A * (Rat.divInt t b).den := by
  rw [← norm_div hb, Rat.normalize_eq]
  simp only [Int.natAbs_ediv_of_dvd (show ((t.natAbs.gcd b : Nat) : Int) ∣ t from Int.natAbs_dvd_natAbs.mp (Nat.gcd_dvd_left _ _))]
  rw [Int.natAbs_natCast]
  have hg : 0 < t.natAbs.gcd b := Nat.gcd_pos_of_pos_right _ (Nat.pos_of_ne_zero hb)
  obtain ⟨b', eb⟩ := Nat.gcd_dvd_right t.natAbs b
  obtain ⟨t', et⟩ := Nat.gcd_dvd_left t.natAbs b
  have e1 : b / t.natAbs.gcd b = b' := Nat.div_eq_of_eq_mul_right hg eb
  have e2 : t.natAbs / t.natAbs.gcd b = t' := Nat.div_eq_of_eq_mul_right hg et
  rw [e1, e2]
  refine Nat.le_of_mul_le_mul_left ?_ hg
  rw [← et]
  calc t.natAbs ≤ A * b := h
    _ = A * (t.natAbs.gcd b * b') := by rw [← eb]
    _ = t.natAbs.gcd b * (A * b') := by rw [Nat.mul_left_comm]
theorem over_L {L : Nat} (hL : L ≠ 0) {q : Rat} (h : q.den ∣ L) : ∃ x : Int, q = Rat.divInt x L := by
  obtain ⟨k, e⟩ := h
  refine ⟨q.num * k, ?_⟩
  have hk : k ≠ 0 := fun z => hL (by rw [e, z, Nat.mul_zero])
  rw [e, Int.natCast_mul, Rat.divInt_mul_right (by omega)]
  exact (Rat.num_divInt_den q).symm
theorem Bnd.add {L A A' : Nat} (hL : L ≠ 0) {p q : Rat} (hp : Bnd L A p) (hq : Bnd L A' q) : Bnd L (A + A') (p + q) := by
  constructor
  · obtain ⟨x, ex⟩ := over_L hL hp.den
    obtain ⟨y, ey⟩ := over_L hL hq.den
    rw [ex, ey, divInt_same (by omega)]
    exact divInt_dvd hL
  · rw [add_eq]
    refine divInt_num (dd_ne p q) ?_
    have a1 := Int.natAbs_add_le (p.num * q.den) (q.num * p.den)
    rw [Int.natAbs_mul, Int.natAbs_mul, Int.natAbs_natCast, Int.natAbs_natCast] at a1
    have b1 := Nat.mul_le_mul_right q.den hp.num
    have b2 := Nat.mul_le_mul_right p.den hq.num
    have e : (A + A') * (p.den * q.den) = A * p.den * q.den + A' * q.den * p.den := by
      rw [Nat.add_mul]
      congr 1
      · rw [Nat.mul_assoc]
      · rw [Nat.mul_assoc, Nat.mul_comm q.den]
    omega
section
variable {L A : Nat} {M : List MO}
theorem enum_F {B : Nat} (hB : B ≠ 0) (v : Rat) : ∀ (ws : List Rat) (i : Nat), (∀ w ∈ ws, w.den ∣ B) → sq ((enumP i (ws.map (topOf B))).map fun p => mx (rp (B : Int) p - v)) = Fv ws v
  | [], i, _ => rfl
  | w :: ws, i, h => by
    have ih := enum_F hB v ws (i + 1) fun x hx => h x (List.mem_cons_of_mem _ hx)
    show mx (rp (B : Int) (-(topOf B w), (i : Int)) - v) + sq ((enumP (i + 1) (ws.map (topOf B))).map fun p => mx (rp (B : Int) p - v)) = mx (w + 1 - v) + Fv ws v
    rw [ih, rp_top hB (h w (List.mem_cons_self ..))]
theorem enum_lot {B : Nat} (hB : B ≠ 0) (v : Rat) : ∀ (ws : List Rat) (i : Nat), (∀ w ∈ ws, w.den ∣ B) → ((enumP i (ws.map (topOf B))).filter fun p => decide (v < rp (B : Int) p)).map (fun p => p.2) = lotFrom (i : Int) ws v
  | [], i, _ => rfl
  | w :: ws, i, h => by
    have ih := enum_lot hB v ws (i + 1) fun x hx => h x (List.mem_cons_of_mem _ hx)
    have e := rp_top hB (h w (List.mem_cons_self ..)) (i : Int)
    have ec : ((i + 1 : Nat) : Int) = (i : Int) + 1 := by omega
    rw [ec] at ih
    rw [List.map_cons]
    unfold enumP lotFrom
    by_cases c : v < w + 1
    · rw [if_pos c, List.filter_cons_of_pos (by rw [e]; exact decide_eq_true c), List.map_cons, ih]
    · rw [if_neg c, List.filter_cons_of_neg (by rw [e]; simpa using c), ih]
/-- the level of worths -/
theorem lot_eq (hL : L ≠ 0) (hL2 : L < 2 ^ 5000) (hA : A < 2 ^ 1000) {ws : List Rat} (h2 : 2 ≤ ws.length) (h4 : ws.length ≤ 4) (hw : ∀ w ∈ ws, Bnd L A w) (wf : WF M) :
    ∃ (S1 : List (Int × Int)) (v : Rat), m_best_lot [.lst ((ws.map (topOf (lcmF 1 ws))).map D.int), .int ((lcmF 1 ws : Nat) : Int)] M = .ok (.tup [.tup ((lotFrom 0 ws v).map D.int), .int (sumB ((lcmF 1 ws : Nat) : Int) S1 - ((lcmF 1 ws : Nat) : Int))]) M ∧
      (lotFrom 0 ws v).length = S1.length ∧ 1 ≤ S1.length ∧ S1.length ≤ 4 ∧ Rat.divInt (sumB ((lcmF 1 ws : Nat) : Int) S1 - ((lcmF 1 ws : Nat) : Int)) ((S1.length * lcmF 1 ws : Nat) : Int) = v ∧ Fv ws v = 1 := by
  have hd : lcmF 1 ws ∣ L := lcmF_dvd ws 1 (Nat.one_dvd L) fun w h => (hw w h).den
  have h0 : lcmF 1 ws ≠ 0 := lcmF_ne ws 1 (by decide)
  have hall : ∀ w ∈ ws, w.den ∣ lcmF 1 ws := lcmF_all ws 1
  generalize lcmF 1 ws = B at hd h0 hall
  obtain ⟨S1, S2, g1, g2, g3⟩ := best_lot_eq (M := M) (B := (B : Int)) (by omega) (ts := ws.map (topOf B)) (by
    intro e
    have := congrArg List.length e
    rw [List.length_map] at this
    have h3 : ws.length = 0 := this
    omega) (by rw [List.length_map]; omega) wf
  have hk : 1 ≤ S1.length := List.length_pos_iff.mpr g2.ne
  have hlen : S1.length + S2.length = ws.length := by
    have := congrArg List.length g1
    rw [(srtP_perm _).length_eq, enumP_len, List.length_map, List.length_append] at this
    omega
  have hkb : ((S1.length * B : Nat) : Int) ≠ 0 := by
    have : S1.length * B ≠ 0 := Nat.mul_ne_zero (by omega) h0
    omega
  have hv : Rat.divInt (sumB (B : Int) S1 - (B : Int)) ((S1.length * B : Nat) : Int) * (((S1.length : Int) : Rat) * ((B : Int) : Rat)) = ((sumB (B : Int) S1 - (B : Int) : Int) : Rat) := by
    rw [Rat.divInt_eq_div, ← Rat.intCast_mul, ← Int.natCast_mul, Rat.div_def]
    have h7 : (((S1.length * B : Nat) : Int) : Rat) ≠ 0 := by exact_mod_cast hkb
    have h6 : (((S1.length * B : Nat) : Int) : Rat) * (((S1.length * B : Nat) : Int) : Rat)⁻¹ = 1 := Rat.mul_inv_cancel _ h7
    grind
  obtain ⟨r1, r2, r3⟩ := root (B := (B : Int)) (by omega) g2 hv
  generalize hvv : Rat.divInt (sumB (B : Int) S1 - (B : Int)) ((S1.length * B : Nat) : Int) = v at hv r1 r2 r3
  have pm : (S1 ++ S2).Perm (enumP 0 (ws.map (topOf B))) := by rw [← g1]; exact srtP_perm _
  have fv : Fv ws v = 1 := by
    rw [← enum_F h0 v ws 0 hall, ← r1]
    exact (sq_perm (pm.map _)).symm
  have fl : (S1 ++ S2).filter (fun p => decide (v < rp (B : Int) p)) = S1 := by
    rw [List.filter_append, List.filter_eq_self.mpr fun p hp => decide_eq_true (r2 p hp), List.filter_eq_nil_iff.mpr fun p hp => by
      have := r3 p hp
      simp
      grind, List.append_nil]
  have lp : (S1.map fun p => p.2).Perm (lotFrom 0 ws v) := by
    have h5 := ((pm.filter (fun p => decide (v < rp (B : Int) p))).map fun p => p.2)
    rw [fl] at h5
    have h6 := enum_lot h0 v ws 0 hall
    have z : ((0 : Nat) : Int) = 0 := rfl
    rw [z] at h6
    rw [h6] at h5
    exact h5
  have sl : srtI (S1.map fun p => p.2) = lotFrom 0 ws v := List.Perm.eq_of_pairwise (le := (· ≤ ·)) (fun a b _ _ h1 h2 => Int.le_antisymm h1 h2) (srtI_sorted _) (lotFrom_srt ws 0 v) ((srtI_perm _).trans lp)
  rw [sl] at g3
  refine ⟨S1, v, g3, ?_, hk, by omega, hvv, fv⟩
  rw [← lp.length_eq, List.length_map]
theorem level_eq (hL : L ≠ 0) (hL2 : L < 2 ^ 5000) (hA : A < 2 ^ 1000) {ws : List Rat} (h2 : 2 ≤ ws.length) (h4 : ws.length ≤ 4) (hw : ∀ w ∈ ws, Bnd L A w) (wf : WF M) :
    ∃ v : Rat, m_level [.tup (ws.map fD)] M = .ok (fD v) M ∧ m_even_lot [.tup (ws.map fD)] M = .ok (.tup ((lotFrom 0 ws v).map D.int)) M ∧ Fv ws v = 1 ∧ v.den ∣ 12 * L := by
  obtain ⟨S1, v, e1, e2, k1, k4, e3, fv⟩ := lot_eq hL hL2 hA h2 h4 hw wf
  have ce := common_eq hL hL2 hA (ws := ws) (by omega) hw wf
  have iw := is_worths_eq h2 h4 wf
  have hd : lcmF 1 ws ∣ L := lcmF_dvd ws 1 (Nat.one_dvd L) fun w h => (hw w h).den
  have h0 : lcmF 1 ws ≠ 0 := lcmF_ne ws 1 (by decide)
  have hB := log_lt hL hL2 hd
  generalize lcmF 1 ws = B at *
  have hkb : S1.length * B ≠ 0 := Nat.mul_ne_zero (by omega) h0
  have hkl : (S1.length * B).log2 < 9000 := by
    have : S1.length * B < 2 ^ 6000 := Nat.lt_of_lt_of_le (Nat.mul_lt_mul'' (show S1.length < 2 ^ 3 by omega) hB) (by rw [← Nat.pow_add]; exact Nat.pow_le_pow_right (by decide) (by decide))
    exact Nat.lt_of_lt_of_le ((Nat.log2_lt hkb).mpr this) (by decide)
  have re := reduced_eq (t := sumB (B : Int) S1 - (B : Int)) hkb hkl wf
  rw [norm_div, e3] at re
  have cm : CMulB (S1.length : Int) (B : Int) := cmul_l (by omega) (by omega)
  have ek : ((S1.length : Int) * (B : Int)) = ((S1.length * B : Nat) : Int) := (Int.natCast_mul _ _).symm
  have ln : oLen [.tup ((lotFrom 0 ws v).map D.int)] M = .ok (.int (S1.length : Int)) M := by rw [s_oLen_tup, List.length_map, e2]
  refine ⟨v, ?_, ?_, fv, ?_⟩
  · have q : fnM 5 g_level [.tup (ws.map fD)] M = .ok (fD v) M := by
      have st : startD 5 [.tup (ws.map fD)] = [some (.tup (ws.map fD)), none, none, none, none] := rfl
      unfold fnM
      rw [st]
      simp only [g_level, s_gSeq, s_gIf, s_gNot, s_gTru, s_gCall, s_gACons, s_gANil, s_gVar, List.getElem?_cons_zero, List.getElem?_cons_succ, KM.R.bind_ok, iw, s_trB, KM.R.toS_ok, Bool.not_true, Bool.false_eq_true, if_false, s_gNext, SR.then_nx, s_gAsg, ce, s_gtTup, s_gtCons, s_gtName, s_gtNil, List.length_cons, List.length_nil, if_true, List.set, e1, s_gRet, s_gOp, ln, s_mulI, if_pos cm, ek, re]
    have e9 : m_level [.tup (ws.map fD)] M = cutR M.length (fnM 5 g_level [.tup (ws.map fD)] M) := rfl
    rw [e9, q]
    exact cut_same wf rfl
  · have i0 : ∀ x y : D, oIx (.tup [x, y]) (.int 0) M = .ok x M := fun x y => s_ixT M (n := 0) rfl
    have q : fnM 3 g_even_lot [.tup (ws.map fD)] M = .ok (.tup ((lotFrom 0 ws v).map D.int)) M := by
      have st : startD 3 [.tup (ws.map fD)] = [some (.tup (ws.map fD)), none, none] := rfl
      unfold fnM
      rw [st]
      simp only [g_even_lot, s_gSeq, s_gIf, s_gNot, s_gTru, s_gCall, s_gACons, s_gANil, s_gVar, List.getElem?_cons_zero, List.getElem?_cons_succ, KM.R.bind_ok, iw, s_trB, KM.R.toS_ok, Bool.not_true, Bool.false_eq_true, if_false, s_gNext, SR.then_nx, s_gAsg, ce, s_gtTup, s_gtCons, s_gtName, s_gtNil, List.length_cons, List.length_nil, if_true, List.set, e1, s_gRet, s_gOp, s_gC, i0]
    have e9 : m_even_lot [.tup (ws.map fD)] M = cutR M.length (fnM 3 g_even_lot [.tup (ws.map fD)] M) := rfl
    rw [e9, q]
    exact cut_same wf (los_mapD (fun _ => rfl) _)
  · have h1 : v.den ∣ S1.length * B := by
      rw [← e3]
      exact divInt_dvd hkb
    have h3 : S1.length ∣ 12 := by
      have : S1.length = 1 ∨ S1.length = 2 ∨ S1.length = 3 ∨ S1.length = 4 := by omega
      rcases this with h | h | h | h <;> rw [h] <;> decide
    exact Nat.dvd_trans h1 (Nat.mul_dvd_mul h3 hd)
end
end K11
set_option linter.all false
set_option maxRecDepth 100000
set_option maxHeartbeats 4000000
namespace K11
open PySem L2 KM LV
theorem num_eq (x : Rat) : (x.num : Rat) = x * ((x.den : Int) : Rat) := by
  have hd : ((x.den : Int) : Rat) ≠ 0 := by exact_mod_cast x.den_nz
  have h4 : (x.num : Rat) / ((x.den : Int) : Rat) = x := (Rat.divInt_eq_div x.num (x.den : Int)).symm.trans (Rat.num_divInt_den x)
  rw [Rat.div_def] at h4
  have h6 : ((x.den : Int) : Rat) * ((x.den : Int) : Rat)⁻¹ = 1 := Rat.mul_inv_cancel _ hd
  grind
theorem den_pos (x : Rat) : (0 : Rat) < ((x.den : Int) : Rat) := by
  have : (0 : Int) < (x.den : Int) := by have := x.den_nz; omega
  exact_mod_cast this
theorem num_le {x : Rat} {c : Int} (h : x ≤ (c : Rat)) : x.num ≤ c * (x.den : Int) := by
  have h1 : (x.num : Rat) ≤ ((c * (x.den : Int) : Int) : Rat) := by
    rw [num_eq, Rat.intCast_mul]
    exact Rat.mul_le_mul_of_nonneg_right h (Rat.le_of_lt (den_pos x))
  exact_mod_cast h1
theorem le_num {x : Rat} {c : Int} (h : (c : Rat) ≤ x) : c * (x.den : Int) ≤ x.num := by
  have h1 : ((c * (x.den : Int) : Int) : Rat) ≤ (x.num : Rat) := by
    rw [num_eq, Rat.intCast_mul]
    exact Rat.mul_le_mul_of_nonneg_right h (Rat.le_of_lt (den_pos x))
  exact_mod_cast h1
theorem of_num {x : Rat} {c : Int} (h : x.num ≤ c * (x.den : Int)) : x ≤ (c : Rat) := by
  apply Classical.byContradiction
  intro n
  have h1 : (x.num : Rat) ≤ ((c * (x.den : Int) : Int) : Rat) := by exact_mod_cast h
  rw [num_eq, Rat.intCast_mul] at h1
  have h2 := (Rat.mul_lt_mul_right (den_pos x)).mpr (show (c : Rat) < x by grind)
  grind
theorem of_num' {x : Rat} {c : Int} (h : c * (x.den : Int) ≤ x.num) : (c : Rat) ≤ x := by
  apply Classical.byContradiction
  intro n
  have h1 : ((c * (x.den : Int) : Int) : Rat) ≤ (x.num : Rat) := by exact_mod_cast h
  rw [num_eq, Rat.intCast_mul] at h1
  have h2 := (Rat.mul_lt_mul_right (den_pos x)).mpr (show x < (c : Rat) by grind)
  grind
theorem Bnd.le {L A : Nat} {q : Rat} (h : Bnd L A q) : q ≤ ((A : Int) : Rat) ∧ (-((A : Int)) : Rat) ≤ q := by
  have h1 := h.num
  have h2 : (q.num.natAbs : Int) ≤ (A : Int) * (q.den : Int) := by exact_mod_cast h1
  constructor
  · exact of_num (by omega)
  · have := of_num' (x := q) (c := -(A : Int)) (by rw [Int.neg_mul]; omega)
    rw [Rat.intCast_neg] at this
    exact this
theorem Bnd.of {L A : Nat} {q : Rat} (hd : q.den ∣ L) (h1 : q ≤ ((A : Int) : Rat)) (h2 : (-((A : Int)) : Rat) ≤ q) : Bnd L A q := by
  refine ⟨hd, ?_⟩
  have a1 := num_le h1
  have a2 := le_num (x := q) (c := -(A : Int)) (by rw [Rat.intCast_neg]; exact h2)
  rw [Int.neg_mul] at a2
  have : (q.num.natAbs : Int) ≤ (A : Int) * (q.den : Int) := by omega
  exact_mod_cast this
theorem Fv_mem {v : Rat} : ∀ {ws : List Rat} {w : Rat}, w ∈ ws → mx (w + 1 - v) ≤ Fv ws v
  | x :: ws, w, h => by
    show mx (w + 1 - v) ≤ mx (x + 1 - v) + Fv ws v
    rcases List.mem_cons.mp h with e | e
    · rw [e]
      have := Fv_nn ws v
      grind
    · have := Fv_mem (v := v) e
      have := mx_nn (x + 1 - v)
      grind
theorem Fv_ex {v : Rat} : ∀ {ws : List Rat}, 0 < Fv ws v → ∃ w ∈ ws, v < w + 1
  | [], h => by simp [Fv, sq] at h
  | x :: ws, h => by
    by_cases c : v < x + 1
    · exact ⟨x, List.mem_cons_self .., c⟩
    · have e : Fv (x :: ws) v = mx (x + 1 - v) + Fv ws v := rfl
      have : mx (x + 1 - v) = 0 := by unfold mx; grind
      rw [e, this] at h
      obtain ⟨w, hw, q⟩ := Fv_ex (v := v) (ws := ws) (by grind)
      exact ⟨w, List.mem_cons_of_mem _ hw, q⟩
theorem root_bnd {L A : Nat} {ws : List Rat} {v : Rat} (h2 : ws ≠ []) (hw : ∀ w ∈ ws, Bnd L A w) (fv : Fv ws v = 1) (hd : v.den ∣ 12 * L) : Bnd (12 * L) (A + 1) v := by
  have hA : (((A + 1 : Nat) : Int) : Rat) = ((A : Int) : Rat) + 1 := by
    rw [show ((A + 1 : Nat) : Int) = (A : Int) + 1 by omega, Rat.intCast_add]
    rfl
  refine Bnd.of hd ?_ ?_
  · obtain ⟨w, hm, q⟩ := Fv_ex (ws := ws) (v := v) (by rw [fv]; decide)
    have := (hw w hm).le.1
    rw [hA]
    grind
  · obtain ⟨w, r, rfl⟩ := List.exists_cons_of_ne_nil h2
    have h3 := Fv_mem (v := v) (List.mem_cons_self (a := w) (l := r))
    rw [fv] at h3
    have := (hw w (List.mem_cons_self ..)).le.2
    rw [hA]
    unfold mx at h3
    grind
section
variable {L A : Nat} {M : List MO}
theorem negated_eq {q : Rat} (wf : WF M) : m_negated [fD q] M = .ok (fD (-q)) M := by
  have tf : tupOf (fD q) = some [.int q.num, .int q.den] := rfl
  have b2 : ∀ x y : D, bigN [x, y].length := fun x y => by unfold bigN; simp
  have st : startD 3 [fD q] = [some (fD q), none, none] := rfl
  have qq : g_negated (startD 3 [fD q]) M = .rt (fD (-q)) M := by
    rw [st]
    simp only [g_negated, s_gSeq, s_gAsg, s_gVar, List.getElem?_cons_zero, KM.R.toS_ok, gtTup, tf, List.length_cons, List.length_nil, if_true, s_gtCons, s_gtName, s_gtNil, List.set, SR.then_nx, s_gRet, s_gETup, s_gACons, s_gUn, List.getElem?_cons_succ, KM.R.bind_ok, s_negI, s_gANil]
    rw [if_pos (show bigN (0 + 1 + 1) by unfold bigN; omega)]
    simp only [KM.R.toS_ok]
    unfold fD
    rw [Rat.neg_num, Rat.neg_den]
  have e9 : m_negated [fD q] M = cutR M.length (fnM 3 g_negated [fD q] M) := rfl
  rw [e9]
  unfold fnM
  rw [qq]
  exact cut_same wf rfl
theorem Bnd.neg {q : Rat} (h : Bnd L A q) : Bnd L A (-q) := ⟨by rw [Rat.neg_den]; exact h.den, by rw [Rat.neg_num, Rat.neg_den, Int.natAbs_neg]; exact h.num⟩
theorem minus_eq (hL : L ≠ 0) (hL2 : L < 2 ^ 5000) (hA : A < 2 ^ 1000) {p q : Rat} (hp : Bnd L A p) (hq : Bnd L A q) (wf : WF M) : m_minus [fD p, fD q] M = .ok (fD (p - q)) M := by
  have ne := negated_eq (q := q) wf
  have te := total_eq hL hL2 hA wf (qs := [p, -q]) (by simp) (fun x hx => by
    simp only [List.mem_cons, List.not_mem_nil, or_false] at hx
    rcases hx with rfl | rfl
    · exact hp
    · exact hq.neg)
  have es : sq [p, -q] = p - q := by
    show p + (-q + 0) = p - q
    grind
  rw [es] at te
  have te' : m_total [.lst [fD p, fD (-q)]] M = .ok (fD (p - q)) M := te
  have st : startD 2 [fD p, fD q] = [some (fD p), some (fD q)] := rfl
  have qq : g_minus (startD 2 [fD p, fD q]) M = .rt (fD (p - q)) M := by
    rw [st]
    simp only [g_minus, s_gRet, s_gCall, s_gACons, s_gLst, s_gVar, List.getElem?_cons_zero, List.getElem?_cons_succ, KM.R.bind_ok, s_gANil, ne]
    rw [if_pos (show bigN [fD p, fD (-q)].length by unfold bigN; simp)]
    simp only [KM.R.bind_ok, te', KM.R.toS_ok]
  have e9 : m_minus [fD p, fD q] M = cutR M.length (fnM 2 g_minus [fD p, fD q] M) := rfl
  rw [e9]
  unfold fnM
  rw [qq]
  exact cut_same wf rfl
noncomputable abbrev fB : GS := gSeq (gSet 4 (gCall m_minus (gACons (gCall m_total (gACons (gLst (gACons (gVar 3) (gACons (gC (.tup [.int 1, .int 1])) (gANil)))) (gANil))) (gACons (gVar 1) (gANil)))))
    (gDrop (gBM oAppend (gVar 2) (gACons (gIfE (gTest (gOp oGt (gOp oIx (gVar 4) (gC (.int 0))) (gC (.int 0)))) (gVar 4) (gC (.tup [.int 0, .int 1]))) (gANil))))
theorem num_pos (x : Rat) : (0 < x.num) ↔ 0 < x := by
  have h := num_eq x
  have hd := den_pos x
  constructor
  · intro c
    have h1 : (0 : Rat) < (x.num : Rat) := by exact_mod_cast c
    rw [h] at h1
    apply Classical.byContradiction
    intro n
    have := Rat.mul_le_mul_of_nonneg_right (show x ≤ 0 by grind) (Rat.le_of_lt hd)
    grind
  · intro c
    have h1 := Rat.mul_pos c hd
    rw [← h] at h1
    exact_mod_cast h1
theorem fill_loop (hL : L ≠ 0) (hL2 : L < 2 ^ 5000) (hA : A < 2 ^ 1000) (x0 : Option D) {v : Rat} (hv : Bnd L A v) (wf : WF M) : ∀ (ws done : List Rat) (x3 x4 : Option D), done.length + ws.length ≤ 1000 → (∀ w ∈ ws, Bnd L A w ∧ Bnd L A (w + 1)) → (1 ≤ A) →
    ∃ y3 y4, forL (fun _ => True) (gtName 3) fB (ws.map fD) [x0, some (fD v), some (.ref M.length), x3, x4] (M ++ [.lst (done.map fD)]) = .nx [x0, some (fD v), some (.ref M.length), y3, y4] (M ++ [.lst ((done ++ ws.map fun w => mx (w + 1 - v)).map fD)])
  | [], done, x3, x4, _, _, _ => ⟨x3, x4, by simp [forL]⟩
  | w :: ws, done, x3, x4, hl, hw, h1A => by
    rw [List.length_cons] at hl
    have hw1 := hw w (List.mem_cons_self ..)
    have wf2 : WF (M ++ [.lst (done.map fD)]) := wf.app (los_mapD (fun _ => rfl) done)
    obtain ⟨y3, y4, e⟩ := fill_loop hL hL2 hA x0 hv wf ws (done ++ [mx (w + 1 - v)]) (some (fD w)) (some (fD (w + 1 - v))) (by simp; omega) (fun x hx => hw x (List.mem_cons_of_mem _ hx)) h1A
    refine ⟨y3, y4, ?_⟩
    have te := total_eq hL hL2 hA wf2 (qs := [w, 1]) (by simp) (fun x hx => by
      simp only [List.mem_cons, List.not_mem_nil, or_false] at hx
      rcases hx with rfl | rfl
      · exact hw1.1
      · exact ⟨Nat.one_dvd _, by show 1 ≤ A * 1; omega⟩)
    have es : sq [w, 1] = w + 1 := by
      show w + (1 + 0) = w + 1
      grind
    rw [es] at te
    have te' : m_total [.lst [fD w, .tup [.int 1, .int 1]]] (M ++ [.lst (done.map fD)]) = .ok (fD (w + 1)) (M ++ [.lst (done.map fD)]) := te
    have me := minus_eq hL hL2 hA hw1.2 hv wf2
    have i0 : oIx (fD (w + 1 - v)) (.int 0) (M ++ [.lst (done.map fD)]) = .ok (.int (w + 1 - v).num) (M ++ [.lst (done.map fD)]) := s_ixT _ (n := 0) rfl
    have lo := s_listOf_ref (M ++ [.lst (done.map fD)]) (get_last M _)
    have ap := oAppend_eq (M := M ++ [.lst (done.map fD)]) (k := M.length) (get_last M _) (by simp; omega) (fD (mx (w + 1 - v)))
    rw [put_last] at ap
    have np := num_pos (w + 1 - v)
    have e2 : done ++ (w :: ws).map (fun w => mx (w + 1 - v)) = done ++ [mx (w + 1 - v)] ++ ws.map fun w => mx (w + 1 - v) := by simp
    rw [e2, List.map_cons]
    rw [List.map_append, List.map_singleton] at e
    have b2 : bigN [fD w, .tup [.int 1, .int 1]].length := by unfold bigN; simp
    unfold forL
    rw [if_pos trivial]
    by_cases c : 0 < w + 1 - v
    · have em : mx (w + 1 - v) = w + 1 - v := by unfold mx; rw [if_pos c]
      rw [em] at ap e ⊢
      simp only [fB, s_gtName, s_gSeq, s_gSet, s_gCall, s_gACons, s_gLst, s_gVar, s_gC, s_gANil, List.set, List.getElem?_cons_zero, List.getElem?_cons_succ, KM.R.bind_ok, if_pos b2, te', me, KM.R.toS_ok, SR.then_nx, s_gDrop, s_gBM, lo, s_gIfE, s_gTest, s_gOp, i0, s_gtI, decide_eq_true (np.mpr c), if_true, ap]
      exact e
    · have em : mx (w + 1 - v) = 0 := by unfold mx; rw [if_neg c]
      rw [em] at ap e ⊢
      have nc : ¬ 0 < (w + 1 - v).num := fun h => c (np.mp h)
      have z : fD 0 = .tup [.int 0, .int 1] := rfl
      rw [z] at ap
      simp only [fB, s_gtName, s_gSeq, s_gSet, s_gCall, s_gACons, s_gLst, s_gVar, s_gC, s_gANil, List.set, List.getElem?_cons_zero, List.getElem?_cons_succ, KM.R.bind_ok, if_pos b2, te', me, KM.R.toS_ok, SR.then_nx, s_gDrop, s_gBM, lo, s_gIfE, s_gTest, s_gOp, i0, s_gtI, decide_eq_false nc, Bool.false_eq_true, if_false, ap]
      exact e
end
end K11
set_option linter.all false
set_option maxRecDepth 100000
set_option maxHeartbeats 4000000
namespace K11
open PySem L2 KM LV
section
variable {L A : Nat} {M : List MO}
theorem Bnd.up {L L' A A' : Nat} {q : Rat} (h : Bnd L A q) (hL : L ∣ L') (hA : A ≤ A') : Bnd L' A' q := ⟨Nat.dvd_trans h.den hL, Nat.le_trans h.num (Nat.mul_le_mul_right _ hA)⟩
theorem Bnd.one (h1 : 1 ≤ A) : Bnd L A 1 := ⟨Nat.one_dvd _, by show 1 ≤ A * 1; omega⟩
/-- level, filled and even_lot of worths, all at once -/
theorem levels_eq (hL : L ≠ 0) (hL2 : L < 2 ^ 4900) (hA : A + 2 < 2 ^ 1000) {ws : List Rat} (h2 : 2 ≤ ws.length) (h4 : ws.length ≤ 4) (hw : ∀ w ∈ ws, Bnd L A w) :
    ∃ v : Rat, Fv ws v = 1 ∧ Bnd (12 * L) (A + 1) v ∧ ∀ {M : List MO}, WF M → m_level [.tup (ws.map fD)] M = .ok (fD v) M ∧ m_even_lot [.tup (ws.map fD)] M = .ok (.tup ((lotFrom 0 ws v).map D.int)) M ∧ m_filled [.tup (ws.map fD)] M = .ok (.tup ((ws.map fun w => mx (w + 1 - v)).map fD)) M := by
  have hL5 : L < 2 ^ 5000 := Nat.lt_of_lt_of_le hL2 (Nat.pow_le_pow_right (by decide) (by decide))
  have hA1 : A < 2 ^ 1000 := by omega
  have hne : ws ≠ [] := fun e => by rw [e] at h2; simp at h2
  obtain ⟨v, _, _, fv, hd⟩ := level_eq (M := []) hL hL5 hA1 h2 h4 hw WF.nil
  have hv := root_bnd hne hw fv hd
  refine ⟨v, fv, hv, fun {M} wf => ?_⟩
  obtain ⟨v', e1, e2, fv', _⟩ := level_eq (M := M) hL hL5 hA1 h2 h4 hw wf
  have ev : v' = v := Fv_uniq fv' fv
  subst ev
  refine ⟨e1, e2, ?_⟩
  have h12 : 12 * L ≠ 0 := by omega
  have h12b : 12 * L < 2 ^ 5000 := Nat.lt_of_lt_of_le (Nat.mul_lt_mul'' (show 12 < 2 ^ 4 by decide) hL2) (by rw [← Nat.pow_add]; exact Nat.pow_le_pow_right (by decide) (by decide))
  have hwA : ∀ w ∈ ws, Bnd (12 * L) (A + 1) w ∧ Bnd (12 * L) (A + 1) (w + 1) := fun w h => by
    have h1 := (hw w h).up (L' := 12 * L) (A' := A) (Nat.dvd_mul_left _ _) (Nat.le_refl _)
    refine ⟨h1.up (Nat.dvd_refl _) (by omega), ?_⟩
    exact Bnd.add h12 h1 (Bnd.one (Nat.le_refl 1))
  obtain ⟨y3, y4, el⟩ := fill_loop (M := M) h12 h12b (A := A + 1) (by omega) (some (.tup (ws.map fD))) hv wf ws [] none none (by simp; omega) hwA (by omega)
  rw [List.nil_append] at el
  have el' : forL (fun _ => True) (gtName 3) fB (ws.map fD) [some (.tup (ws.map fD)), some (fD v'), some (.ref M.length), none, none] (M ++ [.lst []]) = .nx [some (.tup (ws.map fD)), some (fD v'), some (.ref M.length), y3, y4] (M ++ [.lst ((ws.map fun w => mx (w + 1 - v')).map fD)]) := el
  have b0 : bigN ([] : List D).length := by unfold bigN; simp
  have lo := s_listOf_ref (M ++ [.lst ((ws.map fun w => mx (w + 1 - v')).map fD)]) (get_last M _)
  have tp : oTuple [.ref M.length] (M ++ [.lst ((ws.map fun w => mx (w + 1 - v')).map fD)]) = .ok (.tup ((ws.map fun w => mx (w + 1 - v')).map fD)) (M ++ [.lst ((ws.map fun w => mx (w + 1 - v')).map fD)]) := by
    unfold oTuple
    simp only [s_tupOf_ref, lo]
  have st : startD 5 [.tup (ws.map fD)] = [some (.tup (ws.map fD)), none, none, none, none] := rfl
  have q : g_filled (startD 5 [.tup (ws.map fD)]) M = .rt (.tup ((ws.map fun w => mx (w + 1 - v')).map fD)) (M ++ [.lst ((ws.map fun w => mx (w + 1 - v')).map fD)]) := by
    rw [st]
    simp only [g_filled, s_gSeq, s_gSet, s_gCall, s_gACons, s_gANil, s_gVar, List.getElem?_cons_zero, List.getElem?_cons_succ, KM.R.bind_ok, e1, KM.R.toS_ok, List.set, SR.then_nx, s_gLstM, if_pos b0, s_gFor, s_giSeq, s_tupOf, s_itT, s_itTg, el', s_gRet, tp]
  have e9 : m_filled [.tup (ws.map fD)] M = cutR M.length (fnM 5 g_filled [.tup (ws.map fD)] M) := rfl
  rw [e9]
  unfold fnM
  rw [q]
  exact cut_to rfl wf (los_mapD (fun _ => rfl) _) (by simp)
end
/-! ### the law's own fractions -/
section
variable {M : List MO}
theorem rngD_succ (lo : Int) (n : Nat) : rngD lo (n + 1) = .int lo :: rngD (lo + 1) n := by
  unfold rngD
  rw [List.range_succ_eq_map, List.map_cons, List.map_map]
  congr 1
  · simp
  · refine List.map_congr_left fun i _ => ?_
    show D.int (lo + ((i + 1 : Nat) : Int)) = D.int (lo + 1 + (i : Int))
    congr 1
    omega
noncomputable abbrev cB : GS := gSeq (gIf (gTest (gOp oEq (gVar 1) (gC (.int 0)))) (gBreak) (gNext)) (gPar 0 1 (gVar 1) (gOp oMod (gCall oInt (gACons (gVar 0) (gANil))) (gVar 1)))
theorem gcd_one (a : Nat) (n : Nat) (lo : Int) (x2 : Option D) (hn : 1 ≤ n) : ∃ δ', forL (fun _ => True) (gtName 2) cB (rngD lo n) [some (.int a), some (.int ((0 : Nat) : Int)), x2] M = .nx δ' M ∧ δ'[0]? = some (some (.int (a : Int))) := by
  obtain ⟨m, rfl⟩ : ∃ m, n = m + 1 := ⟨n - 1, by omega⟩
  rw [rngD_succ]
  refine ⟨[some (.int a), some (.int ((0 : Nat) : Int)), some (.int lo)], ?_, rfl⟩
  unfold forL
  rw [if_pos trivial]
  simp
theorem gcd_step (a b n : Nat) (lo : Int) (x2 : Option D) (hb : b ≠ 0) : forL (fun _ => True) (gtName 2) cB (rngD lo (n + 1)) [some (.int a), some (.int b), x2] M = forL (fun _ => True) (gtName 2) cB (rngD (lo + 1) n) [some (.int b), some (.int (a % b : Nat)), some (.int lo)] M := by
  rw [rngD_succ]
  conv => lhs; unfold forL
  rw [if_pos trivial]
  have c : CModB (a : Int) (b : Int) := cmod_ok (by omega)
  have hb2 : ((b : Int) == 0) = false := by simpa using hb
  simp [c, hb, hb2]
theorem gcd_loop : ∀ (k a b n : Nat) (lo : Int) (x2 : Option D), b < 2 ^ k → 2 * k + 1 ≤ n → ∃ δ', forL (fun _ => True) (gtName 2) cB (rngD lo n) [some (.int a), some (.int b), x2] M = .nx δ' M ∧ δ'[0]? = some (some (.int (a.gcd b : Nat))) := by
  intro k
  induction k with
  | zero =>
    intro a b n lo x2 hb hn
    have : b = 0 := by simpa using hb
    subst this
    have := gcd_one (M := M) a n lo x2 (by omega)
    simpa using this
  | succ k ih =>
    intro a b n lo x2 hb hn
    by_cases h0 : b = 0
    · subst h0
      have := gcd_one (M := M) a n lo x2 (by omega)
      simpa using this
    · obtain ⟨m, rfl⟩ : ∃ m, n = m + 1 := ⟨n - 1, by omega⟩
      rw [gcd_step a b m lo x2 h0]
      by_cases h1 : a % b = 0
      · rw [h1]
        have := gcd_one (M := M) b m (lo + 1) (some (.int lo)) (by omega)
        rw [Nat.gcd_comm a b, Nat.gcd_rec, h1]
        simpa using this
      · obtain ⟨m2, rfl⟩ : ∃ m2, m = m2 + 1 := ⟨m - 1, by omega⟩
        rw [gcd_step b (a % b) m2 (lo + 1) _ h1]
        have hr : a % b < b := Nat.mod_lt _ (Nat.pos_of_ne_zero h0)
        have hr2 : b % (a % b) < a % b := Nat.mod_lt _ (Nat.pos_of_ne_zero h1)
        have hsum : b % (a % b) + (a % b) ≤ b := by
          have := Nat.div_add_mod b (a % b)
          have hq : 1 ≤ b / (a % b) := Nat.div_pos (Nat.le_of_lt hr) (Nat.pos_of_ne_zero h1)
          have : (a % b) * 1 ≤ (a % b) * (b / (a % b)) := Nat.mul_le_mul_left _ hq
          omega
        have hlt : b % (a % b) < 2 ^ k := by
          rw [Nat.pow_succ] at hb
          omega
        have := ih (a % b) (b % (a % b)) m2 (lo + 1 + 1) (some (.int (lo + 1))) hlt (by omega)
        have e : (a % b).gcd (b % (a % b)) = a.gcd b := by rw [Nat.gcd_comm (a % b) (b % (a % b)), ← Nat.gcd_rec, Nat.gcd_comm a b, Nat.gcd_rec b a]
        rw [e] at this
        exact this
end
end K11
set_option linter.all false
set_option maxRecDepth 100000
set_option maxHeartbeats 4000000
namespace K11
open PySem L2 KM LV
section
variable {M : List MO}
theorem gcd_eq {t : Int} {b : Nat} (hb : b < 2 ^ 8000) (wf : WF M) : m__law_gcd [.int t, .int b] M = .ok (.int (t.natAbs.gcd b : Nat)) M := by
  have ha : (if t < 0 then -t else t) = ((t.natAbs : Nat) : Int) := by split <;> omega
  obtain ⟨δ', e, q⟩ := gcd_loop (M := M) 8000 t.natAbs b 90000 0 none hb (by decide)
  have rb : rngB 90000 := rngB_ok (by decide) (by decide)
  have t9 : (90000 : Int).toNat = 90000 := rfl
  have st : startD 3 [.int t, .int b] = [some (.int t), some (.int b), none] := rfl
  have ab : oAbs [.int t] M = .ok (.int ((t.natAbs : Nat) : Int)) M := by rw [s_oAbs, ha]
  have qq : g__law_gcd (startD 3 [.int t, .int b]) M = .rt (.int (t.natAbs.gcd b : Nat)) M := by
    rw [st]
    simp only [g__law_gcd, s_gSeq, s_gSet, s_gCall, s_gACons, s_gANil, s_gVar, List.getElem?_cons_zero, List.getElem?_cons_succ, KM.R.bind_ok, ab, KM.R.toS_ok, List.set, SR.then_nx, s_gFor, s_giRng1, s_gC, if_pos rb, s_itT, s_itTg, t9, e, s_gRet, q]
  have e9 : m__law_gcd [.int t, .int b] M = cutR M.length (fnM 3 g__law_gcd [.int t, .int b] M) := rfl
  rw [e9]
  unfold fnM
  rw [qq]
  exact cut_same wf rfl
theorem f_eq {t : Int} {b : Nat} (hb0 : b ≠ 0) (hb : b < 2 ^ 8000) (wf : WF M) : m__law_f [.int t, .int b] M = .ok (fD (Rat.divInt t b)) M := by
  have hg : 0 < t.natAbs.gcd b := Nat.gcd_pos_of_pos_right _ (Nat.pos_of_ne_zero hb0)
  have hle : t.natAbs.gcd b ≤ b := Nat.gcd_le_right _ (Nat.pos_of_ne_zero hb0)
  have hc : ∀ i : Int, CDivB i ((t.natAbs.gcd b : Nat) : Int) := fun i => cdiv_ok (by omega) (by
    rw [Int.natAbs_natCast]
    exact Nat.lt_of_le_of_lt hle (Nat.lt_of_lt_of_le hb (Nat.pow_le_pow_right (by decide) (by decide))))
  have ge := gcd_eq (t := t) hb wf
  have ab : oAbs [.int ((t.natAbs.gcd b : Nat) : Int)] M = .ok (.int ((t.natAbs.gcd b : Nat) : Int)) M := by
    rw [s_oAbs, if_neg (by omega)]
  have hn : ¬ (b : Int) < 0 := by omega
  have st : startD 3 [.int t, .int b] = [some (.int t), some (.int b), none] := rfl
  have b2 : ∀ x y : D, bigN [x, y].length := fun x y => by unfold bigN; simp
  have qq : g__law_f (startD 3 [.int t, .int b]) M = .rt (fD (Rat.divInt t b)) M := by
    rw [st, ← norm_div hb0, norm_fr]
    simp only [g__law_f, s_gSeq, s_gSet, s_gCall, s_gACons, s_gANil, s_gVar, List.getElem?_cons_zero, List.getElem?_cons_succ, KM.R.bind_ok, ge, ab, KM.R.toS_ok, List.set, SR.then_nx, s_gIf, s_gTest, s_gOp, s_gC, s_ltI, decide_eq_false hn, Bool.false_eq_true, if_false, s_gNext, s_gRet, s_gETup, s_divI, if_pos (hc _), if_pos (b2 _ _)]
  have e9 : m__law_f [.int t, .int b] M = cutR M.length (fnM 3 g__law_f [.int t, .int b] M) := rfl
  rw [e9]
  unfold fnM
  rw [qq]
  exact cut_same wf rfl
/-- small enough for all that the law reckons -/
structure Sm (q : Rat) : Prop where
  num : q.num.natAbs < 2 ^ 2000
  den : q.den < 2 ^ 2000
theorem Bnd.sm {L A : Nat} {q : Rat} (hL : L ≠ 0) (hL2 : L < 2 ^ 1000) (hA : A < 2 ^ 1000) (h : Bnd L A q) : Sm q := by
  have hd : q.den < 2 ^ 1000 := Nat.lt_of_le_of_lt (Nat.le_of_dvd (Nat.pos_of_ne_zero hL) h.den) hL2
  refine ⟨Nat.lt_of_le_of_lt h.num (Nat.lt_of_lt_of_le (Nat.mul_lt_mul'' hA hd) (by rw [← Nat.pow_add]; exact Nat.pow_le_pow_right (by decide) (by decide))), Nat.lt_of_lt_of_le hd (Nat.pow_le_pow_right (by decide) (by decide))⟩
theorem Sm.nd {p q : Rat} (hp : Sm p) (hq : Sm q) : CMulB p.num (q.den : Int) := cmul_ok hp.num (show (q.den : Int).natAbs < 2 ^ 2000 by rw [Int.natAbs_natCast]; exact hq.den) (by decide)
theorem Sm.nn {p q : Rat} (hp : Sm p) (hq : Sm q) : CMulB p.num q.num := cmul_ok hp.num hq.num (by decide)
theorem Sm.dd {p q : Rat} (hp : Sm p) (hq : Sm q) : CMulB (p.den : Int) (q.den : Int) := cmul_ok (show (p.den : Int).natAbs < 2 ^ 2000 by rw [Int.natAbs_natCast]; exact hp.den) (show (q.den : Int).natAbs < 2 ^ 2000 by rw [Int.natAbs_natCast]; exact hq.den) (by decide)
theorem Sm.dlt {p q : Rat} (hp : Sm p) (hq : Sm q) : p.den * q.den < 2 ^ 8000 := Nat.lt_of_lt_of_le (Nat.mul_lt_mul'' hp.den hq.den) (by rw [← Nat.pow_add]; exact Nat.pow_le_pow_right (by decide) (by decide))
theorem oIx_f0 (q : Rat) (M : List MO) : oIx (fD q) (.int 0) M = .ok (.int q.num) M := s_ixT M (n := 0) rfl
theorem oIx_f1 (q : Rat) (M : List MO) : oIx (fD q) (.int 1) M = .ok (.int q.den) M := s_ixT M (n := 1) rfl
theorem sub_eq (p q : Rat) : p - q = Rat.divInt (p.num * q.den - q.num * p.den) ((p.den * q.den : Nat) : Int) := by
  have h := add_eq p (-q)
  rw [Rat.neg_num, Rat.neg_den, Int.neg_mul, ← Int.sub_eq_add_neg] at h
  rw [← h]
  grind
theorem mul_eq (p q : Rat) : p * q = Rat.divInt (p.num * q.num) ((p.den * q.den : Nat) : Int) := by
  rw [Int.natCast_mul]
  conv => lhs; rw [← Rat.num_divInt_den p, ← Rat.num_divInt_den q]
  rw [Rat.divInt_mul_divInt]
theorem lplus {p q : Rat} (hp : Sm p) (hq : Sm q) (wf : WF M) : m__law_plus [fD p, fD q] M = .ok (fD (p + q)) M := by
  have fe := f_eq (t := p.num * q.den + q.num * p.den) (dd_ne p q) (hp.dlt hq) wf
  have ek : (p.den : Int) * (q.den : Int) = ((p.den * q.den : Nat) : Int) := (Int.natCast_mul _ _).symm
  rw [← add_eq] at fe
  have st : startD 2 [fD p, fD q] = [some (fD p), some (fD q)] := rfl
  have qq : g__law_plus (startD 2 [fD p, fD q]) M = .rt (fD (p + q)) M := by
    rw [st]
    simp only [g__law_plus, s_gRet, s_gCall, s_gACons, s_gANil, s_gOp, s_gVar, s_gC, List.getElem?_cons_zero, List.getElem?_cons_succ, KM.R.bind_ok, oIx_f0, oIx_f1, s_mulI, if_pos (hp.nd hq), if_pos (hq.nd hp), if_pos (hp.dd hq), s_addI, ek, fe, KM.R.toS_ok]
  have e9 : m__law_plus [fD p, fD q] M = cutR M.length (fnM 2 g__law_plus [fD p, fD q] M) := rfl
  rw [e9]
  unfold fnM
  rw [qq]
  exact cut_same wf rfl
theorem lminus {p q : Rat} (hp : Sm p) (hq : Sm q) (wf : WF M) : m__law_minus [fD p, fD q] M = .ok (fD (p - q)) M := by
  have fe := f_eq (t := p.num * q.den - q.num * p.den) (dd_ne p q) (hp.dlt hq) wf
  have ek : (p.den : Int) * (q.den : Int) = ((p.den * q.den : Nat) : Int) := (Int.natCast_mul _ _).symm
  rw [← sub_eq] at fe
  have st : startD 2 [fD p, fD q] = [some (fD p), some (fD q)] := rfl
  have qq : g__law_minus (startD 2 [fD p, fD q]) M = .rt (fD (p - q)) M := by
    rw [st]
    simp only [g__law_minus, s_gRet, s_gCall, s_gACons, s_gANil, s_gOp, s_gVar, s_gC, List.getElem?_cons_zero, List.getElem?_cons_succ, KM.R.bind_ok, oIx_f0, oIx_f1, s_mulI, if_pos (hp.nd hq), if_pos (hq.nd hp), if_pos (hp.dd hq), s_subI, ek, fe, KM.R.toS_ok]
  have e9 : m__law_minus [fD p, fD q] M = cutR M.length (fnM 2 g__law_minus [fD p, fD q] M) := rfl
  rw [e9]
  unfold fnM
  rw [qq]
  exact cut_same wf rfl
theorem ltimes {p q : Rat} (hp : Sm p) (hq : Sm q) (wf : WF M) : m__law_times [fD p, fD q] M = .ok (fD (p * q)) M := by
  have fe := f_eq (t := p.num * q.num) (dd_ne p q) (hp.dlt hq) wf
  have ek : (p.den : Int) * (q.den : Int) = ((p.den * q.den : Nat) : Int) := (Int.natCast_mul _ _).symm
  rw [← mul_eq] at fe
  have st : startD 2 [fD p, fD q] = [some (fD p), some (fD q)] := rfl
  have qq : g__law_times (startD 2 [fD p, fD q]) M = .rt (fD (p * q)) M := by
    rw [st]
    simp only [g__law_times, s_gRet, s_gCall, s_gACons, s_gANil, s_gOp, s_gVar, s_gC, List.getElem?_cons_zero, List.getElem?_cons_succ, KM.R.bind_ok, oIx_f0, oIx_f1, s_mulI, if_pos (hp.nn hq), if_pos (hp.dd hq), ek, fe, KM.R.toS_ok]
  have e9 : m__law_times [fD p, fD q] M = cutR M.length (fnM 2 g__law_times [fD p, fD q] M) := rfl
  rw [e9]
  unfold fnM
  rw [qq]
  exact cut_same wf rfl
theorem lless {p q : Rat} (hp : Sm p) (hq : Sm q) (wf : WF M) : m__law_less [fD p, fD q] M = .ok (.bl (decide (p < q))) M := by
  have el : decide (p.num * (q.den : Int) < q.num * (p.den : Int)) = decide (p < q) := by
    congr 1
    exact propext (Rat.lt_iff p q).symm
  have st : startD 2 [fD p, fD q] = [some (fD p), some (fD q)] := rfl
  have qq : g__law_less (startD 2 [fD p, fD q]) M = .rt (.bl (decide (p < q))) M := by
    rw [st]
    simp only [g__law_less, s_gRet, s_gOp, s_gVar, s_gC, List.getElem?_cons_zero, List.getElem?_cons_succ, KM.R.bind_ok, oIx_f0, oIx_f1, s_mulI, if_pos (hp.nd hq), if_pos (hq.nd hp), s_ltI, el, KM.R.toS_ok]
  have e9 : m__law_less [fD p, fD q] M = cutR M.length (fnM 2 g__law_less [fD p, fD q] M) := rfl
  rw [e9]
  unfold fnM
  rw [qq]
  exact cut_same wf rfl
end
end K11
set_option linter.all false
set_option maxRecDepth 100000
set_option maxHeartbeats 4000000
namespace K11
open PySem L2 KM LV
section
variable {M : List MO}
/-! ### _law_same of a thing and itself -/
theorem same_int (j : Nat) (i : Int) (wf : WF M) : f__law_same (j + 1) [.int i, .int i] M = .ok (.bl true) M := by
  have h1 : oIsi "tuple" (.int i) M = .ok (.bl false) M := by simp [oIsi, tyM, tyN, isiB, tyOk_tuple]
  have h2 : oIsi "str" (.int i) M = .ok (.bl false) M := by simp [oIsi, tyM, tyN, isiB, tyOk_str]
  have h3 : oIsN (.int i) M = .ok (.bl false) M := rfl
  have q : fnM 4 (g__law_same (f__law_same j)) [.int i, .int i] M = .ok (.bl true) M := by
    simp [fnM, g__law_same, startD, h1, h2, h3]
  have e9 : f__law_same (j + 1) [.int i, .int i] M = cutR M.length (fnM 4 (g__law_same (f__law_same j)) [.int i, .int i] M) := rfl
  rw [e9, q]
  exact cut_same wf rfl
theorem same_loop {j : Nat} (x0 x1 : Option D) : ∀ (xs : List D) (x2 x3 : Option D), (∀ x ∈ xs, f__law_same j [x, x] M = .ok (.bl true) M) →
    ∃ y2 y3, forL (fun _ => True) (gtTup 2 (gtCons (gtName 2) (gtCons (gtName 3) (gtNil)))) (gIf (gNot (gTru (gCall (f__law_same j) (gACons (gVar 2) (gACons (gVar 3) (gANil)))))) (gRet (gC (.bl false))) (gNext)) (zipD xs xs) [x0, x1, x2, x3] M = .nx [x0, x1, y2, y3] M
  | [], x2, x3, _ => ⟨x2, x3, by simp [zipD, forL]⟩
  | x :: xs, x2, x3, h => by
    obtain ⟨y2, y3, e⟩ := same_loop x0 x1 xs (some x) (some x) fun y hy => h y (List.mem_cons_of_mem _ hy)
    refine ⟨y2, y3, ?_⟩
    have h1 := h x (List.mem_cons_self ..)
    show forL _ _ _ (.tup [x, x] :: zipD xs xs) _ _ = _
    unfold forL
    rw [if_pos trivial]
    simp [h1]
    exact e
theorem same_tup (j : Nat) {xs : List D} (h : ∀ x ∈ xs, f__law_same j [x, x] M = .ok (.bl true) M) (wf : WF M) : f__law_same (j + 1) [.tup xs, .tup xs] M = .ok (.bl true) M := by
  obtain ⟨y2, y3, e⟩ := same_loop (some (.tup xs)) (some (.tup xs)) xs none none h
  have q : fnM 4 (g__law_same (f__law_same j)) [.tup xs, .tup xs] M = .ok (.bl true) M := by
    have gz : ∀ δ, giZip (gACons (gVar 0) (gACons (gVar 1) gANil)) (some (.tup xs) :: some (.tup xs) :: δ) M = .ok (itT (zipD xs xs)) M := fun δ => rfl
    have st : startD 4 [.tup xs, .tup xs] = [some (.tup xs), some (.tup xs), none, none] := rfl
    unfold fnM
    rw [st]
    have ne : oNe (.int (xs.length : Int)) (.int (xs.length : Int)) M = .ok (.bl false) M := by rw [oNe_int]; simp
    simp only [g__law_same, s_gSeq, s_gIf, s_gTru, s_gUn, s_gVar, List.getElem?_cons_zero, List.getElem?_cons_succ, KM.R.bind_ok, s_isi_tup, s_trB, KM.R.toS_ok, if_true, s_gOr, s_gNot, Bool.not_true, Bool.false_eq_true, if_false, s_gTest, s_gOp, s_gCall, s_gACons, s_gANil, s_oLen_tup, ne, s_gNext, SR.then_nx, s_gFor, gz, s_itT, s_itTg, e, s_gRet, s_gC, SR.then_rt]
  have e9 : f__law_same (j + 1) [.tup xs, .tup xs] M = cutR M.length (fnM 4 (g__law_same (f__law_same j)) [.tup xs, .tup xs] M) := rfl
  rw [e9, q]
  exact cut_same wf rfl
theorem same_fr (j : Nat) (q : Rat) (wf : WF M) : f__law_same (j + 2) [fD q, fD q] M = .ok (.bl true) M := same_tup (j + 1) (fun x hx => by
  simp only [List.mem_cons, List.not_mem_nil, or_false] at hx
  rcases hx with rfl | rfl
  · exact same_int j _ wf
  · exact same_int j _ wf) wf
theorem same_f (q : Rat) (wf : WF M) : m__law_same [fD q, fD q] M = .ok (.bl true) M := same_fr 1 q wf
theorem same_fs (qs : List Rat) (wf : WF M) : m__law_same [.tup (qs.map fD), .tup (qs.map fD)] M = .ok (.bl true) M := same_tup 2 (fun x hx => by
  obtain ⟨q, _, rfl⟩ := List.mem_map.mp hx
  exact same_fr 0 q wf) wf
theorem same_is (is : List Int) (wf : WF M) : m__law_same [.tup (is.map D.int), .tup (is.map D.int)] M = .ok (.bl true) M := same_tup 2 (fun x hx => by
  obtain ⟨i, _, rfl⟩ := List.mem_map.mp hx
  exact same_int 1 i wf) wf
/-! ### is a fraction -/
theorem lfrac {q : Rat} (hq : Sm q) (wf : WF M) : m__law_is_fraction [fD q] M = .ok (.bl true) M := by
  have ge := gcd_eq (t := q.num) (b := q.den) (Nat.lt_of_lt_of_le hq.den (Nat.pow_le_pow_right (by decide) (by decide))) wf
  have hc : q.num.natAbs.gcd q.den = 1 := q.reduced
  rw [hc] at ge
  have hd : (0 : Int) < (q.den : Int) := by have := q.den_nz; omega
  have lm := lcL_map (gd := fun _ => True) (gg := gtName 1) (ge := gAndV (gUn (oIsi "int") (gVar 1)) (gNotV (gUn (oIsi "bool") (gVar 1)))) (δ := [some (fD q), none]) (M := M) (em := D.int) (f := fun _ => D.bl true) trivial [q.num, (q.den : Int)] [] (by simp) (fun i _ => ⟨[some (fD q), some (.int i)], rfl, by simp⟩)
  rw [List.nil_append] at lm
  have al := oAll_map (fun _ : Int => true) [q.num, (q.den : Int)] M
  have at_ : (([q.num, (q.den : Int)] : List Int).map fun _ => true).all id = true := by simp
  rw [at_] at al
  have tf : tupOf (fD q) = some [.int q.num, .int q.den] := rfl
  have ti : oIsi "tuple" (fD q) M = .ok (.bl true) M := s_isi_tup M _
  have ln : oLen [fD q] M = .ok (.int 2) M := rfl
  have st : startD 2 [fD q] = [some (fD q), none] := rfl
  have eq1 : oEq (.int ((1 : Nat) : Int)) (.int 1) M = .ok (.bl true) M := by rw [oEq_int]; rfl
  have ne : oNe (.int 2) (.int 2) M = .ok (.bl false) M := by rw [oNe_int]; rfl
  have lm' : lcL (fun _ => True) (gtName 1) gYes (gAndV (gUn (oIsi "int") (gVar 1)) (gNotV (gUn (oIsi "bool") (gVar 1)))) [some (fD q), none] [.int q.num, .int (q.den : Int)] [] M = .ok ([q.num, (q.den : Int)].map fun _ => D.bl true) M := lm
  have qq : g__law_is_fraction (startD 2 [fD q]) M = .rt (.bl true) M := by
    rw [st]
    simp only [g__law_is_fraction, s_gSeq, s_gIf, s_gOr, s_gNot, s_gTru, s_gUn, s_gVar, List.getElem?_cons_zero, List.getElem?_cons_succ, KM.R.bind_ok, ti, s_trB, Bool.not_true, Bool.false_eq_true, if_false, s_gTest, s_gOp, s_gCall, s_gACons, s_gANil, ln, s_gC, ne, KM.R.toS_ok, s_gNext, SR.then_nx, s_gLcG, s_giSeq, tf, s_itT, s_itTg, wipeD]
    simp only [wipeD, List.set, lm', KM.R.bind_ok, finI, al, s_trB, Bool.not_true, KM.R.toS_ok, Bool.false_eq_true, if_false, SR.then_nx, s_gRet, s_gAndV, s_gOp, s_gVar, s_gC, s_gCall, s_gACons, s_gANil, List.getElem?_cons_zero, oIx_f0, oIx_f1, s_gtI, decide_eq_true hd, ge, eq1, s_gNext]
  have e9 : m__law_is_fraction [fD q] M = cutR M.length (fnM 2 g__law_is_fraction [fD q] M) := rfl
  rw [e9]
  unfold fnM
  rw [qq]
  exact cut_same wf rfl
/-! ### the hat -/
def Hat (k : Nat) (M : List MO) : Prop := ∃ a b : Int, 0 ≤ a ∧ 0 ≤ b ∧ M[k]? = some (.lst [.int a, .int b])
structure Hx (k : Nat) (M M' : List MO) : Prop where
  len : M'.length = M.length
  oth : ∀ j, j ≠ k → M'[j]? = M[j]?
  hat : Hat k M'
  wf : WF M'
theorem Hx.trans {k : Nat} {M M1 M2 : List MO} (a : Hx k M M1) (b : Hx k M1 M2) : Hx k M M2 := ⟨b.len.trans a.len, fun j hj => (b.oth j hj).trans (a.oth j hj), b.hat, b.wf⟩
theorem Hx.refl {k : Nat} (wf : WF M) (h : Hat k M) : Hx k M M := ⟨rfl, fun _ _ => rfl, h, wf⟩
theorem Hx.set {k : Nat} {a b a' b' : Int} (wf : WF M) (e : M[k]? = some (.lst [.int a, .int b])) (h0 : 0 ≤ a') (h1 : 0 ≤ b') : Hx k M (M.set k (.lst [.int a', .int b'])) :=
  ⟨List.length_set, fun j hj => List.getElem?_set_ne (Ne.symm hj), ⟨a', b', h0, h1, List.getElem?_set_self (List.getElem?_eq_some_iff.mp e).1⟩, wf.set rfl⟩
theorem cut_wf {M M' : List MO} (hl : M'.length = M.length) (h : WF M') {d : D} (hd : D.lo M.length d = true) : cutR M.length (.ok d M') = .ok d M' := by
  rw [← hl]
  exact cut_same h (by rw [hl]; exact hd)
theorem oIx_L {x : D} {xs : List D} {i : Int} {d : D} {M : List MO} (ht : tupOf x = none) (hl : KM.listOf M x = some xs) (h0 : 0 ≤ i) (h : xs[i.toNat]? = some d) : oIx x (.int i) M = .ok d M := by
  have e : i = ((i.toNat : Nat) : Int) := by omega
  rw [e]
  exact s_ixL M ht hl h
theorem hat0 {k : Nat} {a b : Int} (e : M[k]? = some (.lst [.int a, .int b])) : oIx (.ref k) (.int 0) M = .ok (.int a) M := s_ixL M (n := 0) rfl (s_listOf_ref M e) rfl
theorem hat1 {k : Nat} {a b : Int} (e : M[k]? = some (.lst [.int a, .int b])) : oIx (.ref k) (.int 1) M = .ok (.int b) M := s_ixL M (n := 1) rfl (s_listOf_ref M e) rfl
theorem hset0 {k : Nat} {a b : Int} (e : M[k]? = some (.lst [.int a, .int b])) (x : Int) : oSetL (.ref k) (.int 0) (.int x) M = some (M.set k (.lst [.int x, .int b])) := by
  unfold oSetL
  simp only [e]
  rfl
theorem hset1 {k : Nat} {a b : Int} (e : M[k]? = some (.lst [.int a, .int b])) (x : Int) : oSetL (.ref k) (.int 1) (.int x) M = some (M.set k (.lst [.int a, .int x])) := by
  unfold oSetL
  simp only [e]
  rfl
theorem draw_eq {k : Nat} (wf : WF M) (w : Hat k M) {many : Int} (m0 : 0 < many) (m1 : many ≤ 1000000) : ∃ t M', m__law_draw [.ref k, .int many] M = .ok (.int t) M' ∧ 0 ≤ t ∧ t < many ∧ Hx k M M' := by
  obtain ⟨a, b, ha, hb, e⟩ := w
  have i0 := hat0 e
  have i1 := hat1 e
  have cmo : CModB a many := cmod_ok m0
  have cdv : CDivB a many := cdiv_s m0 (by omega)
  by_cases c : 0 < a
  · have hx := Hx.set (a' := a / many) (b' := b) wf e (Int.ediv_nonneg ha (by omega)) hb
    refine ⟨a % many, _, ?_, Int.emod_nonneg _ (by omega), Int.emod_lt_of_pos _ m0, hx⟩
    have s0 := hset0 e (a / many)
    have q : fnM 3 g__law_draw [.ref k, .int many] M = .ok (.int (a % many)) (M.set k (.lst [.int (a / many), .int b])) := by
      simp [fnM, g__law_draw, startD, i0, c, cmo, cdv, s0]
    have e9 : m__law_draw [.ref k, .int many] M = cutR M.length (fnM 3 g__law_draw [.ref k, .int many] M) := rfl
    rw [e9, q]
    exact cut_wf hx.len hx.wf rfl
  · have c1 : CMulB b 48271 := cmul_r (by decide) (by decide)
    have c2 : CModB (b * 48271 + 11) 2147483647 := cmod_ok (by decide)
    have s1 := hset1 e ((b * 48271 + 11) % 2147483647)
    have e2 : (M.set k (.lst [.int a, .int ((b * 48271 + 11) % 2147483647)]))[k]? = some (.lst [.int a, .int ((b * 48271 + 11) % 2147483647)]) := List.getElem?_set_self (List.getElem?_eq_some_iff.mp e).1
    have i2 := hat1 e2
    generalize hv : (b * 48271 + 11) % 2147483647 = v at *
    have v0 : 0 ≤ v := by rw [← hv]; exact Int.emod_nonneg _ (by decide)
    have d1 : CDivB v 1009 := cdiv_s (by decide) (by decide)
    have d2 : CModB (v / 1009) 65521 := cmod_ok (by decide)
    have r0 : 0 ≤ v / 1009 % 65521 := Int.emod_nonneg _ (by decide)
    have r1 : v / 1009 % 65521 < 65521 := Int.emod_lt_of_pos _ (by decide)
    have c3 : CMulB v (v / 1009 % 65521 + 69621) := cmul_r (by omega) (by omega)
    have d3 : CModB (v * (v / 1009 % 65521 + 69621) + 7) 2147483629 := cmod_ok (by decide)
    have s2 := hset1 e2 ((v * (v / 1009 % 65521 + 69621) + 7) % 2147483629)
    have e3 : ((M.set k (.lst [.int a, .int v])).set k (.lst [.int a, .int ((v * (v / 1009 % 65521 + 69621) + 7) % 2147483629)]))[k]? = some (.lst [.int a, .int ((v * (v / 1009 % 65521 + 69621) + 7) % 2147483629)]) := List.getElem?_set_self (List.getElem?_eq_some_iff.mp e2).1
    have i3 := hat1 e3
    generalize hu : (v * (v / 1009 % 65521 + 69621) + 7) % 2147483629 = u at *
    have u0 : 0 ≤ u := by rw [← hu]; exact Int.emod_nonneg _ (by decide)
    have d4 : CDivB u 16 := cdiv_s (by decide) (by decide)
    have d5 : CModB (u / 16) many := cmod_ok m0
    have h1 := Hx.set (a' := a) (b' := v) wf e ha v0
    have h2 := Hx.set (a' := a) (b' := u) h1.wf e2 ha u0
    have hx := h1.trans h2
    refine ⟨u / 16 % many, _, ?_, Int.emod_nonneg _ (by omega), Int.emod_lt_of_pos _ m0, hx⟩
    have st : startD 3 [.ref k, .int many] = [some (.ref k), some (.int many), none] := rfl
    have q : g__law_draw (startD 3 [.ref k, .int many]) M = .rt (.int (u / 16 % many)) ((M.set k (.lst [.int a, .int v])).set k (.lst [.int a, .int u])) := by
      rw [st]
      simp only [g__law_draw, s_gSeq, s_gIf, s_gTest, s_gOp, s_gVar, s_gC, List.getElem?_cons_zero, List.getElem?_cons_succ, KM.R.bind_ok, i0, s_gtI, decide_eq_false c, KM.R.toS_ok, Bool.false_eq_true, if_false, s_gNext, SR.then_nx, s_gAsg, s_gCall, s_gACons, s_gANil, i1, s_oInt, s_mulI, if_pos c1, s_addI, s_modI, if_pos c2, hv, s_gtSub, s1, i2, s_divI, if_pos d1, if_pos d2, if_pos c3, if_pos d3, hu, s2, s_gRet, i3, if_pos d4, if_pos d5]
    have e9 : m__law_draw [.ref k, .int many] M = cutR M.length (fnM 3 g__law_draw [.ref k, .int many] M) := rfl
    rw [e9]
    unfold fnM
    rw [q]
    exact cut_wf hx.len hx.wf rfl
theorem any_eq {k : Nat} (wf : WF M) (w : Hat k M) {xs : List D} (h0 : xs ≠ []) (hl : xs.length ≤ 1000) (hlo : ∀ x ∈ xs, D.lo M.length x = true) : ∃ d M', m__law_any [.ref k, .lst xs] M = .ok d M' ∧ d ∈ xs ∧ Hx k M M' := by
  have hl1 : 0 < xs.length := List.length_pos_iff.mpr h0
  obtain ⟨t, M1, e1, a1, b1, n1⟩ := draw_eq wf w (many := (xs.length : Int)) (by omega) (by omega)
  have ht : t.toNat < xs.length := by omega
  refine ⟨xs[t.toNat], M1, ?_, List.getElem_mem ht, n1⟩
  have ix : oIx (.lst xs) (.int t) M1 = .ok xs[t.toNat] M1 := oIx_L rfl rfl a1 (List.getElem?_eq_getElem ht)
  have ln : oLen [.lst xs] M = .ok (.int (xs.length : Int)) M := s_oLen_lst M xs
  have st : startD 2 [.ref k, .lst xs] = [some (.ref k), some (.lst xs)] := rfl
  have q : g__law_any (startD 2 [.ref k, .lst xs]) M = .rt xs[t.toNat] M1 := by
    rw [st]
    simp only [g__law_any, s_gRet, s_gOp, s_gVar, s_gCall, s_gACons, s_gANil, List.getElem?_cons_zero, List.getElem?_cons_succ, KM.R.bind_ok, ln, e1, ix, KM.R.toS_ok]
  have e9 : m__law_any [.ref k, .lst xs] M = cutR M.length (fnM 2 g__law_any [.ref k, .lst xs] M) := rfl
  rw [e9]
  unfold fnM
  rw [q]
  exact cut_wf n1.len n1.wf (hlo _ (List.getElem_mem ht))
end
end K11
set_option linter.all false
set_option maxRecDepth 100000
set_option maxHeartbeats 4000000
namespace K11
open PySem L2 KM LV
abbrev nD : Nat → D := fun (l : Nat) => D.int l
theorem worth_q {t b : Int} (h0 : 0 ≤ t) (h1 : t < 41) (hb : b = 1 ∨ b = 2 ∨ b = 3 ∨ b = 4 ∨ b = 7 ∨ b = 10) {M : List MO} (wf : WF M) : ∃ q, m__law_f [.int (t - 20), .int b] M = .ok (fD q) M ∧ Bnd 420 20 q := by
  obtain ⟨n, rfl⟩ : ∃ n : Nat, b = n := ⟨b.toNat, by omega⟩
  have hn : n ≠ 0 := by omega
  refine ⟨_, f_eq hn (Nat.lt_of_le_of_lt (show n ≤ 10 by omega) (Nat.lt_of_lt_of_le (show 10 < 2 ^ 4 by decide) (Nat.pow_le_pow_right (by decide) (by decide)))) wf, ?_⟩
  refine ⟨Nat.dvd_trans (divInt_dvd hn) ?_, divInt_num hn ?_⟩
  · have : n = 1 ∨ n = 2 ∨ n = 3 ∨ n = 4 ∨ n = 7 ∨ n = 10 := by omega
    rcases this with h | h | h | h | h | h <;> subst h <;> decide
  · have : (t - 20).natAbs ≤ 20 := by omega
    have : 20 * 1 ≤ 20 * n := Nat.mul_le_mul_left _ (by omega)
    omega
theorem more_q {t b : Int} (h0 : 0 ≤ t) (h1 : t < 20) (hb : b = 1 ∨ b = 3 ∨ b = 10) {M : List MO} (wf : WF M) : ∃ q, m__law_f [.int (1 + t), .int b] M = .ok (fD q) M ∧ Bnd 420 20 q ∧ 0 < q := by
  obtain ⟨n, rfl⟩ : ∃ n : Nat, b = n := ⟨b.toNat, by omega⟩
  have hn : n ≠ 0 := by omega
  refine ⟨_, f_eq hn (Nat.lt_of_le_of_lt (show n ≤ 10 by omega) (Nat.lt_of_lt_of_le (show 10 < 2 ^ 4 by decide) (Nat.pow_le_pow_right (by decide) (by decide)))) wf, ⟨Nat.dvd_trans (divInt_dvd hn) ?_, divInt_num hn ?_⟩, ?_⟩
  · have : n = 1 ∨ n = 3 ∨ n = 10 := by omega
    rcases this with h | h | h <;> subst h <;> decide
  · have : (1 + t).natAbs ≤ 20 := by omega
    have : 20 * 1 ≤ 20 * n := Nat.mul_le_mul_left _ (by omega)
    omega
  · rw [Rat.divInt_eq_div, Rat.div_def]
    have h2 : (0 : Rat) < ((1 + t : Int) : Rat) := by exact_mod_cast (show (0 : Int) < 1 + t by omega)
    have h3 : (0 : Rat) < ((n : Int) : Rat) := by exact_mod_cast (show (0 : Int) < (n : Int) by omega)
    exact Rat.mul_pos h2 (Rat.inv_pos.mpr h3)
section
variable {M : List MO} {k : Nat}
theorem worth_eq (wf : WF M) (w : Hat k M) : ∃ q M', m__law_worth [.ref k] M = .ok (fD q) M' ∧ Bnd 420 20 q ∧ Hx k M M' := by
  obtain ⟨t, M1, e1, a1, b1, n1⟩ := draw_eq wf w (many := 41) (by decide) (by decide)
  obtain ⟨d, M2, e2, hd, n2⟩ := any_eq n1.wf n1.hat (xs := [.int 1, .int 2, .int 3, .int 4, .int 7, .int 10]) (by simp) (by simp) (fun x hx => by
    simp only [List.mem_cons, List.not_mem_nil, or_false] at hx
    rcases hx with rfl | rfl | rfl | rfl | rfl | rfl <;> rfl)
  obtain ⟨b, rfl, hb⟩ : ∃ b : Int, d = .int b ∧ (b = 1 ∨ b = 2 ∨ b = 3 ∨ b = 4 ∨ b = 7 ∨ b = 10) := by
    simp only [List.mem_cons, List.not_mem_nil, or_false] at hd
    rcases hd with rfl | rfl | rfl | rfl | rfl | rfl
    · exact ⟨_, rfl, .inl rfl⟩
    · exact ⟨_, rfl, .inr (.inl rfl)⟩
    · exact ⟨_, rfl, .inr (.inr (.inl rfl))⟩
    · exact ⟨_, rfl, .inr (.inr (.inr (.inl rfl)))⟩
    · exact ⟨_, rfl, .inr (.inr (.inr (.inr (.inl rfl))))⟩
    · exact ⟨_, rfl, .inr (.inr (.inr (.inr (.inr rfl))))⟩
  obtain ⟨q, e3, hq⟩ := worth_q a1 b1 hb n2.wf
  have N := n1.trans n2
  refine ⟨q, M2, ?_, hq, N⟩
  have b6 : bigN [D.int 1, D.int 2, D.int 3, D.int 4, D.int 7, D.int 10].length := by unfold bigN; simp
  have qq : g__law_worth (startD 1 [.ref k]) M = .rt (fD q) M2 := by
    show g__law_worth [some (.ref k)] M = _
    simp only [g__law_worth, s_gRet, s_gCall, s_gACons, s_gANil, s_gOp, s_gVar, s_gC, List.getElem?_cons_zero, KM.R.bind_ok, e1, s_subI, s_gLst, if_pos b6, e2, e3, KM.R.toS_ok]
  have e9 : m__law_worth [.ref k] M = cutR M.length (fnM 1 g__law_worth [.ref k] M) := rfl
  rw [e9]
  unfold fnM
  rw [qq]
  exact cut_wf N.len N.wf rfl
/-- a list of drawn worths -/
theorem worths_comp {gi : GG} {δ : KM.Ctx} {ge : GE} (P : D → Prop) (hg : ∀ d M, P d → ∃ δ1, gi d δ M = .nx δ1 M ∧ ge δ1 M = m__law_worth [.ref k] M) : ∀ (xs : List D) (acc : List Rat) (M : List MO), WF M → Hat k M → (∀ x ∈ xs, P x) → acc.length + xs.length ≤ 1000 → (∀ q ∈ acc, Bnd 420 20 q) →
    ∃ (qs : List Rat) (M' : List MO), lcL (fun _ => True) gi gYes ge δ xs (acc.map fD) M = .ok (qs.map fD) M' ∧ Hx k M M' ∧ qs.length = acc.length + xs.length ∧ ∀ q ∈ qs, Bnd 420 20 q
  | [], acc, M, wf, w, _, hl, ha => ⟨acc, M, by simp [lcL], Hx.refl wf w, by simp, ha⟩
  | x :: xs, acc, M, wf, w, hx, hl, ha => by
    rw [List.length_cons] at hl
    obtain ⟨δ1, g1, g2⟩ := hg x M (hx x (List.mem_cons_self ..))
    obtain ⟨q, M1, e1, hq, n1⟩ := worth_eq wf w
    obtain ⟨qs, M', e, n2, h1, h2⟩ := worths_comp P hg xs (acc ++ [q]) M1 n1.wf n1.hat (fun y hy => hx y (List.mem_cons_of_mem _ hy)) (by simp; omega) (fun y hy => by
      rcases List.mem_append.mp hy with z | z
      · exact ha y z
      · rw [List.mem_singleton.mp z]; exact hq)
    refine ⟨qs, M', ?_, n1.trans n2, by rw [h1]; simp; omega, h2⟩
    have bs : bigS (acc.map fD).length := by rw [List.length_map]; unfold bigS; omega
    rw [List.map_append, List.map_singleton] at e
    unfold lcL
    rw [if_pos trivial]
    simp only [g1, gYes, if_true, g2, e1, if_pos bs]
    exact e
end
end K11
set_option linter.all false
set_option maxRecDepth 100000
set_option maxHeartbeats 4000000
namespace K11
open PySem L2 KM LV
theorem perm_erase : ∀ (xs : List Nat) (i : Nat) (h : i < xs.length), (xs[i] :: xs.eraseIdx i).Perm xs
  | x :: xs, 0, _ => List.Perm.refl _
  | x :: xs, i + 1, h => by
    have h' : i < xs.length := by simpa using h
    exact (List.Perm.swap x xs[i] (xs.eraseIdx i)).trans ((perm_erase xs i h').cons x)
theorem erase_map (f : Nat → D) : ∀ (xs : List Nat) (i : Nat), (xs.map f).eraseIdx i = (xs.eraseIdx i).map f
  | [], _ => rfl
  | x :: xs, 0 => rfl
  | x :: xs, i + 1 => by
    show f x :: (xs.map f).eraseIdx i = f x :: (xs.eraseIdx i).map f
    rw [erase_map f xs i]
theorem nat_lst_lo (n : Nat) (xs : List Nat) : MO.lo n (.lst (xs.map nD)) = true := los_mapD (fun _ => rfl) xs
noncomputable abbrev oB : GS := gDrop (gBM oAppend (gVar 3) (gACons (gBM oPopAt (gVar 2) (gACons (gCall m__law_draw (gACons (gVar 0) (gACons (gCall oLen (gACons (gVar 2) (gANil))) (gANil)))) (gANil))) (gANil)))
theorem order_loop {k R F : Nat} (hR : R ≠ k) (hF : F ≠ k) (hRF : R ≠ F) (x1 : Option D) : ∀ (n : Nat) (lo : Int) (left found : List Nat) (M : List MO) (x4 : Option D), left.length = n → n ≤ 12 → found.length + n ≤ 1000 → WF M → Hat k M → M[R]? = some (.lst (left.map nD)) → M[F]? = some (.lst (found.map nD)) →
    ∃ (found' : List Nat) (M' : List MO) (y4 : Option D), forL (fun _ => True) (gtName 4) oB (rngD lo n) [some (.ref k), x1, some (.ref R), some (.ref F), x4] M = .nx [some (.ref k), x1, some (.ref R), some (.ref F), y4] M' ∧ found'.Perm (found ++ left) ∧ M'.length = M.length ∧ (∀ j, j ≠ k → j ≠ R → j ≠ F → M'[j]? = M[j]?) ∧ WF M' ∧ Hat k M' ∧ M'[F]? = some (.lst (found'.map nD))
  | 0, lo, left, found, M, x4, hl, h12, hb, wf, w, hM, hMF => ⟨found, M, x4, by simp [rngD, forL], by
      have : left = [] := List.eq_nil_of_length_eq_zero hl
      rw [this, List.append_nil], rfl, fun _ _ _ _ => rfl, wf, w, hMF⟩
  | n + 1, lo, left, found, M, x4, hl, h12, hb, wf, w, hM, hMF => by
    obtain ⟨t, M1, e1, a1, b1, n1⟩ := draw_eq wf w (many := ((n + 1 : Nat) : Int)) (by omega) (by omega)
    have hM1 : M1[R]? = some (.lst (left.map nD)) := by rw [n1.oth R hR]; exact hM
    have ht : t.toNat < left.length := by omega
    have hp : left.Perm (left[t.toNat] :: left.eraseIdx t.toNat) := (perm_erase left t.toNat ht).symm
    have em : (left.map nD).eraseIdx t.toNat = (left.eraseIdx t.toNat).map nD := erase_map nD left t.toNat
    have wf2 : WF (M1.set R (.lst ((left.eraseIdx t.toNat).map nD))) := n1.wf.set (nat_lst_lo _ _)
    have hM2 : (M1.set R (.lst ((left.eraseIdx t.toNat).map nD)))[R]? = some (.lst ((left.eraseIdx t.toNat).map nD)) := List.getElem?_set_self (List.getElem?_eq_some_iff.mp hM1).1
    have hF2 : (M1.set R (.lst ((left.eraseIdx t.toNat).map nD)))[F]? = some (.lst (found.map nD)) := by
      rw [List.getElem?_set_ne hRF, n1.oth F hF]; exact hMF
    have ap := oAppend_eq (M := M1.set R (.lst ((left.eraseIdx t.toNat).map nD))) (k := F) hF2 (by rw [List.length_map]; omega) (nD left[t.toNat])
    have e3 : found.map nD ++ [nD left[t.toNat]] = (found ++ [left[t.toNat]]).map nD := by rw [List.map_append]; rfl
    rw [e3] at ap
    have wf3 : WF ((M1.set R (.lst ((left.eraseIdx t.toNat).map nD))).set F (.lst ((found ++ [left[t.toNat]]).map nD))) := wf2.set (nat_lst_lo _ _)
    have hM3 : ((M1.set R (.lst ((left.eraseIdx t.toNat).map nD))).set F (.lst ((found ++ [left[t.toNat]]).map nD)))[R]? = some (.lst ((left.eraseIdx t.toNat).map nD)) := by
      rw [List.getElem?_set_ne (Ne.symm hRF)]; exact hM2
    have hF3 : ((M1.set R (.lst ((left.eraseIdx t.toNat).map nD))).set F (.lst ((found ++ [left[t.toNat]]).map nD)))[F]? = some (.lst ((found ++ [left[t.toNat]]).map nD)) := List.getElem?_set_self (List.getElem?_eq_some_iff.mp hF2).1
    have w3 : Hat k ((M1.set R (.lst ((left.eraseIdx t.toNat).map nD))).set F (.lst ((found ++ [left[t.toNat]]).map nD))) := by
      obtain ⟨a, b, h0, h1, h2⟩ := n1.hat
      exact ⟨a, b, h0, h1, by rw [List.getElem?_set_ne hF, List.getElem?_set_ne hR]; exact h2⟩
    obtain ⟨found', M', y4, e, q1, q2, q3, q4, q5, q6⟩ := order_loop hR hF hRF x1 n (lo + 1) (left.eraseIdx t.toNat) (found ++ [left[t.toNat]]) _ (some (.int lo)) (by rw [List.length_eraseIdx, if_pos ht]; omega) (by omega) (by simp; omega) wf3 w3 hM3 hF3
    refine ⟨found', M', y4, ?_, ?_, ?_, ?_, q4, q5, q6⟩
    · have lo0 := s_listOf_ref M hM
      have loF : KM.listOf M (.ref F) = some (found.map nD) := s_listOf_ref M hMF
      have ln : oLen [.ref R] M = .ok (.int ((n + 1 : Nat) : Int)) M := by
        unfold oLen
        simp only [s_tupOf_ref, lo0, List.length_map, hl]
      have pp : oPopAt (.ref R) [.int t] M1 = .ok (nD left[t.toNat]) (M1.set R (.lst ((left.eraseIdx t.toNat).map nD))) := by
        unfold oPopAt
        simp only [hM1]
        rw [if_pos ⟨a1, by omega⟩, List.getElem?_map, List.getElem?_eq_getElem ht]
        simp only [Option.map_some]
        rw [em]
      rw [rngD_succ]
      unfold forL
      rw [if_pos trivial]
      simp only [oB, s_gtName, s_gDrop, s_gBM, s_gVar, List.set, List.getElem?_cons_zero, List.getElem?_cons_succ, KM.R.bind_ok, loF, s_gACons, lo0, s_gCall, s_gANil, ln, e1, pp, ap, KM.R.toS_ok]
      exact e
    · refine q1.trans ?_
      rw [List.append_assoc]
      exact List.Perm.append_left _ hp.symm
    · rw [q2, List.length_set, List.length_set, n1.len]
    · intro j j1 j2 j3
      rw [q3 j j1 j2 j3, List.getElem?_set_ne (Ne.symm j3), List.getElem?_set_ne (Ne.symm j2), n1.oth j j1]
theorem order_eq {M : List MO} {k size : Nat} (h4 : size ≤ 4) (wf : WF M) (w : Hat k M) : ∃ (ord : List Nat) (M' : List MO), m__law_mixed_order [.ref k, .int (size : Int)] M = .ok (.ref (M.length + 1)) M' ∧ ord.Perm (List.range size) ∧ WF M' ∧ Hat k M' ∧ M'[M.length + 1]? = some (.lst (ord.map nD)) ∧ M'.length = M.length + 2 ∧ ∀ j, j < M.length → j ≠ k → M'[j]? = M[j]? := by
  have hk : k < M.length := by
    obtain ⟨a, b, _, _, h⟩ := w
    exact (List.getElem?_eq_some_iff.mp h).1
  have er : rngD 0 size = (List.range size).map nD := by
    unfold rngD
    exact List.map_congr_left fun i _ => by rw [Int.zero_add]
  have wf1 : WF (M ++ [.lst ((List.range size).map nD)]) := wf.app (nat_lst_lo _ _)
  have wf2 : WF (M ++ [.lst ((List.range size).map nD), .lst []]) := by
    have := wf1.app (o := .lst []) rfl
    rw [List.append_assoc] at this
    exact this
  have w2 : Hat k (M ++ [.lst ((List.range size).map nD), .lst []]) := by
    obtain ⟨a, b, h0, h1, h⟩ := w
    exact ⟨a, b, h0, h1, by rw [List.getElem?_append_left hk]; exact h⟩
  obtain ⟨ord, M', y4, e, q1, q2, q3, q4, q5, q6⟩ := order_loop (k := k) (R := M.length) (F := M.length + 1) (by omega) (by omega) (by omega) (some (.int (size : Int))) size 0 (List.range size) [] (M ++ [.lst ((List.range size).map nD), .lst []]) none (by simp) (by omega) (by simp; omega) wf2 w2 (by simp) (by simp)
  rw [List.nil_append] at q1
  refine ⟨ord, M', ?_, q1, q4, q5, q6, by rw [q2]; simp, fun j h1 h2 => by rw [q3 j h2 (by omega) (by omega), List.getElem?_append_left h1]⟩
  have rb : rngB (size : Int) := rngB_ok (by omega) (by omega)
  have b0 : bigN ([] : List D).length := by unfold bigN; simp
  have lr : gListRg1M (gVar 1) [some (.ref k), some (.int (size : Int)), none, none, none] M = .ok (.ref M.length) (M ++ [.lst ((List.range size).map nD)]) := by
    unfold gListRg1M
    simp only [s_gVar, List.getElem?_cons_zero, List.getElem?_cons_succ, KM.R.bind_ok]
    rw [if_pos ⟨by omega, by omega⟩, Int.toNat_natCast, er]
  have ap : M ++ [MO.lst ((List.range size).map nD)] ++ [.lst []] = M ++ [.lst ((List.range size).map nD), .lst []] := by simp
  have la : (M ++ [MO.lst ((List.range size).map nD)]).length = M.length + 1 := by simp
  have st : startD 5 [.ref k, .int (size : Int)] = [some (.ref k), some (.int (size : Int)), none, none, none] := rfl
  have q : g__law_mixed_order (startD 5 [.ref k, .int (size : Int)]) M = .rt (.ref (M.length + 1)) M' := by
    rw [st]
    simp only [g__law_mixed_order, s_gSeq, s_gSet, lr, KM.R.toS_ok, List.set, SR.then_nx, s_gLstM, s_gANil, KM.R.bind_ok, if_pos b0, ap, la, s_gFor, s_giRng1, s_gACons, s_gVar, List.getElem?_cons_zero, List.getElem?_cons_succ, if_pos rb, s_itT, s_itTg, Int.toNat_natCast, e, s_gRet]
  unfold m__law_mixed_order fnM
  rw [q]
end K11
set_option linter.all false
set_option maxRecDepth 100000
set_option maxHeartbeats 4000000
namespace K11
open PySem L2 KM LV
/-! ### by thought -/
theorem Fv_set_ge {v x : Rat} : ∀ (ws : List Rat) (t : Nat), (∀ w, ws[t]? = some w → w ≤ x) → Fv ws v ≤ Fv (ws.set t x) v
  | [], t, h => by simp
  | w :: ws, 0, h => by
    have h1 := h w rfl
    have h2 := mx_mono (x := w + 1 - v) (y := x + 1 - v) (by grind)
    show mx (w + 1 - v) + Fv ws v ≤ mx (x + 1 - v) + Fv ws v
    grind
  | w :: ws, t + 1, h => by
    have ih := Fv_set_ge (v := v) (x := x) ws t (fun y hy => h y (by simpa using hy))
    show mx (w + 1 - v) + Fv ws v ≤ mx (w + 1 - v) + Fv (ws.set t x) v
    grind
theorem Fv_shift_le {v c : Rat} (hc : 0 ≤ c) : ∀ ws : List Rat, Fv ws (v + c) ≤ Fv ws v := fun ws => Fv_mono ws (by grind)
theorem Fv_set_le {v x c : Rat} (hc : 0 ≤ c) : ∀ (ws : List Rat) (t : Nat), (∀ w, ws[t]? = some w → x ≤ w + c) → Fv (ws.set t x) (v + c) ≤ Fv ws v
  | [], t, h => by simp [Fv, sq]
  | w :: ws, 0, h => by
    have h1 := h w rfl
    have h2 := mx_mono (x := x + 1 - (v + c)) (y := w + 1 - v) (by grind)
    have h3 := Fv_shift_le (v := v) hc ws
    show mx (x + 1 - (v + c)) + Fv ws (v + c) ≤ mx (w + 1 - v) + Fv ws v
    grind
  | w :: ws, t + 1, h => by
    have ih := Fv_set_le (v := v) (x := x) hc ws t (fun y hy => h y (by simpa using hy))
    have h2 := mx_mono (x := w + 1 - (v + c)) (y := w + 1 - v) (by grind)
    show mx (w + 1 - (v + c)) + Fv (ws.set t x) (v + c) ≤ mx (w + 1 - v) + Fv ws v
    grind
/-- where the sum is at most 1, there the level is at most -/
theorem root_le {ws : List Rat} {v u : Rat} (h : Fv ws v = 1) (hu : Fv ws u ≤ 1) : v ≤ u := by
  apply Classical.byContradiction
  intro n
  have := Fv_strict ws (show u < v by grind) (by rw [h]; decide)
  grind
theorem root_ge {ws : List Rat} {v u : Rat} (h : Fv ws v = 1) (hu : 1 ≤ Fv ws u) : u ≤ v := by
  apply Classical.byContradiction
  intro n
  have := Fv_strict ws (show v < u by grind) (by grind)
  grind
theorem Fv_app (ws : List Rat) (x v : Rat) : Fv (ws ++ [x]) v = Fv ws v + mx (x + 1 - v) := by
  unfold Fv
  rw [List.map_append, sq_append]
  show _ + (mx (x + 1 - v) + 0) = _
  grind
theorem lotFrom_app {x v : Rat} (hx : ¬ v < x + 1) : ∀ (ws : List Rat) (i : Int), lotFrom i (ws ++ [x]) v = lotFrom i ws v
  | [], i => by
    show (if v < x + 1 then i :: lotFrom (i + 1) [] v else lotFrom (i + 1) [] v) = _
    rw [if_neg hx]
    rfl
  | w :: ws, i => by
    show (if v < w + 1 then i :: lotFrom (i + 1) (ws ++ [x]) v else lotFrom (i + 1) (ws ++ [x]) v) = _
    rw [lotFrom_app hx ws]
    rfl
theorem mx_conv {r p x y : Rat} (hr : 0 ≤ r) (hp : 0 ≤ p) : mx (r * x + p * y) ≤ r * mx x + p * mx y := by
  have h1 : x ≤ mx x := by unfold mx; grind
  have h2 : y ≤ mx y := by unfold mx; grind
  have h3 := Rat.mul_le_mul_of_nonneg_left h1 hr
  have h4 := Rat.mul_le_mul_of_nonneg_left h2 hp
  have h5 := Rat.mul_nonneg hr (mx_nn x)
  have h6 := Rat.mul_nonneg hp (mx_nn y)
  generalize r * x = a at *
  generalize p * y = b at *
  generalize r * mx x = c at *
  generalize p * mx y = d at *
  unfold mx
  grind
def mixW (r p : Rat) (ws os : List Rat) : List Rat := (ws.zip os).map fun z => r * z.1 + p * z.2
theorem Fv_mix {r p v u : Rat} (hr : 0 ≤ r) (hp : 0 ≤ p) (h1 : r + p = 1) : ∀ (ws os : List Rat), ws.length = os.length → Fv (mixW r p ws os) (r * v + p * u) ≤ r * Fv ws v + p * Fv os u
  | [], [], _ => by
    show (0 : Rat) ≤ r * 0 + p * 0
    grind
  | [], _ :: _, h => by cases h
  | _ :: _, [], h => by cases h
  | w :: ws, o :: os, h => by
    have ih := Fv_mix (v := v) (u := u) hr hp h1 ws os (by simpa using h)
    have h2 := mx_conv (x := w + 1 - v) (y := o + 1 - u) hr hp
    have e : r * w + p * o + 1 - (r * v + p * u) = r * (w + 1 - v) + p * (o + 1 - u) := by grind
    rw [← e] at h2
    show mx (r * w + p * o + 1 - (r * v + p * u)) + Fv (mixW r p ws os) (r * v + p * u) ≤ r * (mx (w + 1 - v) + Fv ws v) + p * (mx (o + 1 - u) + Fv os u)
    grind
/-! ### moved -/
theorem Fv_add (c v : Rat) : ∀ ws : List Rat, Fv (ws.map fun w => w + c) (v + c) = Fv ws v
  | [] => rfl
  | w :: ws => by
    show mx (w + c + 1 - (v + c)) + Fv (ws.map fun w => w + c) (v + c) = mx (w + 1 - v) + Fv ws v
    rw [Fv_add c v ws]
    congr 2
    grind
theorem lotFrom_add (c v : Rat) : ∀ (ws : List Rat) (i : Int), lotFrom i (ws.map fun w => w + c) (v + c) = lotFrom i ws v
  | [], _ => rfl
  | w :: ws, i => by
    show (if v + c < w + c + 1 then i :: lotFrom (i + 1) (ws.map fun w => w + c) (v + c) else lotFrom (i + 1) (ws.map fun w => w + c) (v + c)) = (if v < w + 1 then i :: lotFrom (i + 1) ws v else lotFrom (i + 1) ws v)
    rw [lotFrom_add c v ws]
    have e : (v + c < w + c + 1) ↔ v < w + 1 := by grind
    by_cases q : v < w + 1
    · rw [if_pos q, if_pos (e.mpr q)]
    · rw [if_neg q, if_neg fun z => q (e.mp z)]
theorem Fv_perm {ws us : List Rat} (h : ws.Perm us) (v : Rat) : Fv ws v = Fv us v := sq_perm (h.map _)
end K11
set_option linter.all false
set_option maxRecDepth 100000
set_option maxHeartbeats 4000000
namespace K11
open PySem L2 KM LV
section
variable {M : List MO} {k : Nat}
theorem lvl {L A : Nat} (hL : L ≠ 0) (hL2 : L < 100000000) (hA : A < 100000000) {ws : List Rat} (h2 : 2 ≤ ws.length) (h4 : ws.length ≤ 4) (hw : ∀ w ∈ ws, Bnd L A w) :
    ∃ v : Rat, Fv ws v = 1 ∧ Bnd (12 * L) (A + 1) v ∧ ∀ {M : List MO}, WF M → m_level [.tup (ws.map fD)] M = .ok (fD v) M ∧ m_even_lot [.tup (ws.map fD)] M = .ok (.tup ((lotFrom 0 ws v).map D.int)) M ∧ m_filled [.tup (ws.map fD)] M = .ok (.tup ((ws.map fun w => mx (w + 1 - v)).map fD)) M :=
  levels_eq hL (Nat.lt_of_lt_of_le (show L < 2 ^ 30 by omega) (Nat.pow_le_pow_right (by decide) (by decide))) (Nat.lt_of_lt_of_le (show A + 2 < 2 ^ 30 by omega) (Nat.pow_le_pow_right (by decide) (by decide))) h2 h4 hw
theorem Bnd.sm' {L A : Nat} {q : Rat} (h : Bnd L A q) (hL : L ≠ 0) (hL2 : L < 100000000) (hA : A < 100000000) : Sm q :=
  h.sm hL (Nat.lt_of_lt_of_le (show L < 2 ^ 30 by omega) (Nat.pow_le_pow_right (by decide) (by decide))) (Nat.lt_of_lt_of_le (show A < 2 ^ 30 by omega) (Nat.pow_le_pow_right (by decide) (by decide)))
theorem mx_sm {x : Rat} (h : Sm x) : Sm (mx x) := by
  unfold mx
  split
  · exact h
  · exact ⟨by show 0 < 2 ^ 2000; exact Nat.pos_of_ne_zero (by simp), by show 1 < 2 ^ 2000; exact Nat.lt_of_lt_of_le (show 1 < 2 ^ 1 by decide) (Nat.pow_le_pow_right (by decide) (by decide))⟩
theorem chance_sm {w v : Rat} (hw : Bnd 420 40 w) (hv : Bnd 5040 41 v) : Sm (mx (w + 1 - v)) := by
  have h1 : Bnd 5040 41 (w + 1) := Bnd.add (by decide) (hw.up (by decide) (Nat.le_refl 40)) (Bnd.one (Nat.le_refl 1))
  have h2 := Bnd.add (by decide) h1 hv.neg
  have e : w + 1 + -v = w + 1 - v := by grind
  rw [e] at h2
  exact mx_sm (h2.sm' (by decide) (by decide) (by decide))
theorem ixF {qs : List Rat} {i : Nat} {q : Rat} (h : qs[i]? = some q) (M : List MO) : oIx (.tup (qs.map fD)) (.int (i : Int)) M = .ok (fD q) M := s_ixT M (by rw [List.getElem?_map, h]; rfl)
theorem cut_take (xs : List D) (b : Nat) : cutD xs none (some (b : Int)) = xs.take b := by
  unfold cutD
  have h0 : HT.sIx xs.length 0 none = 0 := rfl
  have h1 : HT.sIx xs.length xs.length (some (b : Int)) = min b xs.length := by
    unfold HT.sIx
    simp
    try omega
  rw [h0, h1, List.drop_zero, Nat.sub_zero]
  by_cases c : b ≤ xs.length
  · rw [Nat.min_eq_left c]
  · rw [Nat.min_eq_right (by omega), List.take_length, List.take_of_length_le (by omega)]
end
end K11
set_option linter.all false
set_option maxRecDepth 100000
set_option maxHeartbeats 4000000
namespace K11
open PySem L2 KM LV
theorem cut_drop (xs : List D) (a : Nat) : cutD xs (some (a : Int)) none = xs.drop a := by
  unfold cutD
  rw [HT.sIx_none, HT.sIx_nat]
  by_cases h : a ≤ xs.length
  · rw [Nat.min_eq_left h]
    rw [List.take_of_length_le (by simp)]
  · rw [Nat.min_eq_right (by omega), List.drop_length, List.take_nil, List.drop_eq_nil_of_le (by omega)]
theorem set_split (x : Rat) : ∀ (ws : List Rat) (t : Nat), t < ws.length → ws.set t x = ws.take t ++ [x] ++ ws.drop (t + 1)
  | [], t, h => by simp at h
  | w :: ws, 0, h => by simp
  | w :: ws, t + 1, h => by
    have ih := set_split x ws t (by simpa using h)
    rw [List.set_cons_succ, ih]
    simp
section
variable {M : List MO} {k : Nat}
theorem oAny_f {α : Type} {xs : List α} (M : List MO) : oAny [.lst (xs.map fun _ => D.bl false)] M = .ok (.bl false) M := by
  have hb := bls_map (fun _ : α => false) xs
  unfold oAny
  simp only [s_listOf_lst, hb]
  have : (xs.map fun _ => false).any id = false := by simp
  rw [this]
theorem rngD_map (n : Nat) : rngD 0 n = (List.range n).map fun (i : Nat) => D.int (i : Int) := by
  unfold rngD
  exact List.map_congr_left fun i _ => by rw [Int.zero_add]
theorem raised_eq (wf : WF M) (w : Hat k M) {ws : List Rat} (h2 : 2 ≤ ws.length) (h4 : ws.length ≤ 4) (hw : ∀ w ∈ ws, Bnd 420 20 w) {v : Rat} (fv : Fv ws v = 1) (hv : Bnd 5040 21 v) :
    ∃ M', m__law_raised_right [.ref k, .tup (ws.map fD), fD v, .tup ((ws.map fun w => mx (w + 1 - v)).map fD)] M = .ok (.bl true) M' ∧ Hx k M M' := by
  obtain ⟨t, M1, e1, a1, b1, n1⟩ := draw_eq wf w (many := (ws.length : Int)) (by omega) (by omega)
  obtain ⟨t2, M2, e2, a2, b2, n2⟩ := draw_eq n1.wf n1.hat (many := 20) (by decide) (by decide)
  obtain ⟨d, M3, e3, hd, n3⟩ := any_eq n2.wf n2.hat (xs := [.int 1, .int 3, .int 10]) (by simp) (by simp) (fun x hx => by
    simp only [List.mem_cons, List.not_mem_nil, or_false] at hx
    rcases hx with rfl | rfl | rfl <;> rfl)
  obtain ⟨b, rfl, hb⟩ : ∃ b : Int, d = .int b ∧ (b = 1 ∨ b = 3 ∨ b = 10) := by
    simp only [List.mem_cons, List.not_mem_nil, or_false] at hd
    rcases hd with rfl | rfl | rfl
    · exact ⟨_, rfl, .inl rfl⟩
    · exact ⟨_, rfl, .inr (.inl rfl)⟩
    · exact ⟨_, rfl, .inr (.inr rfl)⟩
  obtain ⟨q, e4, hq, q0⟩ := more_q a2 b2 hb n3.wf
  obtain ⟨i, rfl⟩ : ∃ i : Nat, t = i := ⟨t.toNat, by omega⟩
  have hi : i < ws.length := by omega
  have wi : ws[i]? = some ws[i] := List.getElem?_eq_getElem hi
  have hwi := hw ws[i] (List.getElem_mem hi)
  have hsum : Bnd 420 40 (ws[i] + q) := Bnd.add (by decide) hwi hq
  have N := n1.trans (n2.trans n3)
  have wf3 := n3.wf
  have e5 := lplus (hwi.sm' (by decide) (by decide) (by decide)) (hq.sm' (by decide) (by decide) (by decide)) wf3
  have hw2 : ∀ x ∈ ws.set i (ws[i] + q), Bnd 420 40 x := fun x hx => by
    rcases List.mem_or_eq_of_mem_set hx with h | h
    · exact (hw x h).up (Nat.dvd_refl _) (by decide)
    · rw [h]; exact hsum
  obtain ⟨v', fv', hv', ev⟩ := lvl (by decide) (by decide) (by decide) (ws := ws.set i (ws[i] + q)) (by rw [List.length_set]; exact h2) (by rw [List.length_set]; exact h4) hw2
  obtain ⟨l1, l2, l3⟩ := ev wf3
  have gv : v ≤ v' := root_ge fv' (by
    rw [← fv]
    exact Fv_set_ge ws i fun y hy => by rw [wi] at hy; cases hy; grind)
  have lv : v' ≤ v + q := root_le fv' (by
    rw [← fv]
    exact Fv_set_le (by grind) ws i fun y hy => by rw [wi] at hy; cases hy; grind)
  have sv : Sm v := hv.sm' (by decide) (by decide) (by decide)
  have sv' : Sm v' := hv'.sm' (by decide) (by decide) (by decide)
  have sq' : Sm q := hq.sm' (by decide) (by decide) (by decide)
  have svq : Sm (v + q) := by
    have : Bnd 5040 41 (v + q) := Bnd.add (by decide) hv (hq.up (by decide) (Nat.le_refl 20))
    exact this.sm' (by decide) (by decide) (by decide)
  have e6 := lplus sv sq' wf3
  have le1 := lless sv' sv wf3
  rw [decide_eq_false (show ¬ v' < v by grind)] at le1
  have le2 := lless svq sv' wf3
  rw [decide_eq_false (show ¬ v + q < v' by grind)] at le2
  have c1 : ∀ j x, ws[j]? = some x → Sm (mx (x + 1 - v)) := fun j x h => chance_sm ((hw x (List.mem_of_getElem? h)).up (Nat.dvd_refl _) (by decide)) (hv.up (Nat.dvd_refl _) (by decide))
  have c2 : ∀ x ∈ ws.set i (ws[i] + q), Sm (mx (x + 1 - v')) := fun x h => chance_sm (hw2 x h) hv'
  have gch : ∀ (j : Nat) (x : Rat), ws[j]? = some x → oIx (.tup ((ws.map fun w => mx (w + 1 - v)).map fD)) (.int (j : Int)) M3 = .ok (fD (mx (x + 1 - v))) M3 := fun j x h => ixF (by rw [List.getElem?_map, h]; rfl) M3
  have gdr : ∀ (j : Nat) (x : Rat), (ws.set i (ws[i] + q))[j]? = some x → oIx (.tup (((ws.set i (ws[i] + q)).map fun w => mx (w + 1 - v')).map fD)) (.int (j : Int)) M3 = .ok (fD (mx (x + 1 - v'))) M3 := fun j x h => ixF (by rw [List.getElem?_map, h]; rfl) M3
  have gi := gch i ws[i] wi
  have si : (ws.set i (ws[i] + q))[i]? = some (ws[i] + q) := List.getElem?_set_self hi
  have gi' := gdr i _ si
  have le3 := lless (c2 _ (List.mem_of_getElem? si)) (c1 i _ wi) wf3
  rw [decide_eq_false (show ¬ mx (ws[i] + q + 1 - v') < mx (ws[i] + 1 - v) by
    have := mx_mono (x := ws[i] + 1 - v) (y := ws[i] + q + 1 - v') (by grind)
    grind)] at le3
  have lmc := lcL_map (gd := fun _ => True) (gg := gtName 9) (ge := gAndV (gOp oNe (gVar 9) (gVar 4)) (gCall m__law_less (gACons (gOp oIx (gVar 3) (gVar 9)) (gACons (gOp oIx (gVar 8) (gVar 9)) (gANil))))) (δ := [some (.ref k), some (.tup (ws.map fD)), some (fD v), some (.tup ((ws.map fun w => mx (w + 1 - v)).map fD)), some (.int (i : Int)), some (fD q), some (.tup ((ws.set i (ws[i] + q)).map fD)), some (fD v'), some (.tup (((ws.set i (ws[i] + q)).map fun w => mx (w + 1 - v')).map fD)), none]) (M := M3) (em := fun (j : Nat) => D.int (j : Int)) (f := fun _ => D.bl false) trivial (List.range ws.length) [] (by simp; omega) (fun j hj => ⟨[some (.ref k), some (.tup (ws.map fD)), some (fD v), some (.tup ((ws.map fun w => mx (w + 1 - v)).map fD)), some (.int (i : Int)), some (fD q), some (.tup ((ws.set i (ws[i] + q)).map fD)), some (fD v'), some (.tup (((ws.set i (ws[i] + q)).map fun w => mx (w + 1 - v')).map fD)), some (.int (j : Int))], rfl, by
    have hj' : j < ws.length := List.mem_range.mp hj
    by_cases c : j = i
    · subst c
      have ne : oNe (.int (j : Int)) (.int (j : Int)) M3 = .ok (.bl false) M3 := by rw [oNe_int]; simp
      simp only [s_gAndV, s_gOp, s_gVar, List.getElem?_cons_zero, List.getElem?_cons_succ, KM.R.bind_ok, ne]
    · have ne : oNe (.int (j : Int)) (.int (i : Int)) M3 = .ok (.bl true) M3 := by
        rw [oNe_int]
        have : ((j : Int) == (i : Int)) = false := by
          rw [beq_eq_false_iff_ne]
          omega
        rw [this]
        rfl
      have wj : ws[j]? = some ws[j] := List.getElem?_eq_getElem hj'
      have sj : (ws.set i (ws[i] + q))[j]? = some ws[j] := by rw [List.getElem?_set_ne (Ne.symm c)]; exact wj
      have g1 := gch j _ wj
      have g2 := gdr j _ sj
      have ll := lless (c1 j _ wj) (c2 _ (List.mem_of_getElem? sj)) wf3
      rw [decide_eq_false (show ¬ mx (ws[j] + 1 - v) < mx (ws[j] + 1 - v') by
        have := mx_mono (x := ws[j] + 1 - v') (y := ws[j] + 1 - v) (by grind)
        grind)] at ll
      simp only [s_gAndV, s_gOp, s_gVar, List.getElem?_cons_zero, List.getElem?_cons_succ, KM.R.bind_ok, ne, s_gCall, s_gACons, s_gANil, g1, g2, ll]⟩)
  rw [List.nil_append, ← rngD_map] at lmc
  have an := oAny_f (xs := List.range ws.length) M3
  refine ⟨M3, ?_, N⟩
  have ln : oLen [.tup (ws.map fD)] M = .ok (.int (ws.length : Int)) M := by rw [s_oLen_tup, List.length_map]
  have ln3 : oLen [.tup (ws.map fD)] M3 = .ok (.int (ws.length : Int)) M3 := by rw [s_oLen_tup, List.length_map]
  have b3 : bigN [D.int 1, D.int 3, D.int 10].length := by unfold bigN; simp
  have b1' : ∀ x : D, bigN [x].length := fun x => by unfold bigN; simp
  have b2' : ∀ x y : D, bigN [x, y].length := fun x y => by unfold bigN; simp
  have iw := ixF wi M3
  have sl1 : oSl (.tup (ws.map fD)) none (some (i : Int)) M3 = .ok (.tup ((ws.take i).map fD)) M3 := by
    show KM.R.ok (D.tup (cutD (ws.map fD) none (some (i : Int)))) M3 = _
    rw [cut_take, List.map_take]
  have sl2 : oSl (.tup (ws.map fD)) (some ((i : Int) + 1)) none M3 = .ok (.tup ((ws.drop (i + 1)).map fD)) M3 := by
    show KM.R.ok (D.tup (cutD (ws.map fD) (some ((i : Int) + 1)) none)) M3 = _
    rw [show (i : Int) + 1 = ((i + 1 : Nat) : Int) by omega, cut_drop, List.map_drop]
  have ad1 : oAdd (.tup ((ws.take i).map fD)) (.tup [fD (ws[i] + q)]) M3 = .ok (.tup ((ws.take i).map fD ++ [fD (ws[i] + q)])) M3 := by
    unfold oAdd
    simp only
    rw [if_pos (by unfold bigN; simp; omega)]
  have ad2 : oAdd (.tup ((ws.take i).map fD ++ [fD (ws[i] + q)])) (.tup ((ws.drop (i + 1)).map fD)) M3 = .ok (.tup ((ws.set i (ws[i] + q)).map fD)) M3 := by
    unfold oAdd
    simp only
    rw [if_pos (by unfold bigN; simp; omega), set_split _ _ _ hi, List.map_append, List.map_append]
    rfl
  have rb : rngB (ws.length : Int) := rngB_ok (by omega) (by omega)
  have st : startD 10 [.ref k, .tup (ws.map fD), fD v, .tup ((ws.map fun w => mx (w + 1 - v)).map fD)] = [some (.ref k), some (.tup (ws.map fD)), some (fD v), some (.tup ((ws.map fun w => mx (w + 1 - v)).map fD)), none, none, none, none, none, none] := rfl
  have qq : g__law_raised_right (startD 10 [.ref k, .tup (ws.map fD), fD v, .tup ((ws.map fun w => mx (w + 1 - v)).map fD)]) M = .rt (.bl true) M3 := by
    rw [st]
    simp only [g__law_raised_right, s_gSeq, s_gSet, s_gCall, s_gACons, s_gANil, s_gVar, List.getElem?_cons_zero, List.getElem?_cons_succ, KM.R.bind_ok, ln, e1, KM.R.toS_ok, List.set, SR.then_nx, s_gOp, s_gC, e2, s_addI, s_gLst, if_pos b3, e3, e4,
      s_gSl, s_gNoP, s_gP, sl1, iw, e5, s_gETup, if_pos (b1' _), ad1, sl2, ad2, s_gAsg, l1, l3, if_pos (b2' _ _)]
    simp only [s_gtTup, List.length_cons, List.length_nil, if_true, s_gtCons, s_gtName, s_gtNil, List.set, SR.then_nx, s_gSeq, s_gIf, s_gOr, s_gTru, s_gCall, s_gACons, s_gANil, s_gVar, List.getElem?_cons_zero, List.getElem?_cons_succ, KM.R.bind_ok, le1, s_trB, Bool.false_eq_true, if_false, e6, le2, s_gOp, gi', gi, le3, KM.R.toS_ok, s_gNext, s_gRet, s_gNotV, s_gLcG, s_giRng1, ln3, if_pos rb, s_itT, s_itTg, Int.toNat_natCast, wipeD]
    simp only [wipeD, List.set, lmc, KM.R.bind_ok, finI, an, KM.R.toS_ok, Bool.not_false]
  have e9 : m__law_raised_right [.ref k, .tup (ws.map fD), fD v, .tup ((ws.map fun w => mx (w + 1 - v)).map fD)] M = cutR M.length (fnM 10 g__law_raised_right [.ref k, .tup (ws.map fD), fD v, .tup ((ws.map fun w => mx (w + 1 - v)).map fD)] M) := rfl
  rw [e9]
  unfold fnM
  rw [qq]
  exact cut_wf N.len N.wf rfl
end
end K11
set_option linter.all false
set_option maxRecDepth 100000
set_option maxHeartbeats 4000000
namespace K11
open PySem L2 KM LV
section
variable {M : List MO} {k : Nat}
theorem low_eq (wf : WF M) {ws : List Rat} (h2 : 2 ≤ ws.length) (h4 : ws.length ≤ 4) (hw : ∀ w ∈ ws, Bnd 420 20 w) {v : Rat} (fv : Fv ws v = 1) (hv : Bnd 5040 21 v)
    (hl : ∀ {M : List MO}, WF M → m_level [.tup (ws.map fD)] M = .ok (fD v) M ∧ m_even_lot [.tup (ws.map fD)] M = .ok (.tup ((lotFrom 0 ws v).map D.int)) M ∧ m_filled [.tup (ws.map fD)] M = .ok (.tup ((ws.map fun w => mx (w + 1 - v)).map fD)) M) :
    m__law_low_right [.tup (ws.map fD), fD v] M = .ok (.bl true) M := by
  have ln : oLen [.tup (ws.map fD)] M = .ok (.int (ws.length : Int)) M := by rw [s_oLen_tup, List.length_map]
  have st : startD 4 [.tup (ws.map fD), fD v] = [some (.tup (ws.map fD)), some (fD v), none, none] := rfl
  have e9 : m__law_low_right [.tup (ws.map fD), fD v] M = cutR M.length (fnM 4 g__law_low_right [.tup (ws.map fD), fD v] M) := rfl
  have qq : g__law_low_right (startD 4 [.tup (ws.map fD), fD v]) M = .rt (.bl true) M := by
    rw [st]
    by_cases c : ws.length = 4
    · have eq4 : oEq (.int (ws.length : Int)) (.int 4) M = .ok (.bl true) M := by rw [c, oEq_int]; rfl
      simp only [g__law_low_right, s_gSeq, s_gIf, s_gTest, s_gOp, s_gCall, s_gACons, s_gANil, s_gVar, s_gC, List.getElem?_cons_zero, KM.R.bind_ok, ln, eq4, KM.R.toS_ok, if_true, s_gRet, SR.then_rt]
    · have eq4 : oEq (.int (ws.length : Int)) (.int 4) M = .ok (.bl false) M := by
        rw [oEq_int]
        have : ((ws.length : Int) == 4) = false := by rw [beq_eq_false_iff_ne]; omega
        rw [this]
      have sv : Sm v := hv.sm' (by decide) (by decide) (by decide)
      have s1 : Sm (1 : Rat) := (Bnd.one (L := 1) (A := 1) (Nat.le_refl 1)).sm' (by decide) (by decide) (by decide)
      have e1 := lminus sv s1 wf
      have e1' : m__law_minus [fD v, .tup [.int 1, .int 1]] M = .ok (fD (v - 1)) M := e1
      have hlow : Bnd 5040 22 (v - 1) := by
        have h := Bnd.add (by decide) hv (Bnd.one (L := 5040) (A := 1) (Nat.le_refl 1)).neg
        have e : v + -1 = v - 1 := by grind
        rw [e] at h
        exact h
      have hw2 : ∀ x ∈ ws ++ [v - 1], Bnd 5040 22 x := fun x hx => by
        rcases List.mem_append.mp hx with h | h
        · exact (hw x h).up (by decide) (by decide)
        · rw [List.mem_singleton.mp h]; exact hlow
      obtain ⟨v', fv', _, ev⟩ := lvl (by decide) (by decide) (by decide) (ws := ws ++ [v - 1]) (by simp; omega) (by simp; omega) hw2
      have fapp : Fv (ws ++ [v - 1]) v = 1 := by
        rw [Fv_app, fv]
        have : mx (v - 1 + 1 - v) = 0 := by unfold mx; grind
        rw [this]
        grind
      have evv : v' = v := Fv_uniq fv' fapp
      subst evv
      obtain ⟨l1, l2, l3⟩ := ev wf
      obtain ⟨k1, k2, k3⟩ := hl wf
      rw [lotFrom_app (show ¬ v' < v' - 1 + 1 by grind)] at l2
      have em : ((ws ++ [v' - 1]).map fun w => mx (w + 1 - v')).map fD = (ws.map fun w => mx (w + 1 - v')).map fD ++ [.tup [.int 0, .int 1]] := by
        rw [List.map_append, List.map_append]
        have : mx (v' - 1 + 1 - v') = 0 := by unfold mx; grind
        show _ ++ [fD (mx (v' - 1 + 1 - v'))] = _
        rw [this]
        rfl
      have b1' : ∀ x : D, bigN [x].length := fun x => by unfold bigN; simp
      have b2' : ∀ x y : D, bigN [x, y].length := fun x y => by unfold bigN; simp
      have ad : oAdd (.tup (ws.map fD)) (.tup [fD (v' - 1)]) M = .ok (.tup ((ws ++ [v' - 1]).map fD)) M := by
        unfold oAdd
        simp only
        rw [if_pos (by unfold bigN; simp; omega), List.map_append]
        rfl
      have ad2 : oAdd (.tup ((ws.map fun w => mx (w + 1 - v')).map fD)) (.tup [.tup [.int 0, .int 1]]) M = .ok (.tup (((ws ++ [v' - 1]).map fun w => mx (w + 1 - v')).map fD)) M := by
        rw [em]
        unfold oAdd
        simp only
        rw [if_pos (by unfold bigN; simp; omega)]
      have sm1 := same_f v' wf
      have sm2 := same_fs ((ws ++ [v' - 1]).map fun w => mx (w + 1 - v')) wf
      have sm3 := same_is (lotFrom 0 ws v') wf
      simp only [g__law_low_right, s_gSeq, s_gIf, s_gTest, s_gOp, s_gCall, s_gACons, s_gANil, s_gVar, s_gC, List.getElem?_cons_zero, List.getElem?_cons_succ, KM.R.bind_ok, ln, eq4, KM.R.toS_ok, Bool.false_eq_true, if_false, s_gNext, SR.then_nx, s_gSet, s_gETup, if_pos (b2' _ _), e1', List.set, if_pos (b1' _), ad, s_gOr, s_gNot, s_gTru, l1, sm1, s_trB, Bool.not_true, l3, k3, ad2, sm2, s_gRet, l2, k2, sm3]
  rw [e9]
  unfold fnM
  rw [qq]
  exact cut_same wf rfl
theorem zip_map_D : ∀ (ws os : List Rat), zipD (ws.map fD) (os.map fD) = (ws.zip os).map fun z => D.tup [fD z.1, fD z.2]
  | [], _ => by simp [zipD]
  | _ :: _, [] => by simp [zipD]
  | w :: ws, o :: os => by
    show D.tup [fD w, fD o] :: zipD (ws.map fD) (os.map fD) = _
    rw [zip_map_D ws os]
    rfl
def half : Rat := ⟨1, 2, by decide, by decide⟩
def third : Rat := ⟨1, 3, by decide, by decide⟩
def nine : Rat := ⟨9, 10, by decide, by decide⟩
theorem part_ok {p : Rat} (h : p = half ∨ p = third ∨ p = nine) : Bnd 30 1 p ∧ 0 ≤ p ∧ 0 ≤ 1 - p := by
  rcases h with rfl | rfl | rfl
  · exact ⟨⟨by decide, by decide⟩, by decide +kernel, by decide +kernel⟩
  · exact ⟨⟨by decide, by decide⟩, by decide +kernel, by decide +kernel⟩
  · exact ⟨⟨by decide, by decide⟩, by decide +kernel, by decide +kernel⟩
theorem Bnd.mul {L A L' A' : Nat} {p q : Rat} (hp : Bnd L A p) (hq : Bnd L' A' q) : Bnd (L * L') (A * A') (p * q) := by
  rw [mul_eq]
  have h0 : p.den * q.den ≠ 0 := dd_ne p q
  refine ⟨Nat.dvd_trans (divInt_dvd h0) (Nat.mul_dvd_mul hp.den hq.den), divInt_num h0 ?_⟩
  rw [Int.natAbs_mul]
  calc p.num.natAbs * q.num.natAbs ≤ (A * p.den) * (A' * q.den) := Nat.mul_le_mul hp.num hq.num
    _ = A * A' * (p.den * q.den) := by rw [Nat.mul_mul_mul_comm]
end
end K11
set_option linter.all false
set_option maxRecDepth 100000
set_option maxHeartbeats 4000000
namespace K11
open PySem L2 KM LV
section
variable {M : List MO} {k : Nat}
theorem mix_right_eq (wf : WF M) (w : Hat k M) {ws : List Rat} (h2 : 2 ≤ ws.length) (h4 : ws.length ≤ 4) (hw : ∀ w ∈ ws, Bnd 420 20 w) {v : Rat} (fv : Fv ws v = 1) (hv : Bnd 5040 21 v) :
    ∃ M', m__law_mix_right [.ref k, .tup (ws.map fD), fD v] M = .ok (.bl true) M' ∧ Hx k M M' := by
  obtain ⟨os, M1, e1, n1, ol, ob⟩ := worths_comp (k := k) (gi := gtName 4) (δ := [some (.ref k), some (.tup (ws.map fD)), some (fD v), none, none, none, none, none, none]) (ge := gCall m__law_worth (gACons (gVar 0) (gANil))) (fun _ => True) (fun d M _ => ⟨[some (.ref k), some (.tup (ws.map fD)), some (fD v), none, some d, none, none, none, none], rfl, rfl⟩) (ws.map fD) [] M wf w (fun _ _ => trivial) (by simp; omega) (fun q hq => by cases hq)
  rw [List.length_nil, List.length_map, Nat.zero_add] at ol
  rw [List.map_nil] at e1
  obtain ⟨d, M2, e2, hd, n2⟩ := any_eq n1.wf n1.hat (xs := [.tup [.int 1, .int 2], .tup [.int 1, .int 3], .tup [.int 9, .int 10]]) (by simp) (by simp) (fun x hx => by
    simp only [List.mem_cons, List.not_mem_nil, or_false] at hx
    rcases hx with rfl | rfl | rfl <;> rfl)
  obtain ⟨p, rfl, hp⟩ : ∃ p : Rat, d = fD p ∧ (p = half ∨ p = third ∨ p = nine) := by
    simp only [List.mem_cons, List.not_mem_nil, or_false] at hd
    rcases hd with rfl | rfl | rfl
    · exact ⟨half, rfl, .inl rfl⟩
    · exact ⟨third, rfl, .inr (.inl rfl)⟩
    · exact ⟨nine, rfl, .inr (.inr rfl)⟩
  obtain ⟨pb, p0, r0⟩ := part_ok hp
  have N := n1.trans n2
  have wf2 := n2.wf
  have s1 : Sm (1 : Rat) := (Bnd.one (L := 1) (A := 1) (Nat.le_refl 1)).sm' (by decide) (by decide) (by decide)
  have sp : Sm p := pb.sm' (by decide) (by decide) (by decide)
  have e3 := lminus s1 sp wf2
  have e3' : m__law_minus [.tup [.int 1, .int 1], fD p] M2 = .ok (fD (1 - p)) M2 := e3
  have rbd : Bnd 30 2 (1 - p) := by
    have h := Bnd.add (L := 30) (A := 1) (A' := 1) (by decide) (Bnd.one (Nat.le_refl 1)) pb.neg
    have e : 1 + -p = 1 - p := by grind
    rw [e] at h
    exact h
  have sr : Sm (1 - p) := rbd.sm' (by decide) (by decide) (by decide)
  have zb : ∀ z ∈ ws.zip os, Bnd 12600 40 ((1 - p) * z.1) ∧ Bnd 12600 20 (p * z.2) := fun z hz => by
    have q1 := hw z.1 (List.of_mem_zip hz).1
    have q2 := ob z.2 (List.of_mem_zip hz).2
    exact ⟨Bnd.mul rbd q1, (Bnd.mul pb q2)⟩
  have lmz := lcL_map (gd := fun _ => True) (gg := gtTup 2 (gtCons (gtName 4) (gtCons (gtName 8) (gtNil)))) (ge := gCall m__law_plus (gACons (gCall m__law_times (gACons (gVar 6) (gACons (gVar 4) (gANil)))) (gACons (gCall m__law_times (gACons (gVar 5) (gACons (gVar 8) (gANil)))) (gANil)))) (δ := [some (.ref k), some (.tup (ws.map fD)), some (fD v), some (.tup (os.map fD)), none, some (fD p), some (fD (1 - p)), none, none]) (M := M2) (em := fun z : Rat × Rat => D.tup [fD z.1, fD z.2]) (f := fun z => fD ((1 - p) * z.1 + p * z.2)) trivial (ws.zip os) [] (by simp; omega) (fun z hz => ⟨[some (.ref k), some (.tup (ws.map fD)), some (fD v), some (.tup (os.map fD)), some (fD z.1), some (fD p), some (fD (1 - p)), none, some (fD z.2)], rfl, by
    have q1 := (hw z.1 (List.of_mem_zip hz).1).sm' (by decide) (by decide) (by decide)
    have q2 := (ob z.2 (List.of_mem_zip hz).2).sm' (by decide) (by decide) (by decide)
    have t1 := ltimes sr q1 wf2
    have t2 := ltimes sp q2 wf2
    have t3 := lplus ((zb z hz).1.sm' (by decide) (by decide) (by decide)) ((zb z hz).2.sm' (by decide) (by decide) (by decide)) wf2
    simp only [s_gCall, s_gACons, s_gVar, s_gANil, List.getElem?_cons_zero, List.getElem?_cons_succ, KM.R.bind_ok, t1, t2, t3]⟩)
  rw [List.nil_append, ← zip_map_D] at lmz
  have em : ((ws.zip os).map fun z => fD ((1 - p) * z.1 + p * z.2)) = (mixW (1 - p) p ws os).map fD := by
    unfold mixW
    rw [List.map_map]
    rfl
  rw [em] at lmz
  have ml : (mixW (1 - p) p ws os).length = ws.length := by
    unfold mixW
    rw [List.length_map, List.length_zip, ol, Nat.min_self]
  have mb : ∀ x ∈ mixW (1 - p) p ws os, Bnd 12600 60 x := fun x hx => by
    obtain ⟨z, hz, rfl⟩ := List.mem_map.mp hx
    exact Bnd.add (by decide) (zb z hz).1 (zb z hz).2
  obtain ⟨vm, fvm, hvm, evm⟩ := lvl (by decide) (by decide) (by decide) (ws := mixW (1 - p) p ws os) (by omega) (by omega) mb
  obtain ⟨u, fu, hu, eu⟩ := lvl (by decide) (by decide) (by decide) (ws := os) (by omega) (by omega) ob
  obtain ⟨l1, _, _⟩ := evm wf2
  obtain ⟨l2, _, _⟩ := eu wf2
  have hu' : Bnd 5040 21 u := hu
  have bt : Bnd 151200 42 ((1 - p) * v) := Bnd.mul rbd hv
  have bu : Bnd 151200 21 (p * u) := Bnd.mul pb hu'
  have t1 := ltimes sr (hv.sm' (by decide) (by decide) (by decide)) wf2
  have t2 := ltimes sp (hu'.sm' (by decide) (by decide) (by decide)) wf2
  have t3 := lplus (bt.sm' (by decide) (by decide) (by decide)) (bu.sm' (by decide) (by decide) (by decide)) wf2
  have bs : Bnd 151200 63 ((1 - p) * v + p * u) := Bnd.add (by decide) bt bu
  have fm := Fv_mix (v := v) (u := u) (r := 1 - p) (p := p) r0 p0 (by grind) ws os ol.symm
  rw [fv, fu] at fm
  have le : vm ≤ (1 - p) * v + p * u := root_le fvm (by grind)
  have ll := lless (bs.sm' (by decide) (by decide) (by decide)) (hvm.sm' (by decide) (by decide) (by decide)) wf2
  rw [decide_eq_false (show ¬ (1 - p) * v + p * u < vm by
    generalize (1 - p) * v + p * u = x at le
    grind)] at ll
  refine ⟨M2, ?_, N⟩
  have b2 : ∀ x y : D, bigN [x, y].length := fun x y => by unfold bigN; simp
  have b3 : ∀ x y z : D, bigN [x, y, z].length := fun x y z => by unfold bigN; simp
  have tp : ∀ (xs : List Rat) (M' : List MO), oTuple [.lst (xs.map fD)] M' = .ok (.tup (xs.map fD)) M' := fun _ _ => rfl
  have gz : giZip (gACons (gVar 1) (gACons (gVar 3) gANil)) [some (.ref k), some (.tup (ws.map fD)), some (fD v), some (.tup (os.map fD)), none, some (fD p), some (fD (1 - p)), none, none] M2 = .ok (itT (zipD (ws.map fD) (os.map fD))) M2 := rfl
  have st : startD 9 [.ref k, .tup (ws.map fD), fD v] = [some (.ref k), some (.tup (ws.map fD)), some (fD v), none, none, none, none, none, none] := rfl
  have qq : g__law_mix_right (startD 9 [.ref k, .tup (ws.map fD), fD v]) M = .rt (.bl true) M2 := by
    rw [st]
    simp only [g__law_mix_right, s_gSeq, s_gSet, s_gCall, s_gACons, s_gLcG, s_giSeq, s_gVar, List.getElem?_cons_zero, List.getElem?_cons_succ, KM.R.bind_ok, s_tupOf, s_itT, s_itTg, wipeD]
    have e1' : lcL (fun _ => True) (gtName 4) gYes (gCall m__law_worth (gACons (gVar 0) (gANil))) [some (.ref k), some (.tup (ws.map fD)), some (fD v), none, none, none, none, none, none] (ws.map fD) [] M = .ok (os.map fD) M1 := e1
    simp only [wipeD, List.set, e1', KM.R.bind_ok, finI, s_gANil, tp, KM.R.toS_ok, SR.then_nx, s_gSeq, s_gSet, s_gCall, s_gACons, s_gVar, s_gC, s_gLst, s_gETup, List.getElem?_cons_zero, List.getElem?_cons_succ, if_pos (b2 _ _), if_pos (b3 _ _ _), e2, e3']
    simp only [s_gLcG, gz, KM.R.bind_ok, s_itT, s_itTg, wipeD, List.set, lmz, finI, tp, KM.R.toS_ok, SR.then_nx, s_gRet, s_gNotV, s_gCall, s_gACons, s_gVar, s_gANil, List.getElem?_cons_zero, List.getElem?_cons_succ, t1, l2, t2, t3, l1, ll, Bool.not_false]
  have e9 : m__law_mix_right [.ref k, .tup (ws.map fD), fD v] M = cutR M.length (fnM 9 g__law_mix_right [.ref k, .tup (ws.map fD), fD v] M) := rfl
  rw [e9]
  unfold fnM
  rw [qq]
  exact cut_wf N.len N.wf rfl
end
end K11
set_option linter.all false
set_option maxRecDepth 100000
set_option maxHeartbeats 8000000
namespace K11
open PySem L2 KM LV
theorem cut_hat {k n : Nat} {M M' : List MO} (hn : M.length = n) (wf : WF M) (hl : n ≤ M'.length) (ho : ∀ j, j < n → j ≠ k → M'[j]? = M[j]?) (hk : k < n) (hh : Hat k M') : cutR n (.ok (.bl true) M') = .ok (.bl true) (M'.take n) ∧ Hx k M (M'.take n) := by
  subst hn
  have hat' : Hat k (M'.take M.length) := by
    obtain ⟨a, b, h0, h1, h2⟩ := hh
    exact ⟨a, b, h0, h1, by rw [List.getElem?_take, if_pos hk]; exact h2⟩
  have hall : (M'.take M.length).all (MO.lo M.length) = true := by
    refine List.all_eq_true.mpr fun x hx => ?_
    obtain ⟨j, hj⟩ := List.getElem?_of_mem hx
    have hjl : j < M.length := by
      have := (List.getElem?_eq_some_iff.mp hj).1
      rw [List.length_take] at this
      omega
    by_cases c : j = k
    · subst c
      obtain ⟨a, b, _, _, h2⟩ := hat'
      rw [h2] at hj
      cases hj
      rfl
    · rw [List.getElem?_take, if_pos hjl, ho j hjl c] at hj
      exact wf.at hj
  have hlen : (M'.take M.length).length = M.length := by rw [List.length_take]; omega
  refine ⟨?_, hlen, fun j hj => ?_, hat', ?_⟩
  · show (if (true && (M'.take M.length).all (MO.lo M.length)) = true then KM.R.ok (D.bl true) (M'.take M.length) else KM.R.bad) = _
    rw [hall]
    rfl
  · by_cases c : j < M.length
    · rw [List.getElem?_take, if_pos c]; exact ho j c hj
    · rw [List.getElem?_eq_none_iff.mpr (by omega), List.getElem?_eq_none_iff.mpr (by omega)]
  · show (M'.take M.length).all (MO.lo (M'.take M.length).length) = true
    rw [hlen]
    exact hall
section
variable {M : List MO} {k : Nat}
theorem one_eq (wf : WF M) (w : Hat k M) : ∃ M', m__law_one [.ref k] M = .ok (.bl true) M' ∧ Hx k M M' := by
  have hk : k < M.length := by
    obtain ⟨a, b, _, _, h⟩ := w
    exact (List.getElem?_eq_some_iff.mp h).1
  obtain ⟨t, M1, e1, a1, b1, n1⟩ := draw_eq wf w (many := 3) (by decide) (by decide)
  obtain ⟨ws, M2, e2, n2, wl, wb⟩ := worths_comp (k := k) (gi := gtName 2) (δ := [some (.ref k), none, none, none, none, none, none, none, none, none, none, none, none]) (ge := gCall m__law_worth (gACons (gVar 0) (gANil))) (fun _ => True) (fun d M _ => ⟨[some (.ref k), none, some d, none, none, none, none, none, none, none, none, none, none], rfl, rfl⟩) (rngD 0 (2 + t).toNat) [] M1 n1.wf n1.hat (fun _ _ => trivial) (by simp [rngD]; omega) (fun q hq => by cases hq)
  have wl' : ws.length = (2 + t).toNat := by rw [wl]; simp [rngD]
  have h2 : 2 ≤ ws.length := by omega
  have h4 : ws.length ≤ 4 := by omega
  obtain ⟨v, fv, hv, ev⟩ := lvl (by decide) (by decide) (by decide) h2 h4 wb
  have hv' : Bnd 5040 21 v := hv
  obtain ⟨l1, l2, l3⟩ := ev n2.wf
  have lf := lfrac (hv'.sm' (by decide) (by decide) (by decide)) n2.wf
  have csm : ∀ c ∈ ws.map (fun w => mx (w + 1 - v)), Sm c := fun c hc => by
    obtain ⟨x, hx, rfl⟩ := List.mem_map.mp hc
    exact chance_sm ((wb x hx).up (Nat.dvd_refl _) (by decide)) (hv'.up (Nat.dvd_refl _) (by decide))
  have cl : (ws.map fun w => mx (w + 1 - v)).length = ws.length := List.length_map ..
  generalize hcs : (ws.map fun w => mx (w + 1 - v)) = cs at l3 csm cl
  have lmf := lcL_map (gd := fun _ => True) (gg := gtName 6) (ge := gCall m__law_is_fraction (gACons (gVar 6) (gANil))) (δ := [some (.ref k), some (.tup (ws.map fD)), none, some (fD v), some (.tup (cs.map fD)), some (.tup ((lotFrom 0 ws v).map D.int)), none, none, none, none, none, none, none]) (M := M2) (em := fD) (f := fun _ => D.bl true) trivial cs [] (by simp; omega) (fun c hc => ⟨[some (.ref k), some (.tup (ws.map fD)), none, some (fD v), some (.tup (cs.map fD)), some (.tup ((lotFrom 0 ws v).map D.int)), some (fD c), none, none, none, none, none, none], rfl, by
    have := lfrac (csm c hc) n2.wf
    simp only [s_gCall, s_gACons, s_gVar, s_gANil, List.getElem?_cons_zero, List.getElem?_cons_succ, KM.R.bind_ok, this]⟩)
  rw [List.nil_append] at lmf
  have al := oAll_map (fun _ : Rat => true) cs M2
  have at_ : (cs.map fun _ => true).all id = true := by simp
  rw [at_] at al
  obtain ⟨q, M3, e3, qb, n3⟩ := worth_eq n2.wf n2.hat
  have wf3 := n3.wf
  have lmr := lcL_map (gd := fun _ => True) (gg := gtName 9) (ge := gCall m__law_plus (gACons (gVar 9) (gACons (gVar 7) (gANil)))) (δ := [some (.ref k), some (.tup (ws.map fD)), none, some (fD v), some (.tup (cs.map fD)), some (.tup ((lotFrom 0 ws v).map D.int)), none, some (fD q), none, none, none, none, none]) (M := M3) (em := fD) (f := fun x => fD (x + q)) trivial ws [] (by simp; omega) (fun x hx => ⟨[some (.ref k), some (.tup (ws.map fD)), none, some (fD v), some (.tup (cs.map fD)), some (.tup ((lotFrom 0 ws v).map D.int)), none, some (fD q), none, some (fD x), none, none, none], rfl, by
    have := lplus ((wb x hx).sm' (by decide) (by decide) (by decide)) (qb.sm' (by decide) (by decide) (by decide)) wf3
    simp only [s_gCall, s_gACons, s_gVar, s_gANil, List.getElem?_cons_zero, List.getElem?_cons_succ, KM.R.bind_ok, this]⟩)
  rw [List.nil_append] at lmr
  have emr : (ws.map fun x => fD (x + q)) = (ws.map fun x => x + q).map fD := by rw [List.map_map]; rfl
  rw [emr] at lmr
  obtain ⟨v2, fv2, _, ev2⟩ := lvl (L := 420) (A := 40) (by decide) (by decide) (by decide) (ws := ws.map fun x => x + q) (by rw [List.length_map]; exact h2) (by rw [List.length_map]; exact h4) (fun x hx => by
    obtain ⟨y, hy, rfl⟩ := List.mem_map.mp hx
    exact Bnd.add (by decide) (wb y hy) qb)
  have evq : v2 = v + q := Fv_uniq fv2 (by rw [Fv_add]; exact fv)
  subst evq
  obtain ⟨r1, r2, r3⟩ := ev2 wf3
  rw [lotFrom_add] at r2
  have er3 : ((ws.map fun x => x + q).map fun w => mx (w + 1 - (v + q))) = cs := by
    rw [← hcs, List.map_map]
    refine List.map_congr_left fun x _ => ?_
    show mx (x + q + 1 - (v + q)) = mx (x + 1 - v)
    congr 1
    grind
  rw [er3] at r3
  have pl := lplus (hv'.sm' (by decide) (by decide) (by decide)) (qb.sm' (by decide) (by decide) (by decide)) wf3
  have sa1 := same_f (v + q) wf3
  have sa2 := same_fs cs wf3
  have sa3 := same_is (lotFrom 0 ws v) wf3
  obtain ⟨od, M4, e4, op, wf4, h4', hF, ml4, mo4⟩ := order_eq h4 wf3 n3.hat
  have lo4 := s_listOf_ref M4 hF
  have odl : od.length = ws.length := by rw [op.length_eq, List.length_range]
  have odm : ∀ i ∈ od, i < ws.length := fun i hi => List.mem_range.mp (op.mem_iff.mp hi)
  have lmt := lcL_map (gd := gdOf (.ref (M3.length + 1)) (od.map nD)) (gg := gtName 12) (ge := gOp oIx (gVar 1) (gVar 12)) (δ := [some (.ref k), some (.tup (ws.map fD)), none, some (fD v), some (.tup (cs.map fD)), some (.tup ((lotFrom 0 ws v).map D.int)), none, some (fD q), some (.tup ((ws.map fun x => x + q).map fD)), none, some (.ref (M3.length + 1)), none, none]) (M := M4) (em := nD) (f := fun i => fD (ws.getD i 0)) hF od [] (by simp; omega) (fun i hi => ⟨[some (.ref k), some (.tup (ws.map fD)), none, some (fD v), some (.tup (cs.map fD)), some (.tup ((lotFrom 0 ws v).map D.int)), none, some (fD q), some (.tup ((ws.map fun x => x + q).map fD)), none, some (.ref (M3.length + 1)), none, some (nD i)], rfl, by
    have hil := odm i hi
    have := ixF (qs := ws) (i := i) (q := ws.getD i 0) (by rw [List.getD_eq_getElem?_getD, List.getElem?_eq_getElem hil]; rfl) M4
    simp only [s_gOp, s_gVar, List.getElem?_cons_zero, List.getElem?_cons_succ, KM.R.bind_ok, this]⟩)
  rw [List.nil_append] at lmt
  have emt : (od.map fun i => fD (ws.getD i 0)) = (od.map fun i => ws.getD i 0).map fD := by rw [List.map_map]; rfl
  rw [emt] at lmt
  have up : (od.map fun i => ws.getD i 0).Perm ws := by
    have h := op.map fun i => ws.getD i 0
    have e : (List.range ws.length).map (fun i => ws.getD i 0) = ws := by
      refine List.ext_getElem? fun i => ?_
      rw [List.getElem?_map]
      by_cases c : i < ws.length
      · rw [List.getElem?_range c, List.getElem?_eq_getElem c, Option.map_some, List.getD_eq_getElem?_getD, List.getElem?_eq_getElem c]
        rfl
      · rw [List.getElem?_eq_none_iff.mpr (by rw [List.length_range]; omega), List.getElem?_eq_none_iff.mpr (by omega)]
        rfl
    rw [e] at h
    exact h
  obtain ⟨v3, fv3, _, ev3⟩ := lvl (L := 420) (A := 20) (by decide) (by decide) (by decide) (ws := od.map fun i => ws.getD i 0) (by rw [List.length_map]; omega) (by rw [List.length_map]; omega) (fun x hx => wb x (up.mem_iff.mp hx))
  have evt : v3 = v := Fv_uniq fv3 (by rw [Fv_perm up]; exact fv)
  subst evt
  obtain ⟨t1, _, t3⟩ := ev3 wf4
  have et3 : ((od.map fun i => ws.getD i 0).map fun w => mx (w + 1 - v3)) = od.map fun i => cs.getD i 0 := by
    rw [List.map_map]
    refine List.map_congr_left fun i hi => ?_
    have hil := odm i hi
    show mx (ws.getD i 0 + 1 - v3) = cs.getD i 0
    rw [← hcs, List.getD_eq_getElem?_getD, List.getD_eq_getElem?_getD, List.getElem?_map, List.getElem?_eq_getElem hil]
    rfl
  rw [et3] at t3
  have lmc := lcL_map (gd := gdOf (.ref (M3.length + 1)) (od.map nD)) (gg := gtName 12) (ge := gOp oIx (gVar 4) (gVar 12)) (δ := [some (.ref k), some (.tup (ws.map fD)), none, some (fD v3), some (.tup (cs.map fD)), some (.tup ((lotFrom 0 ws v3).map D.int)), none, some (fD q), some (.tup ((ws.map fun x => x + q).map fD)), none, some (.ref (M3.length + 1)), some (.tup ((od.map fun i => ws.getD i 0).map fD)), none]) (M := M4) (em := nD) (f := fun i => fD (cs.getD i 0)) hF od [] (by simp; omega) (fun i hi => ⟨[some (.ref k), some (.tup (ws.map fD)), none, some (fD v3), some (.tup (cs.map fD)), some (.tup ((lotFrom 0 ws v3).map D.int)), none, some (fD q), some (.tup ((ws.map fun x => x + q).map fD)), none, some (.ref (M3.length + 1)), some (.tup ((od.map fun i => ws.getD i 0).map fD)), some (nD i)], rfl, by
    have hil : i < cs.length := by rw [cl]; exact odm i hi
    have := ixF (qs := cs) (i := i) (q := cs.getD i 0) (by rw [List.getD_eq_getElem?_getD, List.getElem?_eq_getElem hil]; rfl) M4
    simp only [s_gOp, s_gVar, List.getElem?_cons_zero, List.getElem?_cons_succ, KM.R.bind_ok, this]⟩)
  rw [List.nil_append] at lmc
  have emc : (od.map fun i => fD (cs.getD i 0)) = (od.map fun i => cs.getD i 0).map fD := by rw [List.map_map]; rfl
  rw [emc] at lmc
  have sa4 := same_f v3 wf4
  have sa5 := same_fs (od.map fun i => cs.getD i 0) wf4
  obtain ⟨M5, e5, n5⟩ := raised_eq wf4 h4' h2 h4 wb fv hv'
  rw [hcs] at e5
  have e6 := low_eq n5.wf h2 h4 wb fv hv' ev
  obtain ⟨M6, e7, n6⟩ := mix_right_eq n5.wf n5.hat h2 h4 wb fv hv'
  have N3 := n1.trans (n2.trans n3)
  obtain ⟨c1, c2⟩ := cut_hat (M := M) (M' := M6) rfl wf (by rw [n6.len, n5.len, ml4, N3.len]; omega) (fun j h1 h2 => by
    rw [n6.oth j h2, n5.oth j h2, mo4 j (by rw [N3.len]; exact h1) h2, N3.oth j h2]) hk n6.hat
  refine ⟨_, ?_, c2⟩
  have b3 : ∀ x y z : D, bigN [x, y, z].length := fun x y z => by unfold bigN; simp
  have tp : ∀ (xs : List Rat) (M' : List MO), oTuple [.lst (xs.map fD)] M' = .ok (.tup (xs.map fD)) M' := fun _ _ => rfl
  have rb : rngB (2 + t) := rngB_ok (by omega) (by omega)
  have st : startD 13 [.ref k] = [some (.ref k), none, none, none, none, none, none, none, none, none, none, none, none] := rfl
  have ln3 : oLen [.tup (ws.map fD)] M3 = .ok (.int (ws.length : Int)) M3 := by rw [s_oLen_tup, List.length_map]
  have qq : g__law_one (startD 13 [.ref k]) M = .rt (.bl true) M6 := by
    rw [st]
    rw [List.map_nil] at e2
    simp only [g__law_one, s_gSeq, s_gSet, s_gCall, s_gACons, s_gLcG, s_giRng1, s_gOp, s_gC, s_gVar, s_gANil, List.getElem?_cons_zero, List.getElem?_cons_succ, KM.R.bind_ok, e1, s_addI, if_pos rb, s_itT, s_itTg, wipeD]
    have e2' : lcL (fun _ => True) (gtName 2) gYes (gCall m__law_worth (gACons (gVar 0) (gANil))) [some (.ref k), none, none, none, none, none, none, none, none, none, none, none, none] (rngD 0 (2 + t).toNat) [] M1 = .ok (ws.map fD) M2 := e2
    simp only [wipeD, List.set, e2', KM.R.bind_ok, finI, tp, KM.R.toS_ok, SR.then_nx, s_gSeq, s_gAsg, s_gETup, s_gACons, s_gCall, s_gVar, s_gANil, List.getElem?_cons_zero, List.getElem?_cons_succ, l1, l3, l2, if_pos (b3 _ _ _)]
    simp only [s_gtTup, List.length_cons, List.length_nil, if_true, s_gtCons, s_gtName, s_gtNil, List.set, SR.then_nx, s_gSeq, s_gIf, s_gOr, s_gNot, s_gTru, s_gCall, s_gACons, s_gANil, s_gVar, List.getElem?_cons_zero, List.getElem?_cons_succ, KM.R.bind_ok, lf, s_trB, Bool.not_true, Bool.false_eq_true, if_false, s_gUn, s_isi_tup, s_gLcG, s_giSeq, s_tupOf, s_itT, s_itTg, wipeD]
    simp only [wipeD, List.set, lmf, KM.R.bind_ok, finI, al, s_trB, Bool.not_true, KM.R.toS_ok, Bool.false_eq_true, if_false, s_gNext, SR.then_nx, s_gSeq, s_gSet, s_gCall, s_gACons, s_gVar, s_gANil, List.getElem?_cons_zero, List.getElem?_cons_succ, e3, s_gLcG, s_giSeq, s_tupOf, s_itT, s_itTg]
    simp only [wipeD, List.set, lmr, KM.R.bind_ok, finI, tp, KM.R.toS_ok, SR.then_nx, s_gSeq, s_gIf, s_gOr, s_gNot, s_gTru, s_gCall, s_gACons, s_gVar, s_gANil, List.getElem?_cons_zero, List.getElem?_cons_succ, r1, pl, sa1, s_trB, Bool.not_true, Bool.false_eq_true, if_false, r3, sa2, r2, sa3, s_gNext, s_gSet, ln3, e4]
    simp only [s_gLcG, s_giSeq, s_gVar, List.getElem?_cons_zero, List.getElem?_cons_succ, KM.R.bind_ok, s_tupOf_ref, lo4, wipeD, List.set, lmt, finI, tp, KM.R.toS_ok, SR.then_nx, s_gSeq, s_gIf, s_gOr, s_gNot, s_gTru, s_gCall, s_gACons, s_gANil, t1, sa4, s_trB, Bool.not_true, Bool.false_eq_true, if_false, t3]
    simp only [lmc, KM.R.bind_ok, finI, tp, sa5, s_trB, Bool.not_true, KM.R.toS_ok, Bool.false_eq_true, if_false, s_gNext, SR.then_nx, s_gSeq, s_gIf, s_gOr, s_gNot, s_gTru, s_gCall, s_gACons, s_gVar, s_gANil, List.getElem?_cons_zero, List.getElem?_cons_succ, e5, e6, e7, s_gRet]
  have e9' : m__law_one [.ref k] M = cutR M.length (fnM 13 g__law_one [.ref k] M) := rfl
  rw [e9']
  unfold fnM
  rw [qq]
  exact c1
end
end K11
set_option linter.all false
set_option maxRecDepth 100000
set_option maxHeartbeats 8000000
namespace K11
open PySem L2 KM LV
theorem cp64 : CPowB 10 64 := ⟨⟨by decide, by decide⟩, by decide⟩
theorem cp18 : CPowB 10 18 := ⟨⟨by decide, by decide⟩, by decide⟩
abbrev T64 : Int := 10 ^ 64
theorem p64 (M : List MO) : oPow (.int 10) (.int 64) M = .ok (.int T64) M := by
  rw [s_powI, if_pos cp64]
  rfl
theorem p18 (M : List MO) : oPow (.int 10) (.int 18) M = .ok (.int (10 ^ 18)) M := by
  rw [s_powI, if_pos cp18]
  rfl
theorem cm1 : CMulB T64 T64 := cmul_ok (a := 300) (b := 300) (by decide +kernel) (by decide +kernel) (by decide)
theorem cm2 : CMulB (T64 * T64) T64 := cmul_ok (a := 600) (b := 300) (by decide +kernel) (by decide +kernel) (by decide)
theorem cm3 : CMulB (T64 * T64 * T64) T64 := cmul_ok (a := 900) (b := 300) (by decide +kernel) (by decide +kernel) (by decide)
theorem wide_pos : (0 : Int) < T64 * T64 * T64 * T64 := by decide +kernel
section
variable {M : List MO}
theorem hat_eq (wf : WF M) (c : Int) (i : Nat) : ∃ a b : Int, m__law_hat [.int c, .int (i : Int)] M = .ok (.ref M.length) (M ++ [.lst [.int a, .int b]]) ∧ 0 ≤ a ∧ 0 ≤ b := by
  have wp := wide_pos
  have c1 := cm1
  have c2 := cm2
  have c3 := cm3
  have q1 := p64 M
  have q2 := p18 M
  generalize T64 = T at *
  have cmo : CModB c (T * T * T * T) := cmod_ok wp
  have n0 : 0 ≤ c % (T * T * T * T) := Int.emod_nonneg _ (by omega)
  generalize hn : c % (T * T * T * T) = n at *
  have st : startD 4 [.int c, .int (i : Int)] = [some (.int c), some (.int (i : Int)), none, none] := rfl
  have b2 : ∀ x y : D, bigN [x, y].length := fun x y => by unfold bigN; simp
  by_cases h : (10 : Int) ^ 18 ≤ n
  · have d1 : CModB n 2147483563 := cmod_ok (by decide)
    refine ⟨n, n % 2147483563 + (i : Int), ?_, n0, by have := Int.emod_nonneg n (show (2147483563 : Int) ≠ 0 by decide); omega⟩
    have qq : g__law_hat (startD 4 [.int c, .int (i : Int)]) M = .rt (.ref M.length) (M ++ [.lst [.int n, .int (n % 2147483563 + (i : Int))]]) := by
      rw [st]
      simp only [g__law_hat, s_gSeq, s_gSet, s_gOp, s_gC, KM.R.bind_ok, q1, s_mulI, if_pos c1, if_pos c2, if_pos c3, KM.R.toS_ok, List.set, SR.then_nx, s_gCall, s_gACons, s_gVar, s_gANil, List.getElem?_cons_zero, List.getElem?_cons_succ, s_oInt, s_modI, if_pos cmo, hn, s_gIf, s_gTest, q2, s_geI, decide_eq_true h, if_true, s_gRet, s_gLstM, if_pos d1, s_addI, if_pos (b2 _ _), SR.then_rt]
    unfold m__law_hat fnM
    rw [qq]
  · have d1 : CModB n 2147483647 := cmod_ok (by decide)
    have r0 : 0 ≤ n % 2147483647 := Int.emod_nonneg _ (by decide)
    have c4 : CMulB (n % 2147483647) 48271 := cmul_r (by decide) (by decide)
    have c5 : CMulB 7919 (i : Int) := cmul_l (by decide) (by decide)
    have d2 : CModB (n % 2147483647 * 48271 + 7919 * (i : Int) + 1) 2147483647 := cmod_ok (by decide)
    refine ⟨0, (n % 2147483647 * 48271 + 7919 * (i : Int) + 1) % 2147483647, ?_, Int.le_refl 0, Int.emod_nonneg _ (by decide)⟩
    have qq : g__law_hat (startD 4 [.int c, .int (i : Int)]) M = .rt (.ref M.length) (M ++ [.lst [.int 0, .int ((n % 2147483647 * 48271 + 7919 * (i : Int) + 1) % 2147483647)]]) := by
      rw [st]
      simp only [g__law_hat, s_gSeq, s_gSet, s_gOp, s_gC, KM.R.bind_ok, q1, s_mulI, if_pos c1, if_pos c2, if_pos c3, KM.R.toS_ok, List.set, SR.then_nx, s_gCall, s_gACons, s_gVar, s_gANil, List.getElem?_cons_zero, List.getElem?_cons_succ, s_oInt, s_modI, if_pos cmo, hn, s_gIf, s_gTest, q2, s_geI, decide_eq_false h, Bool.false_eq_true, if_false, s_gNext, s_gRet, s_gLstM, if_pos d1, if_pos c4, if_pos c5, s_addI, if_pos d2, if_pos (b2 _ _)]
    unfold m__law_hat fnM
    rw [qq]
noncomputable abbrev wB : GS := gIf (gNot (gTru (gCall m__law_one (gACons (gCall m__law_hat (gACons (gVar 2) (gACons (gVar 1) (gANil)))) (gANil))))) (gRet (gC (.bl false))) (gNext)
theorem law_loop (x0 : Option D) : ∀ (cs : List Int) (i : Nat) (x1 x2 : Option D) (M : List MO), WF M → ∃ δ' M', forL (fun _ => True) (gtTup 2 (gtCons (gtName 1) (gtCons (gtName 2) (gtNil)))) wB (enumD i (cs.map D.int)) [x0, x1, x2] M = .nx δ' M'
  | [], i, x1, x2, M, _ => ⟨[x0, x1, x2], M, by simp [enumD, forL]⟩
  | c :: cs, i, x1, x2, M, wf => by
    obtain ⟨a, b, e1, h0, h1⟩ := hat_eq wf c i
    have wf1 : WF (M ++ [.lst [.int a, .int b]]) := wf.app rfl
    obtain ⟨M2, e2, n2⟩ := one_eq (k := M.length) wf1 ⟨a, b, h0, h1, get_last M _⟩
    obtain ⟨δ', M', e⟩ := law_loop x0 cs (i + 1) (some (.int (i : Int))) (some (.int c)) M2 n2.wf
    refine ⟨δ', M', ?_⟩
    rw [List.map_cons]
    unfold enumD forL
    rw [if_pos trivial]
    simp only [s_gtTup, List.length_cons, List.length_nil, if_true, s_gtCons, s_gtName, s_gtNil, List.set, wB, s_gIf, s_gNot, s_gTru, s_gCall, s_gACons, s_gVar, s_gANil, List.getElem?_cons_zero, List.getElem?_cons_succ, KM.R.bind_ok, e1, e2, s_trB, Bool.not_true, KM.R.toS_ok, Bool.false_eq_true, if_false, s_gNext]
    exact e
end
theorem law_true : LawTrue m_law := by
  intro ns hl _
  obtain ⟨δ', M', e⟩ := law_loop (some (.rol (ns.map D.int))) ((ns ++ [4, 13, 41]).take 30) 0 none none [] WF.nil
  refine ⟨M', ?_⟩
  have b3 : bigN [D.int 4, D.int 13, D.int 41].length := by unfold bigN; simp
  have ol : oList [.rol (ns.map D.int)] [] = .ok (.lst (ns.map D.int)) [] := rfl
  have ad : oAdd (.lst (ns.map D.int)) (.lst [.int 4, .int 13, .int 41]) [] = .ok (.lst ((ns ++ [4, 13, 41]).map D.int)) [] := by
    unfold oAdd
    simp only [listOfT]
    rw [if_pos (by unfold bigN; simp; omega), List.map_append]
    rfl
  have sl : oSl (.lst ((ns ++ [4, 13, 41]).map D.int)) none (some 30) [] = .ok (.lst (((ns ++ [4, 13, 41]).take 30).map D.int)) [] := by
    show KM.R.ok (D.lst (cutD ((ns ++ [4, 13, 41]).map D.int) none (some 30))) [] = _
    rw [show (30 : Int) = ((30 : Nat) : Int) from rfl, cut_take, List.map_take]
  have st : startD 3 [.rol (ns.map D.int)] = [some (.rol (ns.map D.int)), none, none] := rfl
  have gs : gSl (gOp oAdd (gCall oList (gACons (gVar 0) (gANil))) (gLst (gACons (gC (.int 4)) (gACons (gC (.int 13)) (gACons (gC (.int 41)) (gANil)))))) (gNoP) (gP (gC (.int 30))) [some (.rol (ns.map D.int)), none, none] [] = .ok (.lst (((ns ++ [4, 13, 41]).take 30).map D.int)) [] := by
    simp only [s_gSl, s_gOp, s_gCall, s_gACons, s_gVar, s_gANil, s_gLst, s_gC, s_gNoP, s_gP, List.getElem?_cons_zero, KM.R.bind_ok, ol, if_pos b3, ad, sl]
  have ge : giEnum (gACons (gSl (gOp oAdd (gCall oList (gACons (gVar 0) (gANil))) (gLst (gACons (gC (.int 4)) (gACons (gC (.int 13)) (gACons (gC (.int 41)) (gANil)))))) (gNoP) (gP (gC (.int 30)))) (gANil)) [some (.rol (ns.map D.int)), none, none] [] = .ok (itT (enumD 0 (((ns ++ [4, 13, 41]).take 30).map D.int))) [] := by
    unfold giEnum
    simp only [s_gACons, gs, KM.R.bind_ok, s_gANil]
  have qq : g_law (startD 3 [.rol (ns.map D.int)]) [] = .rt (.bl true) M' := by
    rw [st]
    simp only [g_law, s_gSeq, s_gFor, ge, KM.R.toS_ok, s_itT, s_itTg, e, SR.then_nx, s_gRet, s_gC]
  unfold m_law fnM
  rw [qq]
end K11
set_option Elab.async false
set_option linter.all false
set_option maxRecDepth 100000
namespace K11
open PySem PySem.Spec PyProof.Rows L2 KM
set_option maxHeartbeats 4000000 in
theorem all_ok {P : Program} {w : World} {K : PySem.W.Frag} {mg : Str → Option Value} {fa : Addr} (hfa : mg "law" = some (.ref fa)) (T : Txt K mg) (d__law_gcd : DefAt K mg "_law_gcd" s__law_gcd) (d__law_f : DefAt K mg "_law_f" s__law_f) (d__law_draw : DefAt K mg "_law_draw" s__law_draw) (d__law_any : DefAt K mg "_law_any" s__law_any) (d__law_worth : DefAt K mg "_law_worth" s__law_worth) (d__law_mixed_order : DefAt K mg "_law_mixed_order" s__law_mixed_order) (d__law_minus : DefAt K mg "_law_minus" s__law_minus) (d__law_less : DefAt K mg "_law_less" s__law_less) (d__law_plus : DefAt K mg "_law_plus" s__law_plus) (d_top_over : DefAt K mg "top_over" s_top_over) (d_common : DefAt K mg "common" s_common) (d_best_lot : DefAt K mg "best_lot" s_best_lot) (d_reduced : DefAt K mg "reduced" s_reduced) (d_is_whole : DefAt K mg "is_whole" s_is_whole) (d_is_fraction : DefAt K mg "is_fraction" s_is_fraction) (d_is_worths : DefAt K mg "is_worths" s_is_worths) (d_level : DefAt K mg "level" s_level) (d__law_times : DefAt K mg "_law_times" s__law_times) (d__law_mix_right : DefAt K mg "_law_mix_right" s__law_mix_right) (d_total : DefAt K mg "total" s_total) (d_negated : DefAt K mg "negated" s_negated) (d_minus : DefAt K mg "minus" s_minus) (d_filled : DefAt K mg "filled" s_filled) (d_even_lot : DefAt K mg "even_lot" s_even_lot) (d__law_same : DefAt K mg "_law_same" s__law_same) (d__law_is_fraction : DefAt K mg "_law_is_fraction" s__law_is_fraction) (d__law_raised_right : DefAt K mg "_law_raised_right" s__law_raised_right) (d__law_low_right : DefAt K mg "_law_low_right" s__law_low_right) (d__law_one : DefAt K mg "_law_one" s__law_one) (d__law_hat : DefAt K mg "_law_hat" s__law_hat) (d_law : DefAt K mg "law" s_law) :
    ∃ fd : FuncData, (∀ (s : Shared) (v : Value), BindsTo s fd ⟨[v], []⟩ [("script", v)]) ∧ ∀ base : Heap, FnOk P w K mg base (L2.CX P w) 8 fa fd ["script"] (spLaw K) := by
  obtain ⟨a__law_gcd, e__law_gcd, F__law_gcd, M__law_gcd, K__law_gcd, N__law_gcd⟩ := d__law_gcd
  obtain ⟨a__law_f, e__law_f, F__law_f, M__law_f, K__law_f, N__law_f⟩ := d__law_f
  obtain ⟨a__law_draw, e__law_draw, F__law_draw, M__law_draw, K__law_draw, N__law_draw⟩ := d__law_draw
  obtain ⟨a__law_any, e__law_any, F__law_any, M__law_any, K__law_any, N__law_any⟩ := d__law_any
  obtain ⟨a__law_worth, e__law_worth, F__law_worth, M__law_worth, K__law_worth, N__law_worth⟩ := d__law_worth
  obtain ⟨a__law_mixed_order, e__law_mixed_order, F__law_mixed_order, M__law_mixed_order, K__law_mixed_order, N__law_mixed_order⟩ := d__law_mixed_order
  obtain ⟨a__law_minus, e__law_minus, F__law_minus, M__law_minus, K__law_minus, N__law_minus⟩ := d__law_minus
  obtain ⟨a__law_less, e__law_less, F__law_less, M__law_less, K__law_less, N__law_less⟩ := d__law_less
  obtain ⟨a__law_plus, e__law_plus, F__law_plus, M__law_plus, K__law_plus, N__law_plus⟩ := d__law_plus
  obtain ⟨a_top_over, e_top_over, F_top_over, M_top_over, K_top_over, N_top_over⟩ := d_top_over
  obtain ⟨a_common, e_common, F_common, M_common, K_common, N_common⟩ := d_common
  obtain ⟨a_best_lot, e_best_lot, F_best_lot, M_best_lot, K_best_lot, N_best_lot⟩ := d_best_lot
  obtain ⟨a_reduced, e_reduced, F_reduced, M_reduced, K_reduced, N_reduced⟩ := d_reduced
  obtain ⟨a_is_whole, e_is_whole, F_is_whole, M_is_whole, K_is_whole, N_is_whole⟩ := d_is_whole
  obtain ⟨a_is_fraction, e_is_fraction, F_is_fraction, M_is_fraction, K_is_fraction, N_is_fraction⟩ := d_is_fraction
  obtain ⟨a_is_worths, e_is_worths, F_is_worths, M_is_worths, K_is_worths, N_is_worths⟩ := d_is_worths
  obtain ⟨a_level, e_level, F_level, M_level, K_level, N_level⟩ := d_level
  obtain ⟨a__law_times, e__law_times, F__law_times, M__law_times, K__law_times, N__law_times⟩ := d__law_times
  obtain ⟨a__law_mix_right, e__law_mix_right, F__law_mix_right, M__law_mix_right, K__law_mix_right, N__law_mix_right⟩ := d__law_mix_right
  obtain ⟨a_total, e_total, F_total, M_total, K_total, N_total⟩ := d_total
  obtain ⟨a_negated, e_negated, F_negated, M_negated, K_negated, N_negated⟩ := d_negated
  obtain ⟨a_minus, e_minus, F_minus, M_minus, K_minus, N_minus⟩ := d_minus
  obtain ⟨a_filled, e_filled, F_filled, M_filled, K_filled, N_filled⟩ := d_filled
  obtain ⟨a_even_lot, e_even_lot, F_even_lot, M_even_lot, K_even_lot, N_even_lot⟩ := d_even_lot
  obtain ⟨a__law_same, e__law_same, F__law_same, M__law_same, K__law_same, N__law_same⟩ := d__law_same
  obtain ⟨a__law_is_fraction, e__law_is_fraction, F__law_is_fraction, M__law_is_fraction, K__law_is_fraction, N__law_is_fraction⟩ := d__law_is_fraction
  obtain ⟨a__law_raised_right, e__law_raised_right, F__law_raised_right, M__law_raised_right, K__law_raised_right, N__law_raised_right⟩ := d__law_raised_right
  obtain ⟨a__law_low_right, e__law_low_right, F__law_low_right, M__law_low_right, K__law_low_right, N__law_low_right⟩ := d__law_low_right
  obtain ⟨a__law_one, e__law_one, F__law_one, M__law_one, K__law_one, N__law_one⟩ := d__law_one
  obtain ⟨a__law_hat, e__law_hat, F__law_hat, M__law_hat, K__law_hat, N__law_hat⟩ := d__law_hat
  obtain ⟨a_law, e_law, F_law, M_law, K_law, N_law⟩ := d_law
  have e := hfa.symm.trans M_law
  cases e
  obtain ⟨oc, od, kV, doc, pm, an, cdv, ct, osl, rfl, lk, hcd⟩ := F_law.ex
  refine ⟨PySem.W.fnOf "law" "law" (defArgs s_law) (defBody s_law) (defScope s_law) .none kV doc pm an cdv ct, fun s v => .of_eq rfl, fun base => ?_⟩
  have C__law_gcd : Callee P w K mg base "_law_gcd" 1 2 m__law_gcd := FnOk.toC (ok__law_gcd F__law_gcd T ) M__law_gcd K__law_gcd (F__law_gcd.binds (ps := ["one", "other"]) fun _ _ _ _ _ _ us hl => match us, hl with | [_, _], _ => rfl) N__law_gcd
  have C__law_f : Callee P w K mg base "_law_f" 2 2 m__law_f := FnOk.toC (ok__law_f F__law_f T C__law_gcd) M__law_f K__law_f (F__law_f.binds (ps := ["top", "bottom"]) fun _ _ _ _ _ _ us hl => match us, hl with | [_, _], _ => rfl) N__law_f
  have C__law_draw : Callee P w K mg base "_law_draw" 1 2 m__law_draw := FnOk.toC (ok__law_draw F__law_draw T ) M__law_draw K__law_draw (F__law_draw.binds (ps := ["hat", "many"]) fun _ _ _ _ _ _ us hl => match us, hl with | [_, _], _ => rfl) N__law_draw
  have C__law_any : Callee P w K mg base "_law_any" 2 2 m__law_any := FnOk.toC (ok__law_any F__law_any T C__law_draw) M__law_any K__law_any (F__law_any.binds (ps := ["hat", "things"]) fun _ _ _ _ _ _ us hl => match us, hl with | [_, _], _ => rfl) N__law_any
  have C__law_worth : Callee P w K mg base "_law_worth" 3 1 m__law_worth := FnOk.toC (ok__law_worth F__law_worth T C__law_f C__law_any C__law_draw) M__law_worth K__law_worth (F__law_worth.binds (ps := ["hat"]) fun _ _ _ _ _ _ us hl => match us, hl with | [_], _ => rfl) N__law_worth
  have C__law_mixed_order : Callee P w K mg base "_law_mixed_order" 2 2 m__law_mixed_order := FnOk.toC (ok__law_mixed_order F__law_mixed_order T C__law_draw) M__law_mixed_order K__law_mixed_order (F__law_mixed_order.binds (ps := ["hat", "size"]) fun _ _ _ _ _ _ us hl => match us, hl with | [_, _], _ => rfl) N__law_mixed_order
  have C__law_minus : Callee P w K mg base "_law_minus" 3 2 m__law_minus := FnOk.toC (ok__law_minus F__law_minus T C__law_f) M__law_minus K__law_minus (F__law_minus.binds (ps := ["one", "other"]) fun _ _ _ _ _ _ us hl => match us, hl with | [_, _], _ => rfl) N__law_minus
  have C__law_less : Callee P w K mg base "_law_less" 1 2 m__law_less := FnOk.toC (ok__law_less F__law_less T ) M__law_less K__law_less (F__law_less.binds (ps := ["one", "other"]) fun _ _ _ _ _ _ us hl => match us, hl with | [_, _], _ => rfl) N__law_less
  have C__law_plus : Callee P w K mg base "_law_plus" 3 2 m__law_plus := FnOk.toC (ok__law_plus F__law_plus T C__law_f) M__law_plus K__law_plus (F__law_plus.binds (ps := ["one", "other"]) fun _ _ _ _ _ _ us hl => match us, hl with | [_, _], _ => rfl) N__law_plus
  have C_top_over : Callee P w K mg base "top_over" 1 2 m_top_over := FnOk.toC (ok_top_over F_top_over T ) M_top_over K_top_over (F_top_over.binds (ps := ["fraction", "bottom"]) fun _ _ _ _ _ _ us hl => match us, hl with | [_, _], _ => rfl) N_top_over
  have C_common : Callee P w K mg base "common" 2 1 m_common := FnOk.toC (ok_common F_common T C_top_over) M_common K_common (F_common.binds (ps := ["fractions"]) fun _ _ _ _ _ _ us hl => match us, hl with | [_], _ => rfl) N_common
  have C_best_lot : Callee P w K mg base "best_lot" 1 2 m_best_lot := FnOk.toC (ok_best_lot F_best_lot T ) M_best_lot K_best_lot (F_best_lot.binds (ps := ["tops", "bottom"]) fun _ _ _ _ _ _ us hl => match us, hl with | [_, _], _ => rfl) N_best_lot
  have C_reduced : Callee P w K mg base "reduced" 1 2 m_reduced := FnOk.toC (ok_reduced F_reduced T ) M_reduced K_reduced (F_reduced.binds (ps := ["top", "bottom"]) fun _ _ _ _ _ _ us hl => match us, hl with | [_, _], _ => rfl) N_reduced
  have C_is_whole : Callee P w K mg base "is_whole" 1 1 m_is_whole := FnOk.toC (ok_is_whole F_is_whole T ) M_is_whole K_is_whole (F_is_whole.binds (ps := ["thing"]) fun _ _ _ _ _ _ us hl => match us, hl with | [_], _ => rfl) N_is_whole
  have C_is_fraction : Callee P w K mg base "is_fraction" 2 1 m_is_fraction := FnOk.toC (ok_is_fraction F_is_fraction T C_is_whole) M_is_fraction K_is_fraction (F_is_fraction.binds (ps := ["thing"]) fun _ _ _ _ _ _ us hl => match us, hl with | [_], _ => rfl) N_is_fraction
  have C_is_worths : Callee P w K mg base "is_worths" 3 1 m_is_worths := FnOk.toC (ok_is_worths F_is_worths T C_is_fraction) M_is_worths K_is_worths (F_is_worths.binds (ps := ["thing"]) fun _ _ _ _ _ _ us hl => match us, hl with | [_], _ => rfl) N_is_worths
  have C_level : Callee P w K mg base "level" 4 1 m_level := FnOk.toC (ok_level F_level T C_common C_best_lot C_reduced C_is_worths) M_level K_level (F_level.binds (ps := ["worths"]) fun _ _ _ _ _ _ us hl => match us, hl with | [_], _ => rfl) N_level
  have C__law_times : Callee P w K mg base "_law_times" 3 2 m__law_times := FnOk.toC (ok__law_times F__law_times T C__law_f) M__law_times K__law_times (F__law_times.binds (ps := ["one", "other"]) fun _ _ _ _ _ _ us hl => match us, hl with | [_, _], _ => rfl) N__law_times
  have C__law_mix_right : Callee P w K mg base "_law_mix_right" 5 3 m__law_mix_right := FnOk.toC (ok__law_mix_right F__law_mix_right T C__law_any C__law_minus C__law_less C__law_worth C__law_plus C_level C__law_times) M__law_mix_right K__law_mix_right (F__law_mix_right.binds (ps := ["hat", "worths", "told"]) fun _ _ _ _ _ _ us hl => match us, hl with | [_, _, _], _ => rfl) N__law_mix_right
  have C_total : Callee P w K mg base "total" 2 1 m_total := FnOk.toC (ok_total F_total T C_reduced) M_total K_total (F_total.binds (ps := ["parts"]) fun _ _ _ _ _ _ us hl => match us, hl with | [_], _ => rfl) N_total
  have C_negated : Callee P w K mg base "negated" 1 1 m_negated := FnOk.toC (ok_negated F_negated T ) M_negated K_negated (F_negated.binds (ps := ["fraction"]) fun _ _ _ _ _ _ us hl => match us, hl with | [_], _ => rfl) N_negated
  have C_minus : Callee P w K mg base "minus" 3 2 m_minus := FnOk.toC (ok_minus F_minus T C_total C_negated) M_minus K_minus (F_minus.binds (ps := ["one", "other"]) fun _ _ _ _ _ _ us hl => match us, hl with | [_, _], _ => rfl) N_minus
  have C_filled : Callee P w K mg base "filled" 5 1 m_filled := FnOk.toC (ok_filled F_filled T C_level C_minus C_total) M_filled K_filled (F_filled.binds (ps := ["worths"]) fun _ _ _ _ _ _ us hl => match us, hl with | [_], _ => rfl) N_filled
  have C_even_lot : Callee P w K mg base "even_lot" 4 1 m_even_lot := FnOk.toC (ok_even_lot F_even_lot T C_common C_is_worths C_best_lot) M_even_lot K_even_lot (F_even_lot.binds (ps := ["worths"]) fun _ _ _ _ _ _ us hl => match us, hl with | [_], _ => rfl) N_even_lot
  have C__law_same : Callee P w K mg base "_law_same" 4 2 m__law_same := FnOk.toC (ok__law_same F__law_same T  M__law_same K__law_same (F__law_same.binds (ps := ["actual", "due"]) fun _ _ _ _ _ _ us hl => match us, hl with | [_, _], _ => rfl) N__law_same 3) M__law_same K__law_same (F__law_same.binds (ps := ["actual", "due"]) fun _ _ _ _ _ _ us hl => match us, hl with | [_, _], _ => rfl) N__law_same
  have C__law_is_fraction : Callee P w K mg base "_law_is_fraction" 2 1 m__law_is_fraction := FnOk.toC (ok__law_is_fraction F__law_is_fraction T C__law_gcd) M__law_is_fraction K__law_is_fraction (F__law_is_fraction.binds (ps := ["thing"]) fun _ _ _ _ _ _ us hl => match us, hl with | [_], _ => rfl) N__law_is_fraction
  have C__law_raised_right : Callee P w K mg base "_law_raised_right" 6 4 m__law_raised_right := FnOk.toC (ok__law_raised_right F__law_raised_right T C__law_draw C__law_f C__law_any C_level C_filled C__law_less C__law_plus) M__law_raised_right K__law_raised_right (F__law_raised_right.binds (ps := ["hat", "worths", "told", "chances"]) fun _ _ _ _ _ _ us hl => match us, hl with | [_, _, _, _], _ => rfl) N__law_raised_right
  have C__law_low_right : Callee P w K mg base "_law_low_right" 6 2 m__law_low_right := FnOk.toC (ok__law_low_right F__law_low_right T C__law_minus C__law_same C_even_lot C_level C_filled) M__law_low_right K__law_low_right (F__law_low_right.binds (ps := ["worths", "told"]) fun _ _ _ _ _ _ us hl => match us, hl with | [_, _], _ => rfl) N__law_low_right
  have C__law_one : Callee P w K mg base "_law_one" 7 1 m__law_one := FnOk.toC (ok__law_one F__law_one T C__law_worth C__law_mixed_order C__law_mix_right C_level C_filled C_even_lot C__law_same C__law_is_fraction C__law_plus C__law_raised_right C__law_low_right C__law_draw) M__law_one K__law_one (F__law_one.binds (ps := ["hat"]) fun _ _ _ _ _ _ us hl => match us, hl with | [_], _ => rfl) N__law_one
  have C__law_hat : Callee P w K mg base "_law_hat" 1 2 m__law_hat := FnOk.toC (ok__law_hat F__law_hat T ) M__law_hat K__law_hat (F__law_hat.binds (ps := ["cell", "k"]) fun _ _ _ _ _ _ us hl => match us, hl with | [_, _], _ => rfl) N__law_hat
  exact (ok_law F_law T C__law_one C__law_hat).imp (law_imp law_true)
end K11
open PySem PySem.W PyProof.Rows
set_option maxRecDepth 100000 in
set_option maxHeartbeats 0 in
theorem PySem.Challenge.cw_keptmisses_k11_whole_worths_moved_holds : PySem.Challenge.rw_keptmisses_k11_whole_worths_moved.Holds := by
  w_on; o_law; k_head; (case hw => w_witness2)
  k_fill
  refine KM.law_walk (l := PySem.Challenge.rw_keptmisses_k11_whole_worths_moved) (k := 8) (x := "script") rfl rfl ⟨rfl, by decide, by decide⟩ (fun w h Y => PySem.W.kIn_of Y) ?F
  case F =>
    intro w mg fa h KX G hmg
    have z_abs : mg "abs" = none := by (refine' PySem.W.mg_none_of KX G ?z); (case z => k_is)
    have z_all : mg "all" = none := by (refine' PySem.W.mg_none_of KX G ?z); (case z => k_is)
    have z_any : mg "any" = none := by (refine' PySem.W.mg_none_of KX G ?z); (case z => k_is)
    have z_bool : mg "bool" = none := by (refine' PySem.W.mg_none_of KX G ?z); (case z => k_is)
    have z_enumerate : mg "enumerate" = none := by (refine' PySem.W.mg_none_of KX G ?z); (case z => k_is)
    have z_int : mg "int" = none := by (refine' PySem.W.mg_none_of KX G ?z); (case z => k_is)
    have z_isinstance : mg "isinstance" = none := by (refine' PySem.W.mg_none_of KX G ?z); (case z => k_is)
    have z_len : mg "len" = none := by (refine' PySem.W.mg_none_of KX G ?z); (case z => k_is)
    have z_list : mg "list" = none := by (refine' PySem.W.mg_none_of KX G ?z); (case z => k_is)
    have z_range : mg "range" = none := by (refine' PySem.W.mg_none_of KX G ?z); (case z => k_is)
    have z_sorted : mg "sorted" = none := by (refine' PySem.W.mg_none_of KX G ?z); (case z => k_is)
    have z_str : mg "str" = none := by (refine' PySem.W.mg_none_of KX G ?z); (case z => k_is)
    have z_tuple : mg "tuple" = none := by (refine' PySem.W.mg_none_of KX G ?z); (case z => k_is)
    have z_zip : mg "zip" = none := by (refine' PySem.W.mg_none_of KX G ?z); (case z => k_is)
    have z_gcd : mg "gcd" = some (.builtin "math.gcd") := by (refine' PySem.W.mg_of KX G ?z); (case z => k_is)
    have z_lcm : mg "lcm" = some (.builtin "math.lcm") := by (refine' PySem.W.mg_of KX G ?z); (case z => k_is)
    have c_ONE : KM.GlobC (L2.KOf KX) mg "ONE" (.tup [.int 1, .int 1]) := by (refine' KM.globT_mk KX G ?z ?y); (case z => k_is); (case y => k_is)
    have c_ZERO : KM.GlobC (L2.KOf KX) mg "ZERO" (.tup [.int 0, .int 1]) := by (refine' KM.globT_mk KX G ?z ?y); (case z => k_is); (case y => k_is)
    have x_NoWorths : KM.ExcAt (L2.KOf KX) mg "NoWorths" := by (refine' KM.excAt_mk KX G ?x0a ?x0q ?x0k ?x0b ?x0t); (case x0a => k_is); (case x0q => k_exc); (case x0k => k_is); (case x0b => k_is); (case x0t => k_is)
    have d__law_gcd : KM.DefAt (L2.KOf KX) mg "_law_gcd" K11.s__law_gcd := by (refine' KM.def_mk KX G ?a ?l ?c ?k); (case a => k_is); (case l => k_is); (case c => k_is); (case k => k_is)
    have d__law_f : KM.DefAt (L2.KOf KX) mg "_law_f" K11.s__law_f := by (refine' KM.def_mk KX G ?a ?l ?c ?k); (case a => k_is); (case l => k_is); (case c => k_is); (case k => k_is)
    have d__law_draw : KM.DefAt (L2.KOf KX) mg "_law_draw" K11.s__law_draw := by (refine' KM.def_mk KX G ?a ?l ?c ?k); (case a => k_is); (case l => k_is); (case c => k_is); (case k => k_is)
    have d__law_any : KM.DefAt (L2.KOf KX) mg "_law_any" K11.s__law_any := by (refine' KM.def_mk KX G ?a ?l ?c ?k); (case a => k_is); (case l => k_is); (case c => k_is); (case k => k_is)
    have d__law_worth : KM.DefAt (L2.KOf KX) mg "_law_worth" K11.s__law_worth := by (refine' KM.def_mk KX G ?a ?l ?c ?k); (case a => k_is); (case l => k_is); (case c => k_is); (case k => k_is)
    have d__law_mixed_order : KM.DefAt (L2.KOf KX) mg "_law_mixed_order" K11.s__law_mixed_order := by (refine' KM.def_mk KX G ?a ?l ?c ?k); (case a => k_is); (case l => k_is); (case c => k_is); (case k => k_is)
    have d__law_minus : KM.DefAt (L2.KOf KX) mg "_law_minus" K11.s__law_minus := by (refine' KM.def_mk KX G ?a ?l ?c ?k); (case a => k_is); (case l => k_is); (case c => k_is); (case k => k_is)
    have d__law_less : KM.DefAt (L2.KOf KX) mg "_law_less" K11.s__law_less := by (refine' KM.def_mk KX G ?a ?l ?c ?k); (case a => k_is); (case l => k_is); (case c => k_is); (case k => k_is)
    have d__law_plus : KM.DefAt (L2.KOf KX) mg "_law_plus" K11.s__law_plus := by (refine' KM.def_mk KX G ?a ?l ?c ?k); (case a => k_is); (case l => k_is); (case c => k_is); (case k => k_is)
    have d_top_over : KM.DefAt (L2.KOf KX) mg "top_over" K11.s_top_over := by (refine' KM.def_mk KX G ?a ?l ?c ?k); (case a => k_is); (case l => k_is); (case c => k_is); (case k => k_is)
    have d_common : KM.DefAt (L2.KOf KX) mg "common" K11.s_common := by (refine' KM.def_mk KX G ?a ?l ?c ?k); (case a => k_is); (case l => k_is); (case c => k_is); (case k => k_is)
    have d_best_lot : KM.DefAt (L2.KOf KX) mg "best_lot" K11.s_best_lot := by (refine' KM.def_mk KX G ?a ?l ?c ?k); (case a => k_is); (case l => k_is); (case c => k_is); (case k => k_is)
    have d_reduced : KM.DefAt (L2.KOf KX) mg "reduced" K11.s_reduced := by (refine' KM.def_mk KX G ?a ?l ?c ?k); (case a => k_is); (case l => k_is); (case c => k_is); (case k => k_is)
    have d_is_whole : KM.DefAt (L2.KOf KX) mg "is_whole" K11.s_is_whole := by (refine' KM.def_mk KX G ?a ?l ?c ?k); (case a => k_is); (case l => k_is); (case c => k_is); (case k => k_is)
    have d_is_fraction : KM.DefAt (L2.KOf KX) mg "is_fraction" K11.s_is_fraction := by (refine' KM.def_mk KX G ?a ?l ?c ?k); (case a => k_is); (case l => k_is); (case c => k_is); (case k => k_is)
    have d_is_worths : KM.DefAt (L2.KOf KX) mg "is_worths" K11.s_is_worths := by (refine' KM.def_mk KX G ?a ?l ?c ?k); (case a => k_is); (case l => k_is); (case c => k_is); (case k => k_is)
    have d_level : KM.DefAt (L2.KOf KX) mg "level" K11.s_level := by (refine' KM.def_mk KX G ?a ?l ?c ?k); (case a => k_is); (case l => k_is); (case c => k_is); (case k => k_is)
    have d__law_times : KM.DefAt (L2.KOf KX) mg "_law_times" K11.s__law_times := by (refine' KM.def_mk KX G ?a ?l ?c ?k); (case a => k_is); (case l => k_is); (case c => k_is); (case k => k_is)
    have d__law_mix_right : KM.DefAt (L2.KOf KX) mg "_law_mix_right" K11.s__law_mix_right := by (refine' KM.def_mk KX G ?a ?l ?c ?k); (case a => k_is); (case l => k_is); (case c => k_is); (case k => k_is)
    have d_total : KM.DefAt (L2.KOf KX) mg "total" K11.s_total := by (refine' KM.def_mk KX G ?a ?l ?c ?k); (case a => k_is); (case l => k_is); (case c => k_is); (case k => k_is)
    have d_negated : KM.DefAt (L2.KOf KX) mg "negated" K11.s_negated := by (refine' KM.def_mk KX G ?a ?l ?c ?k); (case a => k_is); (case l => k_is); (case c => k_is); (case k => k_is)
    have d_minus : KM.DefAt (L2.KOf KX) mg "minus" K11.s_minus := by (refine' KM.def_mk KX G ?a ?l ?c ?k); (case a => k_is); (case l => k_is); (case c => k_is); (case k => k_is)
    have d_filled : KM.DefAt (L2.KOf KX) mg "filled" K11.s_filled := by (refine' KM.def_mk KX G ?a ?l ?c ?k); (case a => k_is); (case l => k_is); (case c => k_is); (case k => k_is)
    have d_even_lot : KM.DefAt (L2.KOf KX) mg "even_lot" K11.s_even_lot := by (refine' KM.def_mk KX G ?a ?l ?c ?k); (case a => k_is); (case l => k_is); (case c => k_is); (case k => k_is)
    have d__law_same : KM.DefAt (L2.KOf KX) mg "_law_same" K11.s__law_same := by (refine' KM.def_mk KX G ?a ?l ?c ?k); (case a => k_is); (case l => k_is); (case c => k_is); (case k => k_is)
    have d__law_is_fraction : KM.DefAt (L2.KOf KX) mg "_law_is_fraction" K11.s__law_is_fraction := by (refine' KM.def_mk KX G ?a ?l ?c ?k); (case a => k_is); (case l => k_is); (case c => k_is); (case k => k_is)
    have d__law_raised_right : KM.DefAt (L2.KOf KX) mg "_law_raised_right" K11.s__law_raised_right := by (refine' KM.def_mk KX G ?a ?l ?c ?k); (case a => k_is); (case l => k_is); (case c => k_is); (case k => k_is)
    have d__law_low_right : KM.DefAt (L2.KOf KX) mg "_law_low_right" K11.s__law_low_right := by (refine' KM.def_mk KX G ?a ?l ?c ?k); (case a => k_is); (case l => k_is); (case c => k_is); (case k => k_is)
    have d__law_one : KM.DefAt (L2.KOf KX) mg "_law_one" K11.s__law_one := by (refine' KM.def_mk KX G ?a ?l ?c ?k); (case a => k_is); (case l => k_is); (case c => k_is); (case k => k_is)
    have d__law_hat : KM.DefAt (L2.KOf KX) mg "_law_hat" K11.s__law_hat := by (refine' KM.def_mk KX G ?a ?l ?c ?k); (case a => k_is); (case l => k_is); (case c => k_is); (case k => k_is)
    have d_law : KM.DefAt (L2.KOf KX) mg "law" K11.s_law := by (refine' KM.def_mk KX G ?a ?l ?c ?k); (case a => k_is); (case l => k_is); (case c => k_is); (case k => k_is)
    obtain ⟨fd, h1, h2⟩ := K11.all_ok (P := (PySem.Challenge.rw_keptmisses_k11_whole_worths_moved).prog) (w := w) hmg ⟨z_abs, z_all, z_any, z_bool, z_enumerate, z_int, z_isinstance, z_len, z_list, z_range, z_sorted, z_str, z_tuple, z_zip, z_gcd, z_lcm, c_ONE, c_ZERO, x_NoWorths⟩ d__law_gcd d__law_f d__law_draw d__law_any d__law_worth d__law_mixed_order d__law_minus d__law_less d__law_plus d_top_over d_common d_best_lot d_reduced d_is_whole d_is_fraction d_is_worths d_level d__law_times d__law_mix_right d_total d_negated d_minus d_filled d_even_lot d__law_same d__law_is_fraction d__law_raised_right d__law_low_right d__law_one d__law_hat d_law
    exact ⟨fd, h1, fun base _ _ => h2 base⟩
