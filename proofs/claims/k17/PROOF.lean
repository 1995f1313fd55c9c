import PyProof.Rows.All
import Wide.All
import OpenK.AllK
import Wide.FinOn
import HandS.ForMost
import HandS.IsInst
import HandS.Wide
import PyProof.StrLawsRepr
import PySem.Challenge.RW_hallofwords_k17_whole_words_of_a_rule
set_option Elab.async false
set_option linter.all false
set_option maxRecDepth 100000
set_option maxHeartbeats 4000000
set_option autoImplicit false
/-! DL: a layer of plain data over the hand layer: what stands in the slots is data (frozen), a list of one's own, or the pool. -/
namespace DL
open PySem PySem.Spec L2

/-! ### data in a frozen heap -/
mutual
inductive Dq (K : PySem.W.Frag) (F : Hp) : V → PyData → Prop
  | non : Dq K F .non .none
  | bl (b : Bool) : Dq K F (.bl b) (.bool b)
  | int (i : Int) : Dq K F (.int i) (.int i)
  | str (x : Str) : Dq K F (.str x) (.str x)
  | lst {a : Addr} {xs : List V} {ds : List PyData} : F a = some (.lst xs) → DqA K F xs ds → Dq K F (.ref a) (.list ds)
  | tup {a : Addr} {xs : List V} {ds : List PyData} : SqT K F a xs → DqA K F xs ds → Dq K F (.ref a) (.tuple ds)
  | rng {a : Addr} {lo hi : Int} : F a = some (.rng lo hi) → Dq K F (.ref a) (.dict [(.int lo, .int hi)])
inductive DqA (K : PySem.W.Frag) (F : Hp) : List V → List PyData → Prop
  | nil : DqA K F [] []
  | cons {v : V} {vs : List V} {d : PyData} {ds : List PyData} : Dq K F v d → DqA K F vs ds → DqA K F (v :: vs) (d :: ds)
end
section
variable {K : PySem.W.Frag} {F F' H H' G : Hp}
theorem same_sqt {a : Addr} {xs : List V} (e : Same F F') (h : SqT K F a xs) : SqT K F' a xs := by
  rcases h with (h | ⟨o, h⟩) | h
  · exact .inl (.inl (e _ _ h))
  · exact .inl (.inr ⟨o, e _ _ h⟩)
  · exact .inr h
mutual
theorem Dq.up (e : Same F F') : ∀ (d : PyData) (v : V), Dq K F v d → Dq K F' v d
  | .none, _, h => by cases h; exact .non
  | .bool b, _, h => by cases h; exact .bl b
  | .int i, _, h => by cases h; exact .int i
  | .str x, _, h => by cases h; exact .str x
  | .list ds, _, h => by
    cases h with
    | lst h1 h2 => exact .lst (e _ _ h1) (DqA.up e ds _ h2)
  | .tuple ds, _, h => by
    cases h with
    | tup h1 h2 => exact .tup (same_sqt e h1) (DqA.up e ds _ h2)
  | .dict _, _, h => by
    cases h with
    | rng h1 => exact .rng (e _ _ h1)
theorem DqA.up (e : Same F F') : ∀ (ds : List PyData) (vs : List V), DqA K F vs ds → DqA K F' vs ds
  | [], _, h => by cases h; exact .nil
  | d :: ds, _, h => by
    cases h with
    | cons h1 h2 => exact .cons (Dq.up e d _ h1) (DqA.up e ds _ h2)
end
theorem Dq.mono {v : V} {d : PyData} (h : Dq K F v d) (e : Same F F') : Dq K F' v d := Dq.up e d v h
theorem DqA.mono {vs : List V} {ds : List PyData} (h : DqA K F vs ds) (e : Same F F') : DqA K F' vs ds := DqA.up e ds vs h
mutual
theorem Dq.dpUp : ∀ (d : PyData) (v : V), Dq K F v d → d.hasDict = false → Dp K F v d
  | .none, _, h, _ => by cases h; exact .non
  | .bool b, _, h, _ => by cases h; exact .bl b
  | .int i, _, h, _ => by cases h; exact .int i
  | .str x, _, h, _ => by cases h; exact .str x
  | .list ds, _, h, n => by
    cases h with
    | lst h1 h2 => exact .lst (SqL.of h1) (DqA.dpUp ds _ h2 (by simpa [PyData.hasDict] using n))
  | .tuple ds, _, h, n => by
    cases h with
    | tup h1 h2 => exact .tup h1 (DqA.dpUp ds _ h2 (by simpa [PyData.hasDict] using n))
  | .dict _, _, h, n => by simp [PyData.hasDict] at n
theorem DqA.dpUp : ∀ (ds : List PyData) (vs : List V), DqA K F vs ds → PyData.hasDictAll ds = false → DpAll K F vs ds
  | [], _, h, _ => by cases h; exact .nil
  | d :: ds, _, h, n => by
    cases h with
    | cons h1 h2 =>
      simp only [PyData.hasDictAll, Bool.or_eq_false_iff] at n
      exact .cons (Dq.dpUp d _ h1 n.1) (DqA.dpUp ds _ h2 n.2)
end
theorem Dq.dp {v : V} {d : PyData} (h : Dq K F v d) (n : d.hasDict = false) : Dp K F v d := Dq.dpUp d v h n
theorem DqA.length : ∀ {vs : List V} {ds : List PyData}, DqA K F vs ds → vs.length = ds.length
  | [], [], _ => rfl
  | _ :: vs, _ :: ds, h => by
    cases h with
    | cons h1 h2 => rw [List.length_cons, List.length_cons, DqA.length h2]
  | [], _ :: _, h => by cases h
  | _ :: _, [], h => by cases h
theorem DqA.get : ∀ {vs : List V} {ds : List PyData} {i : Nat} {d : PyData}, DqA K F vs ds → ds[i]? = some d → ∃ v, vs[i]? = some v ∧ Dq K F v d
  | _, [], i, d, _, h => by simp at h
  | _, d0 :: ds, 0, d, h, e => by
    cases h with
    | cons h1 h2 =>
      simp at e
      subst e
      exact ⟨_, rfl, h1⟩
  | _, d0 :: ds, i + 1, d, h, e => by
    cases h with
    | cons h1 h2 =>
      obtain ⟨v, a, b⟩ := DqA.get (i := i) h2 (by simpa using e)
      exact ⟨v, by simpa using a, b⟩
theorem DqA.getv : ∀ {vs : List V} {ds : List PyData} {i : Nat} {v : V}, DqA K F vs ds → vs[i]? = some v → ∃ d, ds[i]? = some d ∧ Dq K F v d := fun {vs ds i v} h e => by
  have hl := h.length
  have hi : i < ds.length := by rw [← hl]; exact (List.getElem?_eq_some_iff.mp e).1
  obtain ⟨u, a, b⟩ := h.get (List.getElem?_eq_getElem hi)
  rw [e] at a
  cases a
  exact ⟨_, List.getElem?_eq_getElem hi, b⟩
theorem DqA.append : ∀ {vs ws : List V} {ds es : List PyData}, DqA K F vs ds → DqA K F ws es → DqA K F (vs ++ ws) (ds ++ es)
  | [], _, [], _, _, h => h
  | _ :: _, _, _ :: _, _, h, g => by
    cases h with
    | cons h1 h2 => exact .cons h1 (DqA.append h2 g)
  | [], _, _ :: _, _, h, _ => by cases h
  | _ :: _, _, [], _, h, _ => by cases h
theorem DqA.take : ∀ {vs : List V} {ds : List PyData} (n : Nat), DqA K F vs ds → DqA K F (vs.take n) (ds.take n)
  | _, _, 0, _ => .nil
  | [], [], _ + 1, _ => .nil
  | _ :: _, _ :: _, n + 1, h => by
    cases h with
    | cons h1 h2 => exact .cons h1 (DqA.take n h2)
  | [], _ :: _, _ + 1, h => by cases h
  | _ :: _, [], _ + 1, h => by cases h
theorem DqA.drop : ∀ {vs : List V} {ds : List PyData} (n : Nat), DqA K F vs ds → DqA K F (vs.drop n) (ds.drop n)
  | _, _, 0, h => h
  | [], [], _ + 1, _ => .nil
  | _ :: _, _ :: _, n + 1, h => by
    cases h with
    | cons h1 h2 => exact DqA.drop n h2
  | [], _ :: _, _ + 1, h => by cases h
  | _ :: _, [], _ + 1, h => by cases h
theorem DqA.set : ∀ {vs : List V} {ds : List PyData} {v : V} {d : PyData} (n : Nat), DqA K F vs ds → Dq K F v d → DqA K F (vs.set n v) (ds.set n d)
  | [], [], _, _, _, _, _ => .nil
  | _ :: _, _ :: _, _, _, 0, h, g => by
    cases h with
    | cons h1 h2 => exact .cons g h2
  | _ :: _, _ :: _, _, _, n + 1, h, g => by
    cases h with
    | cons h1 h2 => exact .cons h1 (DqA.set n h2 g)
  | [], _ :: _, _, _, _, h, _ => by cases h
  | _ :: _, [], _, _, _, h, _ => by cases h
theorem DqA.ints {vs : List V} {ns : List Int} (h : DqA K F vs (ns.map PyData.int)) : vs = ns.map V.int := by
  induction ns generalizing vs with
  | nil => cases h; rfl
  | cons n ns ih =>
    cases h with
    | cons h1 h2 =>
      cases h1
      rw [ih h2]
      rfl
theorem DqA.of_ints (ns : List Int) : DqA K F (ns.map V.int) (ns.map PyData.int) := by
  induction ns with
  | nil => exact .nil
  | cons n ns ih => exact .cons (.int n) ih
theorem DqA.bls {vs : List V} {ns : List Bool} (h : DqA K F vs (ns.map PyData.bool)) : vs = ns.map V.bl := by
  induction ns generalizing vs with
  | nil => cases h; rfl
  | cons n ns ih =>
    cases h with
    | cons h1 h2 =>
      cases h1
      rw [ih h2]
      rfl
theorem DqA.strs {vs : List V} {ns : List Str} (h : DqA K F vs (ns.map PyData.str)) : vs = ns.map V.str := by
  induction ns generalizing vs with
  | nil => cases h; rfl
  | cons n ns ih =>
    cases h with
    | cons h1 h2 =>
      cases h1
      rw [ih h2]
      rfl
theorem DqA.of_strs (ns : List Str) : DqA K F (ns.map V.str) (ns.map PyData.str) := by
  induction ns with
  | nil => exact .nil
  | cons n ns ih => exact .cons (.str n) ih

/-! ### what a step may do to the heaps -/
structure Fresh (F H F' H' : Hp) : Prop where
  ff : Same F F'
  fh : Same F' H'
  hh : Same H H'
  fr : ∀ b o, H b = some o → F b = none → F' b = none
theorem Fresh.refl (e : Same F H) : Fresh F H F H := ⟨Same.refl F, e, Same.refl H, fun _ _ _ h => h⟩
theorem Fresh.trans {F2 H2 : Hp} (a : Fresh F H F' H') (b : Fresh F' H' F2 H2) : Fresh F H F2 H2 :=
  ⟨a.ff.trans b.ff, b.fh, a.hh.trans b.hh, fun c o h n => b.fr c o (a.hh c o h) (a.fr c o h n)⟩
theorem same_new {p : Addr} {o : HO} (h : H p = none) : Same H (upd H p o) := fun b u e => by
  rw [upd_ne (ne_of_none e h)]
  exact e
theorem Fresh.new {p : Addr} {o : HO} (e : Same F H) (h : H p = none) : Fresh F H (upd F p o) (upd H p o) := by
  refine ⟨same_new (e.free h), fun b u q => ?_, same_new h, fun b u q n => ?_⟩
  · by_cases hb : b = p
    · rw [hb, upd_same] at q ⊢
      exact q
    · rw [upd_ne hb] at q ⊢
      exact e b u q
  · rw [upd_ne (ne_of_none q h)]
    exact n
/-- a new object that is not frozen -/
theorem Fresh.newH {p : Addr} {o : HO} (e : Same F H) (h : H p = none) : Fresh F H F (upd H p o) :=
  ⟨Same.refl F, e.trans (same_new h), same_new h, fun _ _ _ n => n⟩
end

/-! ### what stands in the slots -/
inductive Sl where
  | un
  | d (x : PyData)
  | o (xs : List PyData)
  | pl
  | sc (ns : List Int)
structure S where
  e : List Sl
  q : List Int
@[simp] def S.put (s : S) (i : Nat) (x : Sl) : S := ⟨s.e.set i x, s.q⟩
def SlOk (K : PySem.W.Frag) (G : Hp) (P : Option Addr) (F H : Hp) (σ : St) (i : Nat) : Sl → Prop
  | .un => True
  | .d x => ∃ v, σ[i]? = some (some v) ∧ Dq K F v x
  | .o xs => ∃ p vs, σ[i]? = some (some (.ref p)) ∧ F p = none ∧ G p = none ∧ P ≠ some p ∧ H p = some (.lst vs) ∧ DqA K F vs xs
  | .pl => ∃ a, P = some a ∧ σ[i]? = some (some (.ref a))
  | .sc ns => ∃ a, σ[i]? = some (some (.ref a)) ∧ SqL K F a (ns.map V.int)
structure Rep (K : PySem.W.Frag) (G : Hp) (P : Option Addr) (F H : Hp) (σ : St) (s : S) : Prop where
  same : Same F H
  keep : Same G H
  apart : ∀ b o, G b = some o → F b = none
  sl : ∀ (i : Nat) (x : Sl), s.e[i]? = some x → SlOk K G P F H σ i x
  sep : ∀ (i j : Nat) (xs ys : List PyData) (p : Addr), s.e[i]? = some (.o xs) → s.e[j]? = some (.o ys) → σ[i]? = some (some (.ref p)) → σ[j]? = some (some (.ref p)) → i = j
  pool : ∀ a, P = some a → F a = none ∧ G a = none ∧ H a = some (.lst (s.q.map V.int))
  len : σ.length = s.e.length
section
variable {K : PySem.W.Frag} {G F F' H H' : Hp} {P : Option Addr} {σ : St} {s : S}
theorem Rep.fresh (R : Rep K G P F H σ s) (f : Fresh F H F' H') : Rep K G P F' H' σ s where
  same := f.fh
  keep := R.keep.trans f.hh
  apart := fun b o g => f.fr b o (R.keep b o g) (R.apart b o g)
  sl := fun i x hx => by
    have h := R.sl i x hx
    cases x with
    | un => exact True.intro
    | d x =>
      obtain ⟨v, a, b⟩ := h
      exact ⟨v, a, b.mono f.ff⟩
    | o xs =>
      obtain ⟨p, vs, h1, h2, h3, h4, h5, h6⟩ := h
      exact ⟨p, vs, h1, f.fr p _ h5 h2, h3, h4, f.hh p _ h5, h6.mono f.ff⟩
    | pl => exact h
    | sc ns =>
      obtain ⟨a, h1, h2⟩ := h
      exact ⟨a, h1, f.ff.seq h2⟩
  sep := R.sep
  pool := fun a ha => by
    obtain ⟨h1, h2, h3⟩ := R.pool a ha
    exact ⟨f.fr a _ h3 h1, h2, f.hh a _ h3⟩
  len := R.len
theorem set_get {α : Type} {l : List α} {i j : Nat} {x y : α} (h : (l.set i x)[j]? = some y) : (j = i ∧ y = x) ∨ (j ≠ i ∧ l[j]? = some y) := by
  by_cases e : i = j
  · subst e
    by_cases hl : i < l.length
    · rw [List.getElem?_set_self hl] at h
      cases h
      exact .inl ⟨rfl, rfl⟩
    · rw [List.getElem?_eq_none (by rw [List.length_set]; omega)] at h
      cases h
  · rw [List.getElem?_set_ne e] at h
    exact .inr ⟨fun z => e z.symm, h⟩
/-- a slot's list is frozen -/
theorem Rep.freeze {i : Nat} {xs : List PyData} (R : Rep K G P F H σ s) (h : s.e[i]? = some (.o xs)) : ∃ p vs, σ[i]? = some (some (.ref p)) ∧ H p = some (.lst vs) ∧ F p = none ∧
    Rep K G P (upd F p (.lst vs)) H σ (s.put i (.d (.list xs))) ∧ Dq K (upd F p (.lst vs)) (.ref p) (.list xs) := by
  obtain ⟨p, vs, h1, h2, h3, h4, h5, h6⟩ := R.sl i _ h
  have sF : Same F (upd F p (.lst vs)) := same_new h2
  have dq : Dq K (upd F p (.lst vs)) (.ref p) (.list xs) := .lst upd_same (h6.mono sF)
  refine ⟨p, vs, h1, h5, h2, ⟨fun b o q => ?_, R.keep, fun b o g => ?_, fun j x hx => ?_, fun j k ys zs r hj hk e1 e2 => ?_, fun a ha => ?_, by rw [R.len]; exact (List.length_set).symm⟩, dq⟩
  · by_cases hb : b = p
    · rw [hb, upd_same] at q
      cases q
      rw [hb]
      exact h5
    · rw [upd_ne hb] at q
      exact R.same b o q
  · rw [upd_ne (fun z => by rw [z, h3] at g; cases g)]
    exact R.apart b o g
  · rcases set_get hx with ⟨rfl, rfl⟩ | ⟨ne, hx⟩
    · exact ⟨_, h1, dq⟩
    · have q := R.sl j x hx
      cases x with
      | un => exact True.intro
      | d x =>
        obtain ⟨v, a, b⟩ := q
        exact ⟨v, a, b.mono sF⟩
      | o ys =>
        obtain ⟨p', vs', g1, g2, g3, g4, g5, g6⟩ := q
        have np : p' ≠ p := fun z => ne (R.sep j i ys xs p hx h (by rw [← z]; exact g1) h1)
        exact ⟨p', vs', g1, by rw [upd_ne np]; exact g2, g3, g4, g5, g6.mono sF⟩
      | pl => exact q
      | sc ns =>
        obtain ⟨a, g1, g2⟩ := q
        exact ⟨a, g1, sF.seq g2⟩
  · rcases set_get hj with ⟨_, z⟩ | ⟨_, hj⟩
    · cases z
    · rcases set_get hk with ⟨_, z⟩ | ⟨_, hk⟩
      · cases z
      · exact R.sep j k ys zs r hj hk e1 e2
  · obtain ⟨g1, g2, g3⟩ := R.pool a ha
    exact ⟨by rw [upd_ne (fun z => h4 (by rw [← z]; exact ha))]; exact g1, g2, g3⟩
/-- what is new at p -/
structure Nu (G : Hp) (P : Option Addr) (F : Hp) (σ : St) (s : S) (p : Addr) : Prop where
  f : F p = none
  g : G p = none
  np : P ≠ some p
  sl : ∀ (i : Nat) (xs : List PyData), s.e[i]? = some (.o xs) → σ[i]? ≠ some (some (.ref p))
theorem Rep.nu {p : Addr} (R : Rep K G P F H σ s) (h : H p = none) : Nu G P F σ s p where
  f := R.same.free h
  g := R.keep.free h
  np := fun z => by
    rw [(R.pool p z).2.2] at h
    cases h
  sl := fun i xs hx e => by
    obtain ⟨q, vs, h1, h2, h3, h4, h5, h6⟩ := R.sl i _ hx
    rw [e] at h1
    cases h1
    rw [h5] at h
    cases h
/-- a new list is frozen -/
theorem Rep.take {p : Addr} {vs : List V} {xs : List PyData} (R : Rep K G P F H σ s) (n : Nu G P F σ s p) (h : H p = some (.lst vs)) (d : DqA K F vs xs) :
    Rep K G P (upd F p (.lst vs)) H σ s ∧ Dq K (upd F p (.lst vs)) (.ref p) (.list xs) := by
  have sF : Same F (upd F p (.lst vs)) := same_new n.f
  refine ⟨⟨fun b o q => ?_, R.keep, fun b o g => ?_, fun j x hx => ?_, R.sep, fun a ha => ?_, R.len⟩, .lst upd_same (d.mono sF)⟩
  · by_cases hb : b = p
    · rw [hb, upd_same] at q
      cases q
      rw [hb]
      exact h
    · rw [upd_ne hb] at q
      exact R.same b o q
  · rw [upd_ne (fun z => by rw [z, n.g] at g; cases g)]
    exact R.apart b o g
  · have q := R.sl j x hx
    cases x with
    | un => exact True.intro
    | d x =>
      obtain ⟨v, a, b⟩ := q
      exact ⟨v, a, b.mono sF⟩
    | o ys =>
      obtain ⟨p', vs', g1, g2, g3, g4, g5, g6⟩ := q
      have np : p' ≠ p := fun z => n.sl j ys hx (by rw [← z]; exact g1)
      exact ⟨p', vs', g1, by rw [upd_ne np]; exact g2, g3, g4, g5, g6.mono sF⟩
    | pl => exact q
    | sc ns =>
      obtain ⟨a, g1, g2⟩ := q
      exact ⟨a, g1, sF.seq g2⟩
  · obtain ⟨g1, g2, g3⟩ := R.pool a ha
    exact ⟨by rw [upd_ne (fun z => n.np (by rw [← z]; exact ha))]; exact g1, g2, g3⟩
theorem set_self {σ : St} {i : Nat} {v : V} (h : i < σ.length) : (σ.set i (some v))[i]? = some (some v) := List.getElem?_set_self h
/-- data stored -/
theorem put_len {σ : St} {s : S} {i : Nat} {v : Option V} {x : Sl} (h : σ.length = s.e.length) : (σ.set i v).length = (s.put i x).e.length := by
  show (σ.set i v).length = (s.e.set i x).length
  rw [List.length_set, List.length_set, h]
theorem put_lt {s : S} {i : Nat} {x y : Sl} (h : (s.put i x).e[i]? = some y) : i < s.e.length := by
  have h2 := (List.getElem?_eq_some_iff.mp h).1
  have e : (s.put i x).e.length = s.e.length := List.length_set
  omega
theorem Rep.setD {i : Nat} {v : V} {x : PyData} (R : Rep K G P F H σ s) (d : Dq K F v x) : Rep K G P F H (σ.set i (some v)) (s.put i (.d x)) := by
  refine ⟨R.same, R.keep, R.apart, fun j y hy => ?_, fun j k ys zs r hj hk e1 e2 => ?_, R.pool, put_len R.len⟩
  · have hy0 := hy
    rcases set_get hy with ⟨rfl, rfl⟩ | ⟨ne, hy⟩
    · exact ⟨v, set_self (by rw [R.len]; exact put_lt hy0), d⟩
    · have q := R.sl j y hy
      cases y with
      | un => exact True.intro
      | d y =>
        obtain ⟨u, a, b⟩ := q
        exact ⟨u, by rw [List.getElem?_set_ne (Ne.symm ne)]; exact a, b⟩
      | o ys =>
        obtain ⟨p', vs', g1, g2⟩ := q
        exact ⟨p', vs', by rw [List.getElem?_set_ne (Ne.symm ne)]; exact g1, g2⟩
      | pl =>
        obtain ⟨a, h1, h2⟩ := q
        exact ⟨a, h1, by rw [List.getElem?_set_ne (Ne.symm ne)]; exact h2⟩
      | sc ns =>
        obtain ⟨a, h1, h2⟩ := q
        exact ⟨a, by rw [List.getElem?_set_ne (Ne.symm ne)]; exact h1, h2⟩
  · rcases set_get hj with ⟨_, z⟩ | ⟨nj, hj⟩
    · cases z
    · rcases set_get hk with ⟨_, z⟩ | ⟨nk, hk⟩
      · cases z
      · rw [List.getElem?_set_ne (Ne.symm nj)] at e1
        rw [List.getElem?_set_ne (Ne.symm nk)] at e2
        exact R.sep j k ys zs r hj hk e1 e2
/-- a new list stored, one's own -/
theorem Rep.setO {i : Nat} {p : Addr} {vs : List V} {xs : List PyData} (R : Rep K G P F H σ s) (n : Nu G P F σ s p) (h : H p = some (.lst vs)) (d : DqA K F vs xs) : Rep K G P F H (σ.set i (some (.ref p))) (s.put i (.o xs)) := by
  refine ⟨R.same, R.keep, R.apart, fun j y hy => ?_, fun j k ys zs r hj hk e1 e2 => ?_, R.pool, put_len R.len⟩
  · have hy0 := hy
    rcases set_get hy with ⟨rfl, rfl⟩ | ⟨ne, hy⟩
    · exact ⟨p, vs, set_self (by rw [R.len]; exact put_lt hy0), n.f, n.g, n.np, h, d⟩
    · have q := R.sl j y hy
      cases y with
      | un => exact True.intro
      | d y =>
        obtain ⟨u, a, b⟩ := q
        exact ⟨u, by rw [List.getElem?_set_ne (Ne.symm ne)]; exact a, b⟩
      | o ys =>
        obtain ⟨p', vs', g1, g2⟩ := q
        exact ⟨p', vs', by rw [List.getElem?_set_ne (Ne.symm ne)]; exact g1, g2⟩
      | pl =>
        obtain ⟨a, h1, h2⟩ := q
        exact ⟨a, h1, by rw [List.getElem?_set_ne (Ne.symm ne)]; exact h2⟩
      | sc ns =>
        obtain ⟨a, h1, h2⟩ := q
        exact ⟨a, by rw [List.getElem?_set_ne (Ne.symm ne)]; exact h1, h2⟩
  · have hj0 := hj
    have hk0 := hk
    rcases set_get hj with ⟨rfl, z⟩ | ⟨nj, hj2⟩
    · rcases set_get hk with ⟨rfl, z2⟩ | ⟨nk, hk2⟩
      · rfl
      · rw [List.getElem?_set_ne (Ne.symm nk)] at e2
        rw [set_self (by rw [R.len]; exact put_lt hj0)] at e1
        cases e1
        exact absurd e2 (n.sl k zs hk2)
    · rw [List.getElem?_set_ne (Ne.symm nj)] at e1
      rcases set_get hk with ⟨rfl, z2⟩ | ⟨nk, hk2⟩
      · rw [set_self (by rw [R.len]; exact put_lt hk0)] at e2
        cases e2
        exact absurd e1 (n.sl j ys hj2)
      · rw [List.getElem?_set_ne (Ne.symm nk)] at e2
        exact R.sep j k ys zs r hj2 hk2 e1 e2
/-- a slot's own list changed -/
theorem Rep.wrO {i : Nat} {p : Addr} {ws : List V} {xs ys : List PyData} (R : Rep K G P F H σ s) (h : s.e[i]? = some (.o xs)) (e : σ[i]? = some (some (.ref p))) (d : DqA K F ws ys) :
    Rep K G P F (upd H p (.lst ws)) σ (s.put i (.o ys)) := by
  obtain ⟨p0, vs0, h1, h2, h3, h4, h5, h6⟩ := R.sl i _ h
  rw [e] at h1
  cases h1
  refine ⟨fun b o q => ?_, fun b o q => ?_, R.apart, fun j y hy => ?_, fun j k us zs r hj hk e1 e2 => ?_, fun a ha => ?_, by rw [R.len]; exact (List.length_set).symm⟩
  · rw [upd_ne (fun z => by rw [z, h2] at q; cases q)]
    exact R.same b o q
  · rw [upd_ne (fun z => by rw [z, h3] at q; cases q)]
    exact R.keep b o q
  · rcases set_get hy with ⟨rfl, rfl⟩ | ⟨ne, hy⟩
    · exact ⟨p, ws, e, h2, h3, h4, upd_same, d⟩
    · have q := R.sl j y hy
      cases y with
      | un => exact True.intro
      | d y => exact q
      | o us =>
        obtain ⟨p', vs', g1, g2, g3, g4, g5, g6⟩ := q
        have np : p' ≠ p := fun z => ne (R.sep j i us xs p hy h (by rw [← z]; exact g1) e)
        exact ⟨p', vs', g1, g2, g3, g4, by rw [upd_ne np]; exact g5, g6⟩
      | pl => exact q
      | sc ns => exact q
  · have hj' : ∃ us', s.e[j]? = some (.o us') := by
      rcases set_get hj with ⟨rfl, _⟩ | ⟨_, hj⟩
      · exact ⟨_, h⟩
      · exact ⟨_, hj⟩
    have hk' : ∃ us', s.e[k]? = some (.o us') := by
      rcases set_get hk with ⟨rfl, _⟩ | ⟨_, hk⟩
      · exact ⟨_, h⟩
      · exact ⟨_, hk⟩
    obtain ⟨a, ha⟩ := hj'
    obtain ⟨b, hb⟩ := hk'
    exact R.sep j k a b r ha hb e1 e2
  · obtain ⟨g1, g2, g3⟩ := R.pool a ha
    exact ⟨g1, g2, by rw [upd_ne (fun z => h4 (by rw [← z]; exact ha))]; exact g3⟩
end

/-! ### readings by data -/
abbrev DE := S → (PyData → S → Prop) → Prop
abbrev DA := S → (List PyData → S → Prop) → Prop
abbrev DT := S → (Bool → S → Prop) → Prop
def tE (K : PySem.W.Frag) (w : DE) : TE := fun σ H Q => ∃ G P F s Φ, Rep K G P F H σ s ∧ w s Φ ∧ ∀ v F' H' s' x, Rep K G P F' H' σ s' → Same F F' → Dq K F' v x → Φ x s' → Q v H'
def tA (K : PySem.W.Frag) (w : DA) : TA := fun σ H Q => ∃ G P F s Φ, Rep K G P F H σ s ∧ w s Φ ∧ ∀ vs F' H' s' xs, Rep K G P F' H' σ s' → Same F F' → DqA K F' vs xs → Φ xs s' → Q vs H'
def tT (K : PySem.W.Frag) (w : DT) : TT := fun σ H Q => ∃ G P F s Φ, Rep K G P F H σ s ∧ w s Φ ∧ ∀ b F' H' s', Rep K G P F' H' σ s' → Same F F' → Φ b s' → Q b H'
/-- a new list -/
def tL (K : PySem.W.Frag) (w : DA) : TE := fun σ H Q => ∃ G P F s Φ, Rep K G P F H σ s ∧ w s Φ ∧
  ∀ p vs F' H' s' xs, Rep K G P F' H' σ s' → Same F F' → Nu G P F' σ s' p → H' p = some (.lst vs) → DqA K F' vs xs → Φ xs s' → Q (.ref p) H'
abbrev XE (X : Cx) (e : Expr) (w : DE) : Prop := PE X e (tE X.K w)
abbrev XA (X : Cx) (es : List Expr) (w : DA) : Prop := PA X es (tA X.K w)
abbrev XT (X : Cx) (e : Expr) (w : DT) : Prop := PT X e (tT X.K w)
abbrev XW (X : Cx) (e : Expr) (w : DT) : Prop := PW X e (tT X.K w)
abbrev XL (X : Cx) (e : Expr) (w : DA) : Prop := PE X e (tL X.K w)
section
variable {X : Cx} {e a b c : Expr} {es rest : List Expr}
theorem pe_imp {t t' : TE} (h : PE X e t) (i : ∀ σ H Q, t' σ H Q → t σ H Q) : PE X e t' := ⟨fun pins s σ H Q I q => h.run pins s σ H Q I (i _ _ _ q)⟩
theorem pa_imp {t t' : TA} (h : PA X es t) (i : ∀ σ H Q, t' σ H Q → t σ H Q) : PA X es t' := ⟨fun pos pins s σ H Q I q => h.run pos pins s σ H Q I (i _ _ _ q)⟩
theorem pt_imp {t t' : TT} (h : PT X e t) (i : ∀ σ H Q, t' σ H Q → t σ H Q) : PT X e t' := ⟨fun pins s σ H Q I q => h.run pins s σ H Q I (i _ _ _ q)⟩
theorem pw_imp {t t' : TT} (h : PW X e t) (i : ∀ σ H Q, t' σ H Q → t σ H Q) : PW X e t' := ⟨fun wh pins s σ H Q I q => h.run wh pins s σ H Q I (i _ _ _ q)⟩

/-! names, constants -/
@[simp] def wC (x : PyData) : DE := fun s Φ => Φ x s
@[simp] def wVar (i : Nat) : DE := fun s Φ => match s.e[i]? with
  | some (.d x) => Φ x s
  | some (.o xs) => Φ (.list xs) (s.put i (.d (.list xs)))
  | _ => False
theorem c_of {K : PySem.W.Frag} {v : V} {x : PyData} (d : ∀ F, Dq K F v x) (σ : St) (H : Hp) (Q : VK) (h : tE K (wC x) σ H Q) : Q v H := by
  obtain ⟨G, P, F, s, Φ, R, h, k⟩ := h
  exact k v F H s x R (Same.refl F) (d F) h
theorem xe_int {i j pos} : XE X (.Constant (.int i) j pos) (wC (.int i)) := pe_imp pe_int (c_of fun _ => .int i)
theorem xe_bl {i j pos} : XE X (.Constant (.bool i) j pos) (wC (.bool i)) := pe_imp pe_bl (c_of fun _ => .bl i)
theorem xe_non {j pos} : XE X (.Constant .none j pos) (wC .none) := pe_imp pe_non (c_of fun _ => .non)
theorem xe_str {x j pos} : XE X (.Constant (.str x) j pos) (wC (.str x)) := pe_imp pe_str (c_of fun _ => .str x)
theorem xe_var (i : Nat) {x : Str} {pos : Pos} (hN : X.N[i]? = some x := by rfl) (hv : Vis X.env.scope x := by first | exact Or.inl rfl | exact Or.inr (Or.inl rfl) | exact Or.inr (Or.inr rfl)) (hd : (x == ("__debug__" : Str)) = false := by decide)
    (hcd : (x == ("__classdict__" : Str)) = false := by decide) : XE X (.Name x pos) (wVar i) := by
  refine pe_imp (pe_var hN hv hd hcd) fun σ H Q h => ?_
  obtain ⟨G, P, F, s, Φ, R, h, k⟩ := h
  unfold wVar at h
  cases hs : s.e[i]? with
  | none =>
    rw [hs] at h
    exact h.elim
  | some x =>
    rw [hs] at h
    cases x with
    | un => exact h.elim
    | pl => exact h.elim
    | sc ns => exact h.elim
    | d x =>
      obtain ⟨v, a, b⟩ := R.sl i _ hs
      exact ⟨v, a, k v F H s x R (Same.refl F) b h⟩
    | o xs =>
      obtain ⟨p, vs, h1, h2, h3, R', d⟩ := R.freeze hs
      exact ⟨_, h1, k _ _ H _ _ R' (same_new h3) d h⟩
/-- a constant of the module -/
theorem xe_glob {x : Str} {v : V} {u : Value} {d : PyData} {pos : Pos} (hg : Gl X x) (hm : X.mg x = some u) (r : RelV v u) (hd : ∀ F, Dq X.K F v d) (hdb : (x == ("__debug__" : Str)) = false := by decide) : XE X (.Name x pos) (wC d) :=
  pe_imp (pe_glob hg hm r hdb) (c_of hd)

/-! operations -/
abbrev W2 := PyData → PyData → (PyData → Prop) → Prop
structure Op2 (K : PySem.W.Frag) (r : R2) (w : W2) : Prop where
  run : ∀ {F H : Hp} {x y : V} {dx dy : PyData} (Q : VK) (Φ : PyData → Prop), Same F H → Dq K F x dx → Dq K F y dy → w dx dy Φ → (∀ v F' H' d, Fresh F H F' H' → Dq K F' v d → Φ d → Q v H') → r x y H Q
def rOr (r r' : R2) : R2 := fun x y H Q => r x y H Q ∨ r' x y H Q
theorem opr_or {f : Value → Value → Sem Value} {r r' : R2} (h : OpR X f r) (h' : OpR X f r') : OpR X f (rOr r r') := fun pins s σ H x y v u Q I rx ry q => by
  rcases q with q | q
  · exact h pins s σ H x y v u Q I rx ry q
  · exact h' pins s σ H x y v u Q I rx ry q
theorem Op2.inl {K : PySem.W.Frag} {r r' : R2} {w : W2} (h : Op2 K r w) : Op2 K (rOr r r') w := ⟨fun Q Φ a b c d e => .inl (h.run Q Φ a b c d e)⟩
theorem Op2.inr {K : PySem.W.Frag} {r r' : R2} {w : W2} (h : Op2 K r' w) : Op2 K (rOr r r') w := ⟨fun Q Φ a b c d e => .inr (h.run Q Φ a b c d e)⟩
theorem Op2.or {K : PySem.W.Frag} {r r' : R2} {w w' v : W2} (h : Op2 K r w) (h' : Op2 K r' w') (i : ∀ x y Φ, v x y Φ → w x y Φ ∨ w' x y Φ) : Op2 K (rOr r r') v := ⟨fun Q Φ a b c d e => by
  rcases i _ _ _ d with d | d
  · exact .inl (h.run Q Φ a b c d e)
  · exact .inr (h'.run Q Φ a b c d e)⟩
@[simp] def wBin (w : W2) (wa wb : DE) : DE := fun s Φ => wa s fun x s1 => wb s1 fun y s2 => w x y fun z => Φ z s2
theorem bin_of {K : PySem.W.Frag} {r : R2} {w : W2} {wa wb : DE} (O : Op2 K r w) (σ : St) (H : Hp) (Q : VK) (h : tE K (wBin w wa wb) σ H Q) : tOp r (tE K wa) (tE K wb) σ H Q := by
  obtain ⟨G, P, F, s, Φ, R, h, k⟩ := h
  refine ⟨G, P, F, s, _, R, h, fun x F1 H1 s1 dx R1 e1 d1 h1 => ⟨G, P, F1, s1, _, R1, h1, fun y F2 H2 s2 dy R2 e2 d2 h2 => ?_⟩⟩
  exact O.run Q _ R2.same (d1.mono e2) d2 h2 fun v F3 H3 d f dq q => k v F3 H3 s2 d (R2.fresh f) ((e1.trans e2).trans f.ff) dq q
theorem xe_op {op : Operator} {r : R2} {w : W2} {wa wb : DE} {pos : Pos} (ho : OpR X (binaryOp op) r) (O : Op2 X.K r w) (ha : XE X a wa) (hb : XE X b wb) : XE X (.BinOp a op b pos) (wBin w wa wb) :=
  pe_imp (pe_op ho ha hb) (bin_of O)
theorem xe_cmp {op : CmpOp} {r : R2} {w : W2} {wa wb : DE} {pos : Pos} (ho : OpR X (compareOp op) r) (O : Op2 X.K r w) (ha : XE X a wa) (hb : XE X b wb) (hm : behindInMarks op b = false := by first | exact nobehind _ (by decide) (by decide) | rfl) :
    XE X (.Compare a [op] [b] pos) (wBin w wa wb) := pe_imp (pe_cmpR ho ha hb hm) (bin_of O)
theorem xe_ixR {r : R2} {w : W2} {wa wb : DE} {pos : Pos} (ho : IxR X r) (O : Op2 X.K r w) (ha : XE X a wa) (hb : XE X b wb) (hs : PlainIx b := by exact fun _ _ => rfl) : XE X (.Subscript a b pos) (wBin w wa wb) :=
  pe_imp (pe_ix ho ha hb hs) (bin_of O)
abbrev W1 := PyData → (PyData → Prop) → Prop
structure Op1 (K : PySem.W.Frag) (r : V → Hp → VK → Prop) (w : W1) : Prop where
  run : ∀ {F H : Hp} {x : V} {dx : PyData} (Q : VK) (Φ : PyData → Prop), Same F H → Dq K F x dx → w dx Φ → (∀ v F' H' d, Fresh F H F' H' → Dq K F' v d → Φ d → Q v H') → r x H Q
@[simp] def wUn (w : W1) (wa : DE) : DE := fun s Φ => wa s fun x s1 => w x fun z => Φ z s1
theorem xe_un {op : UnaryOp} {r : V → Hp → VK → Prop} {w : W1} {wa : DE} {pos : Pos} (ho : UnR X (unaryOp op) r) (O : Op1 X.K r w) (ha : XE X a wa) : XE X (.UnaryOp op a pos) (wUn w wa) :=
  pe_imp (pe_un ho ha) fun σ H Q h => by
    obtain ⟨G, P, F, s, Φ, R, h, k⟩ := h
    refine ⟨G, P, F, s, _, R, h, fun x F1 H1 s1 dx R1 e1 d1 h1 => ?_⟩
    exact O.run Q _ R1.same d1 h1 fun v F3 H3 d f dq q => k v F3 H3 s1 d (R1.fresh f) (e1.trans f.ff) dq q

/-! argument lists, displays -/
@[simp] def wNil : DA := fun s Φ => Φ [] s
@[simp] def wCons (wa : DE) (wr : DA) : DA := fun s Φ => wa s fun x s1 => wr s1 fun xs s2 => Φ (x :: xs) s2
theorem xa_nil : XA X [] wNil := pa_imp pa_nil fun σ H Q h => by
  obtain ⟨G, P, F, s, Φ, R, h, k⟩ := h
  exact k [] F H s [] R (Same.refl F) .nil h
theorem xa_cons {wa : DE} {wr : DA} (ha : XE X e wa) (hr : XA X es wr) (hs : starEach (e :: es) X.env = (false, eval e X.env) :: starEach es X.env := by rfl) : XA X (e :: es) (wCons wa wr) :=
  pa_imp (pa_cons ha hr hs) fun σ H Q h => by
    obtain ⟨G, P, F, s, Φ, R, h, k⟩ := h
    refine ⟨G, P, F, s, _, R, h, fun x F1 H1 s1 dx R1 e1 d1 h1 => ⟨G, P, F1, s1, _, R1, h1, fun xs F2 H2 s2 ds R2 e2 d2 h2 => ?_⟩⟩
    exact k _ F2 H2 s2 _ R2 (e1.trans e2) (.cons (d1.mono e2) d2) h2
@[simp] def wTup (w : DA) : DE := fun s Φ => w s fun xs s1 => xs.length ≤ sizeLine ∧ Φ (.tuple xs) s1
theorem xe_tup {x1 pos} {w : DA} (h : XA X es w) : XE X (.Tuple es x1 pos) (wTup w) := pe_imp (pe_tup h) fun σ H Q h => by
  obtain ⟨G, P, F, s, Φ, R, h, k⟩ := h
  refine ⟨G, P, F, s, _, R, h, fun xs F1 H1 s1 ds R1 e1 d1 h1 => ⟨by rw [d1.length]; exact h1.1, fun p hp => ?_⟩⟩
  have f := Fresh.new (o := .tup xs) R1.same hp
  exact k _ _ _ s1 _ (R1.fresh f) (e1.trans f.ff) (.tup (SqT.of upd_same) (d1.mono f.ff)) h1.2
@[simp] def wLst (w : DA) : DA := fun s Φ => w s fun xs s1 => xs.length ≤ sizeLine ∧ Φ xs s1
theorem nu_new {K : PySem.W.Frag} {G F H : Hp} {P : Option Addr} {σ : St} {s : S} {p : Addr} {o : HO} (R : Rep K G P F H σ s) (hp : H p = none) : Rep K G P F (upd H p o) σ s ∧ Nu G P F σ s p :=
  ⟨R.fresh (Fresh.newH R.same hp), R.nu hp⟩
theorem xl_lst {pos} {w : DA} (h : XA X es w) : XL X (.List es pos) (wLst w) := pe_imp (pe_lst h) fun σ H Q h => by
  obtain ⟨G, P, F, s, Φ, R, h, k⟩ := h
  refine ⟨G, P, F, s, _, R, h, fun xs F1 H1 s1 ds R1 e1 d1 h1 => ⟨by rw [d1.length]; exact h1.1, fun p hp => ?_⟩⟩
  obtain ⟨R2, n⟩ := nu_new (o := .lst xs) R1 hp
  exact k _ _ _ _ s1 _ R2 e1 n upd_same d1 h1.2
/-- a new list as data -/
@[simp] def wFz (w : DA) : DE := fun s Φ => w s fun xs s1 => Φ (.list xs) s1
theorem fz_of {K : PySem.W.Frag} {w : DA} (σ : St) (H : Hp) (Q : VK) (h : tE K (wFz w) σ H Q) : tL K w σ H Q := by
  obtain ⟨G, P, F, s, Φ, R, h, k⟩ := h
  refine ⟨G, P, F, s, _, R, h, fun p vs F1 H1 s1 xs R1 e1 n hp d1 h1 => ?_⟩
  obtain ⟨R2, dq⟩ := R1.take n hp d1
  exact k _ _ _ s1 _ R2 (e1.trans (same_new n.f)) dq h1
theorem xl_fz {w : DA} (h : XL X e w) : XE X e (wFz w) := pe_imp h fz_of

/-! operations that make a list -/
abbrev W2L := PyData → PyData → (List PyData → Prop) → Prop
structure Op2L (K : PySem.W.Frag) (r : R2) (w : W2L) : Prop where
  run : ∀ {F H : Hp} {x y : V} {dx dy : PyData} (Q : VK) (Φ : List PyData → Prop), Same F H → Dq K F x dx → Dq K F y dy → w dx dy Φ → (∀ p vs ds, H p = none → DqA K F vs ds → Φ ds → Q (.ref p) (upd H p (.lst vs))) → r x y H Q
@[simp] def wBinL (w : W2L) (wa wb : DE) : DA := fun s Φ => wa s fun x s1 => wb s1 fun y s2 => w x y fun z => Φ z s2
theorem binL_of {K : PySem.W.Frag} {r : R2} {w : W2L} {wa wb : DE} (O : Op2L K r w) (σ : St) (H : Hp) (Q : VK) (h : tL K (wBinL w wa wb) σ H Q) : tOp r (tE K wa) (tE K wb) σ H Q := by
  obtain ⟨G, P, F, s, Φ, R, h, k⟩ := h
  refine ⟨G, P, F, s, _, R, h, fun x F1 H1 s1 dx R1 e1 d1 h1 => ⟨G, P, F1, s1, _, R1, h1, fun y F2 H2 s2 dy R2 e2 d2 h2 => ?_⟩⟩
  refine O.run Q _ R2.same (d1.mono e2) d2 h2 fun p vs ds hp dq q => ?_
  obtain ⟨R3, n⟩ := nu_new (o := .lst vs) R2 hp
  exact k p vs F2 _ s2 ds R3 (e1.trans e2) n upd_same dq q
theorem xl_op {op : Operator} {r : R2} {w : W2L} {wa wb : DE} {pos : Pos} (ho : OpR X (binaryOp op) r) (O : Op2L X.K r w) (ha : XE X a wa) (hb : XE X b wb) : XL X (.BinOp a op b pos) (wBinL w wa wb) :=
  pe_imp (pe_op ho ha hb) (binL_of O)
/-- one that makes a list, as one that gives data -/
theorem Op2L.op2 {K : PySem.W.Frag} {r : R2} {w : W2L} (O : Op2L K r w) : Op2 K r (fun x y Φ => w x y fun xs => Φ (.list xs)) := ⟨fun {F H x y dx dy} Q Φ e d1 d2 h k => O.run Q _ e d1 d2 h fun p vs ds hp dq q => by
  have f := Fresh.new (o := .lst vs) e hp
  exact k _ _ _ _ f (.lst upd_same (dq.mono f.ff)) q⟩

/-! tests -/
@[simp] def wTst (w : DE) : DT := fun s Φ => w s fun x s1 => match x with
  | .bool b => Φ b s1
  | _ => False
theorem tst_of {K : PySem.W.Frag} {w : DE} (σ : St) (H : Hp) (Q : Bool → Hp → Prop) (h : tT K (wTst w) σ H Q) : tE K w σ H fun x H1 => ∃ k, x = .bl k ∧ Q k H1 := by
  obtain ⟨G, P, F, s, Φ, R, h, k⟩ := h
  refine ⟨G, P, F, s, _, R, h, fun x F1 H1 s1 dx R1 e1 d1 h1 => ?_⟩
  cases dx with
  | bool b =>
    cases d1
    exact ⟨b, rfl, k b F1 H1 s1 R1 e1 h1⟩
  | _ => exact h1.elim
theorem xt_val {w : DE} (h : XE X e w) (he : ∀ whole, isTrue e X.env whole = (do let v ← whole; standAt e.pos; holding [v] (truthy v)) := by intro _; rfl) : XT X e (wTst w) := pt_imp (pt_val h he) tst_of
theorem xt_cmp {op : CmpOp} {r : R2} {w : W2} {wa wb : DE} {pos : Pos} (ho : OpR X (compareOp op) r) (O : Op2 X.K r w) (ha : XE X a wa) (hb : XE X b wb) (hm : behindInMarks op b = false := by first | exact nobehind _ (by decide) (by decide) | rfl) :
    XT X (.Compare a [op] [b] pos) (wTst (wBin w wa wb)) := pt_imp (pt_cmpR ho ha hb hm) fun σ H Q h => by
  obtain ⟨G, P, F, s, Φ, R, h, k⟩ := tst_of σ H Q h
  exact bin_of O σ H _ ⟨G, P, F, s, Φ, R, h, k⟩
@[simp] def wNot (w : DT) : DT := fun s Φ => w s fun b s1 => Φ (!b) s1
theorem xt_not {w : DT} {pos : Pos} (h : XT X a w) : XT X (.UnaryOp .Not a pos) (wNot w) := pt_imp (pt_not h) fun σ H Q h => by
  obtain ⟨G, P, F, s, Φ, R, h, k⟩ := h
  exact ⟨G, P, F, s, _, R, h, fun b F1 H1 s1 R1 e1 h1 => k (!b) F1 H1 s1 R1 e1 h1⟩
@[simp] def wAnd (w u : DT) : DT := fun s Φ => w s fun b s1 => if b = true then u s1 Φ else Φ false s1
@[simp] def wOr (w u : DT) : DT := fun s Φ => w s fun b s1 => if b = true then Φ true s1 else u s1 Φ
theorem and_of {K : PySem.W.Frag} {w u : DT} (σ : St) (H : Hp) (Q : Bool → Hp → Prop) (h : tT K (wAnd w u) σ H Q) : tAnd (tT K w) (tT K u) σ H Q := by
  obtain ⟨G, P, F, s, Φ, R, h, k⟩ := h
  refine ⟨G, P, F, s, _, R, h, fun b F1 H1 s1 R1 e1 h1 => ?_⟩
  cases b with
  | true =>
    rw [if_pos rfl] at h1 ⊢
    exact ⟨G, P, F1, s1, _, R1, h1, fun b F2 H2 s2 R2 e2 h2 => k b F2 H2 s2 R2 (e1.trans e2) h2⟩
  | false =>
    rw [if_neg Bool.false_ne_true] at h1 ⊢
    exact k false F1 H1 s1 R1 e1 h1
theorem or_of {K : PySem.W.Frag} {w u : DT} (σ : St) (H : Hp) (Q : Bool → Hp → Prop) (h : tT K (wOr w u) σ H Q) : tOr (tT K w) (tT K u) σ H Q := by
  obtain ⟨G, P, F, s, Φ, R, h, k⟩ := h
  refine ⟨G, P, F, s, _, R, h, fun b F1 H1 s1 R1 e1 h1 => ?_⟩
  cases b with
  | false =>
    rw [if_neg Bool.false_ne_true] at h1 ⊢
    exact ⟨G, P, F1, s1, _, R1, h1, fun b F2 H2 s2 R2 e2 h2 => k b F2 H2 s2 R2 (e1.trans e2) h2⟩
  | true =>
    rw [if_pos rfl] at h1 ⊢
    exact k true F1 H1 s1 R1 e1 h1
theorem xw_and1 {w : DT} {pos : Pos} (h : XT X a w) : XW X (.BoolOp .And [a] pos) w := pw_and1 h
theorem xw_or1 {w : DT} {pos : Pos} (h : XT X a w) : XW X (.BoolOp .Or [a] pos) w := pw_or1 h
theorem xw_and {w u : DT} {pos : Pos} (ha : XT X a w) (hb : XW X (.BoolOp .And (b :: rest) pos) u) : XW X (.BoolOp .And (a :: b :: rest) pos) (wAnd w u) := pw_imp (pw_and ha hb) and_of
theorem xw_or {w u : DT} {pos : Pos} (ha : XT X a w) (hb : XW X (.BoolOp .Or (b :: rest) pos) u) : XW X (.BoolOp .Or (a :: b :: rest) pos) (wOr w u) := pw_imp (pw_or ha hb) or_of
theorem xw_t {w : DT} (h : XW X e w) : XT X e w := PW.pt h
/-! the same as values: True and False -/
@[simp] def wAndV (w u : DE) : DE := fun s Φ => w s fun x s1 => match x with
  | .bool b => if b = true then u s1 Φ else Φ (.bool false) s1
  | _ => False
@[simp] def wOrV (w u : DE) : DE := fun s Φ => w s fun x s1 => match x with
  | .bool b => if b = true then Φ (.bool true) s1 else u s1 Φ
  | _ => False
@[simp] def wNotV (w : DE) : DE := fun s Φ => w s fun x s1 => match x with
  | .bool b => Φ (.bool (!b)) s1
  | _ => False
theorem xe_one {op} {w : DE} {pos : Pos} (h : XE X a w) : XE X (.BoolOp op [a] pos) w := pe_one h
theorem xe_and {w u : DE} {pos : Pos} (ha : XE X a w) (hb : XE X (.BoolOp .And (b :: rest) pos) u) : XE X (.BoolOp .And (a :: b :: rest) pos) (wAndV w u) := pe_imp (pe_and ha hb) fun σ H Q h => by
  obtain ⟨G, P, F, s, Φ, R, h, k⟩ := h
  refine ⟨G, P, F, s, _, R, h, fun x F1 H1 s1 dx R1 e1 d1 h1 => ?_⟩
  cases dx with
  | bool b =>
    cases d1
    refine ⟨b, rfl, ?_⟩
    cases b with
    | true =>
      rw [if_pos rfl]
      exact ⟨G, P, F1, s1, _, R1, h1, fun y F2 H2 s2 dy R2 e2 d2 h2 => k y F2 H2 s2 dy R2 (e1.trans e2) d2 h2⟩
    | false =>
      rw [if_neg Bool.false_ne_true]
      exact k _ F1 H1 s1 _ R1 e1 (.bl false) h1
  | _ => exact h1.elim
theorem xe_or {w u : DE} {pos : Pos} (ha : XE X a w) (hb : XE X (.BoolOp .Or (b :: rest) pos) u) : XE X (.BoolOp .Or (a :: b :: rest) pos) (wOrV w u) := pe_imp (pe_or ha hb) fun σ H Q h => by
  obtain ⟨G, P, F, s, Φ, R, h, k⟩ := h
  refine ⟨G, P, F, s, _, R, h, fun x F1 H1 s1 dx R1 e1 d1 h1 => ?_⟩
  cases dx with
  | bool b =>
    cases d1
    refine ⟨b, rfl, ?_⟩
    cases b with
    | false =>
      rw [if_neg Bool.false_ne_true]
      exact ⟨G, P, F1, s1, _, R1, h1, fun y F2 H2 s2 dy R2 e2 d2 h2 => k y F2 H2 s2 dy R2 (e1.trans e2) d2 h2⟩
    | true =>
      rw [if_pos rfl]
      exact k _ F1 H1 s1 _ R1 e1 (.bl true) h1
  | _ => exact h1.elim
theorem xe_not {w : DE} {pos : Pos} (ha : XE X a w) : XE X (.UnaryOp .Not a pos) (wNotV w) := pe_imp (pe_not ha) fun σ H Q h => by
  obtain ⟨G, P, F, s, Φ, R, h, k⟩ := h
  refine ⟨G, P, F, s, _, R, h, fun x F1 H1 s1 dx R1 e1 d1 h1 => ?_⟩
  cases dx with
  | bool b =>
    cases d1
    exact ⟨b, rfl, k _ F1 H1 s1 _ R1 e1 (.bl _) h1⟩
  | _ => exact h1.elim
@[simp] def wIfE (t : DT) (w u : DE) : DE := fun s Φ => t s fun b s1 => if b = true then w s1 Φ else u s1 Φ
theorem xe_if {t : DT} {w u : DE} {pos : Pos} (hc : XT X c t) (ha : XE X a w) (hb : XE X b u) : XE X (.IfExp c a b pos) (wIfE t w u) := pe_imp (pe_ifExp hc ha hb) fun σ H Q h => by
  obtain ⟨G, P, F, s, Φ, R, h, k⟩ := h
  refine ⟨G, P, F, s, _, R, h, fun b F1 H1 s1 R1 e1 h1 => ?_⟩
  cases b with
  | true =>
    rw [if_pos rfl] at h1 ⊢
    exact ⟨G, P, F1, s1, _, R1, h1, fun y F2 H2 s2 dy R2 e2 d2 h2 => k y F2 H2 s2 dy R2 (e1.trans e2) d2 h2⟩
  | false =>
    rw [if_neg Bool.false_ne_true] at h1 ⊢
    exact ⟨G, P, F1, s1, _, R1, h1, fun y F2 H2 s2 dy R2 e2 d2 h2 => k y F2 H2 s2 dy R2 (e1.trans e2) d2 h2⟩

/-! calls of built-in functions and types -/
abbrev WN := List PyData → (PyData → Prop) → Prop
structure OpN (K : PySem.W.Frag) (r : List V → Hp → VK → Prop) (w : WN) : Prop where
  run : ∀ {F H : Hp} {xs : List V} {ds : List PyData} (Q : VK) (Φ : PyData → Prop), Same F H → DqA K F xs ds → w ds Φ → (∀ v F' H' d, Fresh F H F' H' → Dq K F' v d → Φ d → Q v H') → r xs H Q
@[simp] def wCB (w : WN) (wa : DA) : DE := fun s Φ => wa s fun xs s1 => w xs fun z => Φ z s1
theorem cb_of {K : PySem.W.Frag} {r : List V → Hp → VK → Prop} {w : WN} {wa : DA} (O : OpN K r w) (σ : St) (H : Hp) (Q : VK) (h : tE K (wCB w wa) σ H Q) : tCB r (tA K wa) σ H Q := by
  obtain ⟨G, P, F, s, Φ, R, h, k⟩ := h
  refine ⟨G, P, F, s, _, R, h, fun xs F1 H1 s1 ds R1 e1 d1 h1 => ?_⟩
  exact O.run Q _ R1.same d1 h1 fun v F3 H3 d f dq q => k v F3 H3 s1 d (R1.fresh f) (e1.trans f.ff) dq q
theorem xe_callB {x : Str} {p pos : Pos} {id : String} {r : List V → Hp → VK → Prop} {w : WN} {wa : DA} (hc : CallR X (.builtin id) r) (O : OpN X.K r w) (hg : Gl X x) (hm : X.mg x = none) (hv : bootBuiltins x = some (.builtin id)) (ha : XA X (e :: es) wa)
    (hn : x ≠ "__name__" := by decide) (hdb : (x == ("__debug__" : Str)) = false := by decide) (he : starEach (e :: es) X.env = (false, eval e X.env) :: starEach es X.env := by rfl) (hpl : (backTo pos (starEach es X.env)).any (·.1) = false := by rfl) :
    XE X (.Call (.Name x p) (e :: es) [] pos) (wCB w wa) := pe_imp (pe_callB hc hg hm hv ha hn hdb he hpl) (cb_of O)
theorem xe_callTy {x : Str} {p pos : Pos} {T : String} {r : List V → Hp → VK → Prop} {w : WN} {wa : DA} (hc : CallR X (.type T) r) (O : OpN X.K r w) (hg : Gl X x) (hm : X.mg x = none) (hv : bootBuiltins x = some (.type T)) (ha : XA X (e :: es) wa)
    (hn : x ≠ "__name__" := by decide) (hdb : (x == ("__debug__" : Str)) = false := by decide) (he : starEach (e :: es) X.env = (false, eval e X.env) :: starEach es X.env := by rfl) (hpl : (backTo pos (starEach es X.env)).any (·.1) = false := by rfl) :
    XE X (.Call (.Name x p) (e :: es) [] pos) (wCB w wa) := pe_imp (pe_callTy hc hg hm hv ha hn hdb he hpl) (cb_of O)
end
end DL
/-! DL, second part: statements, loops, comprehensions, defs. -/
namespace DL
open PySem PySem.Spec L2

structure EN where
  nx : S → Prop
  rt : PyData → S → Prop
  bk : S → Prop := fun _ => False
  ct : S → Prop := fun _ => False
  rl : List PyData → S → Prop := fun _ _ => False
abbrev DS := EN → S → Prop
/-- what is known of the ends -/
structure Beh (K : PySem.W.Frag) (G : Hp) (P : Option Addr) (F : Hp) (Φ : EN) (D : Ends) : Prop where
  nx : ∀ σ' F' H' s', Rep K G P F' H' σ' s' → Same F F' → Φ.nx s' → D.nx σ' H'
  rt : ∀ v σ' F' H' s' x, Rep K G P F' H' σ' s' → Same F F' → Dq K F' v x → Φ.rt x s' → D.rt v H'
  bk : ∀ σ' F' H' s', Rep K G P F' H' σ' s' → Same F F' → Φ.bk s' → D.bk σ' H'
  ct : ∀ σ' F' H' s', Rep K G P F' H' σ' s' → Same F F' → Φ.ct s' → D.ct σ' H'
  rl : ∀ p vs σ' F' H' s' xs, Rep K G P F' H' σ' s' → Same F F' → Nu G P F' σ' s' p → H' p = some (.lst vs) → DqA K F' vs xs → Φ.rl xs s' → D.rt (.ref p) H'
theorem Beh.up {K : PySem.W.Frag} {G F F' : Hp} {P : Option Addr} {Φ : EN} {D : Ends} (b : Beh K G P F Φ D) (e : Same F F') : Beh K G P F' Φ D :=
  ⟨fun σ' F2 H' s' R e2 => b.nx σ' F2 H' s' R (e.trans e2), fun v σ' F2 H' s' x R e2 => b.rt v σ' F2 H' s' x R (e.trans e2), fun σ' F2 H' s' R e2 => b.bk σ' F2 H' s' R (e.trans e2), fun σ' F2 H' s' R e2 => b.ct σ' F2 H' s' R (e.trans e2),
    fun p vs σ' F2 H' s' xs R e2 => b.rl p vs σ' F2 H' s' xs R (e.trans e2)⟩
def tS (K : PySem.W.Frag) (w : DS) : TS := fun D σ H => ∃ G P F s Φ, Rep K G P F H σ s ∧ w Φ s ∧ Beh K G P F Φ D
abbrev XS (X : Cx) (st : Stmt) (w : DS) : Prop := PS X st (tS X.K w)
abbrev XSs (X : Cx) (st : List Stmt) (w : DS) : Prop := PSs X st (tS X.K w)
section
variable {X : Cx} {st : Stmt} {sts rest : List Stmt} {e : Expr} {pos : Pos}
theorem ps_imp {t t' : TS} (h : PS X st t) (i : ∀ D σ H, t' D σ H → t D σ H) : PS X st t' := ⟨fun pins s σ H D I q => h.run pins s σ H D I (i _ _ _ q)⟩
theorem pss_imp {t t' : TS} (h : PSs X sts t) (i : ∀ D σ H, t' D σ H → t D σ H) : PSs X sts t' := ⟨fun pins s σ H D I q => h.run pins s σ H D I (i _ _ _ q)⟩
@[simp] def wNext : DS := fun Φ s => Φ.nx s
@[simp] def wSeq (w u : DS) : DS := fun Φ s => w { Φ with nx := u Φ } s
theorem xs_nil : XSs X [] wNext := pss_imp pss_nil fun D σ H h => by
  obtain ⟨G, P, F, s, Φ, R, h, b⟩ := h
  exact b.nx σ F H s R (Same.refl F) h
theorem xs_one {w : DS} (h : XS X st w) : XSs X [st] w := pss_one h
theorem xs_cons {w u : DS} (h : XS X st w) (hr : XSs X rest u) : XSs X (st :: rest) (wSeq w u) := pss_imp (pss_cons h hr) fun D σ H h => by
  obtain ⟨G, P, F, s, Φ, R, h, b⟩ := h
  exact ⟨G, P, F, s, _, R, h, ⟨fun σ' F' H' s' R' e q => ⟨G, P, F', s', Φ, R', q, b.up e⟩, b.rt, b.bk, b.ct, b.rl⟩⟩
theorem xs_pass : XS X (.Pass pos) wNext := ps_imp ps_pass fun D σ H h => by
  obtain ⟨G, P, F, s, Φ, R, h, b⟩ := h
  exact b.nx σ F H s R (Same.refl F) h
@[simp] def wBk : DS := fun Φ s => Φ.bk s
@[simp] def wCt : DS := fun Φ s => Φ.ct s
theorem xs_break : XS X (.Break pos) wBk := ps_imp ps_break fun D σ H h => by
  obtain ⟨G, P, F, s, Φ, R, h, b⟩ := h
  exact b.bk σ F H s R (Same.refl F) h
theorem xs_continue : XS X (.Continue pos) wCt := ps_imp ps_continue fun D σ H h => by
  obtain ⟨G, P, F, s, Φ, R, h, b⟩ := h
  exact b.ct σ F H s R (Same.refl F) h
@[simp] def wExp (w : DE) : DS := fun Φ s => w s fun _ s1 => Φ.nx s1
theorem xs_expr {w : DE} (h : XE X e w) (hs : swapsWith e none pos.line X.env = pure false := by rfl) : XS X (.Expr e pos) (wExp w) := ps_imp (ps_expr h hs) fun D σ H h => by
  obtain ⟨G, P, F, s, Φ, R, h, b⟩ := h
  exact ⟨G, P, F, s, _, R, h, fun v F' H' s' x R' e _ q => b.nx σ F' H' s' R' e q⟩
@[simp] def wRet (w : DE) : DS := fun Φ s => w s Φ.rt
theorem xs_ret {w : DE} (h : XE X e w) : XS X (.Return (some e) pos) (wRet w) := ps_imp (ps_ret h) fun D σ H h => by
  obtain ⟨G, P, F, s, Φ, R, h, b⟩ := h
  exact ⟨G, P, F, s, _, R, h, fun v F' H' s' x R' e d q => b.rt v σ F' H' s' x R' e d q⟩
/-- return of a new list -/
@[simp] def wRetL (w : DA) : DS := fun Φ s => w s Φ.rl
theorem xs_retL {w : DA} (h : XL X e w) : XS X (.Return (some e) pos) (wRetL w) := ps_imp (ps_ret h) fun D σ H h => by
  obtain ⟨G, P, F, s, Φ, R, h, b⟩ := h
  exact ⟨G, P, F, s, _, R, h, fun p vs F' H' s' xs R' e n hp d q => b.rl p vs σ F' H' s' xs R' e n hp d q⟩
@[simp] def wRetN : DS := fun Φ s => Φ.rt .none s
theorem xs_retN : XS X (.Return none pos) wRetN := ps_imp ps_retN fun D σ H h => by
  obtain ⟨G, P, F, s, Φ, R, h, b⟩ := h
  exact b.rt _ σ F H s _ R (Same.refl F) .non h
@[simp] def wIfS (t : DT) (w u : DS) : DS := fun Φ s => t s fun b s1 => if b = true then w Φ s1 else u Φ s1
theorem xs_if {c : Expr} {a b : List Stmt} {t : DT} {w u : DS} (hc : XT X c t) (ha : XSs X a w) (hb : XSs X b u) : XS X (.If c a b pos) (wIfS t w u) := ps_imp (ps_if hc ha hb) fun D σ H h => by
  obtain ⟨G, P, F, s, Φ, R, h, b⟩ := h
  refine ⟨G, P, F, s, _, R, h, fun k F' H' s' R' e q => ?_⟩
  cases k with
  | true =>
    rw [if_pos rfl] at q ⊢
    exact ⟨G, P, F', s', Φ, R', q, b.up e⟩
  | false =>
    rw [if_neg Bool.false_ne_true] at q ⊢
    exact ⟨G, P, F', s', Φ, R', q, b.up e⟩

/-! assignments -/
@[simp] def wSet (i : Nat) (w : DE) : DS := fun Φ s => w s fun x s1 => Φ.nx (s1.put i (.d x))
theorem set_of {K : PySem.W.Frag} {i : Nat} {w : DE} (D : Ends) (σ : L2.St) (H : Hp) (h : tS K (wSet i w) D σ H) : tAsg (tE K w) (gName i) D σ H := by
  obtain ⟨G, P, F, s, Φ, R, h, b⟩ := h
  exact ⟨G, P, F, s, _, R, h, fun v F' H' s' x R' e d q => b.nx _ F' H' _ (R'.setD d) e q⟩
theorem xs_set {i : Nat} {x : Str} {w : DE} {pos' : Pos} (hN : X.N.Nodup) (hi : X.N[i]? = some x) (hx : Loc X.env.scope x) (h : XE X e w) (hs : swapsWith e (some (.Name x pos')) pos.line X.env = pure false := by rfl)
    (hf : X.fn x = true ∨ X.env.scope.names.lookup x = some .local := by first | exact .inl rfl | exact .inr rfl | assumption) : XS X (.Assign [.Name x pos'] e pos) (wSet i w) := ps_imp (ps_set hN hi hx h hs hf) set_of
@[simp] def wSetO (i : Nat) (w : DA) : DS := fun Φ s => w s fun x s1 => Φ.nx (s1.put i (.o x))
theorem setO_of {K : PySem.W.Frag} {i : Nat} {w : DA} (D : Ends) (σ : L2.St) (H : Hp) (h : tS K (wSetO i w) D σ H) : tAsg (tL K w) (gName i) D σ H := by
  obtain ⟨G, P, F, s, Φ, R, h, b⟩ := h
  exact ⟨G, P, F, s, _, R, h, fun p vs F' H' s' x R' e n hp d q => b.nx _ F' H' _ (R'.setO n hp d) e q⟩
theorem xs_setO {i : Nat} {x : Str} {w : DA} {pos' : Pos} (hN : X.N.Nodup) (hi : X.N[i]? = some x) (hx : Loc X.env.scope x) (h : XL X e w) (hs : swapsWith e (some (.Name x pos')) pos.line X.env = pure false := by rfl)
    (hf : X.fn x = true ∨ X.env.scope.names.lookup x = some .local := by first | exact .inl rfl | exact .inr rfl | assumption) : XS X (.Assign [.Name x pos'] e pos) (wSetO i w) := ps_imp (ps_set hN hi hx h hs hf) setO_of
/-- name += e -/
@[simp] def wAug (i : Nat) (f : Int → Int → Int) (w : DE) : DS := fun Φ s => match s.e[i]? with
  | some (.d (.int a)) => w s fun x s1 => match x with
    | .int b => Φ.nx (s1.put i (.d (.int (f a b))))
    | _ => False
  | _ => False
theorem xs_aug {i : Nat} {x : Str} {w : DE} {op : Operator} {f : Int → Int → Int} {pos' : Pos} (hN : X.N.Nodup) (hi : X.N[i]? = some x) (hx : Loc X.env.scope x) (h : XE X e w) (ho : PIp X op (ipI f))
    (hf : X.fn x = true ∨ X.env.scope.names.lookup x = some .local := by first | exact .inl rfl | exact .inr rfl | assumption) : XS X (.AugAssign (.Name x pos') op e pos) (wAug i f w) := ps_imp (ps_aug hN hi hx h ho hf) fun D σ H h => by
  obtain ⟨G, P, F, s, Φ, R, h, b⟩ := h
  unfold wAug at h
  cases hs : s.e[i]? with
  | none =>
    rw [hs] at h
    exact h.elim
  | some z =>
    rw [hs] at h
    cases z with
    | d z =>
      cases z with
      | int a =>
        obtain ⟨v, e1, e2⟩ := R.sl i _ hs
        cases e2
        refine ⟨_, e1, G, P, F, s, _, R, h, fun y F' H' s' y' R' e d q => ?_⟩
        cases y' with
        | int c =>
          cases d
          exact ⟨a, c, rfl, rfl, b.nx _ F' H' _ (R'.setD (.int _)) e q⟩
        | _ => exact q.elim
      | _ => exact h.elim
    | _ => exact h.elim

/-! one's own lists -/
@[simp] def ownAt (s : S) (i : Nat) (k : List PyData → Prop) : Prop := match s.e[i]? with
  | some (.o xs) => k xs
  | _ => False
theorem ownAt_of {s : S} {i : Nat} {k : List PyData → Prop} (h : ownAt s i k) : ∃ xs, s.e[i]? = some (.o xs) ∧ k xs := by
  unfold ownAt at h
  cases hs : s.e[i]? with
  | none =>
    rw [hs] at h
    exact h.elim
  | some z =>
    rw [hs] at h
    cases z with
    | o xs => exact ⟨xs, rfl, h⟩
    | _ => exact h.elim
/-- return of one's own list -/
@[simp] def wRetO (i : Nat) : DS := fun Φ s => ownAt s i fun xs => Φ.rl xs (s.put i .un)
theorem Rep.out {K : PySem.W.Frag} {G F H : Hp} {P : Option Addr} {σ : L2.St} {s : S} {i : Nat} {xs : List PyData} (R : Rep K G P F H σ s) (h : s.e[i]? = some (.o xs)) :
    ∃ p vs, σ[i]? = some (some (.ref p)) ∧ H p = some (.lst vs) ∧ DqA K F vs xs ∧ Rep K G P F H σ (s.put i .un) ∧ Nu G P F σ (s.put i .un) p := by
  obtain ⟨p, vs, h1, h2, h3, h4, h5, h6⟩ := R.sl i _ h
  refine ⟨p, vs, h1, h5, h6, ⟨R.same, R.keep, R.apart, fun j x hx => ?_, fun j k ys zs r hj hk e1 e2 => ?_, R.pool, by rw [R.len]; exact (List.length_set).symm⟩, ⟨h2, h3, h4, fun j ys hj e => ?_⟩⟩
  · rcases set_get hx with ⟨_, rfl⟩ | ⟨_, hx⟩
    · exact True.intro
    · exact R.sl j x hx
  · rcases set_get hj with ⟨_, z⟩ | ⟨_, hj⟩
    · cases z
    · rcases set_get hk with ⟨_, z⟩ | ⟨_, hk⟩
      · cases z
      · exact R.sep j k ys zs r hj hk e1 e2
  · rcases set_get hj with ⟨_, z⟩ | ⟨ne, hj⟩
    · cases z
    · exact ne (R.sep j i ys xs p hj h e h1)
theorem xs_retO {i : Nat} {x : Str} {xp : Pos} (hv : PE X (.Name x xp) (tVar i)) : XS X (.Return (some (.Name x xp)) pos) (wRetO i) := ps_imp (ps_ret hv) fun D σ H h => by
  obtain ⟨G, P, F, s, Φ, R, h, b⟩ := h
  obtain ⟨xs, h0, h⟩ := ownAt_of h
  obtain ⟨p, vs, e1, e2, e3, R2, n⟩ := R.out h0
  exact ⟨_, e1, b.rl p vs σ F H _ xs R2 (Same.refl F) n e2 e3 h⟩
/-- the script's items and length -/
@[simp] def scAt (s : S) (i : Nat) (k : List Int → Prop) : Prop := match s.e[i]? with
  | some (.sc ns) => k ns
  | _ => False
theorem scAt_of {s : S} {i : Nat} {k : List Int → Prop} (h : scAt s i k) : ∃ ns, s.e[i]? = some (.sc ns) ∧ k ns := by
  unfold scAt at h
  cases hs : s.e[i]? with
  | none =>
    rw [hs] at h
    exact h.elim
  | some z =>
    rw [hs] at h
    cases z with
    | sc ns => exact ⟨ns, rfl, h⟩
    | _ => exact h.elim
@[simp] def wScLen (i : Nat) : DE := fun s Φ => scAt s i fun ns => Φ (.int ns.length) s
theorem xe_scLen {i : Nat} {x : Str} {xp p1 : Pos} (hg : Gl X "len") (hm : X.mg "len" = none) (hv : PE X (.Name x xp) (tVar i)) (he : starEach [.Name x xp] X.env = (false, eval (.Name x xp) X.env) :: starEach [] X.env := by rfl)
    (hpl : (backTo pos (starEach [] X.env)).any (·.1) = false := by rfl) : XE X (.Call (.Name "len" p1) [.Name x xp] [] pos) (wScLen i) :=
  pe_imp (pe_callB call_len_seq hg hm (by decide +kernel) (pa_cons hv pa_nil he) (by decide) (by decide) he hpl) fun σ H Q h => by
    obtain ⟨G, P, F, s, Φ, R, h, kk⟩ := h
    obtain ⟨ns, h0, h⟩ := scAt_of h
    obtain ⟨a, g1, g2⟩ := R.sl i _ h0
    refine ⟨_, g1, a, _, rfl, .inl (R.same.seq g2), ?_⟩
    rw [List.length_map]
    exact kk _ F H s _ R (Same.refl F) (.int _) h
@[simp] def wScIx (i : Nat) (wb : DE) : DE := fun s Φ => wb s fun k s1 => scAt s1 i fun ns => match k with
  | .int k => 0 ≤ k ∧ k < ns.length ∧ Φ (.int (ns.getD k.toNat 0)) s1
  | _ => False
/-- x.append(e) -/
@[simp] def wApp (i : Nat) (w : DE) : DS := fun Φ s => ownAt s i fun _ => w s fun x s1 => ownAt s1 i fun xs => xs.length < sizeLine ∧ Φ.nx (s1.put i (.o (xs ++ [x])))
theorem app_of {K : PySem.W.Frag} {i : Nat} {w : DE} (D : Ends) (σ : L2.St) (H : Hp) (h : tS K (wApp i w) D σ H) : tDrop (tBM K "list" rAppend (tVar i) (tCons (tE K w) tNil)) D σ H := by
  obtain ⟨G, P, F, s, Φ, R, h, b⟩ := h
  obtain ⟨xs0, h0, h⟩ := ownAt_of h
  obtain ⟨p, vs, e1, _, _, _, e5, _⟩ := R.sl i _ h0
  refine ⟨_, e1, .inl ⟨rfl, _, SqL.of e5⟩, G, P, F, s, _, R, h, fun y F' H' s' x R' e d q => ?_⟩
  obtain ⟨xs, h1, hl, q⟩ := ownAt_of q
  obtain ⟨p', vs', g1, _, _, _, g5, g6⟩ := R'.sl i _ h1
  rw [e1] at g1
  cases g1
  exact ⟨_, vs', y, rfl, rfl, g5, by rw [g6.length]; exact hl, b.nx _ F' _ _ (R'.wrO h1 e1 (g6.append (.cons d .nil))) e q⟩
theorem xs_append {i : Nat} {x : Str} {xp p1 p2 : Pos} {a : Expr} {w : DE} (hv : PE X (.Name x xp) (tVar i)) (h : XE X a w)
    (hbase : attributeBase (.Name x xp) "append" X.env (eval (.Name x xp) X.env) = eval (.Name x xp) X.env := by rfl)
    (hfew : ((backTo p2 (starEach [a] X.env)).all (fun x => !x.1) && (backToKw p2 (keywordEach [] X.env)).all (fun x => x.1.isSome) && decide ([a].length + ([] : List Keyword).length + (if ([] : List Keyword).isEmpty then 0 else 1) < 30)) = true := by rfl)
    (hline : (p1.endLine == p2.line) = true := by rfl) (hs : starEach [a] X.env = (false, eval a X.env) :: starEach [] X.env := by rfl) (hplain : (backTo p2 (starEach [] X.env)).any (·.1) = false := by rfl)
    (hsw : swapsWith (.Call (.Attribute (.Name x xp) "append" p1) [a] [] p2) none pos.line X.env = pure false := by rfl) : XS X (.Expr (.Call (.Attribute (.Name x xp) "append" p1) [a] [] p2) pos) (wApp i w) :=
  ps_imp (ps_expr (pe_bm PySem.F.plainAttrs_list PySem.F.slot_list_append PySem.F.type_list_append mt_append hv (pa_cons h pa_nil hs) hbase hfew hline hs hplain) hsw) app_of
/-- x[k] = e -/
@[simp] def wItem (i : Nat) (wi we : DE) : DS := fun Φ s => we s fun x s1 => ownAt s1 i fun _ => wi s1 fun k s2 => ownAt s2 i fun xs => match k with
  | .int k => match ixN xs.length k with
    | some j => Φ.nx (s2.put i (.o (xs.set j x)))
    | none => False
  | _ => False
theorem xs_item {i : Nat} {x : Str} {xp p1 : Pos} {a k : Expr} {wi we : DE} (hv : PE X (.Name x xp) (tVar i)) (hk : XE X k wi) (h : XE X a we)
    (hs : swapsWithSole [.Subscript (.Name x xp) k p1] a pos.line X.env = pure false := by rfl) (hw : swappedStores [.Subscript (.Name x xp) k p1] a X.env = pure none := by rfl)
    (hasg : ∀ u, assign (.Subscript (.Name x xp) k p1) X.env u = (do let ov ← holding [u] (eval (.Name x xp) X.env); let iv ← holding [u, ov] (eval k X.env); standAt p1; holding [u, ov, iv] (setItem ov iv u); release [u, ov, iv] []) := by intro _; rfl) : XS X (.Assign [.Subscript (.Name x xp) k p1] a pos) (wItem i wi we) :=
  ps_imp (ps_asg h (pg_sub hv hk set_list hasg) hs hw) fun D σ H h => by
    obtain ⟨G, P, F, s, Φ, R, h, b⟩ := h
    refine ⟨G, P, F, s, _, R, h, fun v F1 H1 s1 x R1 e1 d1 q1 => ?_⟩
    obtain ⟨xs0, h0, q1⟩ := ownAt_of q1
    obtain ⟨p, vs, g1, _, _, _, g5, _⟩ := R1.sl i _ h0
    refine ⟨_, g1, G, P, F1, s1, _, R1, q1, fun u F2 H2 s2 y R2 e2 d2 q2 => ?_⟩
    obtain ⟨xs, h1, q2⟩ := ownAt_of q2
    obtain ⟨p', vs', k1, _, _, _, k5, k6⟩ := R2.sl i _ h1
    rw [g1] at k1
    cases k1
    cases y with
    | int k =>
      cases d2
      dsimp only at q2
      cases hj : ixN xs.length k with
      | none =>
        rw [hj] at q2
        exact q2.elim
      | some j =>
        rw [hj] at q2
        exact ⟨_, vs', k, j, rfl, rfl, k5, by rw [k6.length]; exact hj, b.nx _ F2 _ _ (R2.wrO h1 g1 (k6.set j (d1.mono e2))) (e1.trans e2) q2⟩
    | _ => exact q2.elim
/-- x[k], x one's own -/
@[simp] def wOwnIx (i : Nat) (wb : DE) : DE := fun s Φ => ownAt s i fun _ => wb s fun k s1 => ownAt s1 i fun xs => match k with
  | .int k => match atI xs k with
    | some d => Φ d s1
    | none => False
  | _ => False
theorem atI_get {α : Type} {xs : List α} {k : Int} {d : α} (h : atI xs k = some d) : ∃ j, ixN xs.length k = some j ∧ xs[j]? = some d := by
  unfold atI at h
  cases e : ixN xs.length k with
  | none =>
    rw [e] at h
    cases h
  | some j =>
    rw [e] at h
    exact ⟨j, rfl, h⟩
theorem atI_up {K : PySem.W.Frag} {F : Hp} {vs : List V} {xs : List PyData} {k : Int} {d : PyData} (h : DqA K F vs xs) (e : atI xs k = some d) : ∃ v, atI vs k = some v ∧ Dq K F v d := by
  obtain ⟨j, e1, e2⟩ := atI_get e
  obtain ⟨v, a, b⟩ := h.get e2
  refine ⟨v, ?_, b⟩
  unfold atI
  rw [h.length, e1]
  exact a
theorem xe_ownIx {i : Nat} {x : Str} {xp : Pos} {k : Expr} {wb : DE} (hv : PE X (.Name x xp) (tVar i)) (hk : XE X k wb) (hs : PlainIx k := by exact fun _ _ => rfl) : XE X (.Subscript (.Name x xp) k pos) (wOwnIx i wb) :=
  pe_imp (pe_ix ix_list hv hk hs) fun σ H Q h => by
    obtain ⟨G, P, F, s, Φ, R, h, kk⟩ := h
    obtain ⟨xs0, h0, h⟩ := ownAt_of h
    obtain ⟨p, vs, g1, _⟩ := R.sl i _ h0
    refine ⟨_, g1, G, P, F, s, _, R, h, fun u F2 H2 s2 y R2 e2 d2 q2 => ?_⟩
    obtain ⟨xs, h1, q2⟩ := ownAt_of q2
    obtain ⟨p', vs', k1, _, _, _, k5, k6⟩ := R2.sl i _ h1
    rw [g1] at k1
    cases k1
    cases y with
    | int k =>
      cases d2
      dsimp only at q2
      cases hj : atI xs k with
      | none =>
        rw [hj] at q2
        exact q2.elim
      | some d =>
        rw [hj] at q2
        obtain ⟨v, a, b⟩ := atI_up k6 hj
        exact ⟨_, vs', k, v, rfl, rfl, SqL.of k5, a, kk v F2 H2 s2 d R2 e2 b q2⟩
    | _ => exact q2.elim
/-- len(x), x one's own -/
@[simp] def wOwnLen (i : Nat) : DE := fun s Φ => ownAt s i fun xs => Φ (.int xs.length) s
theorem xe_ownLen {i : Nat} {x : Str} {xp p1 : Pos} (hg : Gl X "len") (hm : X.mg "len" = none) (hv : PE X (.Name x xp) (tVar i)) (he : starEach [.Name x xp] X.env = (false, eval (.Name x xp) X.env) :: starEach [] X.env := by rfl)
    (hpl : (backTo pos (starEach [] X.env)).any (·.1) = false := by rfl) : XE X (.Call (.Name "len" p1) [.Name x xp] [] pos) (wOwnLen i) :=
  pe_imp (pe_callB call_len_seq hg hm (by decide +kernel) (pa_cons hv pa_nil he) (by decide) (by decide) he hpl) fun σ H Q h => by
    obtain ⟨G, P, F, s, Φ, R, h, kk⟩ := h
    obtain ⟨xs, h0, h⟩ := ownAt_of h
    obtain ⟨p, vs, g1, _, _, _, g5, g6⟩ := R.sl i _ h0
    refine ⟨_, g1, p, vs, rfl, .inl (SqL.of g5), ?_⟩
    rw [g6.length]
    exact kk _ F H s _ R (Same.refl F) (.int _) h
end

/-! ### what is walked -/
/-- J yields xs -/
def Yl (K : PySem.W.Frag) (F : Hp) (J : It) (xs : List PyData) : Prop := ∀ F1 H1, Same F F1 → Same F1 H1 → ∀ i : Nat,
  (∀ x, xs[i]? = some x → J.go i H1 ∧ ∀ v H2, J.yld i H1 v H2 → ∃ F2, Fresh F1 H1 F2 H2 ∧ Dq K F2 v x) ∧ (xs.length ≤ i → J.stop i H1)
theorem Yl.up {K : PySem.W.Frag} {F F' : Hp} {J : It} {xs : List PyData} (h : Yl K F J xs) (e : Same F F') : Yl K F' J xs := fun F1 H1 a b i => h F1 H1 (e.trans a) b i
abbrev DI := S → (List PyData → S → Prop) → Prop
def tI (K : PySem.W.Frag) (w : DI) : TI := fun σ H R => ∃ G P F s Φ, Rep K G P F H σ s ∧ w s Φ ∧ ∀ J F' H' s' xs, Rep K G P F' H' σ s' → Same F F' → Yl K F' J xs → Φ xs s' → R J H'
abbrev XI (X : Cx) (tg iter : Expr) (w : DI) : Prop := PI X tg iter (tI X.K w)
theorem pi_imp {X : Cx} {tg iter : Expr} {t t' : TI} (h : PI X tg iter t) (i : ∀ σ H R, t' σ H R → t σ H R) : PI X tg iter t' := ⟨fun pins s σ H R I q => h.run pins s σ H R I (i _ _ _ q)⟩
section
variable {K : PySem.W.Frag} {F : Hp}
theorem sql_det {H : Hp} {a : Addr} {xs ys : List V} (h : H a = some (.lst xs)) (g : Rd H a (.lst ys)) : xs = ys := by
  rcases g with g | ⟨o, g⟩
  · rw [h] at g
    cases g
    rfl
  · rw [h] at g
    cases g
end
end DL
/-! DL, third part: what is walked, targets, loops, comprehensions. -/
namespace DL
open PySem PySem.Spec L2

section
variable {X : Cx} {tg : Expr} {e e2 : Expr} {pos : Pos}
theorem yl_list {K : PySem.W.Frag} {F : Hp} {a : Addr} {vs : List V} {xs : List PyData} (h : F a = some (.lst vs)) (d : DqA K F vs xs) : Yl K F (Itl K a) xs := fun F1 H1 e1 e2 i => by
  have hH : SqL K H1 a vs := SqL.of (e2 _ _ (e1 _ _ h))
  refine ⟨fun x hx => ?_, fun hl => ⟨vs, hH, by rw [d.length]; exact hl⟩⟩
  obtain ⟨v, a1, a2⟩ := d.get hx
  refine ⟨⟨vs, v, hH, a1⟩, fun u H2 q => ?_⟩
  obtain ⟨rfl, q⟩ := q
  have q2 := q vs hH
  rw [a1] at q2
  cases q2
  exact ⟨F1, Fresh.refl e2, a2.mono e1⟩
theorem yl_tup {K : PySem.W.Frag} {F : Hp} {a : Addr} {vs : List V} {xs : List PyData} (h : SqT K F a vs) (d : DqA K F vs xs) : Yl K F (Itt K a) xs := fun F1 H1 e1 e2 i => by
  have hH : SqT K H1 a vs := same_sqt e2 (same_sqt e1 h)
  refine ⟨fun x hx => ?_, fun hl => ⟨vs, hH, by rw [d.length]; exact hl⟩⟩
  obtain ⟨v, a1, a2⟩ := d.get hx
  refine ⟨⟨vs, v, hH, a1⟩, fun u H2 q => ?_⟩
  obtain ⟨rfl, q⟩ := q
  have q2 := q vs hH
  rw [a1] at q2
  cases q2
  exact ⟨F1, Fresh.refl e2, a2.mono e1⟩
/-- the signs of a text, each a text -/
def signsOf (z : Str) : List PyData := z.cps.toList.map fun c => .str ⟨#[c]⟩
theorem signsOf_len (z : Str) : (signsOf z).length = z.cps.size := by
  unfold signsOf
  rw [List.length_map, Array.length_toList]
theorem yl_str {K : PySem.W.Frag} {F : Hp} {z : Str} : Yl K F (Its z) (signsOf z) := fun F1 H1 e1 e2 i => by
  refine ⟨fun x hx => ?_, fun hl => by rw [signsOf_len] at hl; exact hl⟩
  have hi : i < z.cps.size := by rw [← signsOf_len]; exact (List.getElem?_eq_some_iff.mp hx).1
  refine ⟨hi, fun u H2 q => ?_⟩
  obtain ⟨rfl, c, hc, rfl⟩ := q
  have hx' : x = .str ⟨#[c]⟩ := by
    unfold signsOf at hx
    rw [List.getElem?_map, Array.getElem?_toList, hc] at hx
    cases hx
    rfl
  rw [hx']
  exact ⟨F1, Fresh.refl e2, .str _⟩
/-- ints from lo on -/
def rangeD (lo : Int) (n : Nat) : List PyData := (List.range n).map fun (i : Nat) => PyData.int (lo + (i : Int))
theorem rangeD_len (lo : Int) (n : Nat) : (rangeD lo n).length = n := by
  unfold rangeD
  rw [List.length_map, List.length_range]
theorem rangeD_get {lo : Int} {n i : Nat} {x : PyData} (h : (rangeD lo n)[i]? = some x) : i < n ∧ x = .int (lo + (i : Int)) := by
  have hi : i < n := by rw [← rangeD_len lo n]; exact (List.getElem?_eq_some_iff.mp h).1
  unfold rangeD at h
  rw [List.getElem?_map, List.getElem?_range hi] at h
  cases h
  exact ⟨hi, rfl⟩
theorem yl_range {K : PySem.W.Frag} {F : Hp} {lo : Int} {n : Nat} : Yl K F (Itr lo n) (rangeD lo n) := fun F1 H1 e1 e2 i => by
  refine ⟨fun x hx => ?_, fun hl => by rw [rangeD_len] at hl; exact hl⟩
  obtain ⟨hi, rfl⟩ := rangeD_get hx
  refine ⟨hi, fun u H2 q => ?_⟩
  obtain ⟨rfl, rfl⟩ := q
  exact ⟨F1, Fresh.refl e2, .int _⟩
def small62 (i : Int) : Prop := -(2 ^ 62) ≤ i ∧ i < 2 ^ 62
/-- a list, a tuple, a text, a range -/
def iAny (K : PySem.W.Frag) (tl : TE) : TI := fun σ H R => tl σ H fun x H1 => (∃ a, x = .ref a ∧ (∃ xs, SqL K H1 a xs) ∧ R (Itl K a) H1) ∨ (∃ a, x = .ref a ∧ (∃ xs, SqT K H1 a xs) ∧ R (Itt K a) H1) ∨ (∃ z, x = .str z ∧ R (Its z) H1) ∨ ∃ a lo hi, x = .ref a ∧ H1 a = some (.rng lo hi) ∧ (small62 lo ∧ small62 hi) ∧ R (Itr lo (hi - lo).toNat) H1
theorem pi_any {tl : TE} (hl : PE X e tl) : PI X tg e (iAny X.K tl) := by
  refine ⟨fun pins s σ H R I h => thn (hl.run pins s σ H _ I h) fun v s1 ⟨x, H1, J1, r1, q1⟩ => ?_⟩
  have fp1 : ∀ {b : Addr}, b ∈ [s1.heap.objs.size] → FpOk X pins H1 b := fun {b} hb => by
    rw [show b = s1.heap.objs.size by simpa using hb]
    exact J1.fpOk (Nat.le_refl _) (J1.hok.fresh (Nat.le_refl _))
  rcases q1 with ⟨a, rfl, ⟨xs, hq⟩, q⟩ | ⟨a, rfl, ⟨xs, hq⟩, q⟩ | ⟨z, rfl, q⟩ | ⟨a, lo, hi, rfl, ha, ⟨⟨h1, h2⟩, h3, h4⟩, q⟩
  · cases r1
    obtain ⟨its, rv, pl, hz⟩ := J1.list hq
    exact wpAny_pyIter_list pl.isList ⟨s1.heap.objs.size, [s1.heap.objs.size], _, Itl X.K a, H1, rfl, J1.kept (t' := s1.toks) (fun b o z => Heap.get?_push_of_some _ z), turn_list a s1.heap.objs.size, ⟨_, Heap.get?_push_size _ rfl, rfl, rfl⟩, fun b hb => fp1 hb, q⟩
  · cases r1
    obtain ⟨its, rv, pl, hz⟩ := J1.tuple hq
    exact wpAny_pyIter_tuple (show s1.heap.IsTuple a its.toArray from pl) ⟨s1.heap.objs.size, [s1.heap.objs.size], _, Itt X.K a, H1, rfl, J1.kept (t' := s1.toks) (fun b o z => Heap.get?_push_of_some _ z), turn_tuple a s1.heap.objs.size, ⟨_, Heap.get?_push_size _ rfl, rfl, rfl⟩, fun b hb => fp1 hb, q⟩
  · obtain ⟨t, rfl⟩ := r1
    cases hall : z.cps.all (· < 128)
    · exact wpAny_pyIter_wide hall (pi_one (tk := s1.toks) J1 _ (turn_str _ z t "str_iterator" (.inr rfl)) ⟨_, Heap.get?_push_size _ rfl, rfl, rfl⟩ q)
    · exact wpAny_pyIter_ascii hall (pi_one (tk := s1.toks) J1 _ (turn_str _ z t "str_ascii_iterator" (.inl rfl)) ⟨_, Heap.get?_push_size _ rfl, rfl, rfl⟩ q)
  · cases r1
    obtain ⟨t1, t2, t3, ho⟩ := J1.hok a _ ha
    refine wpAny_pyIter_range ho (small_one h1 h2 h3 h4) ⟨s1.heap.objs.size, [s1.heap.objs.size], _, Itr lo (hi - lo).toNat, H1, rfl, J1.kept (t' := s1.toks) (fun b o z => Heap.get?_push_of_some _ z), turn_range _ lo (hi - lo).toNat, ?_, fun b hb => fp1 hb, q⟩
    have e1 : lo + ((0 : Nat) : Int) * 1 = lo := by simp
    have e2 : (((hi - lo).toNat : Nat) : Int) - ((0 : Nat) : Int) = Builtin.Range.rangeSize lo hi 1 := by rw [rangeSize_one]; split <;> omega
    show IsRangeIter _ _ (lo + ((0 : Nat) : Int) * 1) ((((hi - lo).toNat : Nat) : Int) - ((0 : Nat) : Int)) 1
    rw [e1, e2]
    exact Heap.get?_push_size _ rfl
/-- the items of data -/
@[simp] def itP : PyData → (List PyData → Prop) → Prop
  | .list xs, k => k xs
  | .tuple xs, k => k xs
  | .str z, k => k (signsOf z)
  | .dict [(.int lo, .int hi)], k => (small62 lo ∧ small62 hi) ∧ k (rangeD lo (hi - lo).toNat)
  | _, _ => False
@[simp] def optP {α : Type} (o : Option α) (k : α → Prop) : Prop := match o with
  | some a => k a
  | none => False
@[simp] def wIt (w : DE) : DI := fun s Φ => w s fun x s1 => itP x fun xs => Φ xs s1
theorem xi_any {w : DE} (h : XE X e w) : XI X tg e (wIt w) := pi_imp (pi_any h) fun σ H R h => by
  obtain ⟨G, P, F, s, Φ, RR, h, k⟩ := h
  refine ⟨G, P, F, s, _, RR, h, fun v F1 H1 s1 x R1 e1 d1 q => ?_⟩
  match x, d1, q with
  | .list xs, .lst h1 h2, q => exact .inl ⟨_, rfl, ⟨_, SqL.of (R1.same _ _ h1)⟩, k _ F1 H1 s1 xs R1 e1 (yl_list h1 h2) q⟩
  | .tuple xs, .tup h1 h2, q => exact .inr (.inl ⟨_, rfl, ⟨_, same_sqt R1.same h1⟩, k _ F1 H1 s1 xs R1 e1 (yl_tup h1 h2) q⟩)
  | .str z, .str _, q => exact .inr (.inr (.inl ⟨_, rfl, k _ F1 H1 s1 (signsOf z) R1 e1 yl_str q⟩))
  | .dict [(.int lo, .int hi)], .rng h1, q => exact .inr (.inr (.inr ⟨_, lo, hi, rfl, R1.same _ _ h1, q.1, k _ F1 H1 s1 _ R1 e1 yl_range q.2⟩))
def rangeC (lo c : Int) (n : Nat) : List PyData := (List.range n).map fun (i : Nat) => PyData.int (lo + (i : Int) * c)
theorem rangeC_len (lo c : Int) (n : Nat) : (rangeC lo c n).length = n := by
  unfold rangeC
  rw [List.length_map, List.length_range]
theorem yl_rangeC {K : PySem.W.Frag} {F : Hp} {lo c : Int} {n : Nat} : Yl K F (Itc lo c n) (rangeC lo c n) := fun F1 H1 e1 e2 i => by
  refine ⟨fun x hx => ?_, fun hl => by rw [rangeC_len] at hl; exact hl⟩
  have hi : i < n := by rw [← rangeC_len lo c n]; exact (List.getElem?_eq_some_iff.mp hx).1
  have hx' : x = .int (lo + (i : Int) * c) := by
    unfold rangeC at hx
    rw [List.getElem?_map, List.getElem?_range hi] at hx
    cases hx
    rfl
  refine ⟨hi, fun u H2 q => ?_⟩
  obtain ⟨rfl, rfl⟩ := q
  rw [hx']
  exact ⟨F1, Fresh.refl e2, .int _⟩
@[simp] def wRng1 (w : DA) : DI := fun s Φ => w s fun xs s1 => match xs with
  | [.int n] => small62 n ∧ Φ (rangeD 0 n.toNat) s1
  | _ => False
@[simp] def wRng2 (w : DA) : DI := fun s Φ => w s fun xs s1 => match xs with
  | [.int i, .int j] => (small62 i ∧ small62 j) ∧ Φ (rangeD i (j - i).toNat) s1
  | _ => False
/-- range(i, j, -1) -/
@[simp] def wRngDn (w : DA) : DI := fun s Φ => w s fun xs s1 => match xs with
  | [.int i, .int j, .int c] => c = -1 ∧ (small62 i ∧ small62 j) ∧ Φ (rangeC i (-1) (i - j).toNat) s1
  | _ => False
theorem xi_range1 {w : DA} {p : Pos} (hg : Gl X "range") (hm : X.mg "range" = none) (ha : XA X [e] w) (hs : starEach [e] X.env = [(false, eval e X.env)] := by rfl) : XI X tg (.Call (.Name "range" p) [e] [] pos) (wRng1 w) := pi_imp (pi_range1 hg hm ha hs) fun σ H R h => by
  obtain ⟨G, P, F, s, Φ, RR, h, k⟩ := h
  refine ⟨G, P, F, s, _, RR, h, fun vs F1 H1 s1 xs R1 e1 d1 q => ?_⟩
  match xs, d1, q with
  | [.int n], .cons (.int _) .nil, q => exact ⟨n, rfl, q.1.1, q.1.2, k _ F1 H1 s1 _ R1 e1 yl_range q.2⟩
theorem xi_range2 {w : DA} {p : Pos} (hg : Gl X "range") (hm : X.mg "range" = none) (ha : XA X [e, e2] w) (hs : starEach [e, e2] X.env = [(false, eval e X.env), (false, eval e2 X.env)] := by rfl) (hs2 : starEach [e2] X.env = [(false, eval e2 X.env)] := by rfl) :
    XI X tg (.Call (.Name "range" p) [e, e2] [] pos) (wRng2 w) := pi_imp (pi_range2 hg hm ha hs hs2) fun σ H R h => by
  obtain ⟨G, P, F, s, Φ, RR, h, k⟩ := h
  refine ⟨G, P, F, s, _, RR, h, fun vs F1 H1 s1 xs R1 e1 d1 q => ?_⟩
  match xs, d1, q with
  | [.int i, .int j], .cons (.int _) (.cons (.int _) .nil), q => exact ⟨i, j, rfl, ⟨q.1.1.1, q.1.1.2, q.1.2.1, q.1.2.2⟩, k _ F1 H1 s1 _ R1 e1 yl_range q.2⟩
theorem xi_rangeDn {e3 : Expr} {w : DA} {p : Pos} (hg : Gl X "range") (hm : X.mg "range" = none) (ha : XA X [e, e2, e3] w) (hs : starEach [e, e2, e3] X.env = (false, eval e X.env) :: starEach [e2, e3] X.env := by rfl) (hpl : (backTo pos (starEach [e2, e3] X.env)).any (·.1) = false := by rfl) :
    XI X tg (.Call (.Name "range" p) [e, e2, e3] [] pos) (wRngDn w) := pi_imp (pi_range3 hg hm ha hs hpl) fun σ H R h => by
  obtain ⟨G, P, F, s, Φ, RR, h, k⟩ := h
  refine ⟨G, P, F, s, _, RR, h, fun vs F1 H1 s1 xs R1 e1 d1 q => ?_⟩
  match xs, d1, q with
  | [.int i, .int j, .int c], .cons (.int _) (.cons (.int _) (.cons (.int _) .nil)), q =>
    obtain ⟨rfl, q⟩ := q
    exact ⟨i, j, -1, (i - j).toNat, rfl, RgC.neg q.1.1.1 q.1.1.2 q.1.2.1 q.1.2.2, k _ F1 H1 s1 _ R1 e1 yl_rangeC q.2⟩
/-- pairs with their places -/
def enumD (xs : List PyData) : List PyData := (List.range xs.length).map fun (i : Nat) => PyData.tuple [.int (i : Int), xs.getD i .none]
def zipD (xs ys : List PyData) : List PyData := (xs.zip ys).map fun p => .tuple [p.1, p.2]
theorem enumD_len (xs : List PyData) : (enumD xs).length = xs.length := by
  unfold enumD
  rw [List.length_map, List.length_range]
theorem enumD_get {xs : List PyData} {i : Nat} {x : PyData} (h : (enumD xs)[i]? = some x) : ∃ y, xs[i]? = some y ∧ x = .tuple [.int (i : Int), y] := by
  have hi : i < xs.length := by rw [← enumD_len xs]; exact (List.getElem?_eq_some_iff.mp h).1
  unfold enumD at h
  rw [List.getElem?_map, List.getElem?_range hi] at h
  refine ⟨xs[i], List.getElem?_eq_getElem hi, ?_⟩
  have e : xs.getD i .none = xs[i] := by
    rw [List.getD_eq_getElem?_getD, List.getElem?_eq_getElem hi]
    rfl
  rw [Option.map_some, e] at h
  exact (Option.some.inj h).symm
theorem yl_enum {K : PySem.W.Frag} {F : Hp} {a : Addr} {vs : List V} {xs : List PyData} (h : F a = some (.lst vs)) (d : DqA K F vs xs) : Yl K F (Ite K a) (enumD xs) := fun F1 H1 e1 e2 i => by
  have hH : SqL K H1 a vs := SqL.of (e2 _ _ (e1 _ _ h))
  refine ⟨fun x hx => ?_, fun hl => ⟨vs, hH, by rw [d.length]; rw [enumD_len] at hl; exact hl⟩⟩
  obtain ⟨y, hy, rfl⟩ := enumD_get hx
  obtain ⟨v, a1, a2⟩ := d.get hy
  refine ⟨⟨vs, v, hH, a1⟩, fun u H2 q => ?_⟩
  obtain ⟨T, x, rfl, nT, rfl, q⟩ := q
  have q2 := q vs hH
  rw [a1] at q2
  cases q2
  have f := Fresh.new (o := .tup [.int (i : Nat), v]) e2 nT
  exact ⟨_, f, .tup (SqT.of upd_same) (.cons (.int _) (.cons ((a2.mono e1).mono f.ff) .nil))⟩
theorem zipD_get {xs ys : List PyData} {i : Nat} {x : PyData} (h : (zipD xs ys)[i]? = some x) : ∃ y z, xs[i]? = some y ∧ ys[i]? = some z ∧ x = .tuple [y, z] := by
  unfold zipD at h
  rw [List.getElem?_map] at h
  cases e : (xs.zip ys)[i]? with
  | none =>
    rw [e] at h
    cases h
  | some p =>
    rw [e] at h
    cases h
    obtain ⟨y, z⟩ := p
    obtain ⟨h1, h2⟩ := List.getElem?_zip_eq_some.mp e
    exact ⟨y, z, h1, h2, rfl⟩
theorem yl_zip {K : PySem.W.Frag} {F : Hp} {a b : Addr} {vs us : List V} {xs ys : List PyData} (h : F a = some (.lst vs)) (d : DqA K F vs xs) (g : F b = some (.lst us)) (d' : DqA K F us ys) : Yl K F (Itz K a b) (zipD xs ys) := fun F1 H1 e1 e2 i => by
  have hH : SqL K H1 a vs := SqL.of (e2 _ _ (e1 _ _ h))
  have gH : SqL K H1 b us := SqL.of (e2 _ _ (e1 _ _ g))
  refine ⟨fun x hx => ?_, fun hl => ⟨vs, us, hH, gH, ?_⟩⟩
  · obtain ⟨y, z, hy, hz, rfl⟩ := zipD_get hx
    obtain ⟨v, a1, a2⟩ := d.get hy
    obtain ⟨u, b1, b2⟩ := d'.get hz
    refine ⟨⟨vs, us, v, u, hH, gH, a1, b1⟩, fun w H2 q => ?_⟩
    obtain ⟨T, x, y', rfl, nT, rfl, q, q'⟩ := q
    have q2 := q vs hH
    rw [a1] at q2
    cases q2
    have q3 := q' us gH
    rw [b1] at q3
    cases q3
    have f := Fresh.new (o := .tup [v, u]) e2 nT
    exact ⟨_, f, .tup (SqT.of upd_same) (.cons ((a2.mono e1).mono f.ff) (.cons ((b2.mono e1).mono f.ff) .nil))⟩
  · unfold zipD at hl
    rw [List.length_map, List.length_zip] at hl
    rw [d.length, d'.length]
    omega
@[simp] def wEnum (w : DA) : DI := fun s Φ => w s fun xs s1 => match xs with
  | [.list xs] => Φ (enumD xs) s1
  | _ => False
@[simp] def wZip (w : DA) : DI := fun s Φ => w s fun xs s1 => match xs with
  | [.list xs, .list ys] => Φ (zipD xs ys) s1
  | _ => False
theorem xi_enum {elts : List Expr} {kk : Nat} {w : DA} {p tpos : Pos} (hg : Gl X "enumerate") (hm : X.mg "enumerate" = none) (ha : XA X [e] w) (hs : starEach [e] X.env = [(false, eval e X.env)] := by rfl) :
    XI X (.Tuple elts kk tpos) (.Call (.Name "enumerate" p) [e] [] pos) (wEnum w) := pi_imp (pi_enum hg hm ha hs) fun σ H R h => by
  obtain ⟨G, P, F, s, Φ, RR, h, k⟩ := h
  refine ⟨G, P, F, s, _, RR, h, fun vs F1 H1 s1 xs R1 e1 d1 q => ?_⟩
  match xs, d1, q with
  | [.list xs], .cons (.lst h1 h2) .nil, q => exact ⟨_, _, rfl, SqL.of (R1.same _ _ h1), k _ F1 H1 s1 _ R1 e1 (yl_enum h1 h2) q⟩
theorem xi_zip {elts : List Expr} {kk : Nat} {w : DA} {p tpos : Pos} (hg : Gl X "zip") (hm : X.mg "zip" = none) (ha : XA X [e, e2] w) (hs : starEach [e, e2] X.env = (false, eval e X.env) :: starEach [e2] X.env := by rfl) (hpl : (backTo pos (starEach [e2] X.env)).any (·.1) = false := by rfl) :
    XI X (.Tuple elts kk tpos) (.Call (.Name "zip" p) [e, e2] [] pos) (wZip w) := pi_imp (pi_zip hg hm ha hs hpl) fun σ H R h => by
  obtain ⟨G, P, F, s, Φ, RR, h, k⟩ := h
  refine ⟨G, P, F, s, _, RR, h, fun vs F1 H1 s1 xs R1 e1 d1 q => ?_⟩
  match xs, d1, q with
  | [.list xs, .list ys], .cons (.lst h1 h2) (.cons (.lst h3 h4) .nil), q => exact ⟨_, _, _, _, rfl, SqL.of (R1.same _ _ h1), SqL.of (R1.same _ _ h3), k _ F1 H1 s1 _ R1 e1 (yl_zip h1 h2 h3 h4) q⟩
end

/-! ### targets -/
abbrev DG := PyData → S → (S → Prop) → Prop
/-- is: the slots that are stored -/
def tG (K : PySem.W.Frag) (is : List Nat) (w : DG) : TG := fun v σ H Q => ∃ G P F s x Φ, Rep K G P F H σ s ∧ Dq K F v x ∧ w x s Φ ∧
  ∀ σ' s', Rep K G P F H σ' s' → (∀ i, i ∉ is → σ'[i]? = σ[i]?) → σ'.length = σ.length → Φ s' → Q σ' H
def tGs (K : PySem.W.Frag) (is : List Nat) (w : List PyData → S → (S → Prop) → Prop) : TGs := fun vs σ H Q => ∃ G P F s xs Φ, Rep K G P F H σ s ∧ DqA K F vs xs ∧ w xs s Φ ∧
  ∀ σ' s', Rep K G P F H σ' s' → (∀ i, i ∉ is → σ'[i]? = σ[i]?) → σ'.length = σ.length → Φ s' → Q σ' H
abbrev XG (X : Cx) (tg : Expr) (is : List Nat) (w : DG) : Prop := PG X tg (tG X.K is w)
abbrev XGs (X : Cx) (tgs : List Expr) (is : List Nat) (w : List PyData → S → (S → Prop) → Prop) : Prop := PGs X tgs (tGs X.K is w)
section
variable {X : Cx} {pos : Pos}
theorem pg_imp {tg : Expr} {t t' : TG} (h : PG X tg t) (i : ∀ v σ H Q, t' v σ H Q → t v σ H Q) : PG X tg t' := ⟨fun pins s σ H v u Q I r q => h.run pins s σ H v u Q I r (i _ _ _ _ q)⟩
theorem pgs_imp {tg : List Expr} {t t' : TGs} (h : PGs X tg t) (i : ∀ v σ H Q, t' v σ H Q → t v σ H Q) : PGs X tg t' := ⟨fun pins s σ H v u Q I r q => h.run pins s σ H v u Q I r (i _ _ _ _ q)⟩
@[simp] def gNm (i : Nat) : DG := fun x s Φ => Φ (s.put i (.d x))
theorem xg_name {i : Nat} {x : Str} (hN : X.N.Nodup) (hi : X.N[i]? = some x) (hx : Loc X.env.scope x) (hf : X.fn x = true ∨ X.env.scope.names.lookup x = some .local := by first | exact .inl rfl | exact .inr rfl | assumption) : XG X (.Name x pos) [i] (gNm i) :=
  pg_imp (pg_name hN hi hx hf) fun v σ H Q h => by
    obtain ⟨G, P, F, s, x, Φ, R, d, h, k⟩ := h
    refine k _ _ (R.setD d) (fun j hj => ?_) List.length_set h
    rw [List.getElem?_set_ne]
    exact fun z => hj (by simp [z])
@[simp] def gNl : List PyData → S → (S → Prop) → Prop := fun xs s Φ => xs = [] ∧ Φ s
@[simp] def gCs (w : DG) (u : List PyData → S → (S → Prop) → Prop) : List PyData → S → (S → Prop) → Prop := fun xs s Φ => match xs with
  | x :: r => w x s fun s1 => u r s1 Φ
  | [] => False
theorem xgs_nil : XGs X [] [] gNl := pgs_imp pgs_nil fun vs σ H Q h => by
  obtain ⟨G, P, F, s, xs, Φ, R, d, ⟨rfl, h⟩, k⟩ := h
  cases d
  exact ⟨rfl, k σ s R (fun _ _ => rfl) rfl h⟩
theorem xgs_cons {e : Expr} {es : List Expr} {is js : List Nat} {w : DG} {u : List PyData → S → (S → Prop) → Prop} (h1 : XG X e is w) (h2 : XGs X es js u)
    (hs : (assignEach (e :: es) X.env).map (·.2) = assign e X.env :: (assignEach es X.env).map (·.2) := by rfl) : XGs X (e :: es) (is ++ js) (gCs w u) := pgs_imp (pgs_cons h1 h2 hs) fun vs σ H Q h => by
  obtain ⟨G, P, F, s, xs, Φ, R, d, h, k⟩ := h
  cases xs with
  | nil => exact h.elim
  | cons x r =>
    cases d with
    | cons d1 d2 =>
      refine ⟨_, _, rfl, G, P, F, s, x, _, R, d1, h, fun σ1 s1 R1 q1 l1 h1 => ⟨G, P, F, s1, r, Φ, R1, d2, h1, fun σ2 s2 R2 q2 l2 h2 => k σ2 s2 R2 (fun i hi => ?_) (l2.trans l1) h2⟩⟩
      rw [q2 i (fun z => hi (List.mem_append_right _ z)), q1 i (fun z => hi (List.mem_append_left _ z))]
end
end DL
/-! DL, fourth part: targets of tuples, loops, comprehensions. -/
namespace DL
open PySem PySem.Spec L2

section
variable {X : Cx} {pos : Pos}
@[simp] def gTp (n : Nat) (w : List PyData → S → (S → Prop) → Prop) : DG := fun x s Φ => match x with
  | .tuple xs => xs.length = n ∧ w xs s Φ
  | _ => False
theorem xg_tup {es : List Expr} {k n : Nat} {is : List Nat} {w : List PyData → S → (S → Prop) → Prop} (hc : X.calm = true) (h : XGs X es is w) (hn : (assignEach es X.env).length = n := by rfl) (hst : (assignEach es X.env).findIdx? (·.1) = none := by rfl) :
    XG X (.Tuple es k pos) is (gTp n w) := pg_imp (pg_tup hc h hn hst) fun v σ H Q h => by
  obtain ⟨G, P, F, s, x, Φ, R, d, h, k⟩ := h
  cases x with
  | tuple xs =>
    cases d with
    | tup h1 h2 => exact ⟨_, _, rfl, same_sqt R.same h1, by rw [h2.length]; exact h.1, G, P, F, s, xs, Φ, R, h2, h.2, k⟩
  | _ => exact h.elim
/-- a, b = e -/
@[simp] def wAsgT (w : DE) (wg : DG) : DS := fun Φ s => w s fun x s1 => wg x s1 Φ.nx
theorem xs_asgT {tg e : Expr} {is : List Nat} {w : DE} {wg : DG} (he : XE X e w) (hg : XG X tg is wg) (hs : swapsWithSole [tg] e pos.line X.env = pure false := by rfl) (hw : swappedStores [tg] e X.env = pure none := by rfl)
    (h1 : (assignEach [tg] X.env).map (·.2) = [assign tg X.env] := by rfl) : XS X (.Assign [tg] e pos) (wAsgT w wg) :=
  ps_imp (ps_asg he hg hs hw h1) fun D σ H h => by
    obtain ⟨G, P, F, s, Φ, R, h, b⟩ := h
    exact ⟨G, P, F, s, _, R, h, fun v F' H' s' x R' e d q => ⟨G, P, F', s', x, _, R', d, q, fun σ2 s2 R2 _ _ q2 => b.nx σ2 F' H' s2 R2 e q2⟩⟩
/-- a, b = e1, e2, both plain names -/
@[simp] def wPar (i j : Nat) (w : DA) : DS := fun Φ s => w s fun xs s1 => match xs with
  | [x, y] => Φ.nx ((s1.put i (.d x)).put j (.d y))
  | _ => False
theorem xs_par {i j : Nat} {x y : Str} {a b : Expr} {w : DA} {px py pt : Pos} {kt k2 : Nat} {pt2 : Pos} (hc : X.calm = true) (hN : X.N.Nodup) (hi : X.N[i]? = some x) (hj : X.N[j]? = some y) (hij : i ≠ j)
    (hx : X.env.scope.names.lookup x = some .local) (hy : X.env.scope.names.lookup y = some .local) (ha : XA X [a, b] w)
    (hw : swappedStores [.Tuple [.Name x px, .Name y py] kt pt] (.Tuple [a, b] k2 pt2) X.env = pure (some [x, y]))
    (hsole : swapsWithSole [.Tuple [.Name x px, .Name y py] kt pt] (.Tuple [a, b] k2 pt2) pos.line X.env = pure false := by rfl) : XS X (.Assign [.Tuple [.Name x px, .Name y py] kt pt] (.Tuple [a, b] k2 pt2) pos) (wPar i j w) :=
  ps_imp (ps_par hc hN hi hj hij hx hy ha hw hsole) fun D σ H h => by
    obtain ⟨G, P, F, s, Φ, R, h, b⟩ := h
    refine ⟨G, P, F, s, _, R, h, fun vs F' H' s' xs R' e d q => ?_⟩
    match xs, d, q with
    | [x, y], .cons d1 (.cons d2 .nil), q => exact ⟨_, _, rfl, b.nx _ F' H' _ ((R'.setD d1).setD d2) e q⟩

/-! loops -/
def loopW (wg : DG) (wb : DS) (Φ : EN) : List PyData → S → Prop
  | [], s => Φ.nx s
  | x :: xs, s => wg x s fun s1 => wb { nx := loopW wg wb Φ xs, rt := Φ.rt, bk := Φ.nx, ct := loopW wg wb Φ xs, rl := Φ.rl } s1
@[simp] def wFor (wi : DI) (wg : DG) (wb : DS) : DS := fun Φ s => wi s fun xs s1 => loopW wg wb Φ xs s1
theorem xs_for {tg iter : Expr} {body : List Stmt} {is : List Nat} {wi : DI} {wg : DG} {wb : DS} (hp : PassesOwn (model X.prog X.w) X.A X.env X.xe) (hc : X.calm = true) (hi : XI X tg iter wi) (hg : XG X tg is wg) (hb : XSs X body wb)
    (hs : ∀ x, foldedSetIterable iter X.env x = pure x := by intro _; rfl) : XS X (.For tg iter body [] pos) (wFor wi wg wb) := ps_imp (ps_for hp hc hi hg hb hs) fun D σ H h => by
  obtain ⟨G, P, F, s, Φ, R, h, b⟩ := h
  refine ⟨G, P, F, s, _, R, h, fun J F1 H1 s1 xs R1 e1 Y q => ?_⟩
  refine ⟨fun i m σ2 H2 => m = xs.length - i ∧ i ≤ xs.length ∧ ∃ F2 s2, Rep X.K G P F2 H2 σ2 s2 ∧ Same F1 F2 ∧ loopW wg wb Φ (xs.drop i) s2, ⟨_, rfl, Nat.zero_le _, F1, s1, R1, Same.refl F1, by simpa using q⟩, ?_⟩
  rintro i m σ2 H2 ⟨rfl, hi, F2, s2, R2, e2, q2⟩
  by_cases hl : i < xs.length
  · obtain ⟨go, yl⟩ := (Y F2 H2 e2 R2.same i).1 xs[i] (List.getElem?_eq_getElem hl)
    refine .inr ⟨go, fun σ3 H3 => ∃ F3 s3, Rep X.K G P F3 H3 σ3 s3 ∧ Same F1 F3 ∧ loopW wg wb Φ (xs.drop (i + 1)) s3, fun σ3 H3 ⟨F3, s3, R3, e3, q3⟩ => ⟨xs.length - (i + 1), by omega, rfl, hl, F3, s3, R3, e3, q3⟩, fun v H3 hy => ?_⟩
    obtain ⟨F3, f, dx⟩ := yl v H3 hy
    rw [List.drop_eq_getElem_cons hl] at q2
    refine ⟨G, P, F3, s2, xs[i], _, R2.fresh f, dx, q2, fun σ4 s4 R4 _ _ q4 => ?_⟩
    have e13 : Same F1 F3 := e2.trans f.ff
    exact ⟨G, P, F3, s4, _, R4, q4, ⟨fun σ5 F5 H5 s5 R5 e5 q5 => ⟨F5, s5, R5, e13.trans e5, q5⟩, fun v5 σ5 F5 H5 s5 x5 R5 e5 d5 q5 => b.rt v5 σ5 F5 H5 s5 x5 R5 ((e1.trans e13).trans e5) d5 q5,
      fun σ5 F5 H5 s5 R5 e5 q5 => b.nx σ5 F5 H5 s5 R5 ((e1.trans e13).trans e5) q5, fun σ5 F5 H5 s5 R5 e5 q5 => ⟨F5, s5, R5, e13.trans e5, q5⟩, fun p5 vs5 σ5 F5 H5 s5 xs5 R5 e5 n5 h5 d5 q5 => b.rl p5 vs5 σ5 F5 H5 s5 xs5 R5 ((e1.trans e13).trans e5) n5 h5 d5 q5⟩⟩
  · refine .inl ⟨(Y F2 H2 e2 R2.same i).2 (by omega), ?_⟩
    rw [List.drop_eq_nil_of_le (by omega)] at q2
    exact b.nx σ2 F2 H2 s2 R2 (e1.trans e2) q2
def whN (wt : DT) (wb : DS) (Φ : EN) : Nat → S → Prop
  | 0, _ => False
  | n + 1, s => wt s fun b s1 => if b = true then wb { nx := whN wt wb Φ n, rt := Φ.rt, bk := Φ.nx, ct := whN wt wb Φ n, rl := Φ.rl } s1 else Φ.nx s1
def wWhile (wt : DT) (wb : DS) : DS := fun Φ s => ∃ n, whN wt wb Φ n s
theorem xs_while {c : Expr} {body : List Stmt} {wt : DT} {wb : DS} (hp : PassesOwn (model X.prog X.w) X.A X.env X.xe) (hc : XT X c wt) (hb : XSs X body wb) : XS X (.While c body [] pos) (wWhile wt wb) := ps_imp (ps_while hp hc hb) fun D σ H h => by
  obtain ⟨G, P, F, s, Φ, R, ⟨n, h⟩, b⟩ := h
  refine ⟨fun m σ2 H2 => ∃ F2 s2, Rep X.K G P F2 H2 σ2 s2 ∧ Same F F2 ∧ whN wt wb Φ m s2, ⟨n, F, s, R, Same.refl F, h⟩, ?_⟩
  rintro m σ2 H2 ⟨F2, s2, R2, e2, q2⟩
  cases m with
  | zero => exact q2.elim
  | succ m =>
    refine ⟨G, P, F2, s2, _, R2, q2, fun k F3 H3 s3 R3 e3 q3 => ?_⟩
    cases k with
    | true =>
      rw [if_pos rfl] at q3 ⊢
      refine ⟨fun σ4 H4 => ∃ F4 s4, Rep X.K G P F4 H4 σ4 s4 ∧ Same F F4 ∧ whN wt wb Φ m s4, fun σ4 H4 z => ⟨m, Nat.lt_succ_self m, z⟩, G, P, F3, s3, _, R3, q3, ?_⟩
      have e13 : Same F F3 := e2.trans e3
      exact ⟨fun σ5 F5 H5 s5 R5 e5 q5 => ⟨F5, s5, R5, e13.trans e5, q5⟩, fun v5 σ5 F5 H5 s5 x5 R5 e5 d5 q5 => b.rt v5 σ5 F5 H5 s5 x5 R5 (e13.trans e5) d5 q5, fun σ5 F5 H5 s5 R5 e5 q5 => b.nx σ5 F5 H5 s5 R5 (e13.trans e5) q5,
        fun σ5 F5 H5 s5 R5 e5 q5 => ⟨F5, s5, R5, e13.trans e5, q5⟩, fun p5 vs5 σ5 F5 H5 s5 xs5 R5 e5 n5 h5 d5 q5 => b.rl p5 vs5 σ5 F5 H5 s5 xs5 R5 (e13.trans e5) n5 h5 d5 q5⟩
    | false =>
      rw [if_neg Bool.false_ne_true] at q3 ⊢
      exact b.nx σ2 F3 H3 s3 R3 (e2.trans e3) q3
end

/-! ### comprehensions -/
@[simp] def noOwn (vs : List Nat) (e : List Sl) : Bool := vs.all fun i => match e[i]? with
  | some (.o _) => false
  | _ => true
theorem noOwn_at {vs : List Nat} {e : List Sl} (h : noOwn vs e = true) {i : Nat} (hi : i ∈ vs) {xs : List PyData} (q : e[i]? = some (.o xs)) : False := by
  have z := List.all_eq_true.mp h i hi
  rw [q] at z
  cases z
@[simp] def wipeE (e : List Sl) : List Nat → List Sl
  | [] => e
  | v :: vs => (wipeE e vs).set v .un
theorem wipeE_len (e : List Sl) : ∀ vs, (wipeE e vs).length = e.length
  | [] => rfl
  | v :: vs => by
    show ((wipeE e vs).set v .un).length = e.length
    rw [List.length_set, wipeE_len e vs]
theorem wipeE_out {e : List Sl} {i : Nat} : ∀ {vs : List Nat}, i ∉ vs → (wipeE e vs)[i]? = e[i]?
  | [], _ => rfl
  | v :: vs, h => by
    show ((wipeE e vs).set v .un)[i]? = e[i]?
    rw [List.getElem?_set_ne (fun z => h (by simp [z])), wipeE_out (fun z => h (List.mem_cons_of_mem _ z))]
theorem wipeE_in {e : List Sl} {i : Nat} {x : Sl} : ∀ {vs : List Nat}, i ∈ vs → (wipeE e vs)[i]? = some x → x = .un
  | [], h, _ => by cases h
  | v :: vs, h, q => by
    have q' : ((wipeE e vs).set v .un)[i]? = some x := q
    rcases set_get q' with ⟨_, z⟩ | ⟨ne, z⟩
    · exact z
    · rcases List.mem_cons.mp h with z2 | z2
      · exact absurd z2 ne
      · exact wipeE_in z2 z
theorem wipe_in {σ : L2.St} {i : Nat} : ∀ {vs : List Nat}, i ∈ vs → i < σ.length → (wipe σ vs)[i]? = some none
  | [], h, _ => by cases h
  | v :: vs, h, hl => by
    show ((wipe σ vs).set v none)[i]? = some none
    by_cases e : v = i
    · rw [e, List.getElem?_set_self (by rw [wipe_length]; exact hl)]
    · rw [List.getElem?_set_ne e]
      rcases List.mem_cons.mp h with z | z
      · exact absurd z.symm e
      · exact wipe_in z hl
theorem wipe_off {σ : L2.St} {i : Nat} : ∀ {vs : List Nat}, i ∉ vs → (wipe σ vs)[i]? = σ[i]?
  | [], _ => rfl
  | v :: vs, h => by
    show ((wipe σ vs).set v none)[i]? = σ[i]?
    rw [List.getElem?_set_ne (fun z => h (by simp [z])), wipe_off (fun z => h (List.mem_cons_of_mem _ z))]
theorem wipe_same {σ τ : L2.St} {vs : List Nat} (hl : τ.length = σ.length) (h : ∀ i, i ∉ vs → τ[i]? = σ[i]?) : wipe τ vs = wipe σ vs := by
  refine List.ext_getElem? fun i => ?_
  by_cases hi : i ∈ vs
  · by_cases hb : i < σ.length
    · rw [wipe_in hi hb, wipe_in hi (by rw [hl]; exact hb)]
    · rw [List.getElem?_eq_none (by rw [wipe_length, hl]; omega), List.getElem?_eq_none (by rw [wipe_length]; omega)]
  · rw [wipe_off hi, wipe_off hi, h i hi]
def lcW (vs : List Nat) (e0 : List Sl) (wg : DG) (wt : DT) (we : DE) (Φ : List PyData → List Int → Prop) : List PyData → List PyData → List Int → Prop
  | [], acc, q => Φ acc q
  | x :: xs, acc, q => wg x ⟨wipeE e0 vs, q⟩ fun s1 => wipeE s1.e vs = wipeE e0 vs ∧ wt s1 fun b s2 => s2.e = s1.e ∧
    (if b = true then we s2 fun y s3 => s3.e = s1.e ∧ acc.length < sizeLine ∧ lcW vs e0 wg wt we Φ xs (acc ++ [y]) s3.q else lcW vs e0 wg wt we Φ xs acc s2.q)
@[simp] def wLc (vs : List Nat) (wi : DI) (wg : DG) (wt : DT) (we : DE) : DA := fun s Φ => wi s fun xs s1 => noOwn vs s1.e = true ∧ lcW vs s1.e wg wt we (fun ys q => Φ ys ⟨s1.e, q⟩) xs [] s1.q
/-- tests of a comprehension -/
abbrev XTs (X : Cx) (ifs : List Expr) (w : DT) : Prop := PTs X ifs (tT X.K w)
@[simp] def wYes : DT := fun s Φ => Φ true s
section
variable {X : Cx} {pos : Pos}
theorem pts_imp {ifs : List Expr} {t t' : TT} (h : PTs X ifs t) (i : ∀ σ H Q, t' σ H Q → t σ H Q) : PTs X ifs t' := ⟨fun pins s σ H Q I q => h.run pins s σ H Q I (i _ _ _ q)⟩
theorem xts_nil : XTs X [] wYes := pts_imp pts_nil fun σ H Q h => by
  obtain ⟨G, P, F, s, Φ, R, h, k⟩ := h
  exact k true F H s R (Same.refl F) h
theorem xts_one {c : Expr} {w : DT} (h : XT X c w) : XTs X [c] w := pts_one h
section
variable {K : PySem.W.Frag} {G F H F' H' : Hp} {P : Option Addr} {σ τ : L2.St} {s : S} {vs : List Nat} {D : Addr} {acc : List V}
/-- into the block -/
theorem Rep.block (R : Rep K G P F H σ s) (n : Nu G P F σ s D) (hD : H D = some (.lst acc)) : Rep K (upd G D (.lst acc)) P F H (wipe σ vs) ⟨wipeE s.e vs, s.q⟩ := by
  refine ⟨R.same, fun b o q => ?_, fun b o q => ?_, fun i x hx => ?_, fun i j xs ys p hi hj e1 e2 => ?_, fun a ha => ?_, ?_⟩
  · by_cases hb : b = D
    · rw [hb, upd_same] at q
      cases q
      rw [hb]
      exact hD
    · rw [upd_ne hb] at q
      exact R.keep b o q
  · by_cases hb : b = D
    · rw [hb]
      exact n.f
    · rw [upd_ne hb] at q
      exact R.apart b o q
  · have hx : (wipeE s.e vs)[i]? = some x := hx
    by_cases hi : i ∈ vs
    · rw [wipeE_in hi hx]
      exact True.intro
    · rw [wipeE_out hi] at hx
      have q := R.sl i x hx
      cases x with
      | un => exact True.intro
      | d x =>
        obtain ⟨v, a, b⟩ := q
        exact ⟨v, by rw [wipe_off hi]; exact a, b⟩
      | o xs =>
        obtain ⟨p, us, h1, h2, h3, h4, h5, h6⟩ := q
        have np : p ≠ D := fun z => n.sl i xs hx (by rw [← z]; exact h1)
        exact ⟨p, us, by rw [wipe_off hi]; exact h1, h2, by rw [upd_ne np]; exact h3, h4, h5, h6⟩
      | pl =>
        obtain ⟨a, h1, h2⟩ := q
        exact ⟨a, h1, by rw [wipe_off hi]; exact h2⟩
      | sc ns =>
        obtain ⟨a, h1, h2⟩ := q
        exact ⟨a, by rw [wipe_off hi]; exact h1, h2⟩
  · have hi' : (wipeE s.e vs)[i]? = some (.o xs) := hi
    have hj' : (wipeE s.e vs)[j]? = some (.o ys) := hj
    have ni : i ∉ vs := fun z => by
      have := wipeE_in z hi'
      cases this
    have nj : j ∉ vs := fun z => by
      have := wipeE_in z hj'
      cases this
    rw [wipeE_out ni] at hi'
    rw [wipeE_out nj] at hj'
    rw [wipe_off ni] at e1
    rw [wipe_off nj] at e2
    exact R.sep i j xs ys p hi' hj' e1 e2
  · obtain ⟨g1, g2, g3⟩ := R.pool a ha
    exact ⟨g1, by rw [upd_ne (fun z => n.np (by rw [← z]; exact ha))]; exact g2, g3⟩
  · show (wipe σ vs).length = (wipeE s.e vs).length
    rw [wipe_length, wipeE_len, R.len]
/-- out of the block, the new list longer (or not) -/
theorem Rep.unblock {s2 : S} {acc' : List V} (R : Rep K G P F H σ s) (n : Nu G P F σ s D) (hno : noOwn vs s.e = true) (e : Same F F') (R2 : Rep K (upd G D (.lst acc)) P F' H' τ s2) (he : wipeE s2.e vs = wipeE s.e vs) (hτ : ∀ i, i ∉ vs → τ[i]? = σ[i]?) :
    Rep K G P F' (upd H' D (.lst acc')) σ ⟨s.e, s2.q⟩ ∧ Nu G P F' σ ⟨s.e, s2.q⟩ D ∧ H' D = some (.lst acc) := by
  have hD : H' D = some (.lst acc) := R2.keep D _ upd_same
  have fD : F' D = none := R2.apart D _ upd_same
  refine ⟨⟨fun b o q => ?_, fun b o q => ?_, fun b o q => ?_, fun i x hx => ?_, R.sep, fun a ha => ?_, R.len⟩, ⟨fD, n.g, n.np, n.sl⟩, hD⟩
  · rw [upd_ne (fun z => by rw [z, fD] at q; cases q)]
    exact R2.same b o q
  · have nb : b ≠ D := fun z => by
      rw [z, n.g] at q
      cases q
    rw [upd_ne nb]
    exact R2.keep b o (by rw [upd_ne nb]; exact q)
  · have nb : b ≠ D := fun z => by
      rw [z, n.g] at q
      cases q
    exact R2.apart b o (by rw [upd_ne nb]; exact q)
  · have hx : s.e[i]? = some x := hx
    by_cases hi : i ∈ vs
    · have q := R.sl i x hx
      cases x with
      | un => exact True.intro
      | d x =>
        obtain ⟨v, a, b⟩ := q
        exact ⟨v, a, b.mono e⟩
      | o xs => exact (noOwn_at hno hi hx).elim
      | pl => exact q
      | sc ns =>
        obtain ⟨a, h1, h2⟩ := q
        exact ⟨a, h1, e.seq h2⟩
    · have hx2 : s2.e[i]? = some x := by rw [← wipeE_out hi, he, wipeE_out hi]; exact hx
      have q := R2.sl i x hx2
      cases x with
      | un => exact True.intro
      | d x =>
        obtain ⟨v, a, b⟩ := q
        exact ⟨v, by rw [← hτ i hi]; exact a, b⟩
      | o xs =>
        obtain ⟨p, us, h1, h2, h3, h4, h5, h6⟩ := q
        have np : p ≠ D := fun z => by
          rw [z, upd_same] at h3
          cases h3
        exact ⟨p, us, by rw [← hτ i hi]; exact h1, h2, by rw [upd_ne np] at h3; exact h3, h4, by rw [upd_ne np]; exact h5, h6⟩
      | pl =>
        obtain ⟨a, h1, h2⟩ := q
        exact ⟨a, h1, by rw [← hτ i hi]; exact h2⟩
      | sc ns =>
        obtain ⟨a, h1, h2⟩ := q
        exact ⟨a, by rw [← hτ i hi]; exact h1, h2⟩
  · obtain ⟨g1, g2, g3⟩ := R2.pool a ha
    have na : a ≠ D := fun z => n.np (by rw [← z]; exact ha)
    exact ⟨g1, by rw [upd_ne na] at g2; exact g2, by rw [upd_ne na]; exact g3⟩
end
theorem lc_of {K : PySem.W.Frag} {vs is : List Nat} {wi : DI} {wg : DG} {wt : DT} {we : DE} (hsub : ∀ i ∈ is, i ∈ vs) (σ : L2.St) (H : Hp) (Q : VK) (h : tL K (wLc vs wi wg wt we) σ H Q) : tLc (tI K wi) (tG K is wg) (tT K wt) (tE K we) vs σ H Q := by
  obtain ⟨G, P, F, s, Φ, R, h, k⟩ := h
  refine ⟨G, P, F, s, _, R, h, fun J F1 H1 s1 xs R1 e1 Y q D hD => ?_⟩
  obtain ⟨hno, q⟩ := q
  obtain ⟨R1', n1⟩ := nu_new (o := .lst []) R1 hD
  refine ⟨fun i m H2 => m = xs.length - i ∧ i ≤ xs.length ∧ ∃ F2 vacc acc q2, Same F1 F2 ∧ H2 D = some (.lst vacc) ∧ DqA K F2 vacc acc ∧ Rep K G P F2 H2 σ ⟨s1.e, q2⟩ ∧ Nu G P F2 σ ⟨s1.e, q2⟩ D ∧
    lcW vs s1.e wg wt we (fun ys q => Φ ys ⟨s1.e, q⟩) (xs.drop i) acc q2, ⟨_, rfl, Nat.zero_le _, F1, [], [], s1.q, Same.refl F1, upd_same, .nil, R1', n1, by simpa using q⟩, ?_⟩
  rintro i m H2 ⟨rfl, hi, F2, vacc, acc, q2, e2, hD2, dacc, R2, n2, w2⟩
  by_cases hl : i < xs.length
  · obtain ⟨go, yl⟩ := (Y F2 H2 e2 R2.same i).1 xs[i] (List.getElem?_eq_getElem hl)
    rw [List.drop_eq_getElem_cons hl] at w2
    refine .inr ⟨go, fun H3 => ∃ F2 vacc acc q2, Same F1 F2 ∧ H3 D = some (.lst vacc) ∧ DqA K F2 vacc acc ∧ Rep K G P F2 H3 σ ⟨s1.e, q2⟩ ∧ Nu G P F2 σ ⟨s1.e, q2⟩ D ∧
      lcW vs s1.e wg wt we (fun ys q => Φ ys ⟨s1.e, q⟩) (xs.drop (i + 1)) acc q2, fun H3 z => ⟨xs.length - (i + 1), by omega, rfl, hl, z⟩, fun v H3 hy => ?_⟩
    obtain ⟨F3, f, dx⟩ := yl v H3 hy
    have RB : Rep K (upd G D (.lst vacc)) P F3 H3 (wipe σ vs) ⟨wipeE s1.e vs, q2⟩ := (R2.block (vs := vs) n2 hD2).fresh f
    refine ⟨_, P, F3, _, xs[i], _, RB, dx, w2, fun σ4 s4 R4 ag l4 q4 => ?_⟩
    obtain ⟨we4, q4⟩ := q4
    have ag' : ∀ i, i ∉ vs → σ4[i]? = σ[i]? := fun j hj => by
      rw [ag j (fun z => hj (hsub j z)), wipe_off hj]
    refine ⟨wipe_same (by rw [l4, wipe_length]) ag', ?_⟩
    refine ⟨_, P, F3, s4, _, R4, q4, fun b F5 H5 s5 R5 e5 q5 => ?_⟩
    obtain ⟨es5, q5⟩ := q5
    have e25 : Same F2 F5 := f.ff.trans e5
    cases b with
    | true =>
      rw [if_pos rfl] at q5 ⊢
      refine ⟨_, P, F5, s5, _, R5, q5, fun y F6 H6 s6 dy R6 e6 d6 q6 => ?_⟩
      obtain ⟨es6, hz, q6⟩ := q6
      obtain ⟨R7, n7, hD7⟩ := R2.unblock (vs := vs) (acc' := vacc ++ [y]) n2 hno (e25.trans e6) R6 (by rw [es6]; exact we4) ag'
      exact ⟨vacc, hD7, by rw [dacc.length]; exact hz, F6, vacc ++ [y], acc ++ [dy], s6.q, e2.trans (e25.trans e6), upd_same, (dacc.mono (e25.trans e6)).append (.cons d6 .nil), R7, n7, q6⟩
    | false =>
      rw [if_neg Bool.false_ne_true] at q5 ⊢
      obtain ⟨R7, n7, hD7⟩ := R2.unblock (vs := vs) (acc' := vacc) n2 hno e25 R5 (by rw [es5]; exact we4) ag'
      have eu : upd H5 D (.lst vacc) = H5 := by
        funext b
        by_cases hb : b = D
        · rw [hb, upd_same, hD7]
        · rw [upd_ne hb]
      rw [eu] at R7
      exact ⟨F5, vacc, acc, s5.q, e2.trans e25, hD7, dacc.mono e25, R7, n7, q5⟩
  · refine .inl ⟨(Y F2 H2 e2 R2.same i).2 (by omega), ?_⟩
    rw [List.drop_eq_nil_of_le (by omega)] at w2
    exact k D vacc F2 H2 ⟨s1.e, q2⟩ acc R2 (e1.trans e2) n2 hD2 dacc w2
theorem xl_lc {elt tg iter : Expr} {ifs : List Expr} {scope : Scope} {own : List (Str × Nat)} {is : List Nat} {wi : DI} {wg : DG} {wt : DT} {we : DE} (hc : X.calm = true) (hN : X.N.Nodup) (hi : XI X tg iter wi) (ok : BlkOk X.N X.env.scope scope own) (hsub : ∀ i ∈ is, i ∈ own.map (·.2))
    (hg : ∀ (s : Shared) (H : Hp) (C : Addr) (cl : List (Str × Addr)) (fp : List Addr), XG (X.blk s H scope (compEnvC scope cl C X.env) fp) tg is wg) (ht : ∀ (s : Shared) (H : Hp) (C : Addr) (cl : List (Str × Addr)) (fp : List Addr), XTs (X.blk s H scope (compEnvC scope cl C X.env) fp) ifs wt)
    (he : ∀ (s : Shared) (H : Hp) (C : Addr) (cl : List (Str × Addr)) (fp : List Addr), XE (X.blk s H scope (compEnvC scope cl C X.env) fp) elt we) (hs : ∀ x, foldedSetIterable iter X.env x = pure x := by intro _; rfl) :
    XL X (.ListComp elt [⟨tg, iter, ifs, 0⟩] scope pos) (wLc (own.map (·.2)) wi wg wt we) := pe_imp (pe_lc hc hN hi ok hg ht he hs) (lc_of hsub)
/-- y = [..] on one line, y a plain name: one's own -/
theorem xs_setLcO {i : Nat} {y : Str} {py : Pos} {elt tg iter : Expr} {ifs : List Expr} {scope : Scope} {own : List (Str × Nat)} {spos : Pos} {is : List Nat} {wi : DI} {wg : DG} {wt : DT} {we : DE} (hc : X.calm = true) (hN : X.N.Nodup) (hy : X.N[i]? = some y) (hyl : X.env.scope.names.lookup y = some .local)
    (hsw : swapsWith (.ListComp elt [⟨tg, iter, ifs, 0⟩] scope pos) (some (.Name y py)) spos.line X.env = pure true) (hi : XI X tg iter wi) (ok : BlkOk X.N X.env.scope scope own) (hsub : ∀ i ∈ is, i ∈ own.map (·.2))
    (hg : ∀ (s : Shared) (H : Hp) (C : Addr) (cl : List (Str × Addr)) (fp : List Addr), XG (X.blk s H scope (compEnvC scope cl C X.env) fp) tg is wg) (ht : ∀ (s : Shared) (H : Hp) (C : Addr) (cl : List (Str × Addr)) (fp : List Addr), XTs (X.blk s H scope (compEnvC scope cl C X.env) fp) ifs wt)
    (he : ∀ (s : Shared) (H : Hp) (C : Addr) (cl : List (Str × Addr)) (fp : List Addr), XE (X.blk s H scope (compEnvC scope cl C X.env) fp) elt we) (hs : ∀ x, foldedSetIterable iter X.env x = pure x := by intro _; rfl) :
    XS X (.Assign [.Name y py] (.ListComp elt [⟨tg, iter, ifs, 0⟩] scope pos) spos) (wSetO i (wLc (own.map (·.2)) wi wg wt we)) := ps_imp (ps_setLc hc hN hy hyl hsw hi ok hg ht he hs) fun D σ H h => by
  obtain ⟨G, P, F, s, Φ, R, h, b⟩ := h
  exact lc_of hsub σ H _ ⟨G, P, F, s, _, R, h, fun p vs F' H' s' x R' e n hp d q => b.nx _ F' H' _ (R'.setO n hp d) e q⟩
/-- .. as data -/
theorem xs_setLc {i : Nat} {y : Str} {py : Pos} {elt tg iter : Expr} {ifs : List Expr} {scope : Scope} {own : List (Str × Nat)} {spos : Pos} {is : List Nat} {wi : DI} {wg : DG} {wt : DT} {we : DE} (hc : X.calm = true) (hN : X.N.Nodup) (hy : X.N[i]? = some y) (hyl : X.env.scope.names.lookup y = some .local)
    (hsw : swapsWith (.ListComp elt [⟨tg, iter, ifs, 0⟩] scope pos) (some (.Name y py)) spos.line X.env = pure true) (hi : XI X tg iter wi) (ok : BlkOk X.N X.env.scope scope own) (hsub : ∀ i ∈ is, i ∈ own.map (·.2))
    (hg : ∀ (s : Shared) (H : Hp) (C : Addr) (cl : List (Str × Addr)) (fp : List Addr), XG (X.blk s H scope (compEnvC scope cl C X.env) fp) tg is wg) (ht : ∀ (s : Shared) (H : Hp) (C : Addr) (cl : List (Str × Addr)) (fp : List Addr), XTs (X.blk s H scope (compEnvC scope cl C X.env) fp) ifs wt)
    (he : ∀ (s : Shared) (H : Hp) (C : Addr) (cl : List (Str × Addr)) (fp : List Addr), XE (X.blk s H scope (compEnvC scope cl C X.env) fp) elt we) (hs : ∀ x, foldedSetIterable iter X.env x = pure x := by intro _; rfl) :
    XS X (.Assign [.Name y py] (.ListComp elt [⟨tg, iter, ifs, 0⟩] scope pos) spos) (wSet i (wFz (wLc (own.map (·.2)) wi wg wt we))) := ps_imp (ps_setLc hc hN hy hyl hsw hi ok hg ht he hs) fun D σ H h => by
  obtain ⟨G, P, F, s, Φ, R, h, b⟩ := h
  refine lc_of hsub σ H _ ⟨G, P, F, s, _, R, h, fun p vs F' H' s' x R' e n hp d q => ?_⟩
  obtain ⟨R2, dq⟩ := R'.take n hp d
  exact b.nx _ _ H' _ (R2.setD dq) (e.trans (same_new n.f)) q
end
end DL
/-! DL, fifth part: defs, their promises (nothing under repr around), calls. -/
namespace DL
open PySem PySem.Spec PyProof.Rows L2

/-- a def's promise where no repr is under way -/
structure FnG (P : Program) (w : World) (K : PySem.W.Frag) (mg : Str → Option Value) (base : Heap) (CX : CXT) (k : Nat) (f : Addr) (fd : FuncData) (ps : List Str) (sp : Sp) : Prop where
  len : ∀ vs H Q E, sp vs H Q E → vs.length = ps.length
  go : ∀ (A : Around) (outer : List Env) (s : Shared) (H : Hp) (args : Args) (us : List Value) (vs : List V) (Q : VK) (E : XK), A.guards = some [] → Room k A → Env0 P w K mg base A outer s H → BindsTo s fd args (ps.zip us) →
    Vals vs us → sp vs H Q E → codeAny (model P w) A (.call (.ref f) args) (CR CX outer P w H s Q E) s
section
variable {P : Program} {w : World} {K : PySem.W.Frag} {mg : Str → Option Value} {base : Heap} {CX : CXT} {k : Nat} {f : Addr} {fd : FuncData} {ps : List Str} {sp : Sp}
theorem FnG.of (F : FnOk P w K mg base CX k f fd ps sp) : FnG P w K mg base CX k f fd ps sp := ⟨F.len, fun A outer s H args us vs Q E _ => F.run A outer s H args us vs Q E⟩
theorem FnG.mono {j : Nat} (F : FnG P w K mg base CX j f fd ps sp) (h : j ≤ k) : FnG P w K mg base CX k f fd ps sp := ⟨F.len, fun A outer s H args us vs Q E g hr => F.go A outer s H args us vs Q E g (hr.mono h)⟩
theorem FnG.imp {sp' : Sp} (F : FnG P w K mg base CX k f fd ps sp) (h : ∀ vs H Q E, sp' vs H Q E → sp vs H Q E) : FnG P w K mg base CX k f fd ps sp' :=
  ⟨fun vs H Q E q => F.len vs H Q E (h _ _ _ _ q), fun A outer s H args us vs Q E g hr he hb hv hs => F.go A outer s H args us vs Q E g hr he hb hv (h _ _ _ _ hs)⟩
/-- a def of the text by its body -/
theorem fng_of {qual x : Str} {st : Stmt} {N : List Str} (F : Fun K x qual st f fd) (Sc : FnScope N ps (defScope st)) (len : ∀ vs H Q E, sp vs H Q E → vs.length = ps.length)
    (hbody : ∀ (cdv : Value) (A : Around) (outer : List Env) (s : Shared) (H : Hp) (vs : List V) (Q : VK) (E : XK), (A.deeper (envOfC qual (defScope st) s.heap.objs.size f cdv)).guards = some [] → Room k (A.deeper (envOfC qual (defScope st) s.heap.objs.size f cdv)) → sp vs H Q E →
      ∃ t, PSs (cxOf CX P w K mg base N qual (defScope st) f cdv A outer s H E) (defBody st) t ∧ t { nx := fun _ H' => Q .non H', rt := Q } (L2.start N vs) H) : FnG P w K mg base CX (k + 1) f fd ps sp := by
  obtain ⟨oc, od, kV, doc, pm, an, cdv, ct, osl, rfl, lk, hcd⟩ := F.ex
  refine ⟨len, fun A outer s H args us vs Q E g hr z hb r hsp => ?_⟩
  have names : ∀ y ∈ ps.zip us, (defScope st).names.lookup y.1 = some .local ∨ ((defScope st).names.lookup y.1 = some .cell ∧ ((cellsFrom (s.heap.objs.size + 1) (defScope st).names []).lookup y.1).isSome = true) := by
    rintro ⟨n, v⟩ hy
    rcases Sc.par n (List.of_mem_zip hy).1 with q | q
    · exact Or.inl q
    · exact Or.inr ⟨q, PySem.W.cellsFrom_some _ _ _ (Or.inl q)⟩
  have kin : K.In s.heap := z.mod.kin.keeps fun b o e => (z.bs b o e).1
  have nolim : s.heap.NoLimit := z.mod.nolimit.keeps fun b o e => (z.bs b o e).1
  refine codeAny_call_function hr.depth (kin _ _ lk) rfl Sc.co Sc.gen rfl (PySem.W.codeRec_of kin hcd) (hb _ _ _ _ (wpAny_newFunctionEnv_cells Sc.kind names fun env he s1 y => ?_))
  subst he
  obtain ⟨t, ht, hq⟩ := hbody cdv A outer s H vs Q E (by show A.guards = some []; exact g) (hr.deeper _) hsp
  refine ⟨nolim.keeps y.toInCall.keep, codeAny_func (wpAny_mono (ht.run [] s1 (L2.start N vs) H _ (inv_start Sc hr.hd z (len _ _ _ _ hsp) r y) hq) (fun fl s' hs => ?_) fun e s' hs => hs)⟩
  cases fl with
  | ret u =>
    obtain ⟨v, σ', H', J, rv, q⟩ := hs
    exact (⟨v, H', J.os, J.bare, J.base, J.hok, rv, q⟩ : CE outer P w H s Q u s')
  | next =>
    obtain ⟨σ', H', J, q⟩ := hs
    exact (⟨V.non, H', J.os, J.bare, J.base, J.hok, rfl, q⟩ : CE outer P w H s Q .none s')
  | brk => exact hs.elim fun _ h => h.elim fun _ h => False.elim h.2
  | cont => exact hs.elim fun _ h => h.elim fun _ h => False.elim h.2
end
section
variable {X : Cx} {CX : CXT} {k : Nat} {f : Addr} {fd : FuncData} {ps : List Str} {sp : Sp} {dvs : List V} {ds : List Value} {E : XK} {x : Str} {p pos : Pos} {e : Expr} {es : List Expr} {t : TA}
/-- the call of such a def -/
theorem pe_callG (F : FnG X.prog X.w X.K X.mg X.base CX k f fd ps sp) (hgd : X.A.guards = some []) (hr : Room k X.A) (hg : Gl X x) (hm : X.mg x = some (.ref f)) (hk : PySem.W.keepIn X.K (.ref f) = true) (hb : Binds X.K fd ps ds) (hd : Vals dvs ds) (hx : Passes CX X E)
    (ha : PA X (e :: es) t) (hdb : (x == ("__debug__" : Str)) = false := by decide) (he : starEach (e :: es) X.env = (false, eval e X.env) :: starEach es X.env := by rfl) (hpl : (backTo pos (starEach es X.env)).any (·.1) = false := by rfl) :
    PE X (.Call (.Name x p) (e :: es) [] pos) (tCall sp dvs E t) := by
  refine ⟨fun pins s σ H Q I h => wpAny_Call_Name_kw (ld_glob I hg hm (PySem.W.callWith_K (h₀ := X.base) I.ok.mod.kin hk (thn (ha.run pos pins s σ H _ I h) fun us s1 ⟨vs, H1, J, r, q⟩ => ⟨J.kIn, ?_⟩) he hpl) hdb)⟩
  have rr : Vals (vs ++ dvs) (us ++ ds) := r.append hd
  refine wpAny_call (codeAny_mono (F.go X.A X.stack s1 H1 ⟨us, []⟩ (us ++ ds) (vs ++ dvs) Q E hgd hr J.env0 (hb s1 us J.kIn (by rw [← rr.length]; exact F.len _ _ _ _ q)) rr q) fun r s' hq => ?_)
  match r, hq with
  | .error e, hq => exact hx pins σ H1 s1 e s' J hq
  | .ok (.ret u), hq => exact J.after hq
  | .ok .next, hq => exact hq.elim
  | .ok .brk, hq => exact hq.elim
  | .ok .cont, hq => exact hq.elim
end

/-! ### promises over data -/
/-- a def of data: what it is handed stays, what it hands back is new or handed in -/
abbrev DSp := List PyData → (PyData → Prop) → Prop
def spD (K : PySem.W.Frag) (f : DSp) : Sp := fun vs H Q _ => ∃ F ds Φ, Same F H ∧ DqA K F vs ds ∧ f ds Φ ∧ ∀ v F' H' x, Fresh F H F' H' → Dq K F' v x → Φ x → Q v H'
/-- .. whose first argument is the pool at a -/
structure FreshP (a : Addr) (F H F' H' : Hp) : Prop where
  ff : Same F F'
  fh : Same F' H'
  hh : ∀ b o, b ≠ a → H b = some o → H' b = some o
  fr : ∀ b o, H b = some o → F b = none → F' b = none
abbrev DSpP := List PyData → List Int → (PyData → List Int → Prop) → Prop
def spP (K : PySem.W.Frag) (f : DSpP) : Sp := fun vs H Q _ => ∃ a us F ds q Φ, vs = .ref a :: us ∧ Same F H ∧ F a = none ∧ H a = some (.lst (q.map V.int)) ∧ DqA K F us ds ∧ f ds q Φ ∧
  ∀ v F' H' x q', FreshP a F H F' H' → H' a = some (.lst (q'.map V.int)) → Dq K F' v x → Φ x q' → Q v H'
/-- the part of H that is not frozen, nor at a -/
def partH (F H : Hp) (P : Option Addr) : Hp := fun b => if F b = none ∧ P ≠ some b then H b else none
section
variable {K : PySem.W.Frag} {F H : Hp} {P : Option Addr}
theorem partH_some {b : Addr} {o : HO} (h : partH F H P b = some o) : F b = none ∧ P ≠ some b ∧ H b = some o := by
  unfold partH at h
  by_cases c : F b = none ∧ P ≠ some b
  · rw [if_pos c] at h
    exact ⟨c.1, c.2, h⟩
  · rw [if_neg c] at h
    cases h
theorem partH_at {b : Addr} {o : HO} (h1 : F b = none) (h2 : P ≠ some b) (h : H b = some o) : partH F H P b = some o := by
  unfold partH
  rw [if_pos ⟨h1, h2⟩]
  exact h
theorem partH_none {b : Addr} (h : ¬ (F b = none ∧ P ≠ some b)) : partH F H P b = none := by
  unfold partH
  rw [if_neg h]
/-- the slots at the entry -/
@[simp] def startE (N : List Str) (ds : List Sl) : List Sl := ds ++ List.replicate (N.length - ds.length) .un
theorem start_get {N : List Str} {vs : List V} {i : Nat} {v : V} (h : vs[i]? = some v) : (L2.start N vs)[i]? = some (some v) := by
  unfold L2.start
  rw [List.getElem?_append_left (by rw [List.length_map]; exact (List.getElem?_eq_some_iff.mp h).1), List.getElem?_map, h]
  rfl
theorem startE_get {N : List Str} {ds : List Sl} {i : Nat} {x : Sl} (h : (startE N ds)[i]? = some x) : ds[i]? = some x ∨ x = .un := by
  unfold startE at h
  by_cases hi : i < ds.length
  · rw [List.getElem?_append_left hi] at h
    exact .inl h
  · rw [List.getElem?_append_right (by omega), List.getElem?_replicate] at h
    split at h
    · exact .inr (Option.some.inj h).symm
    · cases h
theorem rep_startD {N : List Str} {vs : List V} {ds : List PyData} (e : Same F H) (d : DqA K F vs ds) (q : List Int) : Rep K (partH F H none) none F H (L2.start N vs) ⟨startE N (ds.map .d), q⟩ := by
  refine ⟨e, fun b o h => (partH_some h).2.2, fun b o h => (partH_some h).1, fun i x hx => ?_, fun i j xs ys p hi hj _ _ => ?_, fun a ha => (by cases ha), ?_⟩
  · rcases startE_get hx with h | rfl
    · rw [List.getElem?_map] at h
      cases hd : ds[i]? with
      | none =>
        rw [hd] at h
        cases h
      | some y =>
        rw [hd] at h
        cases h
        obtain ⟨v, a, b⟩ := d.get hd
        exact ⟨v, start_get a, b⟩
    · exact True.intro
  · rcases startE_get hi with h | h
    · rw [List.getElem?_map] at h
      cases hd : ds[i]? with
      | none =>
        rw [hd] at h
        cases h
      | some y =>
        rw [hd] at h
        cases h
    · cases h
  · show (L2.start N vs).length = (startE N (ds.map .d)).length
    unfold L2.start startE
    rw [List.length_append, List.length_append, List.length_map, List.length_map, List.length_replicate, List.length_replicate, d.length]
theorem rep_startP {N : List Str} {vs : List V} {ds : List PyData} {a : Addr} {q : List Int} (e : Same F H) (d : DqA K F vs ds) (fa : F a = none) (ha : H a = some (.lst (q.map V.int))) :
    Rep K (partH F H (some a)) (some a) F H (L2.start N (.ref a :: vs)) ⟨startE N (.pl :: ds.map .d), q⟩ := by
  have look : ∀ {i : Nat} {x : Sl}, (.pl :: ds.map Sl.d : List Sl)[i]? = some x → (i = 0 ∧ x = .pl) ∨ ∃ j y, i = j + 1 ∧ x = .d y ∧ ds[j]? = some y := fun {i x} h => by
    cases i with
    | zero => exact .inl ⟨rfl, (Option.some.inj (by simpa using h)).symm⟩
    | succ j =>
      have h' : (ds.map Sl.d)[j]? = some x := by simpa using h
      rw [List.getElem?_map] at h'
      cases hd : ds[j]? with
      | none =>
        rw [hd] at h'
        cases h'
      | some y =>
        rw [hd] at h'
        cases h'
        exact .inr ⟨j, y, rfl, rfl, hd⟩
  refine ⟨e, fun b o h => (partH_some h).2.2, fun b o h => (partH_some h).1, fun i x hx => ?_, fun i j xs ys p hi hj _ _ => ?_, fun b hb => ?_, ?_⟩
  · rcases startE_get hx with h | rfl
    · rcases look h with ⟨rfl, rfl⟩ | ⟨j, y, rfl, rfl, hd⟩
      · exact ⟨a, rfl, start_get rfl⟩
      · obtain ⟨v, g, b⟩ := d.get hd
        exact ⟨v, start_get (by simpa using g), b⟩
    · exact True.intro
  · rcases startE_get hi with h | h
    · rcases look h with ⟨_, z⟩ | ⟨_, _, _, z, _⟩
      · cases z
      · cases z
    · cases h
  · cases hb
    exact ⟨fa, partH_none (fun z => z.2 rfl), ha⟩
  · show (L2.start N (.ref a :: vs)).length = (startE N (.pl :: ds.map .d)).length
    unfold L2.start startE
    rw [List.length_append, List.length_append, List.length_map, List.length_replicate, List.length_replicate, List.length_cons, List.length_cons, List.length_map, d.length]
end
/-- the ends of a def of data -/
@[simp] def endD (Φ : PyData → Prop) : EN := { nx := fun _ => Φ .none, rt := fun x _ => Φ x }
@[simp] def endP (Φ : PyData → List Int → Prop) : EN := { nx := fun s => Φ .none s.q, rt := fun x s => Φ x s.q }
section
variable {P : Program} {w : World} {K : PySem.W.Frag} {mg : Str → Option Value} {base : Heap} {k : Nat} {f : Addr} {fd : FuncData} {ps : List Str} {qual x : Str} {st : Stmt} {N : List Str}
/-- a def over data by its body -/
theorem fn_D {sp : DSp} (F : Fun K x qual st f fd) (Sc : FnScope N ps (defScope st)) (len : ∀ ds Φ, sp ds Φ → ds.length = ps.length)
    (hbody : ∀ (cdv : Value) (A : Around) (outer : List Env) (s : Shared) (H : Hp) (E : XK), (A.deeper (envOfC qual (defScope st) s.heap.objs.size f cdv)).guards = some [] → Room k (A.deeper (envOfC qual (defScope st) s.heap.objs.size f cdv)) →
      ∃ wd, XSs (cxOf CX0 P w K mg base N qual (defScope st) f cdv A outer s H E).nox (defBody st) wd ∧ ∀ ds Φ, sp ds Φ → wd (endD Φ) ⟨startE N (ds.map .d), []⟩) : FnG P w K mg base CX0 (k + 1) f fd ps (spD K sp) := by
  refine fng_of F Sc (fun vs H Q E h => ?_) (fun cdv A outer s H vs Q E g hr h => ?_)
  · obtain ⟨F, ds, Φ, _, d, hs, _⟩ := h
    rw [d.length]
    exact len ds Φ hs
  · obtain ⟨wd, hX, hw⟩ := hbody cdv A outer s H E g hr
    refine ⟨_, hX.nox, ?_⟩
    obtain ⟨F, ds, Φ, e, d, hs, kk⟩ := h
    have fr : ∀ {σ' : L2.St} {F' H' : Hp} {s' : S}, Rep K (partH F H none) none F' H' σ' s' → Same F F' → Fresh F H F' H' := fun {σ' F' H' s'} R ee =>
      ⟨ee, R.same, fun b o hb => by
        cases hF : F b with
        | none => exact R.keep b o (partH_at hF (fun z => by cases z) hb)
        | some u =>
          have q := e b u hF
          rw [hb] at q
          cases q
          exact R.same b o (ee b o hF), fun b o hb hF => R.apart b o (partH_at hF (fun z => by cases z) hb)⟩
    exact ⟨_, none, F, _, _, rep_startD e d [], hw ds Φ hs, fun σ' F' H' s' R ee q => kk _ F' H' .none (fr R ee) .non q, fun v σ' F' H' s' x R ee dx q => kk v F' H' x (fr R ee) dx q, fun _ _ _ _ _ _ q => q.elim, fun _ _ _ _ _ _ q => q.elim, fun _ _ _ _ _ _ _ _ _ _ _ _ q => q.elim⟩
theorem fn_P {sp : DSpP} (F : Fun K x qual st f fd) (Sc : FnScope N ps (defScope st)) (len : ∀ ds q Φ, sp ds q Φ → ds.length + 1 = ps.length)
    (hbody : ∀ (cdv : Value) (A : Around) (outer : List Env) (s : Shared) (H : Hp) (E : XK), (A.deeper (envOfC qual (defScope st) s.heap.objs.size f cdv)).guards = some [] → Room k (A.deeper (envOfC qual (defScope st) s.heap.objs.size f cdv)) →
      ∃ wd, XSs (cxOf CX0 P w K mg base N qual (defScope st) f cdv A outer s H E).nox (defBody st) wd ∧ ∀ ds q Φ, sp ds q Φ → wd (endP Φ) ⟨startE N (.pl :: ds.map .d), q⟩) : FnG P w K mg base CX0 (k + 1) f fd ps (spP K sp) := by
  refine fng_of F Sc (fun vs H Q E h => ?_) (fun cdv A outer s H vs Q E g hr h => ?_)
  · obtain ⟨a, us, F, ds, q, Φ, rfl, _, _, _, d, hs, _⟩ := h
    rw [List.length_cons, d.length]
    exact len ds q Φ hs
  · obtain ⟨wd, hX, hw⟩ := hbody cdv A outer s H E g hr
    refine ⟨_, hX.nox, ?_⟩
    obtain ⟨a, us, F, ds, q, Φ, rfl, e, fa, ha, d, hs, kk⟩ := h
    have fr : ∀ {σ' : L2.St} {F' H' : Hp} {s' : S}, Rep K (partH F H (some a)) (some a) F' H' σ' s' → Same F F' → FreshP a F H F' H' := fun {σ' F' H' s'} R ee => by
      refine ⟨ee, R.same, fun b o nb hb => ?_, fun b o hb hF => ?_⟩
      · cases hF : F b with
        | none => exact R.keep b o (partH_at hF (fun z => nb (Option.some.inj z).symm) hb)
        | some u =>
          have q := e b u hF
          rw [hb] at q
          cases q
          exact R.same b o (ee b o hF)
      · by_cases nb : b = a
        · rw [nb]
          exact (R.pool a rfl).1
        · exact R.apart b o (partH_at hF (fun z => nb (Option.some.inj z).symm) hb)
    exact ⟨_, some a, F, _, _, rep_startP e d fa ha, hw ds q Φ hs, fun σ' F' H' s' R ee q => kk _ F' H' .none s'.q (fr R ee) (R.pool a rfl).2.2 .non q, fun v σ' F' H' s' x R ee dx q => kk v F' H' x s'.q (fr R ee) (R.pool a rfl).2.2 dx q, fun _ _ _ _ _ _ q => q.elim, fun _ _ _ _ _ _ q => q.elim, fun _ _ _ _ _ _ _ _ _ _ _ _ q => q.elim⟩
end
/-! ### calls -/
section
variable {X : Cx} {k : Nat} {f : Addr} {fd : FuncData} {ps : List Str} {x : Str} {p pos : Pos} {e : Expr} {es : List Expr}
@[simp] def wCall (sp : DSp) (wa : DA) : DE := fun s Φ => wa s fun ds s1 => sp ds fun r => Φ r s1
theorem xe_call {sp : DSp} {wa : DA} (F : FnG X.prog X.w X.K X.mg X.base CX0 k f fd ps (spD X.K sp)) (hgd : X.A.guards = some []) (hr : Room k X.A) (hg : Gl X x) (hm : X.mg x = some (.ref f)) (hk : PySem.W.keepIn X.K (.ref f) = true) (hb : Binds X.K fd ps [])
    (ha : XA X (e :: es) wa) (hdb : (x == ("__debug__" : Str)) = false := by decide) (he : starEach (e :: es) X.env = (false, eval e X.env) :: starEach es X.env := by rfl) (hpl : (backTo pos (starEach es X.env)).any (·.1) = false := by rfl) :
    XE X (.Call (.Name x p) (e :: es) [] pos) (wCall sp wa) := pe_imp (pe_callG F hgd hr hg hm hk hb .nil pass0 ha hdb he hpl) fun σ H Q h => by
  obtain ⟨G, P, F, s, Φ, R, h, kk⟩ := h
  refine ⟨G, P, F, s, _, R, h, fun vs F1 H1 s1 ds R1 e1 d1 q => ?_⟩
  show spD X.K sp (vs ++ []) H1 Q E0
  rw [List.append_nil]
  exact ⟨F1, ds, _, R1.same, d1, q, fun v F' H' x fr dx qx => kk v F' H' s1 x (R1.fresh fr) (e1.trans fr.ff) dx qx⟩
theorem Rep.freshP {K : PySem.W.Frag} {G F F' H H' : Hp} {a : Addr} {σ : L2.St} {s : S} {q' : List Int} (R : Rep K G (some a) F H σ s) (f : FreshP a F H F' H') (hq : H' a = some (.lst (q'.map V.int))) : Rep K G (some a) F' H' σ ⟨s.e, q'⟩ := by
  obtain ⟨p1, p2, p3⟩ := R.pool a rfl
  refine ⟨f.fh, fun b o g => f.hh b o (fun z => by rw [z, p2] at g; cases g) (R.keep b o g), fun b o g => f.fr b o (R.keep b o g) (R.apart b o g), fun i x hx => ?_, R.sep, fun b hb => ?_, R.len⟩
  · have q := R.sl i x hx
    cases x with
    | un => exact True.intro
    | d x =>
      obtain ⟨v, a1, a2⟩ := q
      exact ⟨v, a1, a2.mono f.ff⟩
    | o xs =>
      obtain ⟨p, vs, h1, h2, h3, h4, h5, h6⟩ := q
      exact ⟨p, vs, h1, f.fr p _ h5 h2, h3, h4, f.hh p _ (fun z => h4 (by rw [z])) h5, h6.mono f.ff⟩
    | pl => exact q
    | sc ns =>
      obtain ⟨b, a1, a2⟩ := q
      exact ⟨b, a1, f.ff.seq a2⟩
  · cases hb
    exact ⟨f.fr a _ p3 p1, p2, hq⟩
@[simp] def poolAt (s : S) (i : Nat) (k : Prop) : Prop := match s.e[i]? with
  | some .pl => k
  | _ => False
theorem poolAt_of {s : S} {i : Nat} {k : Prop} (h : poolAt s i k) : s.e[i]? = some .pl ∧ k := by
  unfold poolAt at h
  cases hs : s.e[i]? with
  | none =>
    rw [hs] at h
    exact h.elim
  | some z =>
    rw [hs] at h
    cases z with
    | pl => exact ⟨rfl, h⟩
    | _ => exact h.elim
/-- f(pool, ..) -/
@[simp] def wCallP (i : Nat) (sp : DSpP) (wa : DA) : DE := fun s Φ => poolAt s i (wa s fun ds s1 => sp ds s1.q fun r q' => Φ r ⟨s1.e, q'⟩)
theorem xe_callP {i : Nat} {y : Str} {yp : Pos} {sp : DSpP} {wa : DA} (F : FnG X.prog X.w X.K X.mg X.base CX0 k f fd ps (spP X.K sp)) (hgd : X.A.guards = some []) (hr : Room k X.A) (hg : Gl X x) (hm : X.mg x = some (.ref f)) (hk : PySem.W.keepIn X.K (.ref f) = true) (hb : Binds X.K fd ps [])
    (hv : PE X (.Name y yp) (tVar i)) (ha : XA X es wa) (hdb : (x == ("__debug__" : Str)) = false := by decide) (he : starEach (.Name y yp :: es) X.env = (false, eval (.Name y yp) X.env) :: starEach es X.env := by rfl) (hpl : (backTo pos (starEach es X.env)).any (·.1) = false := by rfl) :
    XE X (.Call (.Name x p) (.Name y yp :: es) [] pos) (wCallP i sp wa) := pe_imp (pe_callG F hgd hr hg hm hk hb .nil pass0 (pa_cons hv ha he) hdb he hpl) fun σ H Q h => by
  obtain ⟨G, P, F, s, Φ, R, h, kk⟩ := h
  obtain ⟨hs, h⟩ := poolAt_of h
  obtain ⟨a, rfl, ha⟩ := R.sl i _ hs
  refine ⟨_, ha, G, some a, F, s, _, R, h, fun vs F1 H1 s1 ds R1 e1 d1 q => ?_⟩
  show spP X.K sp ((.ref a :: vs) ++ []) H1 Q E0
  rw [List.append_nil]
  obtain ⟨p1, p2, p3⟩ := R1.pool a rfl
  exact ⟨a, vs, F1, ds, s1.q, _, rfl, R1.same, p1, p3, d1, q, fun v F' H' x q' fr hq dx qx => kk v F' H' ⟨s1.e, q'⟩ x (R1.freshP fr hq) (e1.trans fr.ff) dx qx⟩
end
end DL
/-! DL, sixth part: operations by data. -/
namespace DL
open PySem PySem.Spec PyProof.Rows L2

section
variable {K : PySem.W.Frag}
/-- ints in, a plain value out -/
@[simp] def wII (C : Int → Int → Prop) (g : Int → Int → PyData) : W2 := fun x y Φ => match x, y with
  | .int a, .int b => C a b ∧ Φ (g a b)
  | _, _ => False
@[simp] def wI2 (g : Int → Int → PyData) : W2 := fun x y Φ => match x, y with
  | .int a, .int b => Φ (g a b)
  | _, _ => False
theorem op2_I {C : Int → Int → Prop} {g : Int → Int → V} {h : Int → Int → PyData} (e : ∀ F i j, Dq K F (g i j) (h i j)) : Op2 K (rI C g) (wII C h) := ⟨fun {F H x y dx dy} Q Φ s d1 d2 w k => by
  cases dx with
  | int a =>
    cases dy with
    | int b =>
      cases d1
      cases d2
      exact ⟨a, b, rfl, rfl, w.1, k _ F H _ (Fresh.refl s) (e F a b) w.2⟩
    | _ => exact w.elim
  | _ => exact w.elim⟩
theorem op2_I0 {g : Int → Int → V} {h : Int → Int → PyData} (e : ∀ F i j, Dq K F (g i j) (h i j)) : Op2 K (rI0 g) (wI2 h) := ⟨fun {F H x y dx dy} Q Φ s d1 d2 w k => by
  cases dx with
  | int a =>
    cases dy with
    | int b =>
      cases d1
      cases d2
      exact ⟨a, b, rfl, rfl, k _ F H _ (Fresh.refl s) (e F a b) w⟩
    | _ => exact w.elim
  | _ => exact w.elim⟩
/-! + -/
def rAddS : R2 := fun x y H Q => ∃ i j, x = .str i ∧ y = .str j ∧ i.length + j.length ≤ sizeLine ∧ Q (.str (i ++ j)) H
def rPlus (K : PySem.W.Frag) : R2 := rOr (rI0 fun i j => .int (i + j)) (rOr rAddS (rOr rCat (rCatT K)))
@[simp] def wAdd : W2 := fun x y Φ => match x, y with
  | .int a, .int b => Φ (.int (a + b))
  | .str a, .str b => a.length + b.length ≤ sizeLine ∧ Φ (.str (a ++ b))
  | .list a, .list b => a.length + b.length ≤ sizeLine ∧ Φ (.list (a ++ b))
  | .tuple a, .tuple b => a ≠ [] ∧ a.length + b.length ≤ sizeLine ∧ Φ (.tuple (a ++ b))
  | _, _ => False
theorem opr_plus {X : Cx} : OpR X (binaryOp .Add) (rPlus X.K) := opr_or op_add (opr_or op_add_str (opr_or op_cat op_catT))
theorem cat_run {F H : Hp} {x y : V} {a b : List PyData} (Q : VK) (Φ : List PyData → Prop) (s : Same F H) (d1 : Dq K F x (.list a)) (d2 : Dq K F y (.list b)) (w : a.length + b.length ≤ sizeLine ∧ Φ (a ++ b))
    (k : ∀ p vs ds, H p = none → DqA K F vs ds → Φ ds → Q (.ref p) (upd H p (.lst vs))) : rCat x y H Q := by
  cases d1 with
  | lst h1 h2 =>
    cases d2 with
    | lst g1 g2 => exact ⟨_, _, _, _, rfl, rfl, s _ _ h1, s _ _ g1, by rw [h2.length, g2.length]; exact w.1, fun p hp => k p _ _ hp (h2.append g2) w.2⟩
theorem op2_plus : Op2 K (rPlus K) wAdd := ⟨fun {F H x y dx dy} Q Φ s d1 d2 w k => by
  cases dx with
  | int a =>
    cases dy with
    | int b =>
      cases d1
      cases d2
      exact .inl ⟨a, b, rfl, rfl, k _ F H _ (Fresh.refl s) (.int _) w⟩
    | _ => exact w.elim
  | str a =>
    cases dy with
    | str b =>
      cases d1
      cases d2
      exact .inr (.inl ⟨a, b, rfl, rfl, w.1, k _ F H _ (Fresh.refl s) (.str _) w.2⟩)
    | _ => exact w.elim
  | list a =>
    cases dy with
    | list b =>
      refine .inr (.inr (.inl (cat_run Q (fun z => Φ (.list z)) s d1 d2 w fun p vs ds hp dq q => ?_)))
      have f := Fresh.new (o := .lst vs) s hp
      exact k _ _ _ _ f (.lst upd_same (dq.mono f.ff)) q
    | _ => exact w.elim
  | tuple a =>
    cases dy with
    | tuple b =>
      cases d1 with
      | tup h1 h2 =>
        cases d2 with
        | tup g1 g2 =>
          rename_i xs p2 ys
          obtain ⟨w1, w2, w3⟩ := w
          have l1 := h2.length
          have l2 := g2.length
          refine .inr (.inr (.inr ⟨_, _, _, _, rfl, rfl, same_sqt s h1, same_sqt s g1, fun z => w1 (by cases a with | nil => rfl | cons _ _ => rw [z] at l1; simp at l1), by omega, fun z => ?_, fun z p hp => ?_⟩))
          · have hb : b = [] := by
              cases b with
              | nil => rfl
              | cons _ _ => rw [z] at l2; simp at l2
            rw [hb, List.append_nil] at w3
            exact k _ F H _ (Fresh.refl s) (.tup h1 h2) w3
          · have f := Fresh.new (o := .tup (xs ++ ys)) s hp
            exact k _ _ _ _ f (.tup (SqT.of upd_same) ((h2.append g2).mono f.ff)) w3
    | _ => exact w.elim
  | _ => exact w.elim⟩
@[simp] def wCat : W2L := fun x y Φ => match x, y with
  | .list a, .list b => a.length + b.length ≤ sizeLine ∧ Φ (a ++ b)
  | _, _ => False
theorem op2L_cat : Op2L K rCat wCat := ⟨fun {F H x y dx dy} Q Φ s d1 d2 w k => by
  cases dx with
  | list a =>
    cases dy with
    | list b => exact cat_run Q Φ s d1 d2 w k
    | _ => exact w.elim
  | _ => exact w.elim⟩
/-! * -/
@[simp] def wRepL : W2L := fun x y Φ => match x, y with
  | .list a, .int k => (-(2 ^ 63) ≤ k ∧ k < 2 ^ 63 ∧ a.length * k.toNat ≤ sizeLine) ∧ Φ (List.replicate k.toNat a).flatten
  | _, _ => False
/-! comparisons -/
def eqD (x y : PyData) : Prop := SeqAt.shaped x = true ∧ SeqAt.shaped y = true
@[simp] def wEq (neg : Bool) : W2 := fun x y Φ => match x, y with
  | .int a, .int b => Φ (.bool (if neg then !decide (a = b) else decide (a = b)))
  | .str a, .str b => Φ (.bool (if neg then !decide (a = b) else decide (a = b)))
  | x, y => eqD x y ∧ Φ (.bool (if neg then !PyData.eqv x y else PyData.eqv x y))
def rEqA (K : PySem.W.Frag) : R2 := rOr rEq (rEqD K)
def rNeA (K : PySem.W.Frag) : R2 := rOr rNe (rNeD K)
theorem dec_inj {α β : Type} [DecidableEq α] [DecidableEq β] {f : α → β} (hf : ∀ a b, f a = f b → a = b) (a b : α) : decide (f a = f b) = decide (a = b) := by
  by_cases h : a = b
  · rw [h, decide_eq_true rfl, decide_eq_true rfl]
  · rw [decide_eq_false h, decide_eq_false (fun z => h (hf a b z))]
theorem op2_eq : Op2 K (rEqA K) (wEq false) := ⟨fun {F H x y dx dy} Q Φ s d1 d2 w k => by
  have gen : ∀ b, eqD dx dy → b = PyData.eqv dx dy → Φ (.bool b) → rEqA K x y H Q := fun b e hb q => by
    subst hb
    exact .inr ⟨dx, dy, (d1.mono s).dp (PyData.hasDict_of_canLay _ (SeqAt.canLay_of_shaped e.1)), (d2.mono s).dp (PyData.hasDict_of_canLay _ (SeqAt.canLay_of_shaped e.2)), e.1, e.2, k _ F H _ (Fresh.refl s) (.bl _) q⟩
  cases dx <;> cases dy <;> first
    | (cases d1; cases d2; exact .inl ⟨rfl, by rw [dec_inj (fun a b z => by injection z)]; exact k _ F H _ (Fresh.refl s) (.bl _) w⟩)
    | exact gen _ w.1 rfl w.2⟩
theorem op2_ne : Op2 K (rNeA K) (wEq true) := ⟨fun {F H x y dx dy} Q Φ s d1 d2 w k => by
  have gen : ∀ b, eqD dx dy → b = (!PyData.eqv dx dy) → Φ (.bool b) → rNeA K x y H Q := fun b e hb q => by
    subst hb
    exact .inr ⟨dx, dy, (d1.mono s).dp (PyData.hasDict_of_canLay _ (SeqAt.canLay_of_shaped e.1)), (d2.mono s).dp (PyData.hasDict_of_canLay _ (SeqAt.canLay_of_shaped e.2)), e.1, e.2, k _ F H _ (Fresh.refl s) (.bl _) q⟩
  cases dx <;> cases dy <;> first
    | (cases d1; cases d2; exact .inl ⟨rfl, by rw [dec_inj (fun a b z => by injection z)]; exact k _ F H _ (Fresh.refl s) (.bl _) w⟩)
    | exact gen _ w.1 rfl w.2⟩
theorem opr_eq {X : Cx} (hu : X.A.units + 64 < cLine) : OpR X (compareOp .Eq) (rEqA X.K) := opr_or op_eq (op_eqD hu)
theorem opr_ne {X : Cx} (hu : X.A.units + 64 < cLine) : OpR X (compareOp .NotEq) (rNeA X.K) := opr_or op_ne (op_neD hu)
/-! is None -/
@[simp] def isNon : PyData → Bool
  | .none => true
  | _ => false
theorem isNon_v {F : Hp} {v : V} {d : PyData} (h : Dq K F v d) : decide (v = .non) = isNon d := by
  cases h <;> simp [isNon]
@[simp] def wIsN (neg : Bool) : W2 := fun x y Φ => match y with
  | .none => Φ (.bool (if neg then !isNon x else isNon x))
  | _ => False
theorem op2_isN : Op2 K (fun x y H Q => y = .non ∧ Q (.bl (decide (x = .non))) H) (wIsN false) := ⟨fun {F H x y dx dy} Q Φ s d1 d2 w k => by
  cases dy with
  | none =>
    cases d2
    exact ⟨rfl, by rw [isNon_v d1]; exact k _ F H _ (Fresh.refl s) (.bl _) w⟩
  | _ => exact w.elim⟩
theorem op2_notN : Op2 K (fun x y H Q => y = .non ∧ Q (.bl (!decide (x = .non))) H) (wIsN true) := ⟨fun {F H x y dx dy} Q Φ s d1 d2 w k => by
  cases dy with
  | none =>
    cases d2
    exact ⟨rfl, by rw [isNon_v d1]; exact k _ F H _ (Fresh.refl s) (.bl _) w⟩
  | _ => exact w.elim⟩
/-! in, not in -/
def flatD : PyData → Bool
  | .none => true
  | .bool _ => true
  | .int _ => true
  | .str _ => true
  | _ => false
def eqF : PyData → PyData → Bool
  | .none, .none => true
  | .bool a, .bool b => a == b
  | .bool a, .int b => (if a then 1 else 0) == b
  | .int a, .bool b => a == (if b then 1 else 0)
  | .int a, .int b => a == b
  | .str a, .str b => a == b
  | _, _ => false
def inF (x : PyData) (xs : List PyData) : Bool := xs.any fun y => eqF y x
theorem flat_v {F : Hp} {v : V} {d : PyData} (h : Dq K F v d) (f : flatD d = true) : flatV v = true := by
  cases h <;> first | rfl | cases f
theorem flat_vs {F : Hp} : ∀ {vs : List V} {ds : List PyData}, DqA K F vs ds → ds.all flatD = true → vs.all flatV = true
  | [], [], _, _ => rfl
  | v :: vs, d :: ds, h, f => by
    cases h with
    | cons h1 h2 =>
      rw [List.all_cons, Bool.and_eq_true] at f ⊢
      exact ⟨flat_v h1 f.1, flat_vs h2 f.2⟩
  | [], _ :: _, h, _ => by cases h
  | _ :: _, [], h, _ => by cases h
theorem eqF_v {F : Hp} {v u : V} {d e : PyData} (h : Dq K F v d) (g : Dq K F u e) (f : flatD d = true) (f' : flatD e = true) : eqV v u = eqF d e := by
  cases h <;> cases g <;> first | rfl | cases f | cases f'
theorem inF_v {F : Hp} {v : V} {d : PyData} (h : Dq K F v d) (f : flatD d = true) : ∀ {vs : List V} {ds : List PyData}, DqA K F vs ds → ds.all flatD = true → inV v vs = inF d ds
  | [], [], _, _ => rfl
  | u :: vs, e :: ds, g, a => by
    cases g with
    | cons g1 g2 =>
      rw [List.all_cons, Bool.and_eq_true] at a
      have ih := inF_v h f g2 a.2
      unfold inV inF at ih ⊢
      rw [List.any_cons, List.any_cons, eqF_v g1 h a.1 f, ih]
  | [], _ :: _, g, _ => by cases g
  | _ :: _, [], g, _ => by cases g
def rSign : R2 := fun x y H Q => ∃ (c : Nat) (z : Str), x = .str ⟨#[c]⟩ ∧ y = .str z ∧ Q (.bl (decide (c ∈ z.cps.toList))) H
def rNSign : R2 := fun x y H Q => ∃ (c : Nat) (z : Str), x = .str ⟨#[c]⟩ ∧ y = .str z ∧ Q (.bl (!decide (c ∈ z.cps.toList))) H
@[simp] def wIn (neg : Bool) : W2 := fun x y Φ => match y with
  | .list xs => (flatD x = true ∧ xs.all flatD = true) ∧ Φ (.bool (if neg then !inF x xs else inF x xs))
  | .tuple xs => (flatD x = true ∧ xs.all flatD = true) ∧ Φ (.bool (if neg then !inF x xs else inF x xs))
  | .str z => match x with
    | .str s => ∃ c, s = ⟨#[c]⟩ ∧ Φ (.bool (if neg then !decide (c ∈ z.cps.toList) else decide (c ∈ z.cps.toList)))
    | _ => False
  | _ => False
theorem op2_in : Op2 K (rOr (rIn K false) rSign) (wIn false) := ⟨fun {F H x y dx dy} Q Φ s d1 d2 w k => by
  cases dy with
  | list xs =>
    cases d2 with
    | lst h1 h2 => exact .inl ⟨_, _, rfl, .inl (SqL.of (s _ _ h1)), flat_v d1 w.1.1, flat_vs h2 w.1.2, by rw [inF_v d1 w.1.1 h2 w.1.2]; exact k _ F H _ (Fresh.refl s) (.bl _) w.2⟩
  | tuple xs =>
    cases d2 with
    | tup h1 h2 => exact .inl ⟨_, _, rfl, .inr (same_sqt s h1), flat_v d1 w.1.1, flat_vs h2 w.1.2, by rw [inF_v d1 w.1.1 h2 w.1.2]; exact k _ F H _ (Fresh.refl s) (.bl _) w.2⟩
  | str z =>
    cases dx with
    | str t =>
      cases d1
      cases d2
      obtain ⟨c, rfl, w⟩ := w
      exact .inr ⟨c, z, rfl, rfl, k _ F H _ (Fresh.refl s) (.bl _) w⟩
    | _ => exact w.elim
  | _ => exact w.elim⟩
theorem op2_notIn : Op2 K (rOr (rIn K true) rNSign) (wIn true) := ⟨fun {F H x y dx dy} Q Φ s d1 d2 w k => by
  cases dy with
  | list xs =>
    cases d2 with
    | lst h1 h2 => exact .inl ⟨_, _, rfl, .inl (SqL.of (s _ _ h1)), flat_v d1 w.1.1, flat_vs h2 w.1.2, by rw [inF_v d1 w.1.1 h2 w.1.2]; exact k _ F H _ (Fresh.refl s) (.bl _) w.2⟩
  | tuple xs =>
    cases d2 with
    | tup h1 h2 => exact .inl ⟨_, _, rfl, .inr (same_sqt s h1), flat_v d1 w.1.1, flat_vs h2 w.1.2, by rw [inF_v d1 w.1.1 h2 w.1.2]; exact k _ F H _ (Fresh.refl s) (.bl _) w.2⟩
  | str z =>
    cases dx with
    | str t =>
      cases d1
      cases d2
      obtain ⟨c, rfl, w⟩ := w
      exact .inr ⟨c, z, rfl, rfl, k _ F H _ (Fresh.refl s) (.bl _) w⟩
    | _ => exact w.elim
  | _ => exact w.elim⟩
theorem opr_in {X : Cx} : OpR X (compareOp .In) (rOr (rIn X.K false) rSign) := opr_or op_in_seq op_in_sign
theorem opr_notIn {X : Cx} : OpR X (compareOp .NotIn) (rOr (rIn X.K true) rNSign) := opr_or op_notIn_seq op_notIn_sign
/-! places -/
@[simp] def wIx : W2 := fun x y Φ => match x, y with
  | .list xs, .int k => optP (atI xs k) Φ
  | .tuple xs, .int k => optP (atI xs k) Φ
  | .str z, .int k => z.length ≤ sizeLine ∧ optP (atI z.cps.toList k) fun c => Φ (.str ⟨#[c]⟩)
  | _, _ => False
theorem optP_of {α : Type} {o : Option α} {k : α → Prop} (h : optP o k) : ∃ a, o = some a ∧ k a := by
  cases o with
  | none => exact h.elim
  | some a => exact ⟨a, rfl, h⟩
theorem op2_ix : Op2 K (rIx K) wIx := ⟨fun {F H x y dx dy} Q Φ s d1 d2 w k => by
  cases dy with
  | int i =>
    cases d2
    cases dx with
    | list xs =>
      cases d1 with
      | lst h1 h2 =>
        obtain ⟨d, e, w⟩ := optP_of w
        obtain ⟨v, a, b⟩ := atI_up h2 e
        exact .inl ⟨_, _, i, v, rfl, rfl, SqL.of (s _ _ h1), a, k v F H d (Fresh.refl s) b w⟩
    | tuple xs =>
      cases d1 with
      | tup h1 h2 =>
        obtain ⟨d, e, w⟩ := optP_of w
        obtain ⟨v, a, b⟩ := atI_up h2 e
        exact .inr (.inl ⟨_, _, i, v, rfl, rfl, same_sqt s h1, a, k v F H d (Fresh.refl s) b w⟩)
    | str z =>
      cases d1
      obtain ⟨c, e, w2⟩ := optP_of w.2
      exact .inr (.inr ⟨z, i, c, rfl, rfl, w.1, e, k _ F H _ (Fresh.refl s) (.str _) w2⟩)
    | _ => exact w.elim
  | _ =>
    cases dx <;> exact w.elim⟩
end
/-! slices -/
section
variable {X : Cx} {e : Expr} {lo hi : Option Expr} {pos p2 : Pos}
abbrev DO := S → (Option Int → S → Prop) → Prop
def tO (K : PySem.W.Frag) (w : DO) : TO := fun σ H Q => ∃ G P F s Φ, Rep K G P F H σ s ∧ w s Φ ∧ ∀ o F' H' s', Rep K G P F' H' σ s' → Same F F' → Φ o s' → Q o H'
abbrev XO (X : Cx) (e : Option Expr) (w : DO) : Prop := PO X e (tO X.K w)
theorem po_imp {o : Option Expr} {t t' : TO} (h : PO X o t) (i : ∀ σ H Q, t' σ H Q → t σ H Q) : PO X o t' := ⟨fun pins s σ H Q I q => h.run pins s σ H Q I (i _ _ _ q)⟩
@[simp] def wNoP : DO := fun s Φ => Φ none s
@[simp] def wPart (w : DE) : DO := fun s Φ => w s fun x s1 => match x with
  | .int i => Φ (some i) s1
  | _ => False
theorem xo_none : XO X none wNoP := po_imp po_none fun σ H Q h => by
  obtain ⟨G, P, F, s, Φ, R, h, k⟩ := h
  exact k none F H s R (Same.refl F) h
theorem xo_some {w : DE} (h : XE X e w) : XO X (some e) (wPart w) := po_imp (po_some h) fun σ H Q h => by
  obtain ⟨G, P, F, s, Φ, R, h, k⟩ := h
  refine ⟨G, P, F, s, _, R, h, fun v F1 H1 s1 x R1 e1 d1 q => ?_⟩
  cases x with
  | int i =>
    cases d1
    exact ⟨i, rfl, k (some i) F1 H1 s1 R1 e1 q⟩
  | _ => exact q.elim
def cutD (xs : List PyData) (lo hi : Option Int) : List PyData := (xs.drop (HT.sIx xs.length 0 lo)).take (HT.sIx xs.length xs.length hi - HT.sIx xs.length 0 lo)
theorem cutD_up {K : PySem.W.Frag} {F : Hp} {vs : List V} {xs : List PyData} (h : DqA K F vs xs) (lo hi : Option Int) : DqA K F (cutV vs lo hi) (cutD xs lo hi) := by
  unfold cutV cutD
  rw [h.length]
  exact (h.drop _).take _
/-- a list's slice: a new list -/
@[simp] def wSlL (w : DE) (wl wh : DO) : DA := fun s Φ => w s fun x s1 => wl s1 fun l s2 => wh s2 fun u s3 => match x with
  | .list xs => Φ (cutD xs l u) s3
  | _ => False
theorem xl_slice {w : DE} {wl wh : DO} (he : XE X e w) (hl : XO X lo wl) (hh : XO X hi wh) : XL X (.Subscript e (.Slice lo hi none p2) pos) (wSlL w wl wh) := pe_imp (pe_slice sl_list he hl hh) fun σ H Q h => by
  obtain ⟨G, P, F, s, Φ, R, h, k⟩ := h
  refine ⟨G, P, F, s, _, R, h, fun v F1 H1 s1 x R1 e1 d1 q => ⟨G, P, F1, s1, _, R1, q, fun l F2 H2 s2 R2 e2 q2 => ⟨G, P, F2, s2, _, R2, q2, fun u F3 H3 s3 R3 e3 q3 => ?_⟩⟩⟩
  cases x with
  | list xs =>
    cases d1.mono (e2.trans e3) with
    | lst h1 h2 =>
      refine ⟨_, _, rfl, SqL.of (R3.same _ _ h1), fun p hp => ?_⟩
      obtain ⟨R4, n⟩ := nu_new (o := .lst (cutV _ l u)) R3 hp
      exact k p _ F3 _ s3 _ R4 ((e1.trans e2).trans e3) n upd_same (cutD_up h2 l u) q3
  | _ => exact q3.elim
/-- a text's slice, or a list's -/
@[simp] def wSl (w : DE) (wl wh : DO) : DE := fun s Φ => w s fun x s1 => wl s1 fun l s2 => wh s2 fun u s3 => match x with
  | .list xs => Φ (.list (cutD xs l u)) s3
  | .str z => z.length ≤ sizeLine ∧ Φ (.str (cutS z l u)) s3
  | _ => False
theorem xe_slice {w : DE} {wl wh : DO} (he : XE X e w) (hl : XO X lo wl) (hh : XO X hi wh) : XE X (.Subscript e (.Slice lo hi none p2) pos) (wSl w wl wh) := pe_imp (pe_slice (SlR.or sl_list sl_str) he hl hh) fun σ H Q h => by
  obtain ⟨G, P, F, s, Φ, R, h, k⟩ := h
  refine ⟨G, P, F, s, _, R, h, fun v F1 H1 s1 x R1 e1 d1 q => ⟨G, P, F1, s1, _, R1, q, fun l F2 H2 s2 R2 e2 q2 => ⟨G, P, F2, s2, _, R2, q2, fun u F3 H3 s3 R3 e3 q3 => ?_⟩⟩⟩
  cases x with
  | list xs =>
    cases d1.mono (e2.trans e3) with
    | @lst a0 vs0 _ h1 h2 =>
      refine .inl ⟨_, _, rfl, SqL.of (R3.same _ _ h1), fun p hp => ?_⟩
      have f := Fresh.new (o := .lst (cutV vs0 l u)) R3.same hp
      exact k _ _ _ s3 _ (R3.fresh f) (((e1.trans e2).trans e3).trans f.ff) (.lst upd_same ((cutD_up h2 l u).mono f.ff)) q3
  | str z =>
    cases d1
    exact .inr ⟨z, rfl, q3.1, k _ F3 H3 s3 _ R3 ((e1.trans e2).trans e3) (.str _) q3.2⟩
  | _ => exact q3.elim
end
/-! calls of built-ins -/
section
variable {K : PySem.W.Frag}
@[simp] def wN1 (g : PyData → (PyData → Prop) → Prop) : WN := fun ds Φ => match ds with
  | [x] => g x Φ
  | _ => False
@[simp] def wN2 (g : PyData → PyData → (PyData → Prop) → Prop) : WN := fun ds Φ => match ds with
  | [x, y] => g x y Φ
  | _ => False
theorem dqa1 {F : Hp} {vs : List V} {x : PyData} (h : DqA K F vs [x]) : ∃ v, vs = [v] ∧ Dq K F v x := by
  cases h with
  | cons h1 h2 =>
    cases h2
    exact ⟨_, rfl, h1⟩
theorem dqa2 {F : Hp} {vs : List V} {x y : PyData} (h : DqA K F vs [x, y]) : ∃ v u, vs = [v, u] ∧ Dq K F v x ∧ Dq K F u y := by
  cases h with
  | cons h1 h2 =>
    obtain ⟨u, rfl, h3⟩ := dqa1 h2
    exact ⟨_, _, rfl, h1, h3⟩
theorem opN1 {r : List V → Hp → VK → Prop} {g : PyData → (PyData → Prop) → Prop} (h : ∀ (F H : Hp) (v : V) (x : PyData) (Q : VK) (Φ : PyData → Prop), Same F H → Dq K F v x → g x Φ → (∀ v F' H' d, Fresh F H F' H' → Dq K F' v d → Φ d → Q v H') → r [v] H Q) : OpN K r (wN1 g) :=
  ⟨fun {F H xs ds} Q Φ s d w k => by
    match ds, d, w with
    | [x], d, w =>
      obtain ⟨v, rfl, d1⟩ := dqa1 d
      exact h F H v x Q Φ s d1 w k⟩
theorem opN2 {r : List V → Hp → VK → Prop} {g : PyData → PyData → (PyData → Prop) → Prop} (h : ∀ (F H : Hp) (v u : V) (x y : PyData) (Q : VK) (Φ : PyData → Prop), Same F H → Dq K F v x → Dq K F u y → g x y Φ → (∀ v F' H' d, Fresh F H F' H' → Dq K F' v d → Φ d → Q v H') → r [v, u] H Q) : OpN K r (wN2 g) :=
  ⟨fun {F H xs ds} Q Φ s d w k => by
    match ds, d, w with
    | [x, y], d, w =>
      obtain ⟨v, u, rfl, d1, d2⟩ := dqa2 d
      exact h F H v u x y Q Φ s d1 d2 w k⟩
@[simp] def gLen : PyData → (PyData → Prop) → Prop
  | .list xs, Φ => Φ (.int xs.length)
  | .tuple xs, Φ => Φ (.int xs.length)
  | .str z, Φ => z.length ≤ sizeLine ∧ Φ (.int z.length)
  | .dict [(.int lo, .int hi)], Φ => (small62 lo ∧ small62 hi) ∧ Φ (.int ((hi - lo).toNat : Nat))
  | _, _ => False
theorem call_lenA {X : Cx} : CallR X (.builtin "len") (fun xs H Q => (∃ x n, xs = [x] ∧ LenV X.K x H n ∧ Q (.int n) H) ∨ ∃ a lo hi, xs = [.ref a] ∧ H a = some (.rng lo hi) ∧ (small62 lo ∧ small62 hi) ∧ Q (.int ((hi - lo).toNat : Nat)) H) := by
  intro pins s σ H xs us Q I r h
  rcases h with h | ⟨a, lo, hi, rfl, ha, ⟨⟨h1, h2⟩, h3, h4⟩, q⟩
  · exact call_len pins s σ H xs us Q I r h
  · obtain ⟨u, rfl, rx⟩ := vals1 r
    obtain rfl : u = Value.ref a := rx
    obtain ⟨t1, t2, t3, ho⟩ := I.hok a _ ha
    refine call_len_range (n := (hi - lo).toNat) ho ?_ (by omega) ⟨.int ((hi - lo).toNat : Nat), H, I.tok _, ⟨_, rfl⟩, q⟩
    rw [rangeSize_one]
    split <;> omega
theorem opn_len : OpN K (fun xs H Q => (∃ x n, xs = [x] ∧ LenV K x H n ∧ Q (.int n) H) ∨ ∃ a lo hi, xs = [.ref a] ∧ H a = some (.rng lo hi) ∧ (small62 lo ∧ small62 hi) ∧ Q (.int ((hi - lo).toNat : Nat)) H) (wN1 gLen) := opN1 fun F H v x Q Φ s d w k => by
  match x, d, w with
  | .list xs, .lst h1 h2, w => exact .inl ⟨_, xs.length, rfl, .inl ⟨_, SqL.of (s _ _ h1), h2.length.symm⟩, k _ F H _ (Fresh.refl s) (.int _) w⟩
  | .tuple xs, .tup h1 h2, w => exact .inl ⟨_, xs.length, rfl, .inr ⟨_, same_sqt s h1, h2.length.symm⟩, k _ F H _ (Fresh.refl s) (.int _) w⟩
  | .str z, .str _, w => exact .inl ⟨_, z.length, rfl, ⟨w.1, rfl⟩, k _ F H _ (Fresh.refl s) (.int _) w.2⟩
  | .dict [(.int lo, .int hi)], .rng h1, w => exact .inr ⟨_, lo, hi, rfl, s _ _ h1, w.1, k _ F H _ (Fresh.refl s) (.int _) w.2⟩
/-- range(n), kept -/
@[simp] def gRng : PyData → (PyData → Prop) → Prop := fun x Φ => match x with
  | .int i => Φ (.dict [(.int 0, .int i)])
  | _ => False
theorem cr_range1 {X : Cx} : CallR X (.type "range") (fun vs H Q => ∃ j, vs = [V.int j] ∧ ∀ p, H p = none → Q (.ref p) (upd H p (.rng 0 j))) := by
  intro pins s σ H vs us Q I r h
  obtain ⟨j, rfl, q⟩ := h
  obtain ⟨u1, rfl, rj⟩ := vals1 r
  obtain ⟨t, rfl⟩ := rj
  refine call_range_1 ⟨.ref s.heap.objs.size, upd H s.heap.objs.size (.rng 0 j), I.laid (fun b o e => Heap.get?_push_of_some _ e) (Nat.le_refl _) ?_, rfl, q _ (I.hok.fresh (Nat.le_refl _))⟩
  exact ⟨_, _, _, Heap.get?_push_size _ rfl⟩
theorem opn_rng : OpN K (fun vs H Q => ∃ j, vs = [V.int j] ∧ ∀ p, H p = none → Q (.ref p) (upd H p (.rng 0 j))) (wN1 gRng) := opN1 fun F H v x Q Φ s d w k => by
  cases x with
  | int i =>
    cases d
    refine ⟨i, rfl, fun p hp => ?_⟩
    exact k _ _ _ _ (Fresh.new (o := .rng 0 i) s hp) (.rng upd_same) w
  | _ => exact w.elim
/-- a test by truth -/
@[simp] def wTru (w : DE) : DT := fun s Φ => w s fun x s1 => match x with
  | .bool b => Φ b s1
  | .none => Φ false s1
  | .int i => Φ (i != 0) s1
  | .str y => y.length ≤ sizeLine ∧ Φ ((y.length : Int) != 0) s1
  | .list xs => Φ (!xs.isEmpty) s1
  | .tuple xs => Φ (!xs.isEmpty) s1
  | _ => False
theorem dqa_empty {F : Hp} {vs : List V} {xs : List PyData} (d : DqA K F vs xs) : vs.isEmpty = xs.isEmpty := by
  cases d <;> rfl
theorem tru_of {w : DE} (σ : L2.St) (H : Hp) (Q : Bool → Hp → Prop) (h : tT K (wTru w) σ H Q) : tE K w σ H fun x H1 => ∃ k, TruV K x H1 k ∧ Q k H1 := by
  obtain ⟨G, P, F, s, Φ, R, h, k⟩ := h
  refine ⟨G, P, F, s, _, R, h, fun x F1 H1 s1 dx R1 e1 d1 h1 => ?_⟩
  match dx, d1, h1 with
  | .bool b, .bl _, h1 => exact ⟨b, rfl, k b F1 H1 s1 R1 e1 h1⟩
  | .none, .non, h1 => exact ⟨false, rfl, k _ F1 H1 s1 R1 e1 h1⟩
  | .int i, .int _, h1 => exact ⟨_, rfl, k _ F1 H1 s1 R1 e1 h1⟩
  | .str y, .str _, h1 => exact ⟨_, ⟨h1.1, rfl⟩, k _ F1 H1 s1 R1 e1 h1.2⟩
  | .list xs, .lst a b, h1 => exact ⟨_, .inl ⟨_, SqL.of (R1.same _ _ a), by rw [dqa_empty b]⟩, k _ F1 H1 s1 R1 e1 h1⟩
  | .tuple xs, .tup a b, h1 => exact ⟨_, .inr (.inl ⟨_, same_sqt R1.same a, by rw [dqa_empty b]⟩), k _ F1 H1 s1 R1 e1 h1⟩
theorem xt_tru {X : Cx} {e : Expr} {w : DE} (h : XE X e w) (he : ∀ whole, isTrue e X.env whole = (do let v ← whole; standAt e.pos; holding [v] (truthy v)) := by intro _; rfl) : XT X e (wTru w) := pt_imp (pt_truth h he) tru_of
@[simp] def gInt : PyData → (PyData → Prop) → Prop := fun x Φ => match x with
  | .int i => Φ (.int i)
  | .bool b => Φ (.int (if b then 1 else 0))
  | _ => False
theorem opn_int : OpN K (fun xs H Q => (∃ i, xs = [.int i] ∧ Q (.int i) H) ∨ ∃ k, xs = [.bl k] ∧ Q (.int (if k then 1 else 0)) H) (wN1 gInt) := opN1 fun F H v x Q Φ s d w k => by
  cases x with
  | int i =>
    cases d
    exact .inl ⟨i, rfl, k _ F H _ (Fresh.refl s) (.int _) w⟩
  | bool b =>
    cases d
    exact .inr ⟨b, rfl, k _ F H _ (Fresh.refl s) (.int _) w⟩
  | _ => exact w.elim
@[simp] def gStr : PyData → (PyData → Prop) → Prop := fun x Φ => match x with
  | .int i => i.natAbs.log2 < 1920 ∧ Φ (.str (toString i))
  | _ => False
theorem opn_str : OpN K (fun xs H Q => ∃ i, xs = [.int i] ∧ i.natAbs.log2 < 1920 ∧ Q (.str (toString i)) H) (wN1 gStr) := opN1 fun F H v x Q Φ s d w k => by
  cases x with
  | int i =>
    cases d
    exact ⟨i, rfl, w.1, k _ F H _ (Fresh.refl s) (.str _) w.2⟩
  | _ => exact w.elim
@[simp] def gMax : PyData → PyData → (PyData → Prop) → Prop := fun x y Φ => match x, y with
  | .int i, .int j => Φ (.int (if j > i then j else i))
  | _, _ => False
@[simp] def gMin : PyData → PyData → (PyData → Prop) → Prop := fun x y Φ => match x, y with
  | .int i, .int j => Φ (.int (if j < i then j else i))
  | _, _ => False
theorem opn_max2 : OpN K (fun xs H Q => ∃ i j, xs = [.int i, .int j] ∧ Q (.int (if j > i then j else i)) H) (wN2 gMax) := opN2 fun F H v u x y Q Φ s d1 d2 w k => by
  cases x with
  | int i =>
    cases y with
    | int j =>
      cases d1
      cases d2
      exact ⟨i, j, rfl, k _ F H _ (Fresh.refl s) (.int _) w⟩
    | _ => exact w.elim
  | _ => exact w.elim
theorem opn_min2 : OpN K (fun xs H Q => ∃ i j, xs = [.int i, .int j] ∧ Q (.int (if j < i then j else i)) H) (wN2 gMin) := opN2 fun F H v u x y Q Φ s d1 d2 w k => by
  cases x with
  | int i =>
    cases y with
    | int j =>
      cases d1
      cases d2
      exact ⟨i, j, rfl, k _ F H _ (Fresh.refl s) (.int _) w⟩
    | _ => exact w.elim
  | _ => exact w.elim
/-- list(x) as data -/
def signV (z : Str) : List V := z.cps.toList.map fun c => V.str ⟨#[c]⟩
theorem signV_vals : ∀ (cs : List Nat) (us : List Value), us.length = cs.length → (∀ (j c : Nat), cs[j]? = some c → ∃ t, us[j]? = some (Value.str ⟨#[c]⟩ t)) → Vals (cs.map fun c => V.str ⟨#[c]⟩) us
  | [], [], _, _ => .nil
  | c :: cs, u :: us, hl, h => by
    obtain ⟨t, ht⟩ := h 0 c rfl
    cases ht
    exact .cons ⟨t, rfl⟩ (signV_vals cs us (by simpa using hl) fun j c hj => by simpa using h (j + 1) c (by simpa using hj))
  | [], _ :: _, hl, _ => by simp at hl
  | _ :: _, [], hl, _ => by simp at hl
theorem signV_dq {K : PySem.W.Frag} {F : Hp} (z : Str) : DqA K F (signV z) (signsOf z) := by
  unfold signV signsOf
  induction z.cps.toList with
  | nil => exact .nil
  | cons c cs ih => exact .cons (.str _) ih
theorem cr_listA {X : Cx} {k : Nat} (hr : Room k X.A) : CallR X (.type "list") (fun xs H Q => (∃ p ys, xs = [.ref p] ∧ (SqL X.K H p ys ∨ SqT X.K H p ys) ∧ ∀ l, H l = none → Q (.ref l) (upd H l (.lst ys))) ∨ ∃ z, xs = [.str z] ∧ z.length ≤ sizeLine ∧ ∀ l, H l = none → Q (.ref l) (upd H l (.lst (signV z)))) := by
  intro pins s σ H xs us Q I r h
  rcases h with h | ⟨z, rfl, hz, q⟩
  · exact call_list_of pins s σ H xs us Q I r h
  · obtain ⟨u, rfl, rx⟩ := vals1 r
    obtain ⟨t, rfl⟩ := rx
    refine call_list_str hr.hd z t (fun h' tk acc' c' kp e hi => ?_) hz
    have hl : acc'.toList.length = z.cps.toList.length := by rw [Array.length_toList, Array.length_toList, hi.1]
    have hv : Vals (signV z) acc'.toList := signV_vals _ _ hl fun j c hj => by
      have hlt : j < acc'.size := by
        have := (List.getElem?_eq_some_iff.mp hj).1
        rw [← hl, Array.length_toList] at this
        exact this
      obtain ⟨c', u, h1, h2⟩ := hi.2 j acc'[j] (Array.getElem?_eq_getElem hlt)
      rw [Array.getElem?_toList] at hj ⊢
      rw [hj] at h1
      cases h1
      exact ⟨u, by rw [Array.getElem?_eq_getElem hlt, h2]⟩
    have hv2 : (signV z).length ≤ sizeLine := by
      unfold signV
      rw [List.length_map, Array.length_toList]
      exact hz
    refine ⟨.ref s.heap.objs.size, _, I.laid (t' := tk) kp (Nat.le_refl _) (show ObjOk X.prog X.w _ h' _ (.lst (signV z)) from ⟨hv2, acc'.toList, c', hv, by rw [Array.toArray_toList]; exact e⟩), rfl, q _ (I.hok.fresh (Nat.le_refl _))⟩
@[simp] def gList : PyData → (PyData → Prop) → Prop := fun x Φ => match x with
  | .list xs => Φ (.list xs)
  | .tuple xs => Φ (.list xs)
  | .str z => z.length ≤ sizeLine ∧ Φ (.list (signsOf z))
  | _ => False
theorem opn_list : OpN K (fun xs H Q => (∃ p ys, xs = [.ref p] ∧ (SqL K H p ys ∨ SqT K H p ys) ∧ ∀ l, H l = none → Q (.ref l) (upd H l (.lst ys))) ∨ ∃ z, xs = [.str z] ∧ z.length ≤ sizeLine ∧ ∀ l, H l = none → Q (.ref l) (upd H l (.lst (signV z)))) (wN1 gList) := opN1 fun F H v x Q Φ s d w k => by
  cases x with
  | list xs =>
    cases d with
    | @lst a0 vs0 _ h1 h2 =>
      refine .inl ⟨_, _, rfl, .inl (SqL.of (s _ _ h1)), fun l hl => ?_⟩
      have f := Fresh.new (o := .lst vs0) s hl
      exact k _ _ _ _ f (.lst upd_same (h2.mono f.ff)) w
  | tuple xs =>
    cases d with
    | @tup a0 vs0 _ h1 h2 =>
      refine .inl ⟨_, _, rfl, .inr (same_sqt s h1), fun l hl => ?_⟩
      have f := Fresh.new (o := .lst vs0) s hl
      exact k _ _ _ _ f (.lst upd_same (h2.mono f.ff)) w
  | str z =>
    cases d
    refine .inr ⟨_, rfl, w.1, fun l hl => ?_⟩
    have f := Fresh.new (o := .lst (signV z)) s hl
    exact k _ _ _ _ f (.lst upd_same (signV_dq z)) w.2
  | _ => exact w.elim
@[simp] def gTuple : PyData → (PyData → Prop) → Prop := fun x Φ => match x with
  | .list xs => Φ (.tuple xs)
  | .tuple xs => Φ (.tuple xs)
  | _ => False
theorem opn_tuple : OpN K (fun xs H Q => ∃ p ys, xs = [.ref p] ∧ ((SqL K H p ys ∧ ∀ l, H l = none → Q (.ref l) (upd H l (.tup ys))) ∨ (SqT K H p ys ∧ Q (.ref p) H))) (wN1 gTuple) := opN1 fun F H v x Q Φ s d w k => by
  cases x with
  | list xs =>
    cases d with
    | @lst a0 vs0 _ h1 h2 =>
      refine ⟨_, _, rfl, .inl ⟨SqL.of (s _ _ h1), fun l hl => ?_⟩⟩
      have f := Fresh.new (o := .tup vs0) s hl
      exact k _ _ _ _ f (.tup (SqT.of upd_same) (h2.mono f.ff)) w
  | tuple xs =>
    cases d with
    | tup h1 h2 => exact ⟨_, _, rfl, .inr ⟨same_sqt s h1, k _ F H _ (Fresh.refl s) (.tup h1 h2) w⟩⟩
  | _ => exact w.elim
/-- sums of ints, any, all: of lists of the kind -/
def gSum : PyData → (PyData → Prop) → Prop := fun x Φ => ∃ ns : List Int, x = .list (ns.map .int) ∧ Φ (.int ns.sum)
def gAny : PyData → (PyData → Prop) → Prop := fun x Φ => ∃ ns : List Bool, x = .list (ns.map .bool) ∧ Φ (.bool (ns.any id))
def gAll : PyData → (PyData → Prop) → Prop := fun x Φ => ∃ ns : List Bool, x = .list (ns.map .bool) ∧ Φ (.bool (ns.all id))
theorem opn_sum : OpN K (rSum K) (wN1 gSum) := opN1 fun F H v x Q Φ s d w k => by
  obtain ⟨ns, rfl, w⟩ := w
  cases d with
  | lst h1 h2 =>
    have e := h2.ints
    subst e
    exact ⟨_, ns, rfl, SqL.of (s _ _ h1), k _ F H _ (Fresh.refl s) (.int _) w⟩
theorem opn_any : OpN K (rAny K) (wN1 gAny) := opN1 fun F H v x Q Φ s d w k => by
  obtain ⟨ns, rfl, w⟩ := w
  cases d with
  | lst h1 h2 =>
    have e := h2.bls
    subst e
    exact ⟨_, ns, rfl, SqL.of (s _ _ h1), k _ F H _ (Fresh.refl s) (.bl _) w⟩
theorem opn_all : OpN K (rAll K) (wN1 gAll) := opN1 fun F H v x Q Φ s d w k => by
  obtain ⟨ns, rfl, w⟩ := w
  cases d with
  | lst h1 h2 =>
    have e := h2.bls
    subst e
    exact ⟨_, ns, rfl, SqL.of (s _ _ h1), k _ F H _ (Fresh.refl s) (.bl _) w⟩
/-- the greatest of a list of ints -/
def gMaxL : PyData → (PyData → Prop) → Prop := fun x Φ => ∃ ns : List Int, x = .list (ns.map .int) ∧ 0 < ns.length ∧ ∀ m, m ∈ ns → (∀ y, y ∈ ns → y ≤ m) → Φ (.int m)
theorem opn_maxL : OpN K (rMax K) (wN1 gMaxL) := opN1 fun F H v x Q Φ s d w k => by
  obtain ⟨ns, rfl, hl, w⟩ := w
  cases d with
  | lst h1 h2 =>
    have e := h2.ints
    subst e
    exact ⟨_, ns, rfl, SqL.of (s _ _ h1), hl, fun m hm hy => k _ F H _ (Fresh.refl s) (.int _) (w m hm hy)⟩
end
section
variable {X : Cx} {o e : Expr} {pos : Pos}
/-- sep.join(list of texts) -/
@[simp] def wJoin (wo we : DE) : DE := fun s Φ => wo s fun a s1 => match a with
  | .str a => we s1 fun y s2 => ∃ ys : List Str, y = .list (ys.map .str) ∧ (ys.map (·.length)).sum + ys.length * a.length ≤ 16777216 ∧ Φ (.str (Txt.join a ys)) s2
  | _ => False
theorem xe_join {apos : Pos} {wo we : DE} (ho : XE X o wo) (he : XE X e we) (hs : starEach [e] X.env = [(false, eval e X.env)] := by rfl) (hbase : attributeBase o "join" X.env (eval o X.env) = eval o X.env := by rfl) (hline : (apos.endLine == pos.line) = true := by rfl) :
    XE X (.Call (.Attribute o "join" apos) [e] [] pos) (wJoin wo we) := pe_imp (pe_join ho he hs hbase hline) fun σ H Q h => by
  obtain ⟨G, P, F, s, Φ, R, h, k⟩ := h
  refine ⟨G, P, F, s, _, R, h, fun v F1 H1 s1 x R1 e1 d1 q => ?_⟩
  cases x with
  | str a =>
    cases d1
    refine ⟨⟨a, rfl⟩, G, P, F1, s1, _, R1, q, fun u F2 H2 s2 y R2 e2 d2 q2 => ?_⟩
    obtain ⟨ys, rfl, hz, q2⟩ := q2
    cases d2 with
    | lst h1 h2 =>
      have e := h2.strs
      subst e
      exact ⟨a, _, ys, rfl, rfl, .inl (SqL.of (R2.same _ _ h1)), hz, k _ F2 H2 s2 _ R2 (e1.trans e2) (.str _) q2⟩
  | _ => exact q.elim
/-- isinstance(e, T) -/
@[simp] def kindD : PyData → String
  | .none => "NoneType"
  | .bool _ => "bool"
  | .int _ => "int"
  | .str _ => "str"
  | .list _ => "list"
  | .tuple _ => "tuple"
  | .dict _ => "range"
@[simp] def wIsI (T : String) (w : DE) : DE := fun s Φ => w s fun x s1 => match x with
  | .dict _ => False
  | x => optP (kitB (kindD x) T) fun b => Φ (.bool b) s1
theorem tyx_of {K : PySem.W.Frag} {F H : Hp} {v : V} {x : PyData} (s : Same F H) (d : Dq K F v x) (nr : ∀ kvs, x ≠ .dict kvs) : TyX K H v (.type (kindD x)) := by
  cases d with
  | non => exact .base .non
  | bl b => exact .base (.bl b)
  | int i => exact .base (.int i)
  | str z => exact .base (.str z)
  | lst h1 h2 => exact .base (.lst (s _ _ h1))
  | tup h1 h2 =>
    rcases h1 with (h | ⟨o, h⟩) | ⟨o, its, n, h, c, _⟩
    · exact .base (.tup (s _ _ h))
    · exact .fTuple (s _ _ h)
    · exact .kTuple h c
  | rng h => exact (nr _ rfl).elim
theorem xe_isI {T : Str} {n : String} {p p1 : Pos} {w : DE} (hg : Gl X "isinstance") (hm : X.mg "isinstance" = none) (hgT : Gl X T) (hmT : X.mg T = none) (hvT : bootBuiltins T = some (.type n)) (h : XE X e w) (hn : T ≠ "__name__" := by decide) (hd : (T == ("__debug__" : Str)) = false := by decide)
    (he : starEach [e, .Name T p1] X.env = (false, eval e X.env) :: starEach [.Name T p1] X.env := by rfl) (he2 : starEach [.Name T p1] X.env = (false, eval (.Name T p1) X.env) :: starEach [] X.env := by rfl) (hpl : (backTo pos (starEach [.Name T p1] X.env)).any (·.1) = false := by rfl) :
    XE X (.Call (.Name "isinstance" p) [e, .Name T p1] [] pos) (wIsI n w) :=
  pe_imp (pe_callB call_isi hg hm (by decide +kernel) (pa_cons h (pa_cons (pe_bltn (v := .ty n) hgT hmT hvT rfl hn hd) pa_nil he2) he) (by decide) (by decide) he hpl) fun σ H Q h => by
    obtain ⟨G, P, F, s, Φ, R, h, k⟩ := h
    refine ⟨G, P, F, s, _, R, h, fun v F1 H1 s1 x R1 e1 d1 q => ?_⟩
    have q2 : (∀ kvs, x ≠ .dict kvs) ∧ optP (kitB (kindD x) n) fun b => Φ (.bool b) s1 := by
      cases x with
      | dict _ => exact q.elim
      | _ => exact ⟨fun _ z => (by cases z), q⟩
    obtain ⟨b, hb, q⟩ := optP_of q2.2
    exact ⟨v, .ty n, _, _, b, rfl, .ty n, tyx_of R1.same d1 q2.1, kit_ty hb, k _ F1 H1 s1 _ R1 e1 (.bl b) q⟩
end
end DL
/-! DL, seventh part: the script, the pool, new lists handed back, repr, the law. -/
namespace DL
open PySem PySem.Spec PyProof.Rows L2

section
variable {X : Cx} {pos : Pos}
theorem xe_scIx {i : Nat} {x : Str} {xp : Pos} {k : Expr} {wb : DE} (hv : PE X (.Name x xp) (tVar i)) (hk : XE X k wb) (hs : PlainIx k := by exact fun _ _ => rfl) : XE X (.Subscript (.Name x xp) k pos) (fun s Φ => scAt s i fun _ => wScIx i wb s Φ) :=
  pe_imp (pe_ix ix_list hv hk hs) fun σ H Q h => by
    obtain ⟨G, P, F, s, Φ, R, h, kk⟩ := h
    obtain ⟨ns0, h0, h⟩ := scAt_of h
    obtain ⟨a, g1, g2⟩ := R.sl i _ h0
    refine ⟨_, g1, G, P, F, s, _, R, h, fun u F2 H2 s2 y R2 e2 d2 q2 => ?_⟩
    obtain ⟨ns, h1, q2⟩ := scAt_of q2
    obtain ⟨b, k1, k2⟩ := R2.sl i _ h1
    rw [g1] at k1
    cases k1
    cases y with
    | int k =>
      cases d2
      obtain ⟨z0, z1, q2⟩ := q2
      have hk : k.toNat < ns.length := by omega
      have ha : atI (ns.map V.int) k = some (V.int (ns.getD k.toNat 0)) := by
        refine at_of (j := k.toNat) (by omega) ?_
        rw [List.getElem?_map, List.getElem?_eq_getElem hk, List.getD_eq_getElem?_getD, List.getElem?_eq_getElem hk]
        rfl
      exact ⟨_, _, k, _, rfl, rfl, R2.same.seq k2, ha, kk _ F2 H2 s2 _ R2 e2 (.int _) q2⟩
    | _ => exact q2.elim
/-! the pool -/
theorem atI_map {α β : Type} {f : α → β} {xs : List α} {k : Int} {x : α} (h : atI xs k = some x) : atI (xs.map f) k = some (f x) := by
  obtain ⟨j, a, b⟩ := atI_get h
  unfold atI
  rw [List.length_map, a]
  show (xs.map f)[j]? = some (f x)
  rw [List.getElem?_map, b]
  rfl
@[simp] def wPlIx (i : Nat) (wb : DE) : DE := fun s Φ => poolAt s i (wb s fun k s1 => match k with
  | .int k => optP (atI s1.q k) fun n => Φ (.int n) s1
  | _ => False)
theorem xe_plIx {i : Nat} {x : Str} {xp : Pos} {k : Expr} {wb : DE} (hv : PE X (.Name x xp) (tVar i)) (hk : XE X k wb) (hs : PlainIx k := by exact fun _ _ => rfl) : XE X (.Subscript (.Name x xp) k pos) (wPlIx i wb) :=
  pe_imp (pe_ix ix_list hv hk hs) fun σ H Q h => by
    obtain ⟨G, P, F, s, Φ, R, h, kk⟩ := h
    obtain ⟨hs, h⟩ := poolAt_of h
    obtain ⟨a, rfl, g1⟩ := R.sl i _ hs
    refine ⟨_, g1, G, some a, F, s, _, R, h, fun u F2 H2 s2 y R2 e2 d2 q2 => ?_⟩
    cases y with
    | int k =>
      cases d2
      obtain ⟨n, hn, q2⟩ := optP_of q2
      exact ⟨_, _, k, _, rfl, rfl, SqL.of (R2.pool a rfl).2.2, atI_map hn, kk _ F2 H2 s2 _ R2 e2 (.int _) q2⟩
    | _ => exact q2.elim
@[simp] def wPlLen (i : Nat) : DE := fun s Φ => poolAt s i (Φ (.int s.q.length) s)
theorem xe_plLen {i : Nat} {x : Str} {xp p1 : Pos} (hg : Gl X "len") (hm : X.mg "len" = none) (hv : PE X (.Name x xp) (tVar i)) (he : starEach [.Name x xp] X.env = (false, eval (.Name x xp) X.env) :: starEach [] X.env := by rfl)
    (hpl : (backTo pos (starEach [] X.env)).any (·.1) = false := by rfl) : XE X (.Call (.Name "len" p1) [.Name x xp] [] pos) (wPlLen i) :=
  pe_imp (pe_callB call_len_seq hg hm (by decide +kernel) (pa_cons hv pa_nil he) (by decide) (by decide) he hpl) fun σ H Q h => by
    obtain ⟨G, P, F, s, Φ, R, h, kk⟩ := h
    obtain ⟨hs, h⟩ := poolAt_of h
    obtain ⟨a, rfl, g1⟩ := R.sl i _ hs
    refine ⟨_, g1, a, _, rfl, .inl (SqL.of (R.pool a rfl).2.2), ?_⟩
    rw [List.length_map]
    exact kk _ F H s _ R (Same.refl F) (.int _) h
/-- pool[k] = e -/
@[simp] def wPlSet (i : Nat) (wi we : DE) : DS := fun Φ s => we s fun x s1 => poolAt s1 i (wi s1 fun k s2 => match k, x with
  | .int k, .int n => optP (ixN s2.q.length k) fun j => Φ.nx ⟨s2.e, s2.q.set j n⟩
  | _, _ => False)
theorem xs_plSet {i : Nat} {x : Str} {xp p1 : Pos} {a k : Expr} {wi we : DE} (hv : PE X (.Name x xp) (tVar i)) (hk : XE X k wi) (h : XE X a we)
    (hs : swapsWithSole [.Subscript (.Name x xp) k p1] a pos.line X.env = pure false := by rfl) (hw : swappedStores [.Subscript (.Name x xp) k p1] a X.env = pure none := by rfl)
    (hasg : ∀ u, assign (.Subscript (.Name x xp) k p1) X.env u = (do let ov ← holding [u] (eval (.Name x xp) X.env); let iv ← holding [u, ov] (eval k X.env); standAt p1; holding [u, ov, iv] (setItem ov iv u); release [u, ov, iv] []) := by intro _; rfl) :
    XS X (.Assign [.Subscript (.Name x xp) k p1] a pos) (wPlSet i wi we) :=
  ps_imp (ps_asg h (pg_sub hv hk set_list hasg) hs hw) fun D σ H h => by
    obtain ⟨G, P, F, s, Φ, R, h, b⟩ := h
    refine ⟨G, P, F, s, _, R, h, fun v F1 H1 s1 x R1 e1 d1 q1 => ?_⟩
    obtain ⟨h0, q1⟩ := poolAt_of q1
    obtain ⟨a, rfl, g1⟩ := R1.sl i _ h0
    refine ⟨_, g1, G, some a, F1, s1, _, R1, q1, fun u F2 H2 s2 y R2 e2 d2 q2 => ?_⟩
    cases y with
    | int k =>
      cases x with
      | int n =>
        cases d1
        cases d2
        obtain ⟨j, hj, q2⟩ := optP_of q2
        obtain ⟨p1, p2, p3⟩ := R2.pool a rfl
        refine ⟨_, _, k, j, rfl, rfl, p3, by rw [List.length_map]; exact hj, b.nx _ F2 _ _ ?_ (e1.trans e2) q2⟩
        have f : FreshP a F2 H2 F2 (upd H2 a (.lst ((s2.q.map V.int).set j (.int n)))) := ⟨Same.refl F2, fun b o q => by rw [upd_ne (fun z => by rw [z, p1] at q; cases q)]; exact R2.same b o q, fun b o nb q => by rw [upd_ne nb]; exact q, fun b o _ q => q⟩
        exact R2.freshP f (by rw [upd_same, List.map_set])
      | _ => exact q2.elim
    | _ => exact q2.elim
end

/-! ### new lists handed back -/
structure FreshL (F H F' H' : Hp) (p : Addr) : Prop where
  fs : Fresh F H F' H'
  np : H p = none
  fp : F' p = none
abbrev DSpL := List PyData → (List PyData → Prop) → Prop
def spL (K : PySem.W.Frag) (f : DSpL) : Sp := fun vs H Q _ => ∃ F ds Φ, Same F H ∧ DqA K F vs ds ∧ f ds Φ ∧ ∀ p us F' H' xs, FreshL F H F' H' p → H' p = some (.lst us) → DqA K F' us xs → Φ xs → Q (.ref p) H'
/-- the same of the script -/
abbrev DSpS := List Int → (List PyData → Prop) → Prop
def spS (K : PySem.W.Frag) (f : DSpS) : Sp := fun vs H Q _ => ∃ a ns F Φ, vs = [.ref a] ∧ Same F H ∧ SqL K F a (ns.map V.int) ∧ f ns Φ ∧ ∀ p us F' H' xs, FreshL F H F' H' p → H' p = some (.lst us) → DqA K F' us xs → Φ xs → Q (.ref p) H'
@[simp] def endL (Φ : List PyData → Prop) : EN := { nx := fun _ => False, rt := fun _ _ => False, rl := fun xs _ => Φ xs }
section
variable {P : Program} {w : World} {K : PySem.W.Frag} {mg : Str → Option Value} {base : Heap} {k : Nat} {f : Addr} {fd : FuncData} {ps : List Str} {qual x : Str} {st : Stmt} {N : List Str}
theorem freshL_of {F H F' H' : Hp} {σ' : L2.St} {s' : S} {p : Addr} (e : Same F H) (R : Rep K (partH F H none) none F' H' σ' s') (ee : Same F F') (n : Nu (partH F H none) none F' σ' s' p) : FreshL F H F' H' p := by
  have fr : Fresh F H F' H' := ⟨ee, R.same, fun b o hb => by
      cases hF : F b with
      | none => exact R.keep b o (partH_at hF (fun z => by cases z) hb)
      | some u =>
        have q := e b u hF
        rw [hb] at q
        cases q
        exact R.same b o (ee b o hF), fun b o hb hF => R.apart b o (partH_at hF (fun z => by cases z) hb)⟩
  refine ⟨fr, ?_, n.f⟩
  cases hp : H p with
  | none => rfl
  | some o =>
    have hF : F p = none := by
      cases hF : F p with
      | none => rfl
      | some u =>
        have q := ee p u hF
        rw [n.f] at q
        cases q
    have q := n.g
    rw [partH_at hF (fun z => by cases z) hp] at q
    cases q
theorem fn_L {sp : DSpL} (F : Fun K x qual st f fd) (Sc : FnScope N ps (defScope st)) (len : ∀ ds Φ, sp ds Φ → ds.length = ps.length)
    (hbody : ∀ (cdv : Value) (A : Around) (outer : List Env) (s : Shared) (H : Hp) (E : XK), (A.deeper (envOfC qual (defScope st) s.heap.objs.size f cdv)).guards = some [] → Room k (A.deeper (envOfC qual (defScope st) s.heap.objs.size f cdv)) →
      ∃ wd, XSs (cxOf CX0 P w K mg base N qual (defScope st) f cdv A outer s H E).nox (defBody st) wd ∧ ∀ ds Φ, sp ds Φ → wd (endL Φ) ⟨startE N (ds.map .d), []⟩) : FnG P w K mg base CX0 (k + 1) f fd ps (spL K sp) := by
  refine fng_of F Sc (fun vs H Q E h => ?_) (fun cdv A outer s H vs Q E g hr h => ?_)
  · obtain ⟨F, ds, Φ, _, d, hs, _⟩ := h
    rw [d.length]
    exact len ds Φ hs
  · obtain ⟨wd, hX, hw⟩ := hbody cdv A outer s H E g hr
    refine ⟨_, hX.nox, ?_⟩
    obtain ⟨F, ds, Φ, e, d, hs, kk⟩ := h
    exact ⟨_, none, F, _, _, rep_startD e d [], hw ds Φ hs, fun _ _ _ _ _ _ q => q.elim, fun _ _ _ _ _ _ _ _ _ q => q.elim, fun _ _ _ _ _ _ q => q.elim, fun _ _ _ _ _ _ q => q.elim,
      fun p us σ' F' H' s' xs R ee n hp dx q => kk p us F' H' xs (freshL_of e R ee n) hp dx q⟩
theorem rep_startS {F H : Hp} {ns : List Int} {a : Addr} {q : List Int} (e : Same F H) (h : SqL K F a (ns.map V.int)) : Rep K (partH F H none) none F H (L2.start N [.ref a]) ⟨startE N [.sc ns], q⟩ := by
  have look : ∀ {i : Nat} {x : Sl}, ([.sc ns] : List Sl)[i]? = some x → i = 0 ∧ x = .sc ns := fun {i x} h => by
    cases i with
    | zero => exact ⟨rfl, (Option.some.inj (by simpa using h)).symm⟩
    | succ j => simp at h
  refine ⟨e, fun b o h => (partH_some h).2.2, fun b o h => (partH_some h).1, fun i x hx => ?_, fun i j xs ys p hi hj _ _ => ?_, fun a ha => (by cases ha), ?_⟩
  · rcases startE_get hx with h2 | rfl
    · obtain ⟨rfl, rfl⟩ := look h2
      exact ⟨a, start_get rfl, h⟩
    · exact True.intro
  · rcases startE_get hi with h2 | h2
    · obtain ⟨_, z⟩ := look h2
      cases z
    · cases h2
  · show (L2.start N [.ref a]).length = (startE N [.sc ns]).length
    unfold L2.start startE
    simp
theorem fn_S {sp : DSpS} (F : Fun K x qual st f fd) (Sc : FnScope N ps (defScope st)) (len : ps.length = 1)
    (hbody : ∀ (cdv : Value) (A : Around) (outer : List Env) (s : Shared) (H : Hp) (E : XK), (A.deeper (envOfC qual (defScope st) s.heap.objs.size f cdv)).guards = some [] → Room k (A.deeper (envOfC qual (defScope st) s.heap.objs.size f cdv)) →
      ∃ wd, XSs (cxOf CX0 P w K mg base N qual (defScope st) f cdv A outer s H E).nox (defBody st) wd ∧ ∀ ns Φ, sp ns Φ → wd (endL Φ) ⟨startE N [.sc ns], []⟩) : FnG P w K mg base CX0 (k + 1) f fd ps (spS K sp) := by
  refine fng_of F Sc (fun vs H Q E h => ?_) (fun cdv A outer s H vs Q E g hr h => ?_)
  · obtain ⟨a, ns, F, Φ, rfl, _⟩ := h
    exact len.symm
  · obtain ⟨wd, hX, hw⟩ := hbody cdv A outer s H E g hr
    refine ⟨_, hX.nox, ?_⟩
    obtain ⟨a, ns, F, Φ, rfl, e, d, hs, kk⟩ := h
    exact ⟨_, none, F, _, _, rep_startS e d, hw ns Φ hs, fun _ _ _ _ _ _ q => q.elim, fun _ _ _ _ _ _ _ _ _ q => q.elim, fun _ _ _ _ _ _ q => q.elim, fun _ _ _ _ _ _ q => q.elim,
      fun p us σ' F' H' s' xs R ee n hp dx q => kk p us F' H' xs (freshL_of e R ee n) hp dx q⟩
end
section
variable {X : Cx} {k : Nat} {f : Addr} {fd : FuncData} {ps : List Str} {x : Str} {p pos : Pos} {e : Expr} {es : List Expr}
theorem Rep.nuL {K : PySem.W.Frag} {G F F' H H' : Hp} {P : Option Addr} {σ : L2.St} {s : S} {p : Addr} (R : Rep K G P F H σ s) (f : FreshL F H F' H' p) : Nu G P F' σ s p :=
  let n := R.nu f.np
  ⟨f.fp, n.g, n.np, n.sl⟩
@[simp] def wCallL (sp : DSpL) (wa : DA) : DA := fun s Φ => wa s fun ds s1 => sp ds fun r => Φ r s1
theorem xl_call {sp : DSpL} {wa : DA} (F : FnG X.prog X.w X.K X.mg X.base CX0 k f fd ps (spL X.K sp)) (hgd : X.A.guards = some []) (hr : Room k X.A) (hg : Gl X x) (hm : X.mg x = some (.ref f)) (hk : PySem.W.keepIn X.K (.ref f) = true) (hb : Binds X.K fd ps [])
    (ha : XA X (e :: es) wa) (hdb : (x == ("__debug__" : Str)) = false := by decide) (he : starEach (e :: es) X.env = (false, eval e X.env) :: starEach es X.env := by rfl) (hpl : (backTo pos (starEach es X.env)).any (·.1) = false := by rfl) :
    XL X (.Call (.Name x p) (e :: es) [] pos) (wCallL sp wa) := pe_imp (pe_callG F hgd hr hg hm hk hb .nil pass0 ha hdb he hpl) fun σ H Q h => by
  obtain ⟨G, P, F, s, Φ, R, h, kk⟩ := h
  refine ⟨G, P, F, s, _, R, h, fun vs F1 H1 s1 ds R1 e1 d1 q => ?_⟩
  show spL X.K sp (vs ++ []) H1 Q E0
  rw [List.append_nil]
  exact ⟨F1, ds, _, R1.same, d1, q, fun p us F' H' xs fr hp dx qx => kk p us F' H' s1 xs (R1.fresh fr.fs) (e1.trans fr.fs.ff) (R1.nuL fr) hp dx qx⟩
/-- f(script) -/
@[simp] def wCallS (i : Nat) (sp : DSpS) : DA := fun s Φ => scAt s i fun ns => sp ns fun r => Φ r s
theorem xl_callS {i : Nat} {y : Str} {yp : Pos} {sp : DSpS} (F : FnG X.prog X.w X.K X.mg X.base CX0 k f fd ps (spS X.K sp)) (hgd : X.A.guards = some []) (hr : Room k X.A) (hg : Gl X x) (hm : X.mg x = some (.ref f)) (hk : PySem.W.keepIn X.K (.ref f) = true) (hb : Binds X.K fd ps [])
    (hv : PE X (.Name y yp) (tVar i)) (hdb : (x == ("__debug__" : Str)) = false := by decide) (he : starEach [.Name y yp] X.env = (false, eval (.Name y yp) X.env) :: starEach [] X.env := by rfl) (hpl : (backTo pos (starEach [] X.env)).any (·.1) = false := by rfl) :
    XL X (.Call (.Name x p) [.Name y yp] [] pos) (wCallS i sp) := pe_imp (pe_callG F hgd hr hg hm hk hb .nil pass0 (pa_cons hv pa_nil he) hdb he hpl) fun σ H Q h => by
  obtain ⟨G, P, F, s, Φ, R, h, kk⟩ := h
  obtain ⟨ns, h0, h⟩ := scAt_of h
  obtain ⟨a, g1, g2⟩ := R.sl i _ h0
  refine ⟨_, g1, ?_⟩
  show spS X.K sp ([.ref a] ++ []) H Q E0
  rw [List.append_nil]
  exact ⟨a, ns, F, _, rfl, R.same, g2, h, fun p us F' H' xs fr hp dx qx => kk p us F' H' s xs (R.fresh fr.fs) fr.fs.ff (R.nuL fr) hp dx qx⟩
/-! repr -/
@[simp] def gRepr : PyData → (PyData → Prop) → Prop := fun x Φ => (match x with
  | .list _ => True
  | .tuple _ => True
  | _ => False) ∧ x.showable = true ∧ x.hasDict = false ∧ x.depth ≤ 60 ∧ x.shown.length ≤ sizeLine ∧ Φ (.str x.shown)
theorem call_repr {k : Nat} (hgd : X.A.guards = some []) (hr : Room k X.A) : CallR X (.builtin "repr") (fun xs H Q => ∃ a d, xs = [.ref a] ∧ Dp X.K H (.ref a) d ∧ d.showable = true ∧ d.hasDict = false ∧ d.depth ≤ 60 ∧ d.shown.length ≤ sizeLine ∧ Q (.str d.shown) H) := by
  intro pins s σ H xs us Q I r h
  obtain ⟨a, d, rfl, dp, h1, h2, h3, h4, q⟩ := h
  obtain ⟨u, rfl, ru⟩ := vals1 r
  obtain ⟨as, rd⟩ := Dp.reads I d (.ref a) u dp ru
  cases ru
  have hu := hr.units
  exact repr_of_reads' rd h1 (PyData.noDict_hsm h2) hgd (by omega) (fun _ _ z => z) (fun h' u tk kept => ⟨.str d.shown, H, I.kept (t' := tk) kept, ⟨u, rfl⟩, q⟩) h4
theorem opn_repr : OpN X.K (fun xs H Q => ∃ a d, xs = [.ref a] ∧ Dp X.K H (.ref a) d ∧ d.showable = true ∧ d.hasDict = false ∧ d.depth ≤ 60 ∧ d.shown.length ≤ sizeLine ∧ Q (.str d.shown) H) (wN1 gRepr) := opN1 fun F H v x Q Φ s d w k => by
  obtain ⟨w0, w1, w2, w3, w4, w5⟩ := w
  have d0 := (d.mono s).dp w2
  cases d with
  | lst h1 h2 => exact ⟨_, _, rfl, d0, w1, w2, w3, w4, k _ F H _ (Fresh.refl s) (.str _) w5⟩
  | tup h1 h2 => exact ⟨_, _, rfl, d0, w1, w2, w3, w4, k _ F H _ (Fresh.refl s) (.str _) w5⟩
  | _ => exact w0.elim
end
/-! ### the law: pool = _law_stream(script), then the rest over the pool -/
def spLaw (K : PySem.W.Frag) : Sp := fun vs H Q _ => ∃ (a : Addr) (ns : List Int), vs = [.ref a] ∧ SqL K H a (ns.map V.int) ∧ ns.length ≤ 63 ∧ ∀ H', Q (.bl true) H'
/-- a pool: at least 301 numbers from 0 on, all but the first one below 60 -/
structure PoolOk (q : List Int) : Prop where
  lo : 301 ≤ q.length
  hi : q.length ≤ 100000
  h0 : ∀ n ∈ q, 0 ≤ n
  nn : ∀ n ∈ q.drop 1, n < 60
def spStream : DSpS := fun ns Φ => ns.length ≤ 63 ∧ ∀ q, PoolOk q → Φ (q.map .int)
@[simp] def endTrue : EN := { nx := fun _ => False, rt := fun x _ => x = .bool true }
section
variable {P : Program} {w : World} {K : PySem.W.Frag} {mg : Str → Option Value} {base : Heap} {k kS : Nat} {f fS : Addr} {fd fdS : FuncData} {psS : List Str} {qual x : Str} {st : Stmt} {N : List Str}
theorem rep_law {F H F' H' : Hp} {a p : Addr} {ns q : List Int} (h : SqL K F a (ns.map V.int)) (fr : FreshL F H F' H' p) (hp : H' p = some (.lst (q.map V.int))) (hN : 2 ≤ N.length) :
    Rep K (fun _ => none) (some p) F' H' ((L2.start N [.ref a]).set 1 (some (.ref p))) ⟨(startE N [.sc ns]).set 1 .pl, q⟩ := by
  have hl : 1 < (L2.start N [.ref a]).length := by
    unfold L2.start
    simp
    omega
  have look : ∀ {i : Nat} {x : Sl}, ([.sc ns] : List Sl)[i]? = some x → i = 0 ∧ x = .sc ns := fun {i x} h => by
    cases i with
    | zero => exact ⟨rfl, (Option.some.inj (by simpa using h)).symm⟩
    | succ j => simp at h
  refine ⟨fr.fs.fh, fun b o z => (by cases z), fun b o z => (by cases z), fun i x hx => ?_, fun i j xs ys r hi hj _ _ => ?_, fun b hb => ?_, ?_⟩
  · rcases set_get hx with ⟨rfl, rfl⟩ | ⟨ne, hx⟩
    · exact ⟨p, rfl, set_self hl⟩
    · rcases startE_get hx with h2 | rfl
      · obtain ⟨rfl, rfl⟩ := look h2
        exact ⟨a, by rw [List.getElem?_set_ne (by decide)]; exact start_get rfl, fr.fs.ff.seq h⟩
      · exact True.intro
  · rcases set_get hi with ⟨_, z⟩ | ⟨_, hi⟩
    · cases z
    · rcases startE_get hi with h2 | h2
      · obtain ⟨_, z⟩ := look h2
        cases z
      · cases h2
  · cases hb
    exact ⟨fr.fp, rfl, hp⟩
  · show ((L2.start N [.ref a]).set 1 (some (.ref p))).length = ((startE N [.sc ns]).set 1 .pl).length
    rw [List.length_set, List.length_set]
    unfold L2.start startE
    simp
/-- pool is the second name -/
theorem fn_law {y sx : Str} {yp p1 p2 cp pos : Pos} {rest : List Stmt} (F : Fun K x qual st f fd) (Sc : FnScope N ["script"] (defScope st)) (hN : 2 ≤ N.length)
    (hb0 : defBody st = .Assign [.Name y yp] (.Call (.Name sx p1) [.Name "script" p2] [] cp) pos :: rest)
    (GS : FnG P w K mg base CX0 kS fS fdS psS (spS K spStream)) (gS : mg sx = some (.ref fS)) (kpS : PySem.W.keepIn K (.ref fS) = true) (bS : Binds K fdS psS []) (hk : kS ≤ k)
    (hhead : ∀ (cdv : Value) (A : Around) (outer : List Env) (s : Shared) (H : Hp) (E : XK), (A.deeper (envOfC qual (defScope st) s.heap.objs.size f cdv)).guards = some [] → Room k (A.deeper (envOfC qual (defScope st) s.heap.objs.size f cdv)) →
      PS (cxOf CX0 P w K mg base N qual (defScope st) f cdv A outer s H E).nox (.Assign [.Name y yp] (.Call (.Name sx p1) [.Name "script" p2] [] cp) pos) (tAsg (tCall (spS K spStream) [] E0 (tCons (tVar 0) tNil)) (gName 1)))
    (hbody : ∀ (cdv : Value) (A : Around) (outer : List Env) (s : Shared) (H : Hp) (E : XK), (A.deeper (envOfC qual (defScope st) s.heap.objs.size f cdv)).guards = some [] → Room k (A.deeper (envOfC qual (defScope st) s.heap.objs.size f cdv)) →
      ∃ wd, XSs (cxOf CX0 P w K mg base N qual (defScope st) f cdv A outer s H E).nox rest wd ∧ ∀ ns q, PoolOk q → wd endTrue ⟨(startE N [.sc ns]).set 1 .pl, q⟩) : FnG P w K mg base CX0 (k + 1) f fd ["script"] (spLaw K) := by
  refine fng_of F Sc (fun vs H Q E h => ?_) (fun cdv A outer s H vs Q E g hr h => ?_)
  · obtain ⟨a, ns, rfl, _⟩ := h
    rfl
  · obtain ⟨wd, hX, hw⟩ := hbody cdv A outer s H E g hr
    have hs := hhead cdv A outer s H E g hr
    rw [hb0]
    refine ⟨_, (pss_cons hs hX).nox, ?_⟩
    obtain ⟨a, ns, rfl, hS, hl, kk⟩ := h
    have key : ∀ Q' : VK, (∀ p us F' H' q, FreshL H H F' H' p → H' p = some (.lst us) → DqA K F' us (q.map .int) → PoolOk q → Q' (.ref p) H') → spS K spStream ([V.ref a] ++ []) H Q' E0 := fun Q' z => by
      rw [List.append_nil]
      exact ⟨a, ns, H, fun xs => ∃ q : List Int, PoolOk q ∧ xs = q.map .int, rfl, Same.refl H, hS, ⟨hl, fun q hq => ⟨q, hq, rfl⟩⟩, fun p us F' H' xs fr hp dx ⟨q, hq, e⟩ => z p us F' H' q fr hp (by rw [← e]; exact dx) hq⟩
    refine ⟨.ref a, start_get rfl, ?_⟩
    dsimp only [tNil]
    refine key _ fun p us F' H' q fr hp dx hq => ?_
    have e := dx.ints
    subst e
    exact ⟨_, some p, F', _, endTrue, rep_law hS fr hp hN, hw ns q hq, fun _ _ _ _ _ _ z => z.elim, fun v σ' F2 H2 s' x R ee dv z => by
      have z' : x = .bool true := z
      subst z'
      cases dv
      exact kk H2, fun _ _ _ _ _ _ z => z.elim, fun _ _ _ _ _ _ z => z.elim, fun _ _ _ _ _ _ _ _ _ _ _ _ z => z.elim⟩
end
end DL
/-! DL, eighth part: short words for the derivations. -/
namespace DL
open PySem PySem.Spec PyProof.Rows L2

section
variable {K : PySem.W.Frag}
@[simp] def wSub : W2 := wI2 fun i j => .int (i - j)
@[simp] def wMul : W2 := wII CMul fun i j => .int (i * j)
@[simp] def wMulW : W2 := wII CMulW fun i j => .int (i * j)
@[simp] def wDiv : W2 := wII CDiv fun i j => .int (i / j)
@[simp] def wMod : W2 := wII (fun _ j => 0 < j) fun i j => .int (i % j)
@[simp] def wPow : W2 := wII CPow fun i j => .int (i ^ j.toNat)
@[simp] def wShl : W2 := wII CPow fun i j => .int (i * 2 ^ j.toNat)
@[simp] def wShr : W2 := wII (fun _ j => 0 ≤ j) fun i j => .int (i / 2 ^ j.toNat)
@[simp] def wBand : W2 := wI2 fun i j => .int (Builtin.bitAnd i j)
@[simp] def wBor : W2 := wI2 fun i j => .int (Builtin.bitOr i j)
@[simp] def wBxor : W2 := wI2 fun i j => .int (Builtin.bitXor i j)
@[simp] def wLt : W2 := wI2 fun i j => .bool (decide (i < j))
@[simp] def wLe : W2 := wI2 fun i j => .bool (decide (i ≤ j))
@[simp] def wGt : W2 := wI2 fun i j => .bool (decide (j < i))
@[simp] def wGe : W2 := wI2 fun i j => .bool (decide (j ≤ i))
theorem o_sub : Op2 K (rI0 fun i j => .int (i - j)) wSub := op2_I0 fun _ _ _ => .int _
theorem o_mul : Op2 K (rI CMul fun i j => .int (i * j)) wMul := op2_I fun _ _ _ => .int _
theorem o_mulW : Op2 K (rI CMulW fun i j => .int (i * j)) wMulW := op2_I fun _ _ _ => .int _
theorem o_div : Op2 K (rI CDiv fun i j => .int (i / j)) wDiv := op2_I fun _ _ _ => .int _
theorem o_mod : Op2 K (rI (fun _ j => 0 < j) fun i j => .int (i % j)) wMod := op2_I fun _ _ _ => .int _
theorem o_pow : Op2 K (rI CPow fun i j => .int (i ^ j.toNat)) wPow := op2_I fun _ _ _ => .int _
theorem o_shl : Op2 K (rI CPow fun i j => .int (i * 2 ^ j.toNat)) wShl := op2_I fun _ _ _ => .int _
theorem o_shr : Op2 K (rI (fun _ j => 0 ≤ j) fun i j => .int (i / 2 ^ j.toNat)) wShr := op2_I fun _ _ _ => .int _
theorem o_band : Op2 K (rI0 fun i j => .int (Builtin.bitAnd i j)) wBand := op2_I0 fun _ _ _ => .int _
theorem o_bor : Op2 K (rI0 fun i j => .int (Builtin.bitOr i j)) wBor := op2_I0 fun _ _ _ => .int _
theorem o_bxor : Op2 K (rI0 fun i j => .int (Builtin.bitXor i j)) wBxor := op2_I0 fun _ _ _ => .int _
theorem o_lt : Op2 K (rI0 fun i j => .bl (decide (i < j))) wLt := op2_I0 fun _ _ _ => .bl _
theorem o_le : Op2 K (rI0 fun i j => .bl (decide (i ≤ j))) wLe := op2_I0 fun _ _ _ => .bl _
theorem o_gt : Op2 K (rI0 fun i j => .bl (decide (j < i))) wGt := op2_I0 fun _ _ _ => .bl _
theorem o_ge : Op2 K (rI0 fun i j => .bl (decide (j ≤ i))) wGe := op2_I0 fun _ _ _ => .bl _
@[simp] def wNeg : W1 := fun x Φ => match x with
  | .int i => Φ (.int (-i))
  | _ => False
theorem o_neg : Op1 K (rU fun i => .int (-i)) wNeg := ⟨fun {F H x dx} Q Φ s d w k => by
  cases dx with
  | int i =>
    cases d
    exact ⟨i, rfl, k _ F H _ (Fresh.refl s) (.int _) w⟩
  | _ => exact w.elim⟩
end
section
variable {X : Cx} {a b c e : Expr} {pos : Pos}
/-- a def that stands, with its promise -/
structure Ca (P : Program) (w : World) (K : PySem.W.Frag) (mg : Str → Option Value) (base : Heap) (k : Nat) (x : Str) (ps : List Str) (sp : Sp) : Prop where
  ex : ∃ f fd, FnG P w K mg base CX0 k f fd ps sp ∧ mg x = some (.ref f) ∧ PySem.W.keepIn K (.ref f) = true ∧ Binds K fd ps []
theorem c_call {k kX : Nat} {x : Str} {ps : List Str} {p : Pos} {es : List Expr} {sp : DSp} {wa : DA} (C : Ca X.prog X.w X.K X.mg X.base k x ps (spD X.K sp)) (hgd : X.A.guards = some []) (hr : Room kX X.A) (hk : k ≤ kX) (hg : Gl X x) (ha : XA X (e :: es) wa)
    (hdb : (x == ("__debug__" : Str)) = false := by decide) (he : starEach (e :: es) X.env = (false, eval e X.env) :: starEach es X.env := by rfl) (hpl : (backTo pos (starEach es X.env)).any (·.1) = false := by rfl) : XE X (.Call (.Name x p) (e :: es) [] pos) (wCall sp wa) := by
  obtain ⟨f, fd, F, gm, kp, b⟩ := C.ex
  exact xe_call F hgd (hr.mono hk) hg gm kp b ha hdb he hpl
theorem c_callP {k kX i : Nat} {x y : Str} {ps : List Str} {p yp : Pos} {es : List Expr} {sp : DSpP} {wa : DA} (C : Ca X.prog X.w X.K X.mg X.base k x ps (spP X.K sp)) (hgd : X.A.guards = some []) (hr : Room kX X.A) (hk : k ≤ kX) (hg : Gl X x) (hv : PE X (.Name y yp) (tVar i)) (ha : XA X es wa)
    (hdb : (x == ("__debug__" : Str)) = false := by decide) (he : starEach (.Name y yp :: es) X.env = (false, eval (.Name y yp) X.env) :: starEach es X.env := by rfl) (hpl : (backTo pos (starEach es X.env)).any (·.1) = false := by rfl) :
    XE X (.Call (.Name x p) (.Name y yp :: es) [] pos) (wCallP i sp wa) := by
  obtain ⟨f, fd, F, gm, kp, b⟩ := C.ex
  exact xe_callP F hgd (hr.mono hk) hg gm kp b hv ha hdb he hpl
theorem c_callL {k kX : Nat} {x : Str} {ps : List Str} {p : Pos} {es : List Expr} {sp : DSpL} {wa : DA} (C : Ca X.prog X.w X.K X.mg X.base k x ps (spL X.K sp)) (hgd : X.A.guards = some []) (hr : Room kX X.A) (hk : k ≤ kX) (hg : Gl X x) (ha : XA X (e :: es) wa)
    (hdb : (x == ("__debug__" : Str)) = false := by decide) (he : starEach (e :: es) X.env = (false, eval e X.env) :: starEach es X.env := by rfl) (hpl : (backTo pos (starEach es X.env)).any (·.1) = false := by rfl) : XL X (.Call (.Name x p) (e :: es) [] pos) (wCallL sp wa) := by
  obtain ⟨f, fd, F, gm, kp, b⟩ := C.ex
  exact xl_call F hgd (hr.mono hk) hg gm kp b ha hdb he hpl
theorem c_callS {k kX i : Nat} {x y : Str} {ps : List Str} {p yp : Pos} {sp : DSpS} (C : Ca X.prog X.w X.K X.mg X.base k x ps (spS X.K sp)) (hgd : X.A.guards = some []) (hr : Room kX X.A) (hk : k ≤ kX) (hg : Gl X x) (hv : PE X (.Name y yp) (tVar i))
    (hdb : (x == ("__debug__" : Str)) = false := by decide) (he : starEach [.Name y yp] X.env = (false, eval (.Name y yp) X.env) :: starEach [] X.env := by rfl) (hpl : (backTo pos (starEach [] X.env)).any (·.1) = false := by rfl) : XL X (.Call (.Name x p) [.Name y yp] [] pos) (wCallS i sp) := by
  obtain ⟨f, fd, F, gm, kp, b⟩ := C.ex
  exact xl_callS F hgd (hr.mono hk) hg gm kp b hv hdb he hpl
/-- list(x), a new list -/
@[simp] def wListN (wa : DE) : DA := fun s Φ => wa s fun x s1 => match x with
  | .list xs => Φ xs s1
  | .tuple xs => Φ xs s1
  | _ => False
theorem xl_list {p : Pos} {wa : DE} (hg : Gl X "list") (hm : X.mg "list" = none) (ha : XE X e wa) (he : starEach [e] X.env = (false, eval e X.env) :: starEach [] X.env := by rfl) (hpl : (backTo pos (starEach [] X.env)).any (·.1) = false := by rfl) :
    XL X (.Call (.Name "list" p) [e] [] pos) (wListN wa) := pe_imp (pe_callTy call_list_of hg hm (by decide +kernel) (pa_cons ha pa_nil he) (by decide) (by decide) he hpl) fun σ H Q h => by
  obtain ⟨G, P, F, s, Φ, R, h, k⟩ := h
  refine ⟨G, P, F, s, _, R, h, fun v F1 H1 s1 x R1 e1 d1 q => ?_⟩
  cases x with
  | list xs =>
    cases d1 with
    | @lst a0 vs0 _ h1 h2 =>
      refine ⟨a0, vs0, rfl, .inl (SqL.of (R1.same _ _ h1)), fun l hl => ?_⟩
      obtain ⟨R2, n⟩ := nu_new (o := .lst vs0) R1 hl
      exact k l vs0 F1 _ s1 xs R2 e1 n upd_same h2 q
  | tuple xs =>
    cases d1 with
    | @tup a0 vs0 _ h1 h2 =>
      refine ⟨a0, vs0, rfl, .inr (same_sqt R1.same h1), fun l hl => ?_⟩
      obtain ⟨R2, n⟩ := nu_new (o := .lst vs0) R1 hl
      exact k l vs0 F1 _ s1 xs R2 e1 n upd_same h2 q
  | _ => exact q.elim
/-- chains: a < b < c -/
@[simp] def wChain (w w' : W2) (wa wb wc : DE) : DE := fun s Φ => wa s fun x s1 => wb s1 fun y s2 => w x y fun z => match z with
  | .bool b => if b = true then wc s2 fun u s3 => w' y u fun z2 => Φ z2 s3 else Φ (.bool false) s2
  | _ => False
end
end DL
/-! DL, ninth part: built-in names, constants, chains, repeated lists. -/
namespace DL
open PySem PySem.Spec PyProof.Rows L2

structure Bi (mg : Str → Option Value) : Prop where
  len : mg "len" = none
  int : mg "int" = none
  str : mg "str" = none
  bool : mg "bool" = none
  list : mg "list" = none
  tuple : mg "tuple" = none
  max : mg "max" = none
  min : mg "min" = none
  sum : mg "sum" = none
  any : mg "any" = none
  all : mg "all" = none
  repr : mg "repr" = none
  range : mg "range" = none
  enumerate : mg "enumerate" = none
  zip : mg "zip" = none
  isinstance : mg "isinstance" = none
theorem bb_len : bootBuiltins "len" = some (.builtin "len") := by decide +kernel
theorem bb_max : bootBuiltins "max" = some (.builtin "max") := by decide +kernel
theorem bb_min : bootBuiltins "min" = some (.builtin "min") := by decide +kernel
theorem bb_sum : bootBuiltins "sum" = some (.builtin "sum") := by decide +kernel
theorem bb_any : bootBuiltins "any" = some (.builtin "any") := by decide +kernel
theorem bb_all : bootBuiltins "all" = some (.builtin "all") := by decide +kernel
theorem bb_repr : bootBuiltins "repr" = some (.builtin "repr") := by decide +kernel
theorem bb_int : bootBuiltins "int" = some (.type "int") := by decide +kernel
theorem bb_str : bootBuiltins "str" = some (.type "str") := by decide +kernel
theorem bb_bool : bootBuiltins "bool" = some (.type "bool") := by decide +kernel
theorem bb_list : bootBuiltins "list" = some (.type "list") := by decide +kernel
theorem bb_tuple : bootBuiltins "tuple" = some (.type "tuple") := by decide +kernel
theorem bb_range : bootBuiltins "range" = some (.type "range") := by decide +kernel
/-- a constant of the module's top -/
structure Gc (K : PySem.W.Frag) (mg : Str → Option Value) (x : Str) (d : PyData) where
  v : V
  u : Value
  mg : mg x = some u
  rel : RelV v u
  dq : ∀ F, Dq K F v d
@[simp] def wScIxA (i : Nat) (wb : DE) : DE := fun s Φ => scAt s i fun _ => wScIx i wb s Φ
section
variable {K : PySem.W.Frag}
theorem op2L_rep : Op2L K rRep wRepL := ⟨fun {F H x y dx dy} Q Φ s d1 d2 w k => by
  cases dx with
  | list a =>
    cases dy with
    | int n =>
      cases d2
      cases d1 with
      | @lst a0 vs _ h1 h2 =>
        have rep : ∀ m : Nat, DqA K F (List.replicate m vs).flatten (List.replicate m a).flatten := fun m => by
          induction m with
          | zero => exact .nil
          | succ m ih =>
            rw [List.replicate_succ, List.replicate_succ, List.flatten_cons, List.flatten_cons]
            exact h2.append ih
        exact ⟨a0, n, vs, rfl, rfl, s _ _ h1, w.1.1, w.1.2.1, by rw [h2.length]; exact w.1.2.2, fun p hp => k p _ _ hp (rep n.toNat) w.2⟩
    | _ => exact w.elim
  | _ => exact w.elim⟩
end
section
variable {X : Cx} {a b c : Expr} {pos : Pos}
theorem xe_chain {op op' : CmpOp} {r r' : R2} {w w' : W2} {wa wb wc : DE} (ho : OpR X (compareOp op) r) (O : Op2 X.K r w) (ho' : OpR X (compareOp op') r') (O' : Op2 X.K r' w') (ha : XE X a wa) (hb : XE X b wb) (hc : XE X c wc)
    (hm : lastMarks [op, op'] [b, c] = false := by with_unfolding_all rfl) : XE X (.Compare a [op, op'] [b, c] pos) (wChain w w' wa wb wc) := pe_imp (pe_chain ho ho' ha hb hc hm) fun σ H Q h => by
  obtain ⟨G, P, F, s, Φ, R, h, k⟩ := h
  refine ⟨G, P, F, s, _, R, h, fun x F1 H1 s1 dx R1 e1 d1 q1 => ⟨G, P, F1, s1, _, R1, q1, fun y F2 H2 s2 dy R2 e2 d2 q2 => ?_⟩⟩
  refine O.run _ _ R2.same (d1.mono e2) d2 q2 fun z F3 H3 dz f dzz q3 => ?_
  have R3 := R2.fresh f
  cases dz with
  | bool t =>
    cases dzz
    refine ⟨t, rfl, ?_⟩
    cases t with
    | true =>
      dsimp only at q3
      rw [if_pos rfl] at q3 ⊢
      refine ⟨G, P, F3, s2, _, R3, q3, fun u F4 H4 s4 du R4 e4 d4 q4 => ?_⟩
      exact O'.run _ _ R4.same (d2.mono (f.ff.trans e4)) d4 q4 fun z2 F5 H5 d5 f5 dq5 q5 => k z2 F5 H5 s4 d5 (R4.fresh f5) ((((e1.trans e2).trans f.ff).trans e4).trans f5.ff) dq5 q5
    | false =>
      dsimp only at q3
      rw [if_neg Bool.false_ne_true] at q3 ⊢
      exact k _ F3 H3 s2 _ R3 ((e1.trans e2).trans f.ff) (.bl false) q3
  | _ => exact q3.elim
end
end DL
/-! promises of what all laws draw with -/
namespace DL
open PySem PySem.Spec L2
def sp_pool : DSpS := fun ns Φ => ns.length ≤ 63 ∧ ∀ q : List Int, 300 ≤ q.length → q.length ≤ 90000 → (∀ n ∈ q, 0 ≤ n ∧ n < 60) → Φ (q.map .int)
def sp_pick : DSpP := fun ds q Φ => ∃ m, ds = [.int m] ∧ 0 < m ∧ PoolOk q ∧ ∀ n q', PoolOk q' → 0 ≤ n → n < m → n < 60 → Φ (.int n) q'
/-- letters: up to m signs from a to z -/
structure Letters (m : Int) (z : Str) : Prop where
  lo : 1 ≤ z.length
  hi : (z.length : Int) ≤ m
  az : ∀ c ∈ z.cps.toList, 97 ≤ c ∧ c ≤ 122
def sp_letters : DSpP := fun ds q Φ => ∃ m, ds = [.int m] ∧ 1 ≤ m ∧ m ≤ 6 ∧ PoolOk q ∧ ∀ z q', PoolOk q' → Letters m z → Φ (.str z) q'
end DL
/-! DL, tenth part: lemmas for the reading. -/
namespace DL
open PySem PySem.Spec PyProof.Rows L2
theorem ixN_lt {n : Nat} {k : Int} (h0 : 0 ≤ k) (h1 : k < n) : ixN n k = some k.toNat := by
  unfold ixN
  rw [if_pos h0, if_pos h1]
theorem atI_lt {α : Type} {xs : List α} {k : Int} (h0 : 0 ≤ k) (h1 : k < xs.length) : atI xs k = some (xs[k.toNat]'(by omega)) := by
  unfold atI
  rw [ixN_lt h0 h1]
  exact List.getElem?_eq_getElem (by omega)
theorem atI_zero {α : Type} {x : α} {xs : List α} : atI (x :: xs) 0 = some x := by
  rw [atI_lt (by omega) (by simp)]
  rfl
@[simp] theorem atI_cons0 {α : Type} (x : α) (xs : List α) : atI (x :: xs) 0 = some x := atI_zero
theorem ixN_zero {n : Nat} : ixN (n + 1) 0 = some 0 := by
  rw [ixN_lt (by omega) (by omega)]
  rfl
theorem sz_le {n : Nat} (h : n ≤ 16777216) : n ≤ sizeLine := by rw [sizeLine_eq]; exact h
theorem sz_lt {n : Nat} (h : n < 16777216) : n < sizeLine := by rw [sizeLine_eq]; exact h
theorem PoolOk.head {q : List Int} (h : PoolOk q) : ∃ a t, q = a :: t ∧ 0 ≤ a ∧ 300 ≤ t.length ∧ t.length < 100000 ∧ ∀ n ∈ t, 0 ≤ n ∧ n < 60 := by
  cases q with
  | nil => have := h.lo; simp at this
  | cons a t =>
    have h1 := h.lo
    have h2 := h.hi
    rw [List.length_cons] at h1 h2
    exact ⟨a, t, rfl, h.h0 a List.mem_cons_self, by omega, by omega, fun n hn => ⟨h.h0 n (List.mem_cons_of_mem _ hn), h.nn n hn⟩⟩
theorem PoolOk.mk' {a : Int} {t : List Int} (h0 : 0 ≤ a) (h1 : 300 ≤ t.length) (h2 : t.length < 100000) (h3 : ∀ n ∈ t, 0 ≤ n ∧ n < 60) : PoolOk (a :: t) where
  lo := by rw [List.length_cons]; omega
  hi := by rw [List.length_cons]; omega
  h0 := fun n hn => by
    rcases List.mem_cons.mp hn with rfl | hn
    · exact h0
    · exact (h3 n hn).1
  nn := fun n hn => (h3 n hn).2
/-- a loop over any list, an invariant by the items gone through: each turn for every end -/
theorem loop_inv {wg : DG} {wb : DS} {Φ : EN} (xs : List PyData) (Inv : List PyData → S → Prop) {s : S} (h0 : Inv [] s)
    (hs : ∀ pre x post s, xs = pre ++ x :: post → Inv pre s → ∀ Ψ : EN, (∀ s, Inv (pre ++ [x]) s → Ψ.nx s) → (∀ s, Inv (pre ++ [x]) s → Ψ.ct s) → Ψ.rt = Φ.rt → Ψ.bk = Φ.nx → Ψ.rl = Φ.rl → wg x s fun s1 => wb Ψ s1)
    (hd : ∀ s, Inv xs s → Φ.nx s) : loopW wg wb Φ xs s := by
  have key : ∀ (post pre : List PyData) (s : S), xs = pre ++ post → Inv pre s → loopW wg wb Φ post s := by
    intro post
    induction post with
    | nil =>
      intro pre s e q
      rw [List.append_nil] at e
      subst e
      exact hd s q
    | cons x post ih =>
      intro pre s e q
      have e2 : xs = (pre ++ [x]) ++ post := by rw [e, List.append_assoc]; rfl
      exact hs pre x post s e q _ (fun s2 z => ih _ s2 e2 z) (fun s2 z => ih _ s2 e2 z) rfl rfl rfl
  exact key xs [] s rfl h0
/-- .. over a range: the turn's number -/
theorem loop_rng {wg : DG} {wb : DS} {Φ : EN} {lo : Int} {n : Nat} (Inv : Nat → S → Prop) {s : S} (h0 : Inv 0 s)
    (hs : ∀ i s, i < n → Inv i s → ∀ Ψ : EN, (∀ s, Inv (i + 1) s → Ψ.nx s) → (∀ s, Inv (i + 1) s → Ψ.ct s) → Ψ.rt = Φ.rt → Ψ.bk = Φ.nx → Ψ.rl = Φ.rl → wg (.int (lo + (i : Int))) s fun s1 => wb Ψ s1)
    (hd : ∀ s, Inv n s → Φ.nx s) : loopW wg wb Φ (rangeD lo n) s := by
  refine loop_inv (rangeD lo n) (fun pre s => Inv pre.length s) h0 (fun pre x post s e q Ψ h1 h2 h3 h4 h5 => ?_) (fun s q => hd s (by rw [rangeD_len] at q; exact q))
  have hx : (rangeD lo n)[pre.length]? = some x := by rw [e]; simp
  obtain ⟨hi, rfl⟩ := rangeD_get hx
  exact hs pre.length s hi q Ψ (fun s z => h1 s (by simpa using z)) (fun s z => h2 s (by simpa using z)) h3 h4 h5
/-- a comprehension, an invariant by the items gone through, what is made and the pool -/
theorem lc_inv {vs : List Nat} {e0 : List Sl} {wg : DG} {wt : DT} {we : DE} {Φ : List PyData → List Int → Prop} (xs : List PyData) (Inv : List PyData → List PyData → List Int → Prop) {q : List Int} (h0 : Inv [] [] q)
    (hs : ∀ pre x post acc q, xs = pre ++ x :: post → Inv pre acc q → ∀ Ψ : List PyData → List Int → Prop, (∀ acc q, Inv (pre ++ [x]) acc q → Ψ acc q) → wg x ⟨wipeE e0 vs, q⟩ fun s1 => wipeE s1.e vs = wipeE e0 vs ∧ wt s1 fun b s2 => s2.e = s1.e ∧
      (if b = true then we s2 fun y s3 => s3.e = s1.e ∧ acc.length < sizeLine ∧ Ψ (acc ++ [y]) s3.q else Ψ acc s2.q))
    (hd : ∀ acc q, Inv xs acc q → Φ acc q) : lcW vs e0 wg wt we Φ xs [] q := by
  have key : ∀ (post pre acc : List PyData) (q : List Int), xs = pre ++ post → Inv pre acc q → lcW vs e0 wg wt we Φ post acc q := by
    intro post
    induction post with
    | nil =>
      intro pre acc q e z
      rw [List.append_nil] at e
      subst e
      exact hd acc q z
    | cons x post ih =>
      intro pre acc q e z
      have e2 : xs = (pre ++ [x]) ++ post := by rw [e, List.append_assoc]; rfl
      exact hs pre x post acc q e z (fun acc q => lcW vs e0 wg wt we Φ post acc q) (fun acc q z2 => ih _ acc q e2 z2)
  exact key xs [] [] q rfl h0
/-- a comprehension that only maps -/
theorem lc_map {vs : List Nat} {e0 : List Sl} {wg : DG} {we : DE} {Φ : List PyData → List Int → Prop} (xs : List PyData) (f : PyData → PyData) {q : List Int} (hl : xs.length ≤ 16777216)
    (hs : ∀ x, x ∈ xs → ∀ Θ : S → PyData → S → Prop, (∀ s1 s3, s3.e = s1.e → s3.q = q → Θ s1 (f x) s3) → wg x ⟨wipeE e0 vs, q⟩ fun s1 => wipeE s1.e vs = wipeE e0 vs ∧ we s1 (Θ s1))
    (hd : Φ (xs.map f) q) : lcW vs e0 wg wYes we Φ xs [] q := by
  refine lc_inv xs (fun pre acc q' => acc = pre.map f ∧ q' = q) ⟨rfl, rfl⟩ (fun pre x post acc q' e h Ψ k => ?_) (fun acc q' h => by rw [h.1, h.2]; exact hd)
  obtain ⟨rfl, rfl⟩ := h
  have hx : x ∈ xs := by rw [e]; simp
  have hlen : (pre.map f).length < sizeLine := sz_lt (by
    rw [e] at hl
    simp at hl ⊢
    omega)
  have r := hs x hx (fun s1 y s3 => s3.e = s1.e ∧ (pre.map f).length < sizeLine ∧ Ψ (pre.map f ++ [y]) s3.q) (fun s1 s3 h1 h2 => ⟨h1, hlen, k _ _ ⟨by simp, h2⟩⟩)
  simp only [wYes, true_and, if_true]
  exact r
end DL
/-! rules, what words they have, and the promises of law k17's defs -/
namespace DL
open PySem PySem.Spec L2
inductive All2 {α β : Type} (R : α → β → Prop) : List α → List β → Prop
  | nil : All2 R [] []
  | cons {a : α} {b : β} {as : List α} {bs : List β} : R a b → All2 R as bs → All2 R (a :: as) (b :: bs)
abbrev Rel := Nat → Nat → Prop
def Tidy (n : Nat) (P : Rel) : Prop := ∀ b e, P b e → b ≤ e ∧ e ≤ n
def rno : Rel := fun _ _ => False
def rid (n : Nat) : Rel := fun b e => b = e ∧ e ≤ n
def rup (n : Nat) : Rel := fun b e => b ≤ e ∧ e ≤ n
def rcomp (P Q : Rel) : Rel := fun b e => ∃ m, P b m ∧ Q m e
def ror (P Q : Rel) : Rel := fun b e => P b e ∨ Q b e
def rand (P Q : Rel) : Rel := fun b e => P b e ∧ Q b e
def rnot (n : Nat) (P : Rel) : Rel := fun b e => (b ≤ e ∧ e ≤ n) ∧ ¬ P b e
def rrow (n : Nat) : List Rel → Rel
  | [] => rid n
  | P :: Ps => rcomp P (rrow n Ps)
def rany : List Rel → Rel
  | [] => rno
  | P :: Ps => ror P (rany Ps)
def rall (n : Nat) : List Rel → Rel
  | [] => rup n
  | P :: Ps => rand P (rall n Ps)
/-- P so often, then Q -/
def rpow (P Q : Rel) : Nat → Rel
  | 0 => Q
  | k + 1 => rcomp P (rpow P Q k)
inductive Rstar (n : Nat) (P : Rel) : Nat → Nat → Prop
  | refl {b : Nat} : b ≤ n → Rstar n P b b
  | step {b m e : Nat} : P b m → b < m → Rstar n P m e → Rstar n P b e
def rtimes (n : Nat) (P : Rel) (lo : Nat) : Option Nat → Rel
  | none => rpow P (Rstar n P) lo
  | some hi => rpow P (rpow (ror P (rid n)) (rid n) (hi - lo)) lo
abbrev Den := Str → Rel
def Az (z : Str) : Prop := ∀ c ∈ z.cps.toList, 97 ≤ c ∧ c ≤ 122
def dOne (z : Str) : Den := fun w b e => e = b + 1 ∧ ∃ c, w.cps.toList[b]? = some c ∧ c ∈ z.cps.toList
def hiD : Option Nat → PyData
  | none => .none
  | some h => .int (h : Nat)
inductive Leaf : PyData → Den → Prop
  | no : Leaf (.tuple [.str "none"]) fun _ => rno
  | em : Leaf (.tuple [.str "empty"]) fun w => rid w.length
  | one {z : Str} : 1 ≤ z.length → z.length ≤ 6 → Az z → Leaf (.tuple [.str "one", .str z]) (dOne z)
inductive Node (R : PyData → Den → Prop) : PyData → Den → Prop
  | leaf {x : PyData} {D : Den} : Leaf x D → Node R x D
  | row {xs : List PyData} {Ds : List Den} : 1 ≤ xs.length → xs.length ≤ 6 → All2 R xs Ds → Node R (.tuple [.str "row", .list xs]) fun w => rrow w.length (Ds.map (· w))
  | ei {xs : List PyData} {Ds : List Den} : 1 ≤ xs.length → xs.length ≤ 6 → All2 R xs Ds → Node R (.tuple [.str "either", .list xs]) fun w => rany (Ds.map (· w))
  | bo {xs : List PyData} {Ds : List Den} : 1 ≤ xs.length → xs.length ≤ 6 → All2 R xs Ds → Node R (.tuple [.str "both", .list xs]) fun w => rall w.length (Ds.map (· w))
  | no {x : PyData} {D : Den} : R x D → Node R (.tuple [.str "not", x]) fun w => rnot w.length (D w)
  | ti {x : PyData} {D : Den} {lo : Nat} {hi : Option Nat} : R x D → lo ≤ 8 → (∀ h, hi = some h → lo ≤ h ∧ h ≤ 8) → Node R (.tuple [.str "times", x, .int (lo : Nat), hiD hi]) fun w => rtimes w.length (D w) lo hi
def Rul : Nat → PyData → Den → Prop
  | 0 => Leaf
  | d + 1 => Node (Rul d)
/-- whole numbers from a rule of their places -/
def mkI (n : Nat) (f : Nat → Nat) : List PyData := (List.range n).map fun b => .int (f b : Nat)
def MaskL (n : Nat) (P : Rel) (xs : List PyData) : Prop := ∃ f : Nat → Nat, xs = mkI (n + 1) f ∧ ∀ b, b ≤ n → ∀ e, (f b).testBit e = true ↔ P b e
def MaskD (n : Nat) (P : Rel) (x : PyData) : Prop := ∃ xs, x = .list xs ∧ MaskL n P xs
def mkT (n : Nat) (g : Nat → Nat → Nat) : List PyData := (List.range n).map fun b => .list (mkI n (g b))
structure TabOk (γ n : Nat) (P : Rel) (g : Nat → Nat → Nat) : Prop where
  iff : ∀ b e, b ≤ n → e ≤ n → (g b e ≠ 0 ↔ P b e)
  le : ∃ α β, α + β + 1 ≤ γ ∧ ∀ b e, b ≤ e → e ≤ n → g b e ≤ 2 ^ (α + β * (e - b))
def TabL (γ n : Nat) (P : Rel) (xs : List PyData) : Prop := ∃ g, xs = mkT (n + 1) g ∧ TabOk γ n P g
def TabD (γ n : Nat) (P : Rel) (x : PyData) : Prop := ∃ xs, x = .list xs ∧ TabL γ n P xs
def TreeD (γ n : Nat) (P : Rel) (x : PyData) : Prop := ∃ r t i s, x = .tuple [r, t, i, s] ∧ TabD γ n P t
def gam : Nat → Nat
  | 0 => 1
  | d + 1 => 9 * gam d + 9
def lenD : Nat → Nat
  | 0 => 4
  | d + 1 => 11 * lenD d
-- the program
def sp_rules_in : DSp := fun ds Φ => (∃ s xs, ds = [.tuple [.str s, .list xs]] ∧ (s = "row" ∨ s = "either" ∨ s = "both") ∧ xs.length ≤ 1000 ∧ Φ (.list xs)) ∨ ∃ s x ys, ds = [.tuple (.str s :: x :: ys)] ∧ (s = "not" ∨ s = "times") ∧ Φ (.list [x])
def sp_only_empty : DSp := fun ds Φ => ∃ n : Nat, ds = [.int (n + 1 : Nat)] ∧ n ≤ 31 ∧ ∀ x, MaskD n (rid n) x → Φ x
def sp_in_some : DSp := fun ds Φ => ∃ n xs Ps, ds = [.list xs] ∧ n ≤ 31 ∧ xs ≠ [] ∧ xs.length ≤ 1000 ∧ All2 (MaskD n) (α := Rel) Ps xs ∧ ∀ x, MaskD n (rany Ps) x → Φ x
def sp_in_all : DSp := fun ds Φ => ∃ n xs Ps, ds = [.list xs] ∧ n ≤ 31 ∧ xs ≠ [] ∧ xs.length ≤ 1000 ∧ All2 (MaskD n) (α := Rel) Ps xs ∧ (∀ P, P ∈ Ps → Tidy n P) ∧ ∀ x, MaskD n (rall n Ps) x → Φ x
def sp_in_turn : DSpL := fun ds Φ => ∃ n x y P Q, ds = [x, y] ∧ n ≤ 31 ∧ Tidy n P ∧ Tidy n Q ∧ MaskD n P x ∧ MaskD n Q y ∧ ∀ xs, MaskL n (rcomp P Q) xs → Φ xs
def sp_all_in_turn : DSp := fun ds Φ => ∃ n xs Ps, ds = [.list xs] ∧ n ≤ 31 ∧ xs ≠ [] ∧ xs.length ≤ 1000 ∧ All2 (MaskD n) (α := Rel) Ps xs ∧ (∀ P, P ∈ Ps → Tidy n P) ∧ ∀ x, MaskD n (rrow n Ps) x → Φ x
def sp_any_turns : DSpL := fun ds Φ => ∃ n x P, ds = [x] ∧ n ≤ 31 ∧ Tidy n P ∧ MaskD n P x ∧ ∀ xs, MaskL n (Rstar n P) xs → Φ xs
def sp_in_times : DSp := fun ds Φ => ∃ (n : Nat) (x : PyData) (P : Rel) (lo : Nat) (hi : Option Nat), ds = [x, .int (lo : Nat), hiD hi] ∧ n ≤ 31 ∧ Tidy n P ∧ MaskD n P x ∧ lo ≤ 8 ∧ (∀ h, hi = some h → lo ≤ h ∧ h ≤ 8) ∧ ∀ x, MaskD n (rtimes n P lo hi) x → Φ x
def sp_pieces_of (d : Nat) : DSp := fun ds Φ => ∃ x D w, ds = [x, .str w] ∧ Rul d x D ∧ w.length ≤ 31 ∧ ∀ y, MaskD w.length (D w) y → Φ y
def sp_is_piece : DSp := fun ds Φ => ∃ (n : Nat) (x : PyData) (P : Rel) (b e : Nat), ds = [x, .int (b : Nat), .int (e : Nat)] ∧ n ≤ 31 ∧ MaskD n P x ∧ b ≤ n ∧ e ≤ 31 ∧ ∀ k, (k = true ↔ P b e) → Φ (.bool k)
def sp_is_of (d : Nat) : DSp := fun ds Φ => ∃ l x D w, ds = [l, x, .str w] ∧ Rul d x D ∧ w.length ≤ 31 ∧ ∀ k, (k = true ↔ D w 0 w.length) → Φ (.bool k)
-- the law
def sp_signs : DSpP := fun ds q Φ => ∃ z, ds = [.str z] ∧ 1 ≤ z.length ∧ z.length ≤ 6 ∧ Az z ∧ PoolOk q ∧ ∀ y q', PoolOk q' → 1 ≤ y.length → y.length ≤ 6 → Az y → Φ (.str y) q'
def sp_words : DSp := fun ds Φ => ∃ (z : Str) (k : Nat), ds = [.str z, .int (k : Nat)] ∧ z.length ≤ 6 ∧ k ≤ 4 ∧ (2 ≤ z.length → k ≤ 2) ∧ ∀ xs, xs.length ≤ 200 → (∀ x ∈ xs, ∃ w : Str, x = .str w ∧ w.length ≤ 4) → Φ (.list xs)
def sp_is_so : DSp := fun ds Φ => ∃ a b, ds = [.bool a, .bool b] ∧ Φ (.bool (a == b))
def sp_leaf : DSpP := fun ds q Φ => ∃ z, ds = [.str z] ∧ 1 ≤ z.length ∧ z.length ≤ 6 ∧ Az z ∧ PoolOk q ∧ ∀ x D q', PoolOk q' → Leaf x D → Φ x q'
def sp_rule (d : Nat) : DSpP := fun ds q Φ => ∃ (z : Str) (r : Nat), ds = [.str z, .int (r : Nat), .int (d : Nat), .bool true] ∧ 1 ≤ r ∧ r ≤ 100 ∧ 1 ≤ z.length ∧ z.length ≤ 6 ∧ Az z ∧ PoolOk q ∧ ∀ x D q', PoolOk q' → Rul d x D → Φ x q'
def sp_any_rule : DSpP := fun ds q Φ => ∃ (z : Str), ds = [.str z, .bool true] ∧ 1 ≤ z.length ∧ z.length ≤ 6 ∧ Az z ∧ PoolOk q ∧ ∀ d x D q', PoolOk q' → d ≤ 4 → Rul d x D → Φ x q'
def sp_joined : DSpL := fun ds Φ => ∃ γ δ n x y P Q, ds = [x, y] ∧ n ≤ 31 ∧ γ + δ ≤ 15000 ∧ Tidy n P ∧ Tidy n Q ∧ TabD γ n P x ∧ TabD δ n Q y ∧ ∀ xs, TabL (γ + δ) n (rcomp P Q) xs → Φ xs
def sp_any : DSpL := fun ds Φ => ∃ γ n x P, ds = [x] ∧ n ≤ 31 ∧ γ ≤ 15000 ∧ Tidy n P ∧ TabD γ n P x ∧ ∀ xs, TabL (γ + 1) n (Rstar n P) xs → Φ xs
def sp_rests : DSp := fun ds Φ => (∃ γ n xs ts Ps t, ds = [.tuple [.str "row", .list ts], .list xs, t] ∧ n ≤ 31 ∧ TabD 1 n (rid n) t ∧ xs.length ≤ 6 ∧ All2 (TreeD γ n) (α := Rel) Ps xs ∧ (∀ P, P ∈ Ps → Tidy n P) ∧ 9 * γ + 9 ≤ 15000 ∧ ∀ y ys, TabD (9 * γ + 9) n (rrow n Ps) y → Φ (.list (y :: ys))) ∨
  ∃ (γ n : Nat) (x u t : PyData) (P : Rel) (lo : Nat) (hi : Option Nat), ds = [.tuple [.str "times", x, .int (lo : Nat), hiD hi], .list [u], t] ∧ n ≤ 31 ∧ TabD 1 n (rid n) t ∧ TreeD γ n P u ∧ Tidy n P ∧ 9 * γ + 9 ≤ 15000 ∧ lo ≤ 8 ∧ (∀ h, hi = some h → lo ≤ h ∧ h ≤ 8) ∧ ∀ y ys, TabD (9 * γ + 9) n (rtimes n P lo hi) y → Φ (.list (y :: ys))
def sp_tree (d : Nat) : DSp := fun ds Φ => ∃ x D w, ds = [x, .str w] ∧ Rul d x D ∧ d ≤ 4 ∧ w.length ≤ 31 ∧ ∀ y, TreeD (gam d) w.length (D w) y → Φ y
def sp_count (d : Nat) : DSp := fun ds Φ => ∃ x D w, ds = [x, .str w] ∧ Rul d x D ∧ d ≤ 4 ∧ w.length ≤ 31 ∧ ∀ m : Nat, (m ≠ 0 ↔ D w 0 w.length) → Φ (.int (m : Nat))
def sp_down (d : Nat) : DSpP := fun ds q Φ => ∃ (z : Str) (x : PyData) (D : Den), ds = [.str z, x] ∧ Rul d x D ∧ d ≤ 4 ∧ 1 ≤ z.length ∧ z.length ≤ 6 ∧ PoolOk q ∧ ∀ (w : Str) q', PoolOk q' → w.length ≤ lenD d → Φ (.str w) q'
def sp_near : DSpP := fun ds q Φ => ∃ (z w : Str), ds = [.str z, .str w] ∧ 1 ≤ z.length ∧ z.length ≤ 6 ∧ w.length ≤ 30 ∧ PoolOk q ∧ ∀ (y : Str) q', PoolOk q' → y.length ≤ 31 → Φ (.str y) q'
def lenRel (m : Option Nat) : Den := fun w b e => (b ≤ e ∧ e ≤ w.length) ∧ ∀ k, m = some k → e - b ≤ k
def Over (z w : Str) : Prop := ∀ c ∈ w.cps.toList, c ∈ z.cps.toList
def sp_nested : DSpP := fun ds q Φ => ∃ (z : Str), ds = [.str z] ∧ 1 ≤ z.length ∧ z.length ≤ 6 ∧ Az z ∧ PoolOk q ∧ ∀ m x D q', PoolOk q' → Rul 5 x D → (∀ w, Over z w → ∀ b e, D w b e ↔ lenRel m w b e) → Φ (.tuple [hiD m, x]) q'
def sp_deep : DSpP := fun ds q Φ => ∃ (z : Str), ds = [.str z] ∧ 1 ≤ z.length ∧ z.length ≤ 6 ∧ Az z ∧ PoolOk q ∧ ∀ q', PoolOk q' → Φ (.bool true) q'
end DL
namespace DL
open PySem PySem.Spec L2
def sp_piecesU : DSp := fun ds Φ => ∃ d, d ≤ 6 ∧ sp_pieces_of d ds Φ
def sp_isU : DSp := fun ds Φ => ∃ d, d ≤ 6 ∧ sp_is_of d ds Φ
def sp_ruleU : DSpP := fun ds q Φ => ∃ d, d ≤ 4 ∧ sp_rule d ds q Φ
def sp_treeU : DSp := fun ds Φ => ∃ d, d ≤ 4 ∧ sp_tree d ds Φ
def sp_countU : DSp := fun ds Φ => ∃ d, d ≤ 4 ∧ sp_count d ds Φ
def sp_downU : DSpP := fun ds q Φ => ∃ d, d ≤ 4 ∧ sp_down d ds q Φ
end DL
namespace L17
open PySem PySem.Spec PyProof.Rows L2 DL
def topS (i : Nat) : Stmt := PySem.Challenge.pw_hallofwords_k17_whole_words_of_a_rule.main.body.getD i (.Pass ⟨0, 0, 0, 0⟩)
abbrev d_LISTED : PyData := .tuple [.str "row", .str "either", .str "both"]
section
variable {P : Program} {w : World} {K : PySem.W.Frag} {mg : Str → Option Value} {base : Heap} {k : Nat}
abbrev s__law_pool : Stmt := topS 16
theorem sc__law_pool : FnScope ["script", "pool", "state", "k", "cell", "step", "one", "two"] ["script"] (defScope s__law_pool) := ⟨rfl, rfl, rfl, by decide +kernel, rfl, by decide +kernel, by decide +kernel⟩
def W__law_pool : DS := (wSeq (wSetO 1 (wLst wNil))
    (wSeq (wSet 2 (wC (.int 17)))
    (wSeq (wFor (wRng1 (wCons (wCB (wN2 gMin) (wCons (wScLen 0) (wCons (wC (.int 63)) wNil))) wNil)) (gNm 3) (wSeq (wSet 4 (wScIxA 0 (wVar 3)))
    (wSeq (wSet 2 (wBin wMod (wCB (wN1 gInt) (wCons (wBin wAdd (wBin wAdd (wBin wMul (wVar 2) (wC (.int 69621))) (wBin wMul (wVar 4) (wC (.int 48271)))) (wVar 3)) wNil)) (wC (.int 2147483647))))
    (wIfS (wTst (wBin wGe (wVar 4) (wBin wPow (wC (.int 10)) (wC (.int 18))))) (wFor (wRng1 (wCons (wC (.int 60)) wNil)) (gNm 5) (wSeq (wIfS (wTst (wBin (wEq false) (wVar 4) (wC (.int 0)))) wBk wNext)
    (wSeq (wApp 1 (wBin wMod (wCB (wN1 gInt) (wCons (wVar 4) wNil)) (wC (.int 60))))
    (wSet 4 (wBin wDiv (wVar 4) (wC (.int 60))))))) (wSeq (wSet 6 (wBin wMod (wCB (wN1 gInt) (wCons (wBin wAdd (wBin wAdd (wBin wMul (wVar 4) (wC (.int 48271))) (wBin wMul (wVar 3) (wC (.int 69621)))) (wC (.int 7))) wNil)) (wC (.int 2147483647))))
    (wSeq (wSet 7 (wBin wMod (wCB (wN1 gInt) (wCons (wBin wAdd (wBin wAdd (wBin wMul (wVar 6) (wC (.int 16807))) (wBin wMul (wVar 4) (wC (.int 31)))) (wVar 3)) wNil)) (wC (.int 1000003))))
    (wSetO 1 (wBinL wCat (wVar 1) (wFz (wLst (wCons (wBin wMod (wCB (wN1 gInt) (wCons (wBin wDiv (wVar 6) (wC (.int 11))) wNil)) (wC (.int 60))) (wCons (wBin wMod (wCB (wN1 gInt) (wCons (wVar 7) wNil)) (wC (.int 60))) wNil))))))))))))
    (wSeq (wFor (wRng1 (wCons (wC (.int 300)) wNil)) (gNm 5) (wSeq (wSet 2 (wBin wMod (wCB (wN1 gInt) (wCons (wBin wAdd (wBin wMul (wVar 2) (wC (.int 48271))) (wC (.int 11))) wNil)) (wC (.int 2147483647))))
    (wApp 1 (wBin wMod (wCB (wN1 gInt) (wCons (wBin wDiv (wVar 2) (wC (.int 97))) wNil)) (wC (.int 60))))))
    (wRetO 1)))))
theorem dv__law_pool (B : Bi mg) {f : Addr} (cdv : Value) (A : Around) (outer : List Env) (s : Shared) (H : Hp) (E : XK) (hgd : (A.deeper (envOfC "_law_pool" (defScope s__law_pool) s.heap.objs.size f cdv)).guards = some []) (hr : Room 0 (A.deeper (envOfC "_law_pool" (defScope s__law_pool) s.heap.objs.size f cdv))) :
    XSs (cxOf CX0 P w K mg base ["script", "pool", "state", "k", "cell", "step", "one", "two"] "_law_pool" (defScope s__law_pool) f cdv A outer s H E).nox (defBody s__law_pool) (W__law_pool) := by
  have nd := sc__law_pool.nd
  exact (xs_cons (xs_setO (i := 1) nd rfl (Or.inl rfl) (xl_lst xa_nil))
    (xs_cons (xs_set (i := 2) nd rfl (Or.inl rfl) xe_int)
    (xs_cons (xs_for PassesOwn.never rfl (xi_range1 rfl B.range (xa_cons (xe_callB (call_min2 rfl) opn_min2 rfl B.min bb_min (xa_cons (xe_scLen (i := 0) rfl B.len (pv 0)) (xa_cons xe_int xa_nil))) xa_nil)) (xg_name (i := 3) nd rfl (Or.inl rfl)) (xs_cons (xs_set (i := 4) nd rfl (Or.inl rfl) (xe_scIx (i := 0) (pv 0) (xe_var 3)))
    (xs_cons (xs_set (i := 2) nd rfl (Or.inl rfl) (xe_op op_mod o_mod (xe_callTy call_int1 opn_int rfl B.int bb_int (xa_cons (xe_op opr_plus op2_plus (xe_op opr_plus op2_plus (xe_op op_mul o_mul (xe_var 2) xe_int) (xe_op op_mul o_mul (xe_var 4) xe_int)) (xe_var 3)) xa_nil)) xe_int))
    (xs_one (xs_if (xt_cmp op_ge o_ge (xe_var 4) (xe_op op_pow o_pow xe_int xe_int)) (xs_one (xs_for PassesOwn.never rfl (xi_range1 rfl B.range (xa_cons xe_int xa_nil)) (xg_name (i := 5) nd rfl (Or.inl rfl)) (xs_cons (xs_if (xt_cmp (opr_eq hr.units) op2_eq (xe_var 4) xe_int) (xs_one xs_break) xs_nil)
    (xs_cons (xs_append (i := 1) (pv 1) (xe_op op_mod o_mod (xe_callTy call_int1 opn_int rfl B.int bb_int (xa_cons (xe_var 4) xa_nil)) xe_int))
    (xs_one (xs_set (i := 4) nd rfl (Or.inl rfl) (xe_op op_fdiv o_div (xe_var 4) xe_int))))))) (xs_cons (xs_set (i := 6) nd rfl (Or.inl rfl) (xe_op op_mod o_mod (xe_callTy call_int1 opn_int rfl B.int bb_int (xa_cons (xe_op opr_plus op2_plus (xe_op opr_plus op2_plus (xe_op op_mul o_mul (xe_var 4) xe_int) (xe_op op_mul o_mul (xe_var 3) xe_int)) xe_int) xa_nil)) xe_int))
    (xs_cons (xs_set (i := 7) nd rfl (Or.inl rfl) (xe_op op_mod o_mod (xe_callTy call_int1 opn_int rfl B.int bb_int (xa_cons (xe_op opr_plus op2_plus (xe_op opr_plus op2_plus (xe_op op_mul o_mul (xe_var 6) xe_int) (xe_op op_mul o_mul (xe_var 4) xe_int)) (xe_var 3)) xa_nil)) xe_int))
    (xs_one (xs_setO (i := 1) nd rfl (Or.inl rfl) (xl_op op_cat op2L_cat (xe_var 1) (xl_fz (xl_lst (xa_cons (xe_op op_mod o_mod (xe_callTy call_int1 opn_int rfl B.int bb_int (xa_cons (xe_op op_fdiv o_div (xe_var 6) xe_int) xa_nil)) xe_int) (xa_cons (xe_op op_mod o_mod (xe_callTy call_int1 opn_int rfl B.int bb_int (xa_cons (xe_var 7) xa_nil)) xe_int) xa_nil))))))))))))))
    (xs_cons (xs_for PassesOwn.never rfl (xi_range1 rfl B.range (xa_cons xe_int xa_nil)) (xg_name (i := 5) nd rfl (Or.inl rfl)) (xs_cons (xs_set (i := 2) nd rfl (Or.inl rfl) (xe_op op_mod o_mod (xe_callTy call_int1 opn_int rfl B.int bb_int (xa_cons (xe_op opr_plus op2_plus (xe_op op_mul o_mul (xe_var 2) xe_int) xe_int) xa_nil)) xe_int))
    (xs_one (xs_append (i := 1) (pv 1) (xe_op op_mod o_mod (xe_callTy call_int1 opn_int rfl B.int bb_int (xa_cons (xe_op op_fdiv o_div (xe_var 2) xe_int) xa_nil)) xe_int)))))
    (xs_one (xs_retO (i := 1) (pv 1)))))))
abbrev s__law_stream : Stmt := topS 17
theorem sc__law_stream : FnScope ["script"] ["script"] (defScope s__law_stream) := ⟨rfl, rfl, rfl, by decide +kernel, rfl, by decide +kernel, by decide +kernel⟩
def W__law_stream : DS := (wRetL (wBinL wCat (wFz (wLst (wCons (wC (.int 0)) wNil))) (wFz (wCallS 0 sp_pool))))
theorem dv__law_stream (c__law_pool : Ca P w K mg base 1 "_law_pool" ["script"] (spS K sp_pool)) {f : Addr} (cdv : Value) (A : Around) (outer : List Env) (s : Shared) (H : Hp) (E : XK) (hgd : (A.deeper (envOfC "_law_stream" (defScope s__law_stream) s.heap.objs.size f cdv)).guards = some []) (hr : Room 1 (A.deeper (envOfC "_law_stream" (defScope s__law_stream) s.heap.objs.size f cdv))) :
    XSs (cxOf CX0 P w K mg base ["script"] "_law_stream" (defScope s__law_stream) f cdv A outer s H E).nox (defBody s__law_stream) (W__law_stream) := by
  have nd := sc__law_stream.nd
  exact (xs_one (xs_retL (xl_op op_cat op2L_cat (xl_fz (xl_lst (xa_cons xe_int xa_nil))) (xl_fz (c_callS (i := 0) c__law_pool hgd hr (by omega) rfl (pv 0))))))
abbrev s__law_pick : Stmt := topS 18
theorem sc__law_pick : FnScope ["pool", "many"] ["pool", "many"] (defScope s__law_pick) := ⟨rfl, rfl, rfl, by decide +kernel, rfl, by decide +kernel, by decide +kernel⟩
def W__law_pick : DS := (wSeq (wPlSet 0 (wC (.int 0)) (wBin wAdd (wC (.int 1)) (wBin wMod (wCB (wN1 gInt) (wCons (wPlIx 0 (wC (.int 0))) wNil)) (wBin wSub (wPlLen 0) (wC (.int 1))))))
    (wRet (wBin wMod (wCB (wN1 gInt) (wCons (wPlIx 0 (wPlIx 0 (wC (.int 0)))) wNil)) (wVar 1))))
theorem dv__law_pick (B : Bi mg) {f : Addr} (cdv : Value) (A : Around) (outer : List Env) (s : Shared) (H : Hp) (E : XK) (hgd : (A.deeper (envOfC "_law_pick" (defScope s__law_pick) s.heap.objs.size f cdv)).guards = some []) (hr : Room 0 (A.deeper (envOfC "_law_pick" (defScope s__law_pick) s.heap.objs.size f cdv))) :
    XSs (cxOf CX0 P w K mg base ["pool", "many"] "_law_pick" (defScope s__law_pick) f cdv A outer s H E).nox (defBody s__law_pick) (W__law_pick) := by
  have nd := sc__law_pick.nd
  exact (xs_cons (xs_plSet (i := 0) (pv 0) xe_int (xe_op opr_plus op2_plus xe_int (xe_op op_mod o_mod (xe_callTy call_int1 opn_int rfl B.int bb_int (xa_cons (xe_plIx (i := 0) (pv 0) xe_int) xa_nil)) (xe_op op_sub o_sub (xe_plLen (i := 0) rfl B.len (pv 0)) xe_int))))
    (xs_one (xs_ret (xe_op op_mod o_mod (xe_callTy call_int1 opn_int rfl B.int bb_int (xa_cons (xe_plIx (i := 0) (pv 0) (xe_plIx (i := 0) (pv 0) xe_int)) xa_nil)) (xe_var 1)))))
abbrev s__law_letters : Stmt := topS 19
theorem sc__law_letters : FnScope ["pool", "most", "many", "signs", "at", "step", "k"] ["pool", "most"] (defScope s__law_letters) := ⟨rfl, rfl, rfl, by decide +kernel, rfl, by decide +kernel, by decide +kernel⟩
def W__law_letters : DS := (wSeq (wSet 2 (wBin wAdd (wC (.int 1)) (wCallP 0 sp_pick (wCons (wVar 1) wNil))))
    (wSeq (wSet 3 (wC (.str ("abcdefghijklmnopqrstuvwxyz" : Str))))
    (wSeq (wAsgT (wTup (wCons (wCallP 0 sp_pick (wCons (wC (.int 26)) wNil)) (wCons (wBin wIx (wFz (wLst (wCons (wC (.int 1)) (wCons (wC (.int 3)) (wCons (wC (.int 5)) (wCons (wC (.int 7)) (wCons (wC (.int 9)) (wCons (wC (.int 11)) wNil)))))))) (wCallP 0 sp_pick (wCons (wC (.int 6)) wNil))) wNil))) (gTp 2 (gCs (gNm 4) (gCs (gNm 5) gNl))))
    (wRet (wJoin (wC (.str ("" : Str))) (wFz (wLc [6] (wRng1 (wCons (wVar 2) wNil)) (gNm 6) wYes (wBin wIx (wVar 3) (wBin wMod (wCB (wN1 gInt) (wCons (wBin wAdd (wVar 4) (wBin wMul (wVar 5) (wVar 6))) wNil)) (wC (.int 26)))))))))))
theorem dv__law_letters (B : Bi mg) (c__law_pick : Ca P w K mg base 1 "_law_pick" ["pool", "many"] (spP K sp_pick)) {f : Addr} (cdv : Value) (A : Around) (outer : List Env) (s : Shared) (H : Hp) (E : XK) (hgd : (A.deeper (envOfC "_law_letters" (defScope s__law_letters) s.heap.objs.size f cdv)).guards = some []) (hr : Room 1 (A.deeper (envOfC "_law_letters" (defScope s__law_letters) s.heap.objs.size f cdv))) :
    XSs (cxOf CX0 P w K mg base ["pool", "most", "many", "signs", "at", "step", "k"] "_law_letters" (defScope s__law_letters) f cdv A outer s H E).nox (defBody s__law_letters) (W__law_letters) := by
  have nd := sc__law_letters.nd
  exact (xs_cons (xs_set (i := 2) nd rfl (Or.inl rfl) (xe_op opr_plus op2_plus xe_int (c_callP (i := 0) c__law_pick hgd hr (by omega) rfl (pv 0) (xa_cons (xe_var 1) xa_nil))))
    (xs_cons (xs_set (i := 3) nd rfl (Or.inr rfl) xe_str)
    (xs_cons (xs_asgT (xe_tup (xa_cons (c_callP (i := 0) c__law_pick hgd hr (by omega) rfl (pv 0) (xa_cons xe_int xa_nil)) (xa_cons (xe_ixR ix_seq op2_ix (xl_fz (xl_lst (xa_cons xe_int (xa_cons xe_int (xa_cons xe_int (xa_cons xe_int (xa_cons xe_int (xa_cons xe_int xa_nil)))))))) (c_callP (i := 0) c__law_pick hgd hr (by omega) rfl (pv 0) (xa_cons xe_int xa_nil))) xa_nil))) (xg_tup rfl (xgs_cons (xg_name (i := 4) nd rfl (by first | exact Or.inl rfl | exact Or.inr rfl)) (xgs_cons (xg_name (i := 5) nd rfl (by first | exact Or.inl rfl | exact Or.inr rfl)) xgs_nil))))
    (xs_one (xs_ret (xe_join xe_str (xl_fz (xl_lc (own := [(("k" : Str), 6)]) rfl nd (xi_range1 rfl B.range (xa_cons (xe_var 2) xa_nil)) (blkOk_by (N := ["pool", "most", "many", "signs", "at", "step", "k"]) (sc := (defScope s__law_letters)) (by decide +kernel)) (by decide) (fun _ _ _ _ _ => (xg_name (i := 6) nd rfl (Or.inl rfl))) (fun _ _ _ _ _ => xts_nil) (fun _ _ _ _ _ => (xe_ixR ix_seq op2_ix (xe_var 3) (xe_op op_mod o_mod (xe_callTy call_int1 opn_int rfl B.int bb_int (xa_cons (xe_op opr_plus op2_plus (xe_var 4) (xe_op op_mul o_mul (xe_var 5) (xe_var 6))) xa_nil)) xe_int)))))))))))
abbrev s_rules_in : Stmt := topS 2
theorem sc_rules_in : FnScope ["rule"] ["rule"] (defScope s_rules_in) := ⟨rfl, rfl, rfl, by decide +kernel, rfl, by decide +kernel, by decide +kernel⟩
def W_rules_in : DS := (wSeq (wIfS (wTst (wBin (wIn false) (wBin wIx (wVar 0) (wC (.int 0))) (wC d_LISTED))) (wRet (wCB (wN1 gList) (wCons (wBin wIx (wVar 0) (wC (.int 1))) wNil))) wNext)
    (wSeq (wIfS (wTst (wBin (wIn false) (wBin wIx (wVar 0) (wC (.int 0))) (wTup (wCons (wC (.str ("not" : Str))) (wCons (wC (.str ("times" : Str))) wNil))))) (wRet (wFz (wLst (wCons (wBin wIx (wVar 0) (wC (.int 1))) wNil)))) wNext)
    (wRet (wFz (wLst wNil)))))
theorem dv_rules_in (B : Bi mg) (g_LISTED : Gc K mg "LISTED" d_LISTED) {f : Addr} (cdv : Value) (A : Around) (outer : List Env) (s : Shared) (H : Hp) (E : XK) (hgd : (A.deeper (envOfC "rules_in" (defScope s_rules_in) s.heap.objs.size f cdv)).guards = some []) (hr : Room 0 (A.deeper (envOfC "rules_in" (defScope s_rules_in) s.heap.objs.size f cdv))) :
    XSs (cxOf CX0 P w K mg base ["rule"] "rules_in" (defScope s_rules_in) f cdv A outer s H E).nox (defBody s_rules_in) (W_rules_in) := by
  have nd := sc_rules_in.nd
  exact (xs_cons (xs_if (xt_cmp opr_in op2_in (xe_ixR ix_seq op2_ix (xe_var 0) xe_int) (xe_glob rfl g_LISTED.mg g_LISTED.rel g_LISTED.dq)) (xs_one (xs_ret (xe_callTy (cr_listA hr) opn_list rfl B.list bb_list (xa_cons (xe_ixR ix_seq op2_ix (xe_var 0) xe_int) xa_nil)))) xs_nil)
    (xs_cons (xs_if (xt_cmp opr_in op2_in (xe_ixR ix_seq op2_ix (xe_var 0) xe_int) (xe_tup (xa_cons xe_str (xa_cons xe_str xa_nil)))) (xs_one (xs_ret (xl_fz (xl_lst (xa_cons (xe_ixR ix_seq op2_ix (xe_var 0) xe_int) xa_nil))))) xs_nil)
    (xs_one (xs_ret (xl_fz (xl_lst xa_nil))))))
abbrev s_is_piece : Stmt := topS 5
theorem sc_is_piece : FnScope ["pieces", "begin", "end"] ["pieces", "begin", "end"] (defScope s_is_piece) := ⟨rfl, rfl, rfl, by decide +kernel, rfl, by decide +kernel, by decide +kernel⟩
def W_is_piece : DS := (wRet (wBin (wEq false) (wBin wBand (wBin wShr (wBin wIx (wVar 0) (wVar 1)) (wVar 2)) (wC (.int 1))) (wC (.int 1))))
theorem dv_is_piece {f : Addr} (cdv : Value) (A : Around) (outer : List Env) (s : Shared) (H : Hp) (E : XK) (hgd : (A.deeper (envOfC "is_piece" (defScope s_is_piece) s.heap.objs.size f cdv)).guards = some []) (hr : Room 0 (A.deeper (envOfC "is_piece" (defScope s_is_piece) s.heap.objs.size f cdv))) :
    XSs (cxOf CX0 P w K mg base ["pieces", "begin", "end"] "is_piece" (defScope s_is_piece) f cdv A outer s H E).nox (defBody s_is_piece) (W_is_piece) := by
  have nd := sc_is_piece.nd
  exact (xs_one (xs_ret (xe_cmp (opr_eq hr.units) op2_eq (xe_op op_and o_band (xe_op op_shr o_shr (xe_ixR ix_seq op2_ix (xe_var 0) (xe_var 1)) (xe_var 2)) xe_int) xe_int)))
abbrev s_only_empty : Stmt := topS 6
theorem sc_only_empty : FnScope ["many", "at"] ["many"] (defScope s_only_empty) := ⟨rfl, rfl, rfl, by decide +kernel, rfl, by decide +kernel, by decide +kernel⟩
def W_only_empty : DS := (wRet (wFz (wLc [1] (wRng1 (wCons (wVar 0) wNil)) (gNm 1) wYes (wBin wShl (wC (.int 1)) (wVar 1)))))
theorem dv_only_empty (B : Bi mg) {f : Addr} (cdv : Value) (A : Around) (outer : List Env) (s : Shared) (H : Hp) (E : XK) (hgd : (A.deeper (envOfC "only_empty" (defScope s_only_empty) s.heap.objs.size f cdv)).guards = some []) (hr : Room 0 (A.deeper (envOfC "only_empty" (defScope s_only_empty) s.heap.objs.size f cdv))) :
    XSs (cxOf CX0 P w K mg base ["many", "at"] "only_empty" (defScope s_only_empty) f cdv A outer s H E).nox (defBody s_only_empty) (W_only_empty) := by
  have nd := sc_only_empty.nd
  exact (xs_one (xs_ret (xl_fz (xl_lc (own := [(("at" : Str), 1)]) rfl nd (xi_range1 rfl B.range (xa_cons (xe_var 0) xa_nil)) (blkOk_by (N := ["many", "at"]) (sc := (defScope s_only_empty)) (by decide +kernel)) (by decide) (fun _ _ _ _ _ => (xg_name (i := 1) nd rfl (Or.inl rfl))) (fun _ _ _ _ _ => xts_nil) (fun _ _ _ _ _ => (xe_op op_shl o_shl xe_int (xe_var 1)))))))
abbrev s_in_some : Stmt := topS 7
theorem sc_in_some : FnScope ["several", "found", "pieces", "one", "other"] ["several"] (defScope s_in_some) := ⟨rfl, rfl, rfl, by decide +kernel, rfl, by decide +kernel, by decide +kernel⟩
def W_in_some : DS := (wSeq (wSet 1 (wCB (wN1 gList) (wCons (wBin wIx (wVar 0) (wC (.int 0))) wNil)))
    (wSeq (wFor (wIt (wSl (wVar 0) (wPart (wC (.int 1))) wNoP)) (gNm 2) (wSet 1 (wFz (wLc [3, 4] (wZip (wCons (wVar 1) (wCons (wVar 2) wNil))) (gTp 2 (gCs (gNm 3) (gCs (gNm 4) gNl))) wYes (wBin wBor (wVar 3) (wVar 4))))))
    (wRet (wVar 1))))
theorem dv_in_some (B : Bi mg) {f : Addr} (cdv : Value) (A : Around) (outer : List Env) (s : Shared) (H : Hp) (E : XK) (hgd : (A.deeper (envOfC "in_some" (defScope s_in_some) s.heap.objs.size f cdv)).guards = some []) (hr : Room 0 (A.deeper (envOfC "in_some" (defScope s_in_some) s.heap.objs.size f cdv))) :
    XSs (cxOf CX0 P w K mg base ["several", "found", "pieces", "one", "other"] "in_some" (defScope s_in_some) f cdv A outer s H E).nox (defBody s_in_some) (W_in_some) := by
  have nd := sc_in_some.nd
  exact (xs_cons (xs_set (i := 1) nd rfl (Or.inl rfl) (xe_callTy (cr_listA hr) opn_list rfl B.list bb_list (xa_cons (xe_ixR ix_seq op2_ix (xe_var 0) xe_int) xa_nil)))
    (xs_cons (xs_for PassesOwn.never rfl (xi_any (xe_slice (xe_var 0) (xo_some xe_int) xo_none)) (xg_name (i := 2) nd rfl (Or.inl rfl)) (xs_one (xs_setLc (i := 1) (own := [(("one" : Str), 3), (("other" : Str), 4)]) rfl nd rfl rfl (sw_true rfl rfl rfl (by decide +kernel)) (xi_zip rfl B.zip (xa_cons (xe_var 1) (xa_cons (xe_var 2) xa_nil))) (blkOk_by (N := ["several", "found", "pieces", "one", "other"]) (sc := (defScope s_in_some)) (by decide +kernel)) (by decide) (fun _ _ _ _ _ => (xg_tup rfl (xgs_cons (xg_name (i := 3) nd rfl (Or.inl rfl)) (xgs_cons (xg_name (i := 4) nd rfl (Or.inl rfl)) xgs_nil)))) (fun _ _ _ _ _ => xts_nil) (fun _ _ _ _ _ => (xe_op op_or o_bor (xe_var 3) (xe_var 4))))))
    (xs_one (xs_ret (xe_var 1)))))
abbrev s_in_all : Stmt := topS 8
theorem sc_in_all : FnScope ["several", "found", "pieces", "one", "other"] ["several"] (defScope s_in_all) := ⟨rfl, rfl, rfl, by decide +kernel, rfl, by decide +kernel, by decide +kernel⟩
def W_in_all : DS := (wSeq (wSet 1 (wCB (wN1 gList) (wCons (wBin wIx (wVar 0) (wC (.int 0))) wNil)))
    (wSeq (wFor (wIt (wSl (wVar 0) (wPart (wC (.int 1))) wNoP)) (gNm 2) (wSet 1 (wFz (wLc [3, 4] (wZip (wCons (wVar 1) (wCons (wVar 2) wNil))) (gTp 2 (gCs (gNm 3) (gCs (gNm 4) gNl))) wYes (wBin wBand (wVar 3) (wVar 4))))))
    (wRet (wVar 1))))
theorem dv_in_all (B : Bi mg) {f : Addr} (cdv : Value) (A : Around) (outer : List Env) (s : Shared) (H : Hp) (E : XK) (hgd : (A.deeper (envOfC "in_all" (defScope s_in_all) s.heap.objs.size f cdv)).guards = some []) (hr : Room 0 (A.deeper (envOfC "in_all" (defScope s_in_all) s.heap.objs.size f cdv))) :
    XSs (cxOf CX0 P w K mg base ["several", "found", "pieces", "one", "other"] "in_all" (defScope s_in_all) f cdv A outer s H E).nox (defBody s_in_all) (W_in_all) := by
  have nd := sc_in_all.nd
  exact (xs_cons (xs_set (i := 1) nd rfl (Or.inl rfl) (xe_callTy (cr_listA hr) opn_list rfl B.list bb_list (xa_cons (xe_ixR ix_seq op2_ix (xe_var 0) xe_int) xa_nil)))
    (xs_cons (xs_for PassesOwn.never rfl (xi_any (xe_slice (xe_var 0) (xo_some xe_int) xo_none)) (xg_name (i := 2) nd rfl (Or.inl rfl)) (xs_one (xs_setLc (i := 1) (own := [(("one" : Str), 3), (("other" : Str), 4)]) rfl nd rfl rfl (sw_true rfl rfl rfl (by decide +kernel)) (xi_zip rfl B.zip (xa_cons (xe_var 1) (xa_cons (xe_var 2) xa_nil))) (blkOk_by (N := ["several", "found", "pieces", "one", "other"]) (sc := (defScope s_in_all)) (by decide +kernel)) (by decide) (fun _ _ _ _ _ => (xg_tup rfl (xgs_cons (xg_name (i := 3) nd rfl (Or.inl rfl)) (xgs_cons (xg_name (i := 4) nd rfl (Or.inl rfl)) xgs_nil)))) (fun _ _ _ _ _ => xts_nil) (fun _ _ _ _ _ => (xe_op op_and o_band (xe_var 3) (xe_var 4))))))
    (xs_one (xs_ret (xe_var 1)))))
abbrev s_in_turn : Stmt := topS 9
theorem sc_in_turn : FnScope ["first", "second", "found", "begin", "middles", "ends", "middle"] ["first", "second"] (defScope s_in_turn) := ⟨rfl, rfl, rfl, by decide +kernel, rfl, by decide +kernel, by decide +kernel⟩
def W_in_turn : DS := (wSeq (wSetO 2 (wLst wNil))
    (wSeq (wFor (wEnum (wCons (wVar 0) wNil)) (gTp 2 (gCs (gNm 3) (gCs (gNm 4) gNl))) (wSeq (wSet 5 (wC (.int 0)))
    (wSeq (wFor (wRng2 (wCons (wVar 3) (wCons (wCB (wN1 gLen) (wCons (wVar 0) wNil)) wNil))) (gNm 6) (wIfS (wTru (wBin wBand (wBin wShr (wVar 4) (wVar 6)) (wC (.int 1)))) (wSet 5 (wBin wBor (wVar 5) (wBin wIx (wVar 1) (wVar 6)))) wNext))
    (wApp 2 (wVar 5)))))
    (wRetO 2)))
theorem dv_in_turn (B : Bi mg) {f : Addr} (cdv : Value) (A : Around) (outer : List Env) (s : Shared) (H : Hp) (E : XK) (hgd : (A.deeper (envOfC "in_turn" (defScope s_in_turn) s.heap.objs.size f cdv)).guards = some []) (hr : Room 0 (A.deeper (envOfC "in_turn" (defScope s_in_turn) s.heap.objs.size f cdv))) :
    XSs (cxOf CX0 P w K mg base ["first", "second", "found", "begin", "middles", "ends", "middle"] "in_turn" (defScope s_in_turn) f cdv A outer s H E).nox (defBody s_in_turn) (W_in_turn) := by
  have nd := sc_in_turn.nd
  exact (xs_cons (xs_setO (i := 2) nd rfl (Or.inl rfl) (xl_lst xa_nil))
    (xs_cons (xs_for PassesOwn.never rfl (xi_enum rfl B.enumerate (xa_cons (xe_var 0) xa_nil)) (xg_tup rfl (xgs_cons (xg_name (i := 3) nd rfl (Or.inl rfl)) (xgs_cons (xg_name (i := 4) nd rfl (Or.inl rfl)) xgs_nil))) (xs_cons (xs_set (i := 5) nd rfl (Or.inl rfl) xe_int)
    (xs_cons (xs_for PassesOwn.never rfl (xi_range2 rfl B.range (xa_cons (xe_var 3) (xa_cons (xe_callB call_lenA opn_len rfl B.len bb_len (xa_cons (xe_var 0) xa_nil)) xa_nil))) (xg_name (i := 6) nd rfl (Or.inl rfl)) (xs_one (xs_if (xt_tru (xe_op op_and o_band (xe_op op_shr o_shr (xe_var 4) (xe_var 6)) xe_int)) (xs_one (xs_set (i := 5) nd rfl (Or.inl rfl) (xe_op op_or o_bor (xe_var 5) (xe_ixR ix_seq op2_ix (xe_var 1) (xe_var 6))))) xs_nil)))
    (xs_one (xs_append (i := 2) (pv 2) (xe_var 5))))))
    (xs_one (xs_retO (i := 2) (pv 2)))))
abbrev s_all_in_turn : Stmt := topS 10
theorem sc_all_in_turn : FnScope ["several", "found", "pieces"] ["several"] (defScope s_all_in_turn) := ⟨rfl, rfl, rfl, by decide +kernel, rfl, by decide +kernel, by decide +kernel⟩
def W_all_in_turn : DS := (wSeq (wSet 1 (wBin wIx (wVar 0) (wC (.int 0))))
    (wSeq (wFor (wIt (wSl (wVar 0) (wPart (wC (.int 1))) wNoP)) (gNm 2) (wSet 1 (wFz (wCallL sp_in_turn (wCons (wVar 1) (wCons (wVar 2) wNil))))))
    (wRet (wVar 1))))
theorem dv_all_in_turn (c_in_turn : Ca P w K mg base 1 "in_turn" ["first", "second"] (spL K sp_in_turn)) {f : Addr} (cdv : Value) (A : Around) (outer : List Env) (s : Shared) (H : Hp) (E : XK) (hgd : (A.deeper (envOfC "all_in_turn" (defScope s_all_in_turn) s.heap.objs.size f cdv)).guards = some []) (hr : Room 1 (A.deeper (envOfC "all_in_turn" (defScope s_all_in_turn) s.heap.objs.size f cdv))) :
    XSs (cxOf CX0 P w K mg base ["several", "found", "pieces"] "all_in_turn" (defScope s_all_in_turn) f cdv A outer s H E).nox (defBody s_all_in_turn) (W_all_in_turn) := by
  have nd := sc_all_in_turn.nd
  exact (xs_cons (xs_set (i := 1) nd rfl (Or.inl rfl) (xe_ixR ix_seq op2_ix (xe_var 0) xe_int))
    (xs_cons (xs_for PassesOwn.never rfl (xi_any (xe_slice (xe_var 0) (xo_some xe_int) xo_none)) (xg_name (i := 2) nd rfl (Or.inl rfl)) (xs_one (xs_set (i := 1) nd rfl (Or.inl rfl) (xl_fz (c_callL c_in_turn hgd hr (by omega) rfl (xa_cons (xe_var 1) (xa_cons (xe_var 2) xa_nil)))))))
    (xs_one (xs_ret (xe_var 1)))))
abbrev s_any_turns : Stmt := topS 12
theorem sc_any_turns : FnScope ["pieces", "found", "begin", "middle"] ["pieces"] (defScope s_any_turns) := ⟨rfl, rfl, rfl, by decide +kernel, rfl, by decide +kernel, by decide +kernel⟩
def W_any_turns : DS := (wSeq (wSetO 1 (wBinL wRepL (wFz (wLst (wCons (wC (.int 0)) wNil))) (wCB (wN1 gLen) (wCons (wVar 0) wNil))))
    (wSeq (wFor (wRngDn (wCons (wBin wSub (wCB (wN1 gLen) (wCons (wVar 0) wNil)) (wC (.int 1))) (wCons (wUn wNeg (wC (.int 1))) (wCons (wUn wNeg (wC (.int 1))) wNil)))) (gNm 2) (wSeq (wItem 1 (wVar 2) (wBin wShl (wC (.int 1)) (wVar 2)))
    (wFor (wRng2 (wCons (wBin wAdd (wVar 2) (wC (.int 1))) (wCons (wCB (wN1 gLen) (wCons (wVar 0) wNil)) wNil))) (gNm 3) (wIfS (wTru (wBin wBand (wBin wShr (wBin wIx (wVar 0) (wVar 2)) (wVar 3)) (wC (.int 1)))) (wItem 1 (wVar 2) (wBin wBor (wOwnIx 1 (wVar 2)) (wOwnIx 1 (wVar 3)))) wNext))))
    (wRetO 1)))
theorem dv_any_turns (B : Bi mg) {f : Addr} (cdv : Value) (A : Around) (outer : List Env) (s : Shared) (H : Hp) (E : XK) (hgd : (A.deeper (envOfC "any_turns" (defScope s_any_turns) s.heap.objs.size f cdv)).guards = some []) (hr : Room 0 (A.deeper (envOfC "any_turns" (defScope s_any_turns) s.heap.objs.size f cdv))) :
    XSs (cxOf CX0 P w K mg base ["pieces", "found", "begin", "middle"] "any_turns" (defScope s_any_turns) f cdv A outer s H E).nox (defBody s_any_turns) (W_any_turns) := by
  have nd := sc_any_turns.nd
  exact (xs_cons (xs_setO (i := 1) nd rfl (Or.inl rfl) (xl_op op_rep op2L_rep (xl_fz (xl_lst (xa_cons xe_int xa_nil))) (xe_callB call_lenA opn_len rfl B.len bb_len (xa_cons (xe_var 0) xa_nil))))
    (xs_cons (xs_for PassesOwn.never rfl (xi_rangeDn rfl B.range (xa_cons (xe_op op_sub o_sub (xe_callB call_lenA opn_len rfl B.len bb_len (xa_cons (xe_var 0) xa_nil)) xe_int) (xa_cons (xe_un un_neg o_neg xe_int) (xa_cons (xe_un un_neg o_neg xe_int) xa_nil)))) (xg_name (i := 2) nd rfl (Or.inl rfl)) (xs_cons (xs_item (i := 1) (pv 1) (xe_var 2) (xe_op op_shl o_shl xe_int (xe_var 2)))
    (xs_one (xs_for PassesOwn.never rfl (xi_range2 rfl B.range (xa_cons (xe_op opr_plus op2_plus (xe_var 2) xe_int) (xa_cons (xe_callB call_lenA opn_len rfl B.len bb_len (xa_cons (xe_var 0) xa_nil)) xa_nil))) (xg_name (i := 3) nd rfl (Or.inl rfl)) (xs_one (xs_if (xt_tru (xe_op op_and o_band (xe_op op_shr o_shr (xe_ixR ix_seq op2_ix (xe_var 0) (xe_var 2)) (xe_var 3)) xe_int)) (xs_one (xs_item (i := 1) (pv 1) (xe_var 2) (xe_op op_or o_bor (xe_ownIx (i := 1) (pv 1) (xe_var 2)) (xe_ownIx (i := 1) (pv 1) (xe_var 3))))) xs_nil))))))
    (xs_one (xs_retO (i := 1) (pv 1)))))
abbrev s_in_times : Stmt := topS 11
theorem sc_in_times : FnScope ["pieces", "low", "high", "found", "maybe"] ["pieces", "low", "high"] (defScope s_in_times) := ⟨rfl, rfl, rfl, by decide +kernel, rfl, by decide +kernel, by decide +kernel⟩
def W_in_times : DS := (wSeq (wSet 3 (wCall sp_all_in_turn (wCons (wBin wAdd (wFz (wLst (wCons (wCall sp_only_empty (wCons (wCB (wN1 gLen) (wCons (wVar 0) wNil)) wNil)) wNil))) (wFz (wBinL wRepL (wFz (wLst (wCons (wVar 0) wNil))) (wVar 1)))) wNil)))
    (wSeq (wIfS (wTst (wBin (wIsN false) (wVar 2) (wC .none))) (wRet (wFz (wCallL sp_in_turn (wCons (wVar 3) (wCons (wFz (wCallL sp_any_turns (wCons (wVar 0) wNil))) wNil))))) wNext)
    (wSeq (wSet 4 (wCall sp_in_some (wCons (wFz (wLst (wCons (wVar 0) (wCons (wCall sp_only_empty (wCons (wCB (wN1 gLen) (wCons (wVar 0) wNil)) wNil)) wNil)))) wNil)))
    (wRet (wCall sp_all_in_turn (wCons (wBin wAdd (wFz (wLst (wCons (wVar 3) wNil))) (wFz (wBinL wRepL (wFz (wLst (wCons (wVar 4) wNil))) (wBin wSub (wVar 2) (wVar 1))))) wNil))))))
theorem dv_in_times (B : Bi mg) (c_all_in_turn : Ca P w K mg base 2 "all_in_turn" ["several"] (spD K sp_all_in_turn)) (c_in_some : Ca P w K mg base 1 "in_some" ["several"] (spD K sp_in_some)) (c_only_empty : Ca P w K mg base 1 "only_empty" ["many"] (spD K sp_only_empty)) (c_in_turn : Ca P w K mg base 1 "in_turn" ["first", "second"] (spL K sp_in_turn)) (c_any_turns : Ca P w K mg base 1 "any_turns" ["pieces"] (spL K sp_any_turns)) {f : Addr} (cdv : Value) (A : Around) (outer : List Env) (s : Shared) (H : Hp) (E : XK) (hgd : (A.deeper (envOfC "in_times" (defScope s_in_times) s.heap.objs.size f cdv)).guards = some []) (hr : Room 2 (A.deeper (envOfC "in_times" (defScope s_in_times) s.heap.objs.size f cdv))) :
    XSs (cxOf CX0 P w K mg base ["pieces", "low", "high", "found", "maybe"] "in_times" (defScope s_in_times) f cdv A outer s H E).nox (defBody s_in_times) (W_in_times) := by
  have nd := sc_in_times.nd
  exact (xs_cons (xs_set (i := 3) nd rfl (Or.inl rfl) (c_call c_all_in_turn hgd hr (by omega) rfl (xa_cons (xe_op opr_plus op2_plus (xl_fz (xl_lst (xa_cons (c_call c_only_empty hgd hr (by omega) rfl (xa_cons (xe_callB call_lenA opn_len rfl B.len bb_len (xa_cons (xe_var 0) xa_nil)) xa_nil)) xa_nil))) (xl_fz (xl_op op_rep op2L_rep (xl_fz (xl_lst (xa_cons (xe_var 0) xa_nil))) (xe_var 1)))) xa_nil)))
    (xs_cons (xs_if (xt_cmp op_isN op2_isN (xe_var 2) xe_non) (xs_one (xs_ret (xl_fz (c_callL c_in_turn hgd hr (by omega) rfl (xa_cons (xe_var 3) (xa_cons (xl_fz (c_callL c_any_turns hgd hr (by omega) rfl (xa_cons (xe_var 0) xa_nil))) xa_nil)))))) xs_nil)
    (xs_cons (xs_set (i := 4) nd rfl (Or.inl rfl) (c_call c_in_some hgd hr (by omega) rfl (xa_cons (xl_fz (xl_lst (xa_cons (xe_var 0) (xa_cons (c_call c_only_empty hgd hr (by omega) rfl (xa_cons (xe_callB call_lenA opn_len rfl B.len bb_len (xa_cons (xe_var 0) xa_nil)) xa_nil)) xa_nil)))) xa_nil)))
    (xs_one (xs_ret (c_call c_all_in_turn hgd hr (by omega) rfl (xa_cons (xe_op opr_plus op2_plus (xl_fz (xl_lst (xa_cons (xe_var 3) xa_nil))) (xl_fz (xl_op op_rep op2L_rep (xl_fz (xl_lst (xa_cons (xe_var 4) xa_nil))) (xe_op op_sub o_sub (xe_var 2) (xe_var 1))))) xa_nil)))))))
abbrev s_pieces_of : Stmt := topS 4
theorem sc_pieces_of : FnScope ["rule", "word", "kind", "places", "inner", "whole", "_", "at", "ends", "part"] ["rule", "word"] (defScope s_pieces_of) := ⟨rfl, rfl, rfl, by decide +kernel, rfl, by decide +kernel, by decide +kernel⟩
def W_pieces_of (rc : DSp) : DS := (wSeq (wSet 2 (wBin wIx (wVar 0) (wC (.int 0))))
    (wSeq (wSet 3 (wCB (wN1 gRng) (wCons (wBin wAdd (wCB (wN1 gLen) (wCons (wVar 1) wNil)) (wC (.int 1))) wNil)))
    (wSeq (wIfS (wTst (wBin (wEq false) (wVar 2) (wC (.str ("none" : Str))))) (wRet (wFz (wLc [6] (wIt (wVar 3)) (gNm 6) wYes (wC (.int 0))))) wNext)
    (wSeq (wIfS (wTst (wBin (wEq false) (wVar 2) (wC (.str ("empty" : Str))))) (wRet (wCall sp_only_empty (wCons (wCB (wN1 gLen) (wCons (wVar 3) wNil)) wNil))) wNext)
    (wSeq (wIfS (wTst (wBin (wEq false) (wVar 2) (wC (.str ("one" : Str))))) (wRet (wFz (wLc [7] (wIt (wVar 3)) (gNm 7) wYes (wIfE (wTst (wBin (wIn false) (wSl (wVar 1) (wPart (wVar 7)) (wPart (wBin wAdd (wVar 7) (wC (.int 1))))) (wCB (wN1 gList) (wCons (wBin wIx (wVar 0) (wC (.int 1))) wNil)))) (wBin wShl (wC (.int 2)) (wVar 7)) (wC (.int 0)))))) wNext)
    (wSeq (wSet 4 (wFz (wLc [9] (wIt (wCall sp_rules_in (wCons (wVar 0) wNil))) (gNm 9) wYes (wCall rc (wCons (wVar 9) (wCons (wVar 1) wNil))))))
    (wSeq (wIfS (wTst (wBin (wEq false) (wVar 2) (wC (.str ("row" : Str))))) (wRet (wCall sp_all_in_turn (wCons (wVar 4) wNil))) wNext)
    (wSeq (wIfS (wTst (wBin (wEq false) (wVar 2) (wC (.str ("either" : Str))))) (wRet (wCall sp_in_some (wCons (wVar 4) wNil))) wNext)
    (wSeq (wIfS (wTst (wBin (wEq false) (wVar 2) (wC (.str ("both" : Str))))) (wRet (wCall sp_in_all (wCons (wVar 4) wNil))) wNext)
    (wSeq (wIfS (wTst (wBin (wEq false) (wVar 2) (wC (.str ("not" : Str))))) (wSeq (wSet 5 (wBin wSub (wBin wShl (wC (.int 2)) (wCB (wN1 gLen) (wCons (wVar 1) wNil))) (wC (.int 1))))
    (wRet (wFz (wLc [7, 8] (wEnum (wCons (wBin wIx (wVar 4) (wC (.int 0))) wNil)) (gTp 2 (gCs (gNm 7) (gCs (gNm 8) gNl))) wYes (wBin wBxor (wBin wShl (wBin wShr (wVar 5) (wVar 7)) (wVar 7)) (wVar 8)))))) wNext)
    (wRet (wCall sp_in_times (wCons (wBin wIx (wVar 4) (wC (.int 0))) (wCons (wBin wIx (wVar 0) (wC (.int 2))) (wCons (wBin wIx (wVar 0) (wC (.int 3))) wNil)))))))))))))))
theorem dv_pieces_of {rc : DSp} {l : Nat} (hl : l ≤ k) (hk : 3 ≤ k) (B : Bi mg) (c_in_times : Ca P w K mg base 3 "in_times" ["pieces", "low", "high"] (spD K sp_in_times)) (c_in_all : Ca P w K mg base 1 "in_all" ["several"] (spD K sp_in_all)) (c_in_some : Ca P w K mg base 1 "in_some" ["several"] (spD K sp_in_some)) (c_all_in_turn : Ca P w K mg base 2 "all_in_turn" ["several"] (spD K sp_all_in_turn)) (c_rules_in : Ca P w K mg base 1 "rules_in" ["rule"] (spD K sp_rules_in)) (c_pieces_of : Ca P w K mg base l "pieces_of" ["rule", "word"] (spD K rc)) (c_only_empty : Ca P w K mg base 1 "only_empty" ["many"] (spD K sp_only_empty)) {f : Addr} (cdv : Value) (A : Around) (outer : List Env) (s : Shared) (H : Hp) (E : XK) (hgd : (A.deeper (envOfC "pieces_of" (defScope s_pieces_of) s.heap.objs.size f cdv)).guards = some []) (hr : Room k (A.deeper (envOfC "pieces_of" (defScope s_pieces_of) s.heap.objs.size f cdv))) :
    XSs (cxOf CX0 P w K mg base ["rule", "word", "kind", "places", "inner", "whole", "_", "at", "ends", "part"] "pieces_of" (defScope s_pieces_of) f cdv A outer s H E).nox (defBody s_pieces_of) (W_pieces_of rc) := by
  have nd := sc_pieces_of.nd
  exact (xs_cons (xs_set (i := 2) nd rfl (Or.inl rfl) (xe_ixR ix_seq op2_ix (xe_var 0) xe_int))
    (xs_cons (xs_set (i := 3) nd rfl (Or.inl rfl) (xe_callTy cr_range1 opn_rng rfl B.range bb_range (xa_cons (xe_op opr_plus op2_plus (xe_callB call_lenA opn_len rfl B.len bb_len (xa_cons (xe_var 1) xa_nil)) xe_int) xa_nil)))
    (xs_cons (xs_if (xt_cmp (opr_eq hr.units) op2_eq (xe_var 2) xe_str) (xs_one (xs_ret (xl_fz (xl_lc (own := [(("_" : Str), 6)]) rfl nd (xi_any (xe_var 3)) (blkOk_by (N := ["rule", "word", "kind", "places", "inner", "whole", "_", "at", "ends", "part"]) (sc := (defScope s_pieces_of)) (by decide +kernel)) (by decide) (fun _ _ _ _ _ => (xg_name (i := 6) nd rfl (Or.inl rfl))) (fun _ _ _ _ _ => xts_nil) (fun _ _ _ _ _ => xe_int))))) xs_nil)
    (xs_cons (xs_if (xt_cmp (opr_eq hr.units) op2_eq (xe_var 2) xe_str) (xs_one (xs_ret (c_call c_only_empty hgd hr (by omega) rfl (xa_cons (xe_callB call_lenA opn_len rfl B.len bb_len (xa_cons (xe_var 3) xa_nil)) xa_nil)))) xs_nil)
    (xs_cons (xs_if (xt_cmp (opr_eq hr.units) op2_eq (xe_var 2) xe_str) (xs_one (xs_ret (xl_fz (xl_lc (own := [(("at" : Str), 7)]) rfl nd (xi_any (xe_var 3)) (blkOk_by (N := ["rule", "word", "kind", "places", "inner", "whole", "_", "at", "ends", "part"]) (sc := (defScope s_pieces_of)) (by decide +kernel)) (by decide) (fun _ _ _ _ _ => (xg_name (i := 7) nd rfl (Or.inl rfl))) (fun _ _ _ _ _ => xts_nil) (fun _ _ _ _ _ => (xe_if (xt_cmp opr_in op2_in (xe_slice (xe_var 1) (xo_some (xe_var 7)) (xo_some (xe_op opr_plus op2_plus (xe_var 7) xe_int))) (xe_callTy (cr_listA hr) opn_list rfl B.list bb_list (xa_cons (xe_ixR ix_seq op2_ix (xe_var 0) xe_int) xa_nil))) (xe_op op_shl o_shl xe_int (xe_var 7)) xe_int)))))) xs_nil)
    (xs_cons (xs_setLc (i := 4) (own := [(("part" : Str), 9)]) rfl nd rfl rfl (sw_true rfl rfl rfl (by decide +kernel)) (xi_any (c_call c_rules_in hgd hr (by omega) rfl (xa_cons (xe_var 0) xa_nil))) (blkOk_by (N := ["rule", "word", "kind", "places", "inner", "whole", "_", "at", "ends", "part"]) (sc := (defScope s_pieces_of)) (by decide +kernel)) (by decide) (fun _ _ _ _ _ => (xg_name (i := 9) nd rfl (Or.inl rfl))) (fun _ _ _ _ _ => xts_nil) (fun _ _ _ _ _ => (c_call c_pieces_of hgd hr (by omega) rfl (xa_cons (xe_var 9) (xa_cons (xe_var 1) xa_nil)))))
    (xs_cons (xs_if (xt_cmp (opr_eq hr.units) op2_eq (xe_var 2) xe_str) (xs_one (xs_ret (c_call c_all_in_turn hgd hr (by omega) rfl (xa_cons (xe_var 4) xa_nil)))) xs_nil)
    (xs_cons (xs_if (xt_cmp (opr_eq hr.units) op2_eq (xe_var 2) xe_str) (xs_one (xs_ret (c_call c_in_some hgd hr (by omega) rfl (xa_cons (xe_var 4) xa_nil)))) xs_nil)
    (xs_cons (xs_if (xt_cmp (opr_eq hr.units) op2_eq (xe_var 2) xe_str) (xs_one (xs_ret (c_call c_in_all hgd hr (by omega) rfl (xa_cons (xe_var 4) xa_nil)))) xs_nil)
    (xs_cons (xs_if (xt_cmp (opr_eq hr.units) op2_eq (xe_var 2) xe_str) (xs_cons (xs_set (i := 5) nd rfl (Or.inr rfl) (xe_op op_sub o_sub (xe_op op_shl o_shl xe_int (xe_callB call_lenA opn_len rfl B.len bb_len (xa_cons (xe_var 1) xa_nil))) xe_int))
    (xs_one (xs_ret (xl_fz (xl_lc (own := [(("at" : Str), 7), (("ends" : Str), 8)]) rfl nd (xi_enum rfl B.enumerate (xa_cons (xe_ixR ix_seq op2_ix (xe_var 4) xe_int) xa_nil)) (blkOk_by (N := ["rule", "word", "kind", "places", "inner", "whole", "_", "at", "ends", "part"]) (sc := (defScope s_pieces_of)) (by decide +kernel)) (by decide) (fun _ _ _ _ _ => (xg_tup rfl (xgs_cons (xg_name (i := 7) nd rfl (Or.inl rfl)) (xgs_cons (xg_name (i := 8) nd rfl (Or.inl rfl)) xgs_nil)))) (fun _ _ _ _ _ => xts_nil) (fun _ _ _ _ _ => (xe_op op_xor o_bxor (xe_op op_shl o_shl (xe_op op_shr o_shr (xe_var 5) (xe_var 7)) (xe_var 7)) (xe_var 8)))))))) xs_nil)
    (xs_one (xs_ret (c_call c_in_times hgd hr (by omega) rfl (xa_cons (xe_ixR ix_seq op2_ix (xe_var 4) xe_int) (xa_cons (xe_ixR ix_seq op2_ix (xe_var 0) xe_int) (xa_cons (xe_ixR ix_seq op2_ix (xe_var 0) xe_int) xa_nil))))))))))))))))
abbrev s__law_signs : Stmt := topS 20
theorem sc__law_signs : FnScope ["pool", "letters", "held", "sign"] ["pool", "letters"] (defScope s__law_signs) := ⟨rfl, rfl, rfl, by decide +kernel, rfl, by decide +kernel, by decide +kernel⟩
def W__law_signs : DS := (wSeq (wSet 2 (wFz (wLc [3] (wIt (wVar 1)) (gNm 3) (wTst (wBin (wEq false) (wCallP 0 sp_pick (wCons (wC (.int 2)) wNil)) (wC (.int 0)))) (wVar 3))))
    (wSeq (wIfS (wTst (wBin (wEq false) (wVar 2) (wFz (wLst wNil)))) (wSet 2 (wFz (wLst (wCons (wBin wIx (wVar 1) (wCallP 0 sp_pick (wCons (wCB (wN1 gLen) (wCons (wVar 1) wNil)) wNil))) wNil)))) wNext)
    (wRet (wJoin (wC (.str ("" : Str))) (wVar 2)))))
theorem dv__law_signs (B : Bi mg) (c__law_pick : Ca P w K mg base 1 "_law_pick" ["pool", "many"] (spP K sp_pick)) {f : Addr} (cdv : Value) (A : Around) (outer : List Env) (s : Shared) (H : Hp) (E : XK) (hgd : (A.deeper (envOfC "_law_signs" (defScope s__law_signs) s.heap.objs.size f cdv)).guards = some []) (hr : Room 1 (A.deeper (envOfC "_law_signs" (defScope s__law_signs) s.heap.objs.size f cdv))) :
    XSs (cxOf CX0 P w K mg base ["pool", "letters", "held", "sign"] "_law_signs" (defScope s__law_signs) f cdv A outer s H E).nox (defBody s__law_signs) (W__law_signs) := by
  have nd := sc__law_signs.nd
  exact (xs_cons (xs_setLc (i := 2) (own := [(("sign" : Str), 3)]) rfl nd rfl rfl (sw_true rfl rfl rfl (by decide +kernel)) (xi_any (xe_var 1)) (blkOk_by (N := ["pool", "letters", "held", "sign"]) (sc := (defScope s__law_signs)) (by decide +kernel)) (by decide) (fun _ _ _ _ _ => (xg_name (i := 3) nd rfl (Or.inl rfl))) (fun _ _ _ _ _ => (xts_one (xt_cmp (opr_eq hr.units) op2_eq (c_callP (i := 0) c__law_pick hgd hr (by omega) rfl (pv 0) (xa_cons xe_int xa_nil)) xe_int))) (fun _ _ _ _ _ => (xe_var 3)))
    (xs_cons (xs_if (xt_cmp (opr_eq hr.units) op2_eq (xe_var 2) (xl_fz (xl_lst xa_nil))) (xs_one (xs_set (i := 2) nd rfl (Or.inl rfl) (xl_fz (xl_lst (xa_cons (xe_ixR ix_seq op2_ix (xe_var 1) (c_callP (i := 0) c__law_pick hgd hr (by omega) rfl (pv 0) (xa_cons (xe_callB call_lenA opn_len rfl B.len bb_len (xa_cons (xe_var 1) xa_nil)) xa_nil))) xa_nil))))) xs_nil)
    (xs_one (xs_ret (xe_join xe_str (xe_var 2))))))
abbrev s__law_words : Stmt := topS 21
theorem sc__law_words : FnScope ["letters", "length", "found", "layer", "step", "behind", "word", "sign"] ["letters", "length"] (defScope s__law_words) := ⟨rfl, rfl, rfl, by decide +kernel, rfl, by decide +kernel, by decide +kernel⟩
def W__law_words : DS := (wSeq (wSet 2 (wFz (wLst (wCons (wC (.str ("" : Str))) wNil))))
    (wSeq (wSet 3 (wFz (wLst (wCons (wC (.str ("" : Str))) wNil))))
    (wSeq (wFor (wRng1 (wCons (wVar 1) wNil)) (gNm 4) (wSeq (wSet 5 (wFz (wLst wNil)))
    (wSeq (wFor (wIt (wVar 3)) (gNm 6) (wSet 5 (wBin wAdd (wVar 5) (wFz (wLc [7] (wIt (wVar 0)) (gNm 7) wYes (wBin wAdd (wVar 6) (wVar 7)))))))
    (wSeq (wSet 3 (wVar 5))
    (wSet 2 (wBin wAdd (wVar 2) (wVar 3)))))))
    (wRet (wVar 2)))))
theorem dv__law_words (B : Bi mg) {f : Addr} (cdv : Value) (A : Around) (outer : List Env) (s : Shared) (H : Hp) (E : XK) (hgd : (A.deeper (envOfC "_law_words" (defScope s__law_words) s.heap.objs.size f cdv)).guards = some []) (hr : Room 0 (A.deeper (envOfC "_law_words" (defScope s__law_words) s.heap.objs.size f cdv))) :
    XSs (cxOf CX0 P w K mg base ["letters", "length", "found", "layer", "step", "behind", "word", "sign"] "_law_words" (defScope s__law_words) f cdv A outer s H E).nox (defBody s__law_words) (W__law_words) := by
  have nd := sc__law_words.nd
  exact (xs_cons (xs_set (i := 2) nd rfl (Or.inl rfl) (xl_fz (xl_lst (xa_cons xe_str xa_nil))))
    (xs_cons (xs_set (i := 3) nd rfl (Or.inl rfl) (xl_fz (xl_lst (xa_cons xe_str xa_nil))))
    (xs_cons (xs_for PassesOwn.never rfl (xi_range1 rfl B.range (xa_cons (xe_var 1) xa_nil)) (xg_name (i := 4) nd rfl (Or.inl rfl)) (xs_cons (xs_set (i := 5) nd rfl (Or.inl rfl) (xl_fz (xl_lst xa_nil)))
    (xs_cons (xs_for PassesOwn.never rfl (xi_any (xe_var 3)) (xg_name (i := 6) nd rfl (by first | exact Or.inl rfl | exact Or.inr rfl)) (xs_one (xs_set (i := 5) nd rfl (Or.inl rfl) (xe_op opr_plus op2_plus (xe_var 5) (xl_fz (xl_lc (own := [(("sign" : Str), 7)]) rfl nd (xi_any (xe_var 0)) (blkOk_by (N := ["letters", "length", "found", "layer", "step", "behind", "word", "sign"]) (sc := (defScope s__law_words)) (by decide +kernel)) (by decide) (fun _ _ _ _ _ => (xg_name (i := 7) nd rfl (Or.inl rfl))) (fun _ _ _ _ _ => xts_nil) (fun _ _ _ _ _ => (xe_op opr_plus op2_plus (xe_var 6) (xe_var 7)))))))))
    (xs_cons (xs_set (i := 3) nd rfl (Or.inl rfl) (xe_var 5))
    (xs_one (xs_set (i := 2) nd rfl (Or.inl rfl) (xe_op opr_plus op2_plus (xe_var 2) (xe_var 3))))))))
    (xs_one (xs_ret (xe_var 2))))))
abbrev s__law_is_so : Stmt := topS 22
theorem sc__law_is_so : FnScope ["value", "due"] ["value", "due"] (defScope s__law_is_so) := ⟨rfl, rfl, rfl, by decide +kernel, rfl, by decide +kernel, by decide +kernel⟩
def W__law_is_so : DS := (wRet (wAndV (wIsI "bool" (wVar 0)) (wBin (wEq false) (wVar 0) (wVar 1))))
theorem dv__law_is_so (B : Bi mg) {f : Addr} (cdv : Value) (A : Around) (outer : List Env) (s : Shared) (H : Hp) (E : XK) (hgd : (A.deeper (envOfC "_law_is_so" (defScope s__law_is_so) s.heap.objs.size f cdv)).guards = some []) (hr : Room 0 (A.deeper (envOfC "_law_is_so" (defScope s__law_is_so) s.heap.objs.size f cdv))) :
    XSs (cxOf CX0 P w K mg base ["value", "due"] "_law_is_so" (defScope s__law_is_so) f cdv A outer s H E).nox (defBody s__law_is_so) (W__law_is_so) := by
  have nd := sc__law_is_so.nd
  exact (xs_one (xs_ret (xe_and (xe_isI (n := "bool") rfl B.isinstance rfl B.bool bb_bool (xe_var 0)) (xe_one (xe_cmp (opr_eq hr.units) op2_eq (xe_var 0) (xe_var 1))))))
abbrev s__law_leaf : Stmt := topS 23
theorem sc__law_leaf : FnScope ["pool", "letters", "kind"] ["pool", "letters"] (defScope s__law_leaf) := ⟨rfl, rfl, rfl, by decide +kernel, rfl, by decide +kernel, by decide +kernel⟩
def W__law_leaf : DS := (wSeq (wSet 2 (wCallP 0 sp_pick (wCons (wC (.int 30)) wNil)))
    (wSeq (wIfS (wTst (wBin (wEq false) (wVar 2) (wC (.int 0)))) (wRet (wTup (wCons (wC (.str ("none" : Str))) wNil))) wNext)
    (wSeq (wIfS (wTst (wBin wLt (wVar 2) (wC (.int 3)))) (wRet (wTup (wCons (wC (.str ("empty" : Str))) wNil))) wNext)
    (wSeq (wIfS (wTst (wBin wLt (wVar 2) (wC (.int 22)))) (wRet (wTup (wCons (wC (.str ("one" : Str))) (wCons (wBin wIx (wVar 1) (wCallP 0 sp_pick (wCons (wCB (wN1 gLen) (wCons (wVar 1) wNil)) wNil))) wNil)))) wNext)
    (wRet (wTup (wCons (wC (.str ("one" : Str))) (wCons (wCallP 0 sp_signs (wCons (wVar 1) wNil)) wNil))))))))
theorem dv__law_leaf (B : Bi mg) (c__law_signs : Ca P w K mg base 2 "_law_signs" ["pool", "letters"] (spP K sp_signs)) (c__law_pick : Ca P w K mg base 1 "_law_pick" ["pool", "many"] (spP K sp_pick)) {f : Addr} (cdv : Value) (A : Around) (outer : List Env) (s : Shared) (H : Hp) (E : XK) (hgd : (A.deeper (envOfC "_law_leaf" (defScope s__law_leaf) s.heap.objs.size f cdv)).guards = some []) (hr : Room 2 (A.deeper (envOfC "_law_leaf" (defScope s__law_leaf) s.heap.objs.size f cdv))) :
    XSs (cxOf CX0 P w K mg base ["pool", "letters", "kind"] "_law_leaf" (defScope s__law_leaf) f cdv A outer s H E).nox (defBody s__law_leaf) (W__law_leaf) := by
  have nd := sc__law_leaf.nd
  exact (xs_cons (xs_set (i := 2) nd rfl (Or.inl rfl) (c_callP (i := 0) c__law_pick hgd hr (by omega) rfl (pv 0) (xa_cons xe_int xa_nil)))
    (xs_cons (xs_if (xt_cmp (opr_eq hr.units) op2_eq (xe_var 2) xe_int) (xs_one (xs_ret (xe_tup (xa_cons xe_str xa_nil)))) xs_nil)
    (xs_cons (xs_if (xt_cmp op_lt o_lt (xe_var 2) xe_int) (xs_one (xs_ret (xe_tup (xa_cons xe_str xa_nil)))) xs_nil)
    (xs_cons (xs_if (xt_cmp op_lt o_lt (xe_var 2) xe_int) (xs_one (xs_ret (xe_tup (xa_cons xe_str (xa_cons (xe_ixR ix_seq op2_ix (xe_var 1) (c_callP (i := 0) c__law_pick hgd hr (by omega) rfl (pv 0) (xa_cons (xe_callB call_lenA opn_len rfl B.len bb_len (xa_cons (xe_var 1) xa_nil)) xa_nil))) xa_nil))))) xs_nil)
    (xs_one (xs_ret (xe_tup (xa_cons xe_str (xa_cons (c_callP (i := 0) c__law_signs hgd hr (by omega) rfl (pv 0) (xa_cons (xe_var 1) xa_nil)) xa_nil)))))))))
abbrev s__law_rule : Stmt := topS 24
theorem sc__law_rule : FnScope ["pool", "letters", "room", "depth", "wide", "kind", "many", "low", "high", "turns", "k"] ["pool", "letters", "room", "depth", "wide"] (defScope s__law_rule) := ⟨rfl, rfl, rfl, by decide +kernel, rfl, by decide +kernel, by decide +kernel⟩
def W__law_rule (rc : DSpP) : DS := (wSeq (wSet 5 (wCallP 0 sp_pick (wCons (wC (.int 14)) wNil)))
    (wSeq (wIfS (wOr (wTst (wBin (wEq false) (wVar 3) (wC (.int 0)))) (wTst (wBin wLt (wVar 5) (wC (.int 2))))) (wRet (wCallP 0 sp_leaf (wCons (wVar 1) wNil))) wNext)
    (wSeq (wIfS (wAnd (wTst (wBin wGt (wVar 5) (wC (.int 11)))) (wAnd (wTru (wVar 4)) (wTst (wBin wGt (wVar 2) (wC (.int 1)))))) (wSeq (wSet 6 (wBin wAdd (wC (.int 1)) (wCallP 0 sp_pick (wCons (wC (.int 2)) wNil))))
    (wRet (wTup (wCons (wC (.str ("both" : Str))) (wCons (wFz (wLc [10] (wRng1 (wCons (wVar 6) wNil)) (gNm 10) wYes (wCallP 0 rc (wCons (wVar 1) (wCons (wBin wDiv (wVar 2) (wVar 6)) (wCons (wBin wSub (wVar 3) (wC (.int 1))) (wCons (wVar 4) wNil))))))) wNil))))) wNext)
    (wSeq (wIfS (wAnd (wTst (wBin (wEq false) (wVar 5) (wC (.int 11)))) (wTru (wVar 4))) (wRet (wTup (wCons (wC (.str ("not" : Str))) (wCons (wCallP 0 rc (wCons (wVar 1) (wCons (wVar 2) (wCons (wBin wSub (wVar 3) (wC (.int 1))) (wCons (wVar 4) wNil))))) wNil)))) wNext)
    (wSeq (wIfS (wTst (wBin wGt (wVar 5) (wC (.int 7)))) (wSeq (wAsgT (wBin wIx (wFz (wLst (wCons (wTup (wCons (wC (.int 0)) (wCons (wC .none) wNil))) (wCons (wTup (wCons (wC (.int 0)) (wCons (wC .none) wNil))) (wCons (wTup (wCons (wC (.int 1)) (wCons (wC .none) wNil))) (wCons (wTup (wCons (wC (.int 0)) (wCons (wC (.int 1)) wNil))) (wCons (wTup (wCons (wC (.int 0)) (wCons (wC (.int 2)) wNil))) (wCons (wTup (wCons (wC (.int 2)) (wCons (wC (.int 2)) wNil))) (wCons (wTup (wCons (wC (.int 1)) (wCons (wC (.int 3)) wNil))) (wCons (wTup (wCons (wC (.int 2)) (wCons (wC .none) wNil))) (wCons (wTup (wCons (wC (.int 3)) (wCons (wC (.int 5)) wNil))) (wCons (wTup (wCons (wC (.int 0)) (wCons (wC (.int 0)) wNil))) (wCons (wTup (wCons (wC (.int 8)) (wCons (wC (.int 8)) wNil))) wNil))))))))))))) (wCallP 0 sp_pick (wCons (wC (.int 11)) wNil))) (gTp 2 (gCs (gNm 7) (gCs (gNm 8) gNl))))
    (wSeq (wSet 9 (wBin wAdd (wVar 7) (wC (.int 1))))
    (wSeq (wIfS (wTst (wBin (wIsN true) (wVar 8) (wC .none))) (wSet 9 (wCB (wN2 gMax) (wCons (wC (.int 1)) (wCons (wVar 8) wNil)))) wNext)
    (wSeq (wIfS (wTst (wBin wGt (wVar 9) (wVar 2))) (wAsgT (wTup (wCons (wC (.int 0)) (wCons (wC .none) (wCons (wC (.int 1)) wNil)))) (gTp 3 (gCs (gNm 7) (gCs (gNm 8) (gCs (gNm 9) gNl))))) wNext)
    (wRet (wTup (wCons (wC (.str ("times" : Str))) (wCons (wCallP 0 rc (wCons (wVar 1) (wCons (wBin wDiv (wVar 2) (wVar 9)) (wCons (wBin wSub (wVar 3) (wC (.int 1))) (wCons (wVar 4) wNil))))) (wCons (wVar 7) (wCons (wVar 8) wNil)))))))))) wNext)
    (wSeq (wSet 6 (wCB (wN2 gMin) (wCons (wVar 2) (wCons (wBin wIx (wFz (wLst (wCons (wC (.int 2)) (wCons (wC (.int 2)) (wCons (wC (.int 2)) (wCons (wC (.int 3)) (wCons (wC (.int 3)) (wCons (wC (.int 4)) (wCons (wC (.int 1)) (wCons (wC (.int 6)) wNil)))))))))) (wCallP 0 sp_pick (wCons (wC (.int 8)) wNil))) wNil))))
    (wRet (wTup (wCons (wBin wIx (wFz (wLst (wCons (wC (.str ("row" : Str))) (wCons (wC (.str ("either" : Str))) wNil)))) (wCB (wN1 gInt) (wCons (wBin wGt (wVar 5) (wC (.int 5))) wNil))) (wCons (wFz (wLc [10] (wRng1 (wCons (wVar 6) wNil)) (gNm 10) wYes (wCallP 0 rc (wCons (wVar 1) (wCons (wBin wDiv (wVar 2) (wVar 6)) (wCons (wBin wSub (wVar 3) (wC (.int 1))) (wCons (wVar 4) wNil))))))) wNil))))))))))
theorem dv__law_rule {rc : DSpP} {l : Nat} (hl : l ≤ k) (hk : 3 ≤ k) (B : Bi mg) (c__law_rule : Ca P w K mg base l "_law_rule" ["pool", "letters", "room", "depth", "wide"] (spP K rc)) (c__law_pick : Ca P w K mg base 1 "_law_pick" ["pool", "many"] (spP K sp_pick)) (c__law_leaf : Ca P w K mg base 3 "_law_leaf" ["pool", "letters"] (spP K sp_leaf)) {f : Addr} (cdv : Value) (A : Around) (outer : List Env) (s : Shared) (H : Hp) (E : XK) (hgd : (A.deeper (envOfC "_law_rule" (defScope s__law_rule) s.heap.objs.size f cdv)).guards = some []) (hr : Room k (A.deeper (envOfC "_law_rule" (defScope s__law_rule) s.heap.objs.size f cdv))) :
    XSs (cxOf CX0 P w K mg base ["pool", "letters", "room", "depth", "wide", "kind", "many", "low", "high", "turns", "k"] "_law_rule" (defScope s__law_rule) f cdv A outer s H E).nox (defBody s__law_rule) (W__law_rule rc) := by
  have nd := sc__law_rule.nd
  exact (xs_cons (xs_set (i := 5) nd rfl (Or.inl rfl) (c_callP (i := 0) c__law_pick hgd hr (by omega) rfl (pv 0) (xa_cons xe_int xa_nil)))
    (xs_cons (xs_if (xw_t (xw_or (xt_cmp (opr_eq hr.units) op2_eq (xe_var 3) xe_int) (xw_or1 (xt_cmp op_lt o_lt (xe_var 5) xe_int)))) (xs_one (xs_ret (c_callP (i := 0) c__law_leaf hgd hr (by omega) rfl (pv 0) (xa_cons (xe_var 1) xa_nil)))) xs_nil)
    (xs_cons (xs_if (xw_t (xw_and (xt_cmp op_gt o_gt (xe_var 5) xe_int) (xw_and (xt_tru (xe_var 4)) (xw_and1 (xt_cmp op_gt o_gt (xe_var 2) xe_int))))) (xs_cons (xs_set (i := 6) nd rfl (Or.inr rfl) (xe_op opr_plus op2_plus xe_int (c_callP (i := 0) c__law_pick hgd hr (by omega) rfl (pv 0) (xa_cons xe_int xa_nil))))
    (xs_one (xs_ret (xe_tup (xa_cons xe_str (xa_cons (xl_fz (xl_lc (own := [(("k" : Str), 10)]) rfl nd (xi_range1 rfl B.range (xa_cons (xe_var 6) xa_nil)) (blkOk_by (N := ["pool", "letters", "room", "depth", "wide", "kind", "many", "low", "high", "turns", "k"]) (sc := (defScope s__law_rule)) (by decide +kernel)) (by decide) (fun _ _ _ _ _ => (xg_name (i := 10) nd rfl (Or.inl rfl))) (fun _ _ _ _ _ => xts_nil) (fun _ _ _ _ _ => (c_callP (i := 0) c__law_rule hgd hr (by omega) rfl (pv 0) (xa_cons (xe_var 1) (xa_cons (xe_op op_fdiv o_div (xe_var 2) (xe_var 6)) (xa_cons (xe_op op_sub o_sub (xe_var 3) xe_int) (xa_cons (xe_var 4) xa_nil)))))))) xa_nil)))))) xs_nil)
    (xs_cons (xs_if (xw_t (xw_and (xt_cmp (opr_eq hr.units) op2_eq (xe_var 5) xe_int) (xw_and1 (xt_tru (xe_var 4))))) (xs_one (xs_ret (xe_tup (xa_cons xe_str (xa_cons (c_callP (i := 0) c__law_rule hgd hr (by omega) rfl (pv 0) (xa_cons (xe_var 1) (xa_cons (xe_var 2) (xa_cons (xe_op op_sub o_sub (xe_var 3) xe_int) (xa_cons (xe_var 4) xa_nil))))) xa_nil))))) xs_nil)
    (xs_cons (xs_if (xt_cmp op_gt o_gt (xe_var 5) xe_int) (xs_cons (xs_asgT (xe_ixR ix_seq op2_ix (xl_fz (xl_lst (xa_cons (xe_tup (xa_cons xe_int (xa_cons xe_non xa_nil))) (xa_cons (xe_tup (xa_cons xe_int (xa_cons xe_non xa_nil))) (xa_cons (xe_tup (xa_cons xe_int (xa_cons xe_non xa_nil))) (xa_cons (xe_tup (xa_cons xe_int (xa_cons xe_int xa_nil))) (xa_cons (xe_tup (xa_cons xe_int (xa_cons xe_int xa_nil))) (xa_cons (xe_tup (xa_cons xe_int (xa_cons xe_int xa_nil))) (xa_cons (xe_tup (xa_cons xe_int (xa_cons xe_int xa_nil))) (xa_cons (xe_tup (xa_cons xe_int (xa_cons xe_non xa_nil))) (xa_cons (xe_tup (xa_cons xe_int (xa_cons xe_int xa_nil))) (xa_cons (xe_tup (xa_cons xe_int (xa_cons xe_int xa_nil))) (xa_cons (xe_tup (xa_cons xe_int (xa_cons xe_int xa_nil))) xa_nil))))))))))))) (c_callP (i := 0) c__law_pick hgd hr (by omega) rfl (pv 0) (xa_cons xe_int xa_nil))) (xg_tup rfl (xgs_cons (xg_name (i := 7) nd rfl (Or.inl rfl)) (xgs_cons (xg_name (i := 8) nd rfl (Or.inl rfl)) xgs_nil))))
    (xs_cons (xs_set (i := 9) nd rfl (Or.inl rfl) (xe_op opr_plus op2_plus (xe_var 7) xe_int))
    (xs_cons (xs_if (xt_cmp op_notN op2_notN (xe_var 8) xe_non) (xs_one (xs_set (i := 9) nd rfl (Or.inl rfl) (xe_callB (call_max2 rfl) opn_max2 rfl B.max bb_max (xa_cons xe_int (xa_cons (xe_var 8) xa_nil))))) xs_nil)
    (xs_cons (xs_if (xt_cmp op_gt o_gt (xe_var 9) (xe_var 2)) (xs_one (xs_asgT (xe_tup (xa_cons xe_int (xa_cons xe_non (xa_cons xe_int xa_nil)))) (xg_tup rfl (xgs_cons (xg_name (i := 7) nd rfl (Or.inl rfl)) (xgs_cons (xg_name (i := 8) nd rfl (Or.inl rfl)) (xgs_cons (xg_name (i := 9) nd rfl (Or.inl rfl)) xgs_nil)))))) xs_nil)
    (xs_one (xs_ret (xe_tup (xa_cons xe_str (xa_cons (c_callP (i := 0) c__law_rule hgd hr (by omega) rfl (pv 0) (xa_cons (xe_var 1) (xa_cons (xe_op op_fdiv o_div (xe_var 2) (xe_var 9)) (xa_cons (xe_op op_sub o_sub (xe_var 3) xe_int) (xa_cons (xe_var 4) xa_nil))))) (xa_cons (xe_var 7) (xa_cons (xe_var 8) xa_nil))))))))))) xs_nil)
    (xs_cons (xs_set (i := 6) nd rfl (Or.inr rfl) (xe_callB (call_min2 rfl) opn_min2 rfl B.min bb_min (xa_cons (xe_var 2) (xa_cons (xe_ixR ix_seq op2_ix (xl_fz (xl_lst (xa_cons xe_int (xa_cons xe_int (xa_cons xe_int (xa_cons xe_int (xa_cons xe_int (xa_cons xe_int (xa_cons xe_int (xa_cons xe_int xa_nil)))))))))) (c_callP (i := 0) c__law_pick hgd hr (by omega) rfl (pv 0) (xa_cons xe_int xa_nil))) xa_nil))))
    (xs_one (xs_ret (xe_tup (xa_cons (xe_ixR ix_seq op2_ix (xl_fz (xl_lst (xa_cons xe_str (xa_cons xe_str xa_nil)))) (xe_callTy call_int1 opn_int rfl B.int bb_int (xa_cons (xe_cmp op_gt o_gt (xe_var 5) xe_int) xa_nil))) (xa_cons (xl_fz (xl_lc (own := [(("k" : Str), 10)]) rfl nd (xi_range1 rfl B.range (xa_cons (xe_var 6) xa_nil)) (blkOk_by (N := ["pool", "letters", "room", "depth", "wide", "kind", "many", "low", "high", "turns", "k"]) (sc := (defScope s__law_rule)) (by decide +kernel)) (by decide) (fun _ _ _ _ _ => (xg_name (i := 10) nd rfl (Or.inl rfl))) (fun _ _ _ _ _ => xts_nil) (fun _ _ _ _ _ => (c_callP (i := 0) c__law_rule hgd hr (by omega) rfl (pv 0) (xa_cons (xe_var 1) (xa_cons (xe_op op_fdiv o_div (xe_var 2) (xe_var 6)) (xa_cons (xe_op op_sub o_sub (xe_var 3) xe_int) (xa_cons (xe_var 4) xa_nil)))))))) xa_nil)))))))))))
abbrev s__law_joined : Stmt := topS 26
theorem sc__law_joined : FnScope ["first", "second", "size", "columns", "found", "begin", "row", "held", "column", "end", "place"] ["first", "second"] (defScope s__law_joined) := ⟨rfl, rfl, rfl, by decide +kernel, rfl, by decide +kernel, by decide +kernel⟩
def W__law_joined : DS := (wSeq (wSet 2 (wCB (wN1 gLen) (wCons (wVar 0) wNil)))
    (wSeq (wSet 3 (wFz (wLc [9] (wRng1 (wCons (wVar 2) wNil)) (gNm 9) wYes (wFz (wLc [6] (wIt (wVar 1)) (gNm 6) wYes (wBin wIx (wVar 6) (wVar 9)))))))
    (wSeq (wSetO 4 (wLst wNil))
    (wSeq (wFor (wRng1 (wCons (wVar 2) wNil)) (gNm 5) (wSeq (wSet 6 (wBin wIx (wVar 0) (wVar 5)))
    (wSeq (wSet 7 (wFz (wLc [10] (wRng2 (wCons (wVar 5) (wCons (wVar 2) wNil))) (gNm 10) (wTst (wBin (wEq true) (wBin wIx (wVar 6) (wVar 10)) (wC (.int 0)))) (wVar 10))))
    (wApp 4 (wFz (wLc [8] (wIt (wVar 3)) (gNm 8) wYes (wCB (wN1 gSum) (wCons (wFz (wLc [10] (wIt (wVar 7)) (gNm 10) wYes (wBin wMulW (wBin wIx (wVar 6) (wVar 10)) (wBin wIx (wVar 8) (wVar 10))))) wNil))))))))
    (wRetO 4)))))
theorem dv__law_joined (B : Bi mg) {f : Addr} (cdv : Value) (A : Around) (outer : List Env) (s : Shared) (H : Hp) (E : XK) (hgd : (A.deeper (envOfC "_law_joined" (defScope s__law_joined) s.heap.objs.size f cdv)).guards = some []) (hr : Room 0 (A.deeper (envOfC "_law_joined" (defScope s__law_joined) s.heap.objs.size f cdv))) :
    XSs (cxOf CX0 P w K mg base ["first", "second", "size", "columns", "found", "begin", "row", "held", "column", "end", "place"] "_law_joined" (defScope s__law_joined) f cdv A outer s H E).nox (defBody s__law_joined) (W__law_joined) := by
  have nd := sc__law_joined.nd
  exact (xs_cons (xs_set (i := 2) nd rfl (Or.inl rfl) (xe_callB call_lenA opn_len rfl B.len bb_len (xa_cons (xe_var 0) xa_nil)))
    (xs_cons (xs_setLc (i := 3) (own := [(("end" : Str), 9)]) rfl nd rfl rfl (sw_true rfl rfl rfl (by decide +kernel)) (xi_range1 rfl B.range (xa_cons (xe_var 2) xa_nil)) (blkOk_by (N := ["first", "second", "size", "columns", "found", "begin", "row", "held", "column", "end", "place"]) (sc := (defScope s__law_joined)) (by decide +kernel)) (by decide) (fun _ _ _ _ _ => (xg_name (i := 9) nd rfl (by first | exact Or.inl rfl | exact Or.inr rfl))) (fun _ _ _ _ _ => xts_nil) (fun _ _ _ _ _ => (xl_fz (xl_lc (own := [(("row" : Str), 6)]) rfl nd (xi_any (xe_var 1)) (blkOk_by (by kernel_rfl)) (by decide) (fun _ _ _ _ _ => (xg_name (i := 6) nd rfl (by first | exact Or.inl rfl | exact Or.inr rfl))) (fun _ _ _ _ _ => xts_nil) (fun _ _ _ _ _ => (xe_ixR ix_seq op2_ix (xe_var 6) (xe_var 9)))))))
    (xs_cons (xs_setO (i := 4) nd rfl (Or.inl rfl) (xl_lst xa_nil))
    (xs_cons (xs_for PassesOwn.never rfl (xi_range1 rfl B.range (xa_cons (xe_var 2) xa_nil)) (xg_name (i := 5) nd rfl (Or.inl rfl)) (xs_cons (xs_set (i := 6) nd rfl (Or.inr rfl) (xe_ixR ix_seq op2_ix (xe_var 0) (xe_var 5)))
    (xs_cons (xs_set (i := 7) nd rfl (Or.inr rfl) (xl_fz (xl_lc (own := [(("place" : Str), 10)]) rfl nd (xi_range2 rfl B.range (xa_cons (xe_var 5) (xa_cons (xe_var 2) xa_nil))) (blkOk_by (N := ["first", "second", "size", "columns", "found", "begin", "row", "held", "column", "end", "place"]) (sc := (defScope s__law_joined)) (by decide +kernel)) (by decide) (fun _ _ _ _ _ => (xg_name (i := 10) nd rfl (Or.inl rfl))) (fun _ _ _ _ _ => (xts_one (xt_cmp (opr_ne hr.units) op2_ne (xe_ixR ix_seq op2_ix (xe_var 6) (xe_var 10)) xe_int))) (fun _ _ _ _ _ => (xe_var 10)))))
    (xs_one (xs_append (i := 4) (pv 4) (xl_fz (xl_lc (own := [(("column" : Str), 8)]) rfl nd (xi_any (xe_var 3)) (blkOk_by (N := ["first", "second", "size", "columns", "found", "begin", "row", "held", "column", "end", "place"]) (sc := (defScope s__law_joined)) (by decide +kernel)) (by decide) (fun _ _ _ _ _ => (xg_name (i := 8) nd rfl (by first | exact Or.inl rfl | exact Or.inr rfl))) (fun _ _ _ _ _ => xts_nil) (fun _ _ _ _ _ => (xe_callB (cr_sum rfl) opn_sum rfl B.sum bb_sum (xa_cons (xl_fz (xl_lc (own := [(("place" : Str), 10)]) rfl nd (xi_any (xe_var 7)) (blkOk_by (by kernel_rfl)) (by decide) (fun _ _ _ _ _ => (xg_name (i := 10) nd rfl (Or.inl rfl))) (fun _ _ _ _ _ => xts_nil) (fun _ _ _ _ _ => (xe_op op_mulW o_mulW (xe_ixR ix_seq op2_ix (xe_var 6) (xe_var 10)) (xe_ixR ix_seq op2_ix (xe_var 8) (xe_var 10)))))) xa_nil))))))))))
    (xs_one (xs_retO (i := 4) (pv 4)))))))
abbrev s__law_any : Stmt := topS 27
theorem sc__law_any : FnScope ["inner", "size", "found", "back", "begin", "place", "end"] ["inner"] (defScope s__law_any) := ⟨rfl, rfl, rfl, by decide +kernel, rfl, by decide +kernel, by decide +kernel⟩
def W__law_any : DS := (wSeq (wSet 1 (wCB (wN1 gLen) (wCons (wVar 0) wNil)))
    (wSeq (wSetO 2 (wLc [4] (wRng1 (wCons (wVar 1) wNil)) (gNm 4) wYes (wFz (wLc [6] (wRng1 (wCons (wVar 1) wNil)) (gNm 6) wYes (wCB (wN1 gInt) (wCons (wBin (wEq false) (wVar 4) (wVar 6)) wNil))))))
    (wSeq (wFor (wRng1 (wCons (wVar 1) wNil)) (gNm 3) (wSeq (wSet 4 (wBin wSub (wBin wSub (wVar 1) (wC (.int 1))) (wVar 3)))
    (wFor (wRng2 (wCons (wBin wAdd (wVar 4) (wC (.int 1))) (wCons (wVar 1) wNil))) (gNm 5) (wIfS (wTst (wBin (wEq true) (wBin wIx (wBin wIx (wVar 0) (wVar 4)) (wVar 5)) (wC (.int 0)))) (wItem 2 (wVar 4) (wFz (wLc [6] (wRng1 (wCons (wVar 1) wNil)) (gNm 6) wYes (wBin wAdd (wBin wIx (wOwnIx 2 (wVar 4)) (wVar 6)) (wBin wMulW (wBin wIx (wBin wIx (wVar 0) (wVar 4)) (wVar 5)) (wBin wIx (wOwnIx 2 (wVar 5)) (wVar 6))))))) wNext))))
    (wRetO 2))))
theorem dv__law_any (B : Bi mg) {f : Addr} (cdv : Value) (A : Around) (outer : List Env) (s : Shared) (H : Hp) (E : XK) (hgd : (A.deeper (envOfC "_law_any" (defScope s__law_any) s.heap.objs.size f cdv)).guards = some []) (hr : Room 0 (A.deeper (envOfC "_law_any" (defScope s__law_any) s.heap.objs.size f cdv))) :
    XSs (cxOf CX0 P w K mg base ["inner", "size", "found", "back", "begin", "place", "end"] "_law_any" (defScope s__law_any) f cdv A outer s H E).nox (defBody s__law_any) (W__law_any) := by
  have nd := sc__law_any.nd
  exact (xs_cons (xs_set (i := 1) nd rfl (Or.inr rfl) (xe_callB call_lenA opn_len rfl B.len bb_len (xa_cons (xe_var 0) xa_nil)))
    (xs_cons (xs_setO (i := 2) nd rfl (Or.inr rfl) (xl_lc (own := [(("begin" : Str), 4)]) rfl nd (xi_range1 rfl B.range (xa_cons (xe_var 1) xa_nil)) (blkOk_by (N := ["inner", "size", "found", "back", "begin", "place", "end"]) (sc := (defScope s__law_any)) (by decide +kernel)) (by decide) (fun _ _ _ _ _ => (xg_name (i := 4) nd rfl (by first | exact Or.inl rfl | exact Or.inr rfl))) (fun _ _ _ _ _ => xts_nil) (fun _ _ _ _ _ => (xl_fz (xl_lc (own := [(("end" : Str), 6)]) rfl nd (xi_range1 rfl B.range (xa_cons (xe_var 1) xa_nil)) (blkOk_by (by kernel_rfl)) (by decide) (fun _ _ _ _ _ => (xg_name (i := 6) nd rfl (Or.inl rfl))) (fun _ _ _ _ _ => xts_nil) (fun _ _ _ _ _ => (xe_callTy call_int1 opn_int rfl B.int bb_int (xa_cons (xe_cmp (opr_eq hr.units) op2_eq (xe_var 4) (xe_var 6)) xa_nil))))))))
    (xs_cons (xs_for PassesOwn.never rfl (xi_range1 rfl B.range (xa_cons (xe_var 1) xa_nil)) (xg_name (i := 3) nd rfl (Or.inl rfl)) (xs_cons (xs_set (i := 4) nd rfl (Or.inr rfl) (xe_op op_sub o_sub (xe_op op_sub o_sub (xe_var 1) xe_int) (xe_var 3)))
    (xs_one (xs_for PassesOwn.never rfl (xi_range2 rfl B.range (xa_cons (xe_op opr_plus op2_plus (xe_var 4) xe_int) (xa_cons (xe_var 1) xa_nil))) (xg_name (i := 5) nd rfl (by first | exact Or.inl rfl | exact Or.inr rfl)) (xs_one (xs_if (xt_cmp (opr_ne hr.units) op2_ne (xe_ixR ix_seq op2_ix (xe_ixR ix_seq op2_ix (xe_var 0) (xe_var 4)) (xe_var 5)) xe_int) (xs_one (xs_item (i := 2) (pv 2) (xe_var 4) (xl_fz (xl_lc (own := [(("end" : Str), 6)]) rfl nd (xi_range1 rfl B.range (xa_cons (xe_var 1) xa_nil)) (blkOk_by (N := ["inner", "size", "found", "back", "begin", "place", "end"]) (sc := (defScope s__law_any)) (by decide +kernel)) (by decide) (fun _ _ _ _ _ => (xg_name (i := 6) nd rfl (Or.inl rfl))) (fun _ _ _ _ _ => xts_nil) (fun _ _ _ _ _ => (xe_op opr_plus op2_plus (xe_ixR ix_seq op2_ix (xe_ownIx (i := 2) (pv 2) (xe_var 4)) (xe_var 6)) (xe_op op_mulW o_mulW (xe_ixR ix_seq op2_ix (xe_ixR ix_seq op2_ix (xe_var 0) (xe_var 4)) (xe_var 5)) (xe_ixR ix_seq op2_ix (xe_ownIx (i := 2) (pv 2) (xe_var 5)) (xe_var 6))))))))) xs_nil))))))
    (xs_one (xs_retO (i := 2) (pv 2))))))
abbrev s__law_rests : Stmt := topS 28
theorem sc__law_rests : FnScope ["rule", "inner", "same", "rests", "back", "table", "size", "signs", "turn", "rest", "begin", "end"] ["rule", "inner", "same"] (defScope s__law_rests) := ⟨rfl, rfl, rfl, by decide +kernel, rfl, by decide +kernel, by decide +kernel⟩
def W__law_rests : DS := (wSeq (wSet 3 (wFz (wLst (wCons (wVar 2) wNil))))
    (wSeq (wIfS (wTst (wBin (wEq false) (wBin wIx (wVar 0) (wC (.int 0))) (wC (.str ("row" : Str))))) (wSeq (wFor (wRng1 (wCons (wCB (wN1 gLen) (wCons (wVar 1) wNil)) wNil)) (gNm 4) (wSet 3 (wBin wAdd (wFz (wLst (wCons (wFz (wCallL sp_joined (wCons (wBin wIx (wBin wIx (wVar 1) (wBin wSub (wBin wSub (wCB (wN1 gLen) (wCons (wVar 1) wNil)) (wC (.int 1))) (wVar 4))) (wC (.int 1))) (wCons (wBin wIx (wVar 3) (wC (.int 0))) wNil)))) wNil))) (wVar 3))))
    (wRet (wVar 3))) wNext)
    (wSeq (wAsgT (wTup (wCons (wBin wIx (wBin wIx (wVar 1) (wC (.int 0))) (wC (.int 1))) (wCons (wCB (wN1 gLen) (wCons (wVar 2) wNil)) wNil))) (gTp 2 (gCs (gNm 5) (gCs (gNm 6) gNl))))
    (wSeq (wIfS (wTst (wBin (wIsN false) (wBin wIx (wVar 0) (wC (.int 3))) (wC .none))) (wSet 3 (wFz (wLst (wCons (wFz (wCallL sp_any (wCons (wVar 5) wNil))) wNil)))) (wSeq (wSet 7 (wFz (wLc [10] (wRng1 (wCons (wVar 6) wNil)) (gNm 10) wYes (wFz (wLc [11] (wRng1 (wCons (wVar 6) wNil)) (gNm 11) wYes (wBin wMulW (wBin wIx (wBin wIx (wVar 5) (wVar 10)) (wVar 11)) (wCB (wN1 gInt) (wCons (wBin (wEq true) (wVar 10) (wVar 11)) wNil))))))))
    (wFor (wRng1 (wCons (wBin wSub (wBin wIx (wVar 0) (wC (.int 3))) (wBin wIx (wVar 0) (wC (.int 2)))) wNil)) (gNm 8) (wSeq (wSet 9 (wFz (wCallL sp_joined (wCons (wVar 7) (wCons (wBin wIx (wVar 3) (wC (.int 0))) wNil)))))
    (wSet 3 (wBin wAdd (wFz (wLst (wCons (wFz (wLc [10] (wRng1 (wCons (wVar 6) wNil)) (gNm 10) wYes (wFz (wLc [11] (wRng1 (wCons (wVar 6) wNil)) (gNm 11) wYes (wBin wAdd (wBin wIx (wBin wIx (wVar 9) (wVar 10)) (wVar 11)) (wBin wIx (wBin wIx (wVar 2) (wVar 10)) (wVar 11))))))) wNil))) (wVar 3)))))))
    (wSeq (wFor (wRng1 (wCons (wBin wIx (wVar 0) (wC (.int 2))) wNil)) (gNm 8) (wSet 3 (wBin wAdd (wFz (wLst (wCons (wFz (wCallL sp_joined (wCons (wVar 5) (wCons (wBin wIx (wVar 3) (wC (.int 0))) wNil)))) wNil))) (wVar 3))))
    (wRet (wVar 3)))))))
theorem dv__law_rests (B : Bi mg) (c__law_joined : Ca P w K mg base 1 "_law_joined" ["first", "second"] (spL K sp_joined)) (c__law_any : Ca P w K mg base 1 "_law_any" ["inner"] (spL K sp_any)) {f : Addr} (cdv : Value) (A : Around) (outer : List Env) (s : Shared) (H : Hp) (E : XK) (hgd : (A.deeper (envOfC "_law_rests" (defScope s__law_rests) s.heap.objs.size f cdv)).guards = some []) (hr : Room 1 (A.deeper (envOfC "_law_rests" (defScope s__law_rests) s.heap.objs.size f cdv))) :
    XSs (cxOf CX0 P w K mg base ["rule", "inner", "same", "rests", "back", "table", "size", "signs", "turn", "rest", "begin", "end"] "_law_rests" (defScope s__law_rests) f cdv A outer s H E).nox (defBody s__law_rests) (W__law_rests) := by
  have nd := sc__law_rests.nd
  exact (xs_cons (xs_set (i := 3) nd rfl (Or.inl rfl) (xl_fz (xl_lst (xa_cons (xe_var 2) xa_nil))))
    (xs_cons (xs_if (xt_cmp (opr_eq hr.units) op2_eq (xe_ixR ix_seq op2_ix (xe_var 0) xe_int) xe_str) (xs_cons (xs_for PassesOwn.never rfl (xi_range1 rfl B.range (xa_cons (xe_callB call_lenA opn_len rfl B.len bb_len (xa_cons (xe_var 1) xa_nil)) xa_nil)) (xg_name (i := 4) nd rfl (Or.inl rfl)) (xs_one (xs_set (i := 3) nd rfl (Or.inl rfl) (xe_op opr_plus op2_plus (xl_fz (xl_lst (xa_cons (xl_fz (c_callL c__law_joined hgd hr (by omega) rfl (xa_cons (xe_ixR ix_seq op2_ix (xe_ixR ix_seq op2_ix (xe_var 1) (xe_op op_sub o_sub (xe_op op_sub o_sub (xe_callB call_lenA opn_len rfl B.len bb_len (xa_cons (xe_var 1) xa_nil)) xe_int) (xe_var 4))) xe_int) (xa_cons (xe_ixR ix_seq op2_ix (xe_var 3) xe_int) xa_nil)))) xa_nil))) (xe_var 3)))))
    (xs_one (xs_ret (xe_var 3)))) xs_nil)
    (xs_cons (xs_asgT (xe_tup (xa_cons (xe_ixR ix_seq op2_ix (xe_ixR ix_seq op2_ix (xe_var 1) xe_int) xe_int) (xa_cons (xe_callB call_lenA opn_len rfl B.len bb_len (xa_cons (xe_var 2) xa_nil)) xa_nil))) (xg_tup rfl (xgs_cons (xg_name (i := 5) nd rfl (by first | exact Or.inl rfl | exact Or.inr rfl)) (xgs_cons (xg_name (i := 6) nd rfl (by first | exact Or.inl rfl | exact Or.inr rfl)) xgs_nil))))
    (xs_cons (xs_if (xt_cmp op_isN op2_isN (xe_ixR ix_seq op2_ix (xe_var 0) xe_int) xe_non) (xs_one (xs_set (i := 3) nd rfl (Or.inl rfl) (xl_fz (xl_lst (xa_cons (xl_fz (c_callL c__law_any hgd hr (by omega) rfl (xa_cons (xe_var 5) xa_nil))) xa_nil))))) (xs_cons (xs_setLc (i := 7) (own := [(("begin" : Str), 10)]) rfl nd rfl rfl (sw_true rfl rfl rfl (by decide +kernel)) (xi_range1 rfl B.range (xa_cons (xe_var 6) xa_nil)) (blkOk_by (N := ["rule", "inner", "same", "rests", "back", "table", "size", "signs", "turn", "rest", "begin", "end"]) (sc := (defScope s__law_rests)) (by decide +kernel)) (by decide) (fun _ _ _ _ _ => (xg_name (i := 10) nd rfl (by first | exact Or.inl rfl | exact Or.inr rfl))) (fun _ _ _ _ _ => xts_nil) (fun _ _ _ _ _ => (xl_fz (xl_lc (own := [(("end" : Str), 11)]) rfl nd (xi_range1 rfl B.range (xa_cons (xe_var 6) xa_nil)) (blkOk_by (by kernel_rfl)) (by decide) (fun _ _ _ _ _ => (xg_name (i := 11) nd rfl (Or.inl rfl))) (fun _ _ _ _ _ => xts_nil) (fun _ _ _ _ _ => (xe_op op_mulW o_mulW (xe_ixR ix_seq op2_ix (xe_ixR ix_seq op2_ix (xe_var 5) (xe_var 10)) (xe_var 11)) (xe_callTy call_int1 opn_int rfl B.int bb_int (xa_cons (xe_cmp (opr_ne hr.units) op2_ne (xe_var 10) (xe_var 11)) xa_nil))))))))
    (xs_one (xs_for PassesOwn.never rfl (xi_range1 rfl B.range (xa_cons (xe_op op_sub o_sub (xe_ixR ix_seq op2_ix (xe_var 0) xe_int) (xe_ixR ix_seq op2_ix (xe_var 0) xe_int)) xa_nil)) (xg_name (i := 8) nd rfl (Or.inl rfl)) (xs_cons (xs_set (i := 9) nd rfl (Or.inr rfl) (xl_fz (c_callL c__law_joined hgd hr (by omega) rfl (xa_cons (xe_var 7) (xa_cons (xe_ixR ix_seq op2_ix (xe_var 3) xe_int) xa_nil)))))
    (xs_one (xs_set (i := 3) nd rfl (Or.inl rfl) (xe_op opr_plus op2_plus (xl_fz (xl_lst (xa_cons (xl_fz (xl_lc (own := [(("begin" : Str), 10)]) rfl nd (xi_range1 rfl B.range (xa_cons (xe_var 6) xa_nil)) (blkOk_by (N := ["rule", "inner", "same", "rests", "back", "table", "size", "signs", "turn", "rest", "begin", "end"]) (sc := (defScope s__law_rests)) (by decide +kernel)) (by decide) (fun _ _ _ _ _ => (xg_name (i := 10) nd rfl (by first | exact Or.inl rfl | exact Or.inr rfl))) (fun _ _ _ _ _ => xts_nil) (fun _ _ _ _ _ => (xl_fz (xl_lc (own := [(("end" : Str), 11)]) rfl nd (xi_range1 rfl B.range (xa_cons (xe_var 6) xa_nil)) (blkOk_by (by kernel_rfl)) (by decide) (fun _ _ _ _ _ => (xg_name (i := 11) nd rfl (Or.inl rfl))) (fun _ _ _ _ _ => xts_nil) (fun _ _ _ _ _ => (xe_op opr_plus op2_plus (xe_ixR ix_seq op2_ix (xe_ixR ix_seq op2_ix (xe_var 9) (xe_var 10)) (xe_var 11)) (xe_ixR ix_seq op2_ix (xe_ixR ix_seq op2_ix (xe_var 2) (xe_var 10)) (xe_var 11))))))))) xa_nil))) (xe_var 3)))))))))
    (xs_cons (xs_for PassesOwn.never rfl (xi_range1 rfl B.range (xa_cons (xe_ixR ix_seq op2_ix (xe_var 0) xe_int) xa_nil)) (xg_name (i := 8) nd rfl (Or.inl rfl)) (xs_one (xs_set (i := 3) nd rfl (Or.inl rfl) (xe_op opr_plus op2_plus (xl_fz (xl_lst (xa_cons (xl_fz (c_callL c__law_joined hgd hr (by omega) rfl (xa_cons (xe_var 5) (xa_cons (xe_ixR ix_seq op2_ix (xe_var 3) xe_int) xa_nil)))) xa_nil))) (xe_var 3)))))
    (xs_one (xs_ret (xe_var 3))))))))
abbrev s__law_tree : Stmt := topS 29
theorem sc__law_tree : FnScope ["rule", "word", "kind", "size", "inner", "found", "rests", "one", "table", "begin", "end"] ["rule", "word"] (defScope s__law_tree) := ⟨rfl, rfl, rfl, by decide +kernel, rfl, by decide +kernel, by decide +kernel⟩
def W__law_tree (rc : DSp) : DS := (wSeq (wAsgT (wTup (wCons (wBin wIx (wVar 0) (wC (.int 0))) (wCons (wBin wAdd (wCB (wN1 gLen) (wCons (wVar 1) wNil)) (wC (.int 1))) (wCons (wFz (wLst wNil)) wNil)))) (gTp 3 (gCs (gNm 2) (gCs (gNm 3) (gCs (gNm 4) gNl)))))
    (wSeq (wIfS (wTst (wBin (wIn false) (wVar 2) (wFz (wLst (wCons (wC (.str ("row" : Str))) (wCons (wC (.str ("either" : Str))) (wCons (wC (.str ("both" : Str))) wNil))))))) (wSet 4 (wFz (wLc [7] (wIt (wBin wIx (wVar 0) (wC (.int 1)))) (gNm 7) wYes (wCall rc (wCons (wVar 7) (wCons (wVar 1) wNil)))))) wNext)
    (wSeq (wIfS (wTst (wBin (wIn false) (wVar 2) (wFz (wLst (wCons (wC (.str ("not" : Str))) (wCons (wC (.str ("times" : Str))) wNil)))))) (wSet 4 (wFz (wLst (wCons (wCall rc (wCons (wBin wIx (wVar 0) (wC (.int 1))) (wCons (wVar 1) wNil))) wNil)))) wNext)
    (wSeq (wSet 5 (wFz (wLc [9] (wRng1 (wCons (wVar 3) wNil)) (gNm 9) wYes (wFz (wLc [10] (wRng1 (wCons (wVar 3) wNil)) (gNm 10) wYes (wCB (wN1 gInt) (wCons (wBin (wEq false) (wVar 9) (wVar 10)) wNil)))))))
    (wSeq (wIfS (wTst (wBin (wIn false) (wVar 2) (wFz (wLst (wCons (wC (.str ("row" : Str))) (wCons (wC (.str ("times" : Str))) wNil)))))) (wSeq (wSet 6 (wCall sp_rests (wCons (wVar 0) (wCons (wVar 4) (wCons (wVar 5) wNil)))))
    (wRet (wTup (wCons (wVar 0) (wCons (wBin wIx (wVar 6) (wC (.int 0))) (wCons (wVar 4) (wCons (wVar 6) wNil))))))) wNext)
    (wSeq (wIfS (wTst (wBin (wEq false) (wVar 2) (wC (.str ("one" : Str))))) (wSet 5 (wFz (wLc [9] (wRng1 (wCons (wVar 3) wNil)) (gNm 9) wYes (wFz (wLc [10] (wRng1 (wCons (wVar 3) wNil)) (gNm 10) wYes (wCB (wN1 gInt) (wCons (wAndV (wBin (wEq false) (wVar 10) (wBin wAdd (wVar 9) (wC (.int 1)))) (wBin (wIn false) (wSl (wVar 1) (wPart (wVar 9)) (wPart (wVar 10))) (wBin wIx (wVar 0) (wC (.int 1))))) wNil))))))) (wIfS (wTst (wBin (wEq true) (wVar 2) (wC (.str ("empty" : Str))))) (wSet 5 (wFz (wLc [9] (wRng1 (wCons (wVar 3) wNil)) (gNm 9) wYes (wFz (wLc [10] (wRng1 (wCons (wVar 3) wNil)) (gNm 10) wYes (wCB (wN1 gInt) (wCons (wAndV (wBin (wEq false) (wVar 2) (wC (.str ("both" : Str)))) (wBin wLe (wVar 9) (wVar 10))) wNil))))))) wNext))
    (wSeq (wFor (wIt (wVar 4)) (gNm 7) (wSeq (wSet 8 (wBin wIx (wVar 7) (wC (.int 1))))
    (wIfS (wTst (wBin (wEq false) (wVar 2) (wC (.str ("not" : Str))))) (wSet 5 (wFz (wLc [9] (wRng1 (wCons (wVar 3) wNil)) (gNm 9) wYes (wFz (wLc [10] (wRng1 (wCons (wVar 3) wNil)) (gNm 10) wYes (wCB (wN1 gInt) (wCons (wAndV (wBin wLe (wVar 9) (wVar 10)) (wBin (wEq false) (wBin wIx (wBin wIx (wVar 8) (wVar 9)) (wVar 10)) (wC (.int 0)))) wNil))))))) (wIfS (wTst (wBin (wEq false) (wVar 2) (wC (.str ("both" : Str))))) (wSet 5 (wFz (wLc [9] (wRng1 (wCons (wVar 3) wNil)) (gNm 9) wYes (wFz (wLc [10] (wRng1 (wCons (wVar 3) wNil)) (gNm 10) wYes (wBin wMulW (wBin wIx (wBin wIx (wVar 5) (wVar 9)) (wVar 10)) (wBin wIx (wBin wIx (wVar 8) (wVar 9)) (wVar 10)))))))) (wSet 5 (wFz (wLc [9] (wRng1 (wCons (wVar 3) wNil)) (gNm 9) wYes (wFz (wLc [10] (wRng1 (wCons (wVar 3) wNil)) (gNm 10) wYes (wBin wAdd (wBin wIx (wBin wIx (wVar 5) (wVar 9)) (wVar 10)) (wBin wIx (wBin wIx (wVar 8) (wVar 9)) (wVar 10))))))))))))
    (wRet (wTup (wCons (wVar 0) (wCons (wVar 5) (wCons (wVar 4) (wCons (wFz (wLst wNil)) wNil)))))))))))))
theorem dv__law_tree {rc : DSp} {l : Nat} (hl : l ≤ k) (hk : 2 ≤ k) (B : Bi mg) (c__law_rests : Ca P w K mg base 2 "_law_rests" ["rule", "inner", "same"] (spD K sp_rests)) (c__law_tree : Ca P w K mg base l "_law_tree" ["rule", "word"] (spD K rc)) {f : Addr} (cdv : Value) (A : Around) (outer : List Env) (s : Shared) (H : Hp) (E : XK) (hgd : (A.deeper (envOfC "_law_tree" (defScope s__law_tree) s.heap.objs.size f cdv)).guards = some []) (hr : Room k (A.deeper (envOfC "_law_tree" (defScope s__law_tree) s.heap.objs.size f cdv))) :
    XSs (cxOf CX0 P w K mg base ["rule", "word", "kind", "size", "inner", "found", "rests", "one", "table", "begin", "end"] "_law_tree" (defScope s__law_tree) f cdv A outer s H E).nox (defBody s__law_tree) (W__law_tree rc) := by
  have nd := sc__law_tree.nd
  exact (xs_cons (xs_asgT (xe_tup (xa_cons (xe_ixR ix_seq op2_ix (xe_var 0) xe_int) (xa_cons (xe_op opr_plus op2_plus (xe_callB call_lenA opn_len rfl B.len bb_len (xa_cons (xe_var 1) xa_nil)) xe_int) (xa_cons (xl_fz (xl_lst xa_nil)) xa_nil)))) (xg_tup rfl (xgs_cons (xg_name (i := 2) nd rfl (by first | exact Or.inl rfl | exact Or.inr rfl)) (xgs_cons (xg_name (i := 3) nd rfl (by first | exact Or.inl rfl | exact Or.inr rfl)) (xgs_cons (xg_name (i := 4) nd rfl (Or.inl rfl)) xgs_nil)))))
    (xs_cons (xs_if (xt_cmp opr_in op2_in (xe_var 2) (xl_fz (xl_lst (xa_cons xe_str (xa_cons xe_str (xa_cons xe_str xa_nil)))))) (xs_one (xs_setLc (i := 4) (own := [(("one" : Str), 7)]) rfl nd rfl rfl (sw_true rfl rfl rfl (by decide +kernel)) (xi_any (xe_ixR ix_seq op2_ix (xe_var 0) xe_int)) (blkOk_by (N := ["rule", "word", "kind", "size", "inner", "found", "rests", "one", "table", "begin", "end"]) (sc := (defScope s__law_tree)) (by decide +kernel)) (by decide) (fun _ _ _ _ _ => (xg_name (i := 7) nd rfl (Or.inl rfl))) (fun _ _ _ _ _ => xts_nil) (fun _ _ _ _ _ => (c_call c__law_tree hgd hr (by omega) rfl (xa_cons (xe_var 7) (xa_cons (xe_var 1) xa_nil)))))) xs_nil)
    (xs_cons (xs_if (xt_cmp opr_in op2_in (xe_var 2) (xl_fz (xl_lst (xa_cons xe_str (xa_cons xe_str xa_nil))))) (xs_one (xs_set (i := 4) nd rfl (Or.inl rfl) (xl_fz (xl_lst (xa_cons (c_call c__law_tree hgd hr (by omega) rfl (xa_cons (xe_ixR ix_seq op2_ix (xe_var 0) xe_int) (xa_cons (xe_var 1) xa_nil))) xa_nil))))) xs_nil)
    (xs_cons (xs_set (i := 5) nd rfl (Or.inr rfl) (xl_fz (xl_lc (own := [(("begin" : Str), 9)]) rfl nd (xi_range1 rfl B.range (xa_cons (xe_var 3) xa_nil)) (blkOk_by (N := ["rule", "word", "kind", "size", "inner", "found", "rests", "one", "table", "begin", "end"]) (sc := (defScope s__law_tree)) (by decide +kernel)) (by decide) (fun _ _ _ _ _ => (xg_name (i := 9) nd rfl (by first | exact Or.inl rfl | exact Or.inr rfl))) (fun _ _ _ _ _ => xts_nil) (fun _ _ _ _ _ => (xl_fz (xl_lc (own := [(("end" : Str), 10)]) rfl nd (xi_range1 rfl B.range (xa_cons (xe_var 3) xa_nil)) (blkOk_by (by kernel_rfl)) (by decide) (fun _ _ _ _ _ => (xg_name (i := 10) nd rfl (Or.inl rfl))) (fun _ _ _ _ _ => xts_nil) (fun _ _ _ _ _ => (xe_callTy call_int1 opn_int rfl B.int bb_int (xa_cons (xe_cmp (opr_eq hr.units) op2_eq (xe_var 9) (xe_var 10)) xa_nil)))))))))
    (xs_cons (xs_if (xt_cmp opr_in op2_in (xe_var 2) (xl_fz (xl_lst (xa_cons xe_str (xa_cons xe_str xa_nil))))) (xs_cons (xs_set (i := 6) nd rfl (Or.inl rfl) (c_call c__law_rests hgd hr (by omega) rfl (xa_cons (xe_var 0) (xa_cons (xe_var 4) (xa_cons (xe_var 5) xa_nil)))))
    (xs_one (xs_ret (xe_tup (xa_cons (xe_var 0) (xa_cons (xe_ixR ix_seq op2_ix (xe_var 6) xe_int) (xa_cons (xe_var 4) (xa_cons (xe_var 6) xa_nil)))))))) xs_nil)
    (xs_cons (xs_if (xt_cmp (opr_eq hr.units) op2_eq (xe_var 2) xe_str) (xs_one (xs_set (i := 5) nd rfl (Or.inr rfl) (xl_fz (xl_lc (own := [(("begin" : Str), 9)]) rfl nd (xi_range1 rfl B.range (xa_cons (xe_var 3) xa_nil)) (blkOk_by (N := ["rule", "word", "kind", "size", "inner", "found", "rests", "one", "table", "begin", "end"]) (sc := (defScope s__law_tree)) (by decide +kernel)) (by decide) (fun _ _ _ _ _ => (xg_name (i := 9) nd rfl (by first | exact Or.inl rfl | exact Or.inr rfl))) (fun _ _ _ _ _ => xts_nil) (fun _ _ _ _ _ => (xl_fz (xl_lc (own := [(("end" : Str), 10)]) rfl nd (xi_range1 rfl B.range (xa_cons (xe_var 3) xa_nil)) (blkOk_by (by kernel_rfl)) (by decide) (fun _ _ _ _ _ => (xg_name (i := 10) nd rfl (Or.inl rfl))) (fun _ _ _ _ _ => xts_nil) (fun _ _ _ _ _ => (xe_callTy call_int1 opn_int rfl B.int bb_int (xa_cons (xe_and (xe_cmp (opr_eq hr.units) op2_eq (xe_var 10) (xe_op opr_plus op2_plus (xe_var 9) xe_int)) (xe_one (xe_cmp opr_in op2_in (xe_slice (xe_var 1) (xo_some (xe_var 9)) (xo_some (xe_var 10))) (xe_ixR ix_seq op2_ix (xe_var 0) xe_int)))) xa_nil)))))))))) (xs_one (xs_if (xt_cmp (opr_ne hr.units) op2_ne (xe_var 2) xe_str) (xs_one (xs_set (i := 5) nd rfl (Or.inr rfl) (xl_fz (xl_lc (own := [(("begin" : Str), 9)]) rfl nd (xi_range1 rfl B.range (xa_cons (xe_var 3) xa_nil)) (blkOk_by (N := ["rule", "word", "kind", "size", "inner", "found", "rests", "one", "table", "begin", "end"]) (sc := (defScope s__law_tree)) (by decide +kernel)) (by decide) (fun _ _ _ _ _ => (xg_name (i := 9) nd rfl (by first | exact Or.inl rfl | exact Or.inr rfl))) (fun _ _ _ _ _ => xts_nil) (fun _ _ _ _ _ => (xl_fz (xl_lc (own := [(("end" : Str), 10)]) rfl nd (xi_range1 rfl B.range (xa_cons (xe_var 3) xa_nil)) (blkOk_by (by kernel_rfl)) (by decide) (fun _ _ _ _ _ => (xg_name (i := 10) nd rfl (Or.inl rfl))) (fun _ _ _ _ _ => xts_nil) (fun _ _ _ _ _ => (xe_callTy call_int1 opn_int rfl B.int bb_int (xa_cons (xe_and (xe_cmp (opr_eq hr.units) op2_eq (xe_var 2) xe_str) (xe_one (xe_cmp op_le o_le (xe_var 9) (xe_var 10)))) xa_nil)))))))))) xs_nil)))
    (xs_cons (xs_for PassesOwn.never rfl (xi_any (xe_var 4)) (xg_name (i := 7) nd rfl (Or.inl rfl)) (xs_cons (xs_set (i := 8) nd rfl (Or.inr rfl) (xe_ixR ix_seq op2_ix (xe_var 7) xe_int))
    (xs_one (xs_if (xt_cmp (opr_eq hr.units) op2_eq (xe_var 2) xe_str) (xs_one (xs_set (i := 5) nd rfl (Or.inr rfl) (xl_fz (xl_lc (own := [(("begin" : Str), 9)]) rfl nd (xi_range1 rfl B.range (xa_cons (xe_var 3) xa_nil)) (blkOk_by (N := ["rule", "word", "kind", "size", "inner", "found", "rests", "one", "table", "begin", "end"]) (sc := (defScope s__law_tree)) (by decide +kernel)) (by decide) (fun _ _ _ _ _ => (xg_name (i := 9) nd rfl (by first | exact Or.inl rfl | exact Or.inr rfl))) (fun _ _ _ _ _ => xts_nil) (fun _ _ _ _ _ => (xl_fz (xl_lc (own := [(("end" : Str), 10)]) rfl nd (xi_range1 rfl B.range (xa_cons (xe_var 3) xa_nil)) (blkOk_by (by kernel_rfl)) (by decide) (fun _ _ _ _ _ => (xg_name (i := 10) nd rfl (Or.inl rfl))) (fun _ _ _ _ _ => xts_nil) (fun _ _ _ _ _ => (xe_callTy call_int1 opn_int rfl B.int bb_int (xa_cons (xe_and (xe_cmp op_le o_le (xe_var 9) (xe_var 10)) (xe_one (xe_cmp (opr_eq hr.units) op2_eq (xe_ixR ix_seq op2_ix (xe_ixR ix_seq op2_ix (xe_var 8) (xe_var 9)) (xe_var 10)) xe_int))) xa_nil)))))))))) (xs_one (xs_if (xt_cmp (opr_eq hr.units) op2_eq (xe_var 2) xe_str) (xs_one (xs_set (i := 5) nd rfl (Or.inr rfl) (xl_fz (xl_lc (own := [(("begin" : Str), 9)]) rfl nd (xi_range1 rfl B.range (xa_cons (xe_var 3) xa_nil)) (blkOk_by (N := ["rule", "word", "kind", "size", "inner", "found", "rests", "one", "table", "begin", "end"]) (sc := (defScope s__law_tree)) (by decide +kernel)) (by decide) (fun _ _ _ _ _ => (xg_name (i := 9) nd rfl (by first | exact Or.inl rfl | exact Or.inr rfl))) (fun _ _ _ _ _ => xts_nil) (fun _ _ _ _ _ => (xl_fz (xl_lc (own := [(("end" : Str), 10)]) rfl nd (xi_range1 rfl B.range (xa_cons (xe_var 3) xa_nil)) (blkOk_by (by kernel_rfl)) (by decide) (fun _ _ _ _ _ => (xg_name (i := 10) nd rfl (Or.inl rfl))) (fun _ _ _ _ _ => xts_nil) (fun _ _ _ _ _ => (xe_op op_mulW o_mulW (xe_ixR ix_seq op2_ix (xe_ixR ix_seq op2_ix (xe_var 5) (xe_var 9)) (xe_var 10)) (xe_ixR ix_seq op2_ix (xe_ixR ix_seq op2_ix (xe_var 8) (xe_var 9)) (xe_var 10))))))))))) (xs_one (xs_set (i := 5) nd rfl (Or.inr rfl) (xl_fz (xl_lc (own := [(("begin" : Str), 9)]) rfl nd (xi_range1 rfl B.range (xa_cons (xe_var 3) xa_nil)) (blkOk_by (N := ["rule", "word", "kind", "size", "inner", "found", "rests", "one", "table", "begin", "end"]) (sc := (defScope s__law_tree)) (by decide +kernel)) (by decide) (fun _ _ _ _ _ => (xg_name (i := 9) nd rfl (by first | exact Or.inl rfl | exact Or.inr rfl))) (fun _ _ _ _ _ => xts_nil) (fun _ _ _ _ _ => (xl_fz (xl_lc (own := [(("end" : Str), 10)]) rfl nd (xi_range1 rfl B.range (xa_cons (xe_var 3) xa_nil)) (blkOk_by (by kernel_rfl)) (by decide) (fun _ _ _ _ _ => (xg_name (i := 10) nd rfl (Or.inl rfl))) (fun _ _ _ _ _ => xts_nil) (fun _ _ _ _ _ => (xe_op opr_plus op2_plus (xe_ixR ix_seq op2_ix (xe_ixR ix_seq op2_ix (xe_var 5) (xe_var 9)) (xe_var 10)) (xe_ixR ix_seq op2_ix (xe_ixR ix_seq op2_ix (xe_var 8) (xe_var 9)) (xe_var 10)))))))))))))))))
    (xs_one (xs_ret (xe_tup (xa_cons (xe_var 0) (xa_cons (xe_var 5) (xa_cons (xe_var 4) (xa_cons (xl_fz (xl_lst xa_nil)) xa_nil))))))))))))))
abbrev s__law_down : Stmt := topS 31
theorem sc__law_down : FnScope ["pool", "letters", "rule", "kind", "most", "turns", "k", "one"] ["pool", "letters", "rule"] (defScope s__law_down) := ⟨rfl, rfl, rfl, by decide +kernel, rfl, by decide +kernel, by decide +kernel⟩
def W__law_down (rc : DSpP) : DS := (wSeq (wSet 3 (wBin wIx (wVar 2) (wC (.int 0))))
    (wSeq (wIfS (wTst (wBin (wEq false) (wVar 3) (wC (.str ("one" : Str))))) (wRet (wBin wIx (wBin wIx (wVar 2) (wC (.int 1))) (wCallP 0 sp_pick (wCons (wCB (wN1 gLen) (wCons (wBin wIx (wVar 2) (wC (.int 1))) wNil)) wNil)))) wNext)
    (wSeq (wIfS (wTst (wBin (wEq false) (wVar 3) (wC (.str ("row" : Str))))) (wRet (wJoin (wC (.str ("" : Str))) (wFz (wLc [7] (wIt (wBin wIx (wVar 2) (wC (.int 1)))) (gNm 7) wYes (wCallP 0 rc (wCons (wVar 1) (wCons (wVar 7) wNil))))))) wNext)
    (wSeq (wIfS (wTst (wBin (wIn false) (wVar 3) (wFz (wLst (wCons (wC (.str ("either" : Str))) (wCons (wC (.str ("both" : Str))) wNil)))))) (wRet (wCallP 0 rc (wCons (wVar 1) (wCons (wBin wIx (wBin wIx (wVar 2) (wC (.int 1))) (wCallP 0 sp_pick (wCons (wCB (wN1 gLen) (wCons (wBin wIx (wVar 2) (wC (.int 1))) wNil)) wNil))) wNil)))) wNext)
    (wSeq (wIfS (wTst (wBin (wEq false) (wVar 3) (wC (.str ("times" : Str))))) (wSeq (wSet 4 (wBin wAdd (wBin wIx (wVar 2) (wC (.int 2))) (wC (.int 3))))
    (wSeq (wIfS (wTst (wBin (wIsN true) (wBin wIx (wVar 2) (wC (.int 3))) (wC .none))) (wSet 4 (wBin wIx (wVar 2) (wC (.int 3)))) wNext)
    (wSeq (wSet 5 (wBin wAdd (wBin wIx (wVar 2) (wC (.int 2))) (wCallP 0 sp_pick (wCons (wBin wSub (wBin wAdd (wC (.int 1)) (wVar 4)) (wBin wIx (wVar 2) (wC (.int 2)))) wNil))))
    (wRet (wJoin (wC (.str ("" : Str))) (wFz (wLc [6] (wRng1 (wCons (wVar 5) wNil)) (gNm 6) wYes (wCallP 0 rc (wCons (wVar 1) (wCons (wBin wIx (wVar 2) (wC (.int 1))) wNil)))))))))) wNext)
    (wSeq (wIfS (wTst (wBin (wEq false) (wVar 3) (wC (.str ("not" : Str))))) (wRet (wJoin (wC (.str ("" : Str))) (wFz (wLc [6] (wRng1 (wCons (wCallP 0 sp_pick (wCons (wC (.int 5)) wNil)) wNil)) (gNm 6) wYes (wBin wIx (wVar 1) (wCallP 0 sp_pick (wCons (wCB (wN1 gLen) (wCons (wVar 1) wNil)) wNil))))))) wNext)
    (wRet (wC (.str ("" : Str))))))))))
theorem dv__law_down {rc : DSpP} {l : Nat} (hl : l ≤ k) (hk : 2 ≤ k) (B : Bi mg) (c__law_pick : Ca P w K mg base 1 "_law_pick" ["pool", "many"] (spP K sp_pick)) (c__law_down : Ca P w K mg base l "_law_down" ["pool", "letters", "rule"] (spP K rc)) {f : Addr} (cdv : Value) (A : Around) (outer : List Env) (s : Shared) (H : Hp) (E : XK) (hgd : (A.deeper (envOfC "_law_down" (defScope s__law_down) s.heap.objs.size f cdv)).guards = some []) (hr : Room k (A.deeper (envOfC "_law_down" (defScope s__law_down) s.heap.objs.size f cdv))) :
    XSs (cxOf CX0 P w K mg base ["pool", "letters", "rule", "kind", "most", "turns", "k", "one"] "_law_down" (defScope s__law_down) f cdv A outer s H E).nox (defBody s__law_down) (W__law_down rc) := by
  have nd := sc__law_down.nd
  exact (xs_cons (xs_set (i := 3) nd rfl (Or.inl rfl) (xe_ixR ix_seq op2_ix (xe_var 2) xe_int))
    (xs_cons (xs_if (xt_cmp (opr_eq hr.units) op2_eq (xe_var 3) xe_str) (xs_one (xs_ret (xe_ixR ix_seq op2_ix (xe_ixR ix_seq op2_ix (xe_var 2) xe_int) (c_callP (i := 0) c__law_pick hgd hr (by omega) rfl (pv 0) (xa_cons (xe_callB call_lenA opn_len rfl B.len bb_len (xa_cons (xe_ixR ix_seq op2_ix (xe_var 2) xe_int) xa_nil)) xa_nil))))) xs_nil)
    (xs_cons (xs_if (xt_cmp (opr_eq hr.units) op2_eq (xe_var 3) xe_str) (xs_one (xs_ret (xe_join xe_str (xl_fz (xl_lc (own := [(("one" : Str), 7)]) rfl nd (xi_any (xe_ixR ix_seq op2_ix (xe_var 2) xe_int)) (blkOk_by (N := ["pool", "letters", "rule", "kind", "most", "turns", "k", "one"]) (sc := (defScope s__law_down)) (by decide +kernel)) (by decide) (fun _ _ _ _ _ => (xg_name (i := 7) nd rfl (Or.inl rfl))) (fun _ _ _ _ _ => xts_nil) (fun _ _ _ _ _ => (c_callP (i := 0) c__law_down hgd hr (by omega) rfl (pv 0) (xa_cons (xe_var 1) (xa_cons (xe_var 7) xa_nil))))))))) xs_nil)
    (xs_cons (xs_if (xt_cmp opr_in op2_in (xe_var 3) (xl_fz (xl_lst (xa_cons xe_str (xa_cons xe_str xa_nil))))) (xs_one (xs_ret (c_callP (i := 0) c__law_down hgd hr (by omega) rfl (pv 0) (xa_cons (xe_var 1) (xa_cons (xe_ixR ix_seq op2_ix (xe_ixR ix_seq op2_ix (xe_var 2) xe_int) (c_callP (i := 0) c__law_pick hgd hr (by omega) rfl (pv 0) (xa_cons (xe_callB call_lenA opn_len rfl B.len bb_len (xa_cons (xe_ixR ix_seq op2_ix (xe_var 2) xe_int) xa_nil)) xa_nil))) xa_nil))))) xs_nil)
    (xs_cons (xs_if (xt_cmp (opr_eq hr.units) op2_eq (xe_var 3) xe_str) (xs_cons (xs_set (i := 4) nd rfl (Or.inl rfl) (xe_op opr_plus op2_plus (xe_ixR ix_seq op2_ix (xe_var 2) xe_int) xe_int))
    (xs_cons (xs_if (xt_cmp op_notN op2_notN (xe_ixR ix_seq op2_ix (xe_var 2) xe_int) xe_non) (xs_one (xs_set (i := 4) nd rfl (Or.inl rfl) (xe_ixR ix_seq op2_ix (xe_var 2) xe_int))) xs_nil)
    (xs_cons (xs_set (i := 5) nd rfl (Or.inl rfl) (xe_op opr_plus op2_plus (xe_ixR ix_seq op2_ix (xe_var 2) xe_int) (c_callP (i := 0) c__law_pick hgd hr (by omega) rfl (pv 0) (xa_cons (xe_op op_sub o_sub (xe_op opr_plus op2_plus xe_int (xe_var 4)) (xe_ixR ix_seq op2_ix (xe_var 2) xe_int)) xa_nil))))
    (xs_one (xs_ret (xe_join xe_str (xl_fz (xl_lc (own := [(("k" : Str), 6)]) rfl nd (xi_range1 rfl B.range (xa_cons (xe_var 5) xa_nil)) (blkOk_by (N := ["pool", "letters", "rule", "kind", "most", "turns", "k", "one"]) (sc := (defScope s__law_down)) (by decide +kernel)) (by decide) (fun _ _ _ _ _ => (xg_name (i := 6) nd rfl (Or.inl rfl))) (fun _ _ _ _ _ => xts_nil) (fun _ _ _ _ _ => (c_callP (i := 0) c__law_down hgd hr (by omega) rfl (pv 0) (xa_cons (xe_var 1) (xa_cons (xe_ixR ix_seq op2_ix (xe_var 2) xe_int) xa_nil)))))))))))) xs_nil)
    (xs_cons (xs_if (xt_cmp (opr_eq hr.units) op2_eq (xe_var 3) xe_str) (xs_one (xs_ret (xe_join xe_str (xl_fz (xl_lc (own := [(("k" : Str), 6)]) rfl nd (xi_range1 rfl B.range (xa_cons (c_callP (i := 0) c__law_pick hgd hr (by omega) rfl (pv 0) (xa_cons xe_int xa_nil)) xa_nil)) (blkOk_by (N := ["pool", "letters", "rule", "kind", "most", "turns", "k", "one"]) (sc := (defScope s__law_down)) (by decide +kernel)) (by decide) (fun _ _ _ _ _ => (xg_name (i := 6) nd rfl (Or.inl rfl))) (fun _ _ _ _ _ => xts_nil) (fun _ _ _ _ _ => (xe_ixR ix_seq op2_ix (xe_var 1) (c_callP (i := 0) c__law_pick hgd hr (by omega) rfl (pv 0) (xa_cons (xe_callB call_lenA opn_len rfl B.len bb_len (xa_cons (xe_var 1) xa_nil)) xa_nil))))))))) xs_nil)
    (xs_one (xs_ret xe_str))))))))
abbrev s__law_near : Stmt := topS 32
theorem sc__law_near : FnScope ["pool", "letters", "word", "at", "sign"] ["pool", "letters", "word"] (defScope s__law_near) := ⟨rfl, rfl, rfl, by decide +kernel, rfl, by decide +kernel, by decide +kernel⟩
def W__law_near : DS := (wSeq (wSet 3 (wBin wMod (wCB (wN1 gInt) (wCons (wCallP 0 sp_pick (wCons (wC (.int 60)) wNil)) wNil)) (wBin wAdd (wCB (wN1 gLen) (wCons (wVar 2) wNil)) (wC (.int 1)))))
    (wSeq (wSet 4 (wBin wIx (wVar 1) (wCallP 0 sp_pick (wCons (wCB (wN1 gLen) (wCons (wVar 1) wNil)) wNil))))
    (wRet (wBin wIx (wFz (wLst (wCons (wBin wAdd (wBin wAdd (wSl (wVar 2) wNoP (wPart (wVar 3))) (wVar 4)) (wSl (wVar 2) (wPart (wBin wAdd (wVar 3) (wC (.int 1)))) wNoP)) (wCons (wBin wAdd (wSl (wVar 2) wNoP (wPart (wVar 3))) (wSl (wVar 2) (wPart (wBin wAdd (wVar 3) (wC (.int 1)))) wNoP)) (wCons (wBin wAdd (wBin wAdd (wSl (wVar 2) wNoP (wPart (wVar 3))) (wVar 4)) (wSl (wVar 2) (wPart (wVar 3)) wNoP)) wNil))))) (wCallP 0 sp_pick (wCons (wC (.int 3)) wNil))))))
theorem dv__law_near (B : Bi mg) (c__law_pick : Ca P w K mg base 1 "_law_pick" ["pool", "many"] (spP K sp_pick)) {f : Addr} (cdv : Value) (A : Around) (outer : List Env) (s : Shared) (H : Hp) (E : XK) (hgd : (A.deeper (envOfC "_law_near" (defScope s__law_near) s.heap.objs.size f cdv)).guards = some []) (hr : Room 1 (A.deeper (envOfC "_law_near" (defScope s__law_near) s.heap.objs.size f cdv))) :
    XSs (cxOf CX0 P w K mg base ["pool", "letters", "word", "at", "sign"] "_law_near" (defScope s__law_near) f cdv A outer s H E).nox (defBody s__law_near) (W__law_near) := by
  have nd := sc__law_near.nd
  exact (xs_cons (xs_set (i := 3) nd rfl (Or.inl rfl) (xe_op op_mod o_mod (xe_callTy call_int1 opn_int rfl B.int bb_int (xa_cons (c_callP (i := 0) c__law_pick hgd hr (by omega) rfl (pv 0) (xa_cons xe_int xa_nil)) xa_nil)) (xe_op opr_plus op2_plus (xe_callB call_lenA opn_len rfl B.len bb_len (xa_cons (xe_var 2) xa_nil)) xe_int)))
    (xs_cons (xs_set (i := 4) nd rfl (Or.inl rfl) (xe_ixR ix_seq op2_ix (xe_var 1) (c_callP (i := 0) c__law_pick hgd hr (by omega) rfl (pv 0) (xa_cons (xe_callB call_lenA opn_len rfl B.len bb_len (xa_cons (xe_var 1) xa_nil)) xa_nil))))
    (xs_one (xs_ret (xe_ixR ix_seq op2_ix (xl_fz (xl_lst (xa_cons (xe_op opr_plus op2_plus (xe_op opr_plus op2_plus (xe_slice (xe_var 2) xo_none (xo_some (xe_var 3))) (xe_var 4)) (xe_slice (xe_var 2) (xo_some (xe_op opr_plus op2_plus (xe_var 3) xe_int)) xo_none)) (xa_cons (xe_op opr_plus op2_plus (xe_slice (xe_var 2) xo_none (xo_some (xe_var 3))) (xe_slice (xe_var 2) (xo_some (xe_op opr_plus op2_plus (xe_var 3) xe_int)) xo_none)) (xa_cons (xe_op opr_plus op2_plus (xe_op opr_plus op2_plus (xe_slice (xe_var 2) xo_none (xo_some (xe_var 3))) (xe_var 4)) (xe_slice (xe_var 2) (xo_some (xe_var 3)) xo_none)) xa_nil))))) (c_callP (i := 0) c__law_pick hgd hr (by omega) rfl (pv 0) (xa_cons xe_int xa_nil)))))))
abbrev s__law_nested : Stmt := topS 33
theorem sc__law_nested : FnScope ["pool", "letters", "rule", "most", "turn", "low", "high"] ["pool", "letters"] (defScope s__law_nested) := ⟨rfl, rfl, rfl, by decide +kernel, rfl, by decide +kernel, by decide +kernel⟩
def W__law_nested : DS := (wSeq (wPar 2 3 (wCons (wTup (wCons (wC (.str ("either" : Str))) (wCons (wFz (wLst (wCons (wTup (wCons (wC (.str ("empty" : Str))) wNil)) (wCons (wTup (wCons (wC (.str ("one" : Str))) (wCons (wVar 1) wNil))) wNil)))) wNil))) (wCons (wC (.int 1)) wNil)))
    (wSeq (wFor (wRng1 (wCons (wBin wAdd (wC (.int 1)) (wCallP 0 sp_pick (wCons (wC (.int 4)) wNil))) wNil)) (gNm 4) (wSeq (wAsgT (wBin wIx (wFz (wLst (wCons (wTup (wCons (wC (.int 8)) (wCons (wC (.int 8)) wNil))) (wCons (wTup (wCons (wC (.int 0)) (wCons (wC (.int 8)) wNil))) (wCons (wTup (wCons (wC (.int 3)) (wCons (wC (.int 8)) wNil))) (wCons (wTup (wCons (wC (.int 7)) (wCons (wC (.int 7)) wNil))) (wCons (wTup (wCons (wC (.int 0)) (wCons (wC (.int 2)) wNil))) (wCons (wTup (wCons (wC (.int 1)) (wCons (wC .none) wNil))) wNil)))))))) (wCallP 0 sp_pick (wCons (wC (.int 6)) wNil))) (gTp 2 (gCs (gNm 5) (gCs (gNm 6) gNl))))
    (wSeq (wSet 2 (wTup (wCons (wC (.str ("times" : Str))) (wCons (wVar 2) (wCons (wVar 5) (wCons (wVar 6) wNil))))))
    (wIfS (wOr (wTst (wBin (wIsN false) (wVar 6) (wC .none))) (wTst (wBin (wIsN false) (wVar 3) (wC .none)))) (wSet 3 (wC .none)) (wSet 3 (wBin wMul (wVar 3) (wVar 6)))))))
    (wRet (wTup (wCons (wVar 3) (wCons (wVar 2) wNil))))))
theorem dv__law_nested (B : Bi mg) (c__law_pick : Ca P w K mg base 1 "_law_pick" ["pool", "many"] (spP K sp_pick)) {f : Addr} (cdv : Value) (A : Around) (outer : List Env) (s : Shared) (H : Hp) (E : XK) (hgd : (A.deeper (envOfC "_law_nested" (defScope s__law_nested) s.heap.objs.size f cdv)).guards = some []) (hr : Room 1 (A.deeper (envOfC "_law_nested" (defScope s__law_nested) s.heap.objs.size f cdv))) :
    XSs (cxOf CX0 P w K mg base ["pool", "letters", "rule", "most", "turn", "low", "high"] "_law_nested" (defScope s__law_nested) f cdv A outer s H E).nox (defBody s__law_nested) (W__law_nested) := by
  have nd := sc__law_nested.nd
  exact (xs_cons (xs_par (i := 2) (j := 3) rfl nd rfl rfl (by decide) rfl rfl (xa_cons (xe_tup (xa_cons xe_str (xa_cons (xl_fz (xl_lst (xa_cons (xe_tup (xa_cons xe_str xa_nil)) (xa_cons (xe_tup (xa_cons xe_str (xa_cons (xe_var 1) xa_nil))) xa_nil)))) xa_nil))) (xa_cons xe_int xa_nil)) rfl)
    (xs_cons (xs_for PassesOwn.never rfl (xi_range1 rfl B.range (xa_cons (xe_op opr_plus op2_plus xe_int (c_callP (i := 0) c__law_pick hgd hr (by omega) rfl (pv 0) (xa_cons xe_int xa_nil))) xa_nil)) (xg_name (i := 4) nd rfl (Or.inl rfl)) (xs_cons (xs_asgT (xe_ixR ix_seq op2_ix (xl_fz (xl_lst (xa_cons (xe_tup (xa_cons xe_int (xa_cons xe_int xa_nil))) (xa_cons (xe_tup (xa_cons xe_int (xa_cons xe_int xa_nil))) (xa_cons (xe_tup (xa_cons xe_int (xa_cons xe_int xa_nil))) (xa_cons (xe_tup (xa_cons xe_int (xa_cons xe_int xa_nil))) (xa_cons (xe_tup (xa_cons xe_int (xa_cons xe_int xa_nil))) (xa_cons (xe_tup (xa_cons xe_int (xa_cons xe_non xa_nil))) xa_nil)))))))) (c_callP (i := 0) c__law_pick hgd hr (by omega) rfl (pv 0) (xa_cons xe_int xa_nil))) (xg_tup rfl (xgs_cons (xg_name (i := 5) nd rfl (Or.inl rfl)) (xgs_cons (xg_name (i := 6) nd rfl (Or.inl rfl)) xgs_nil))))
    (xs_cons (xs_set (i := 2) nd rfl (Or.inl rfl) (xe_tup (xa_cons xe_str (xa_cons (xe_var 2) (xa_cons (xe_var 5) (xa_cons (xe_var 6) xa_nil))))))
    (xs_one (xs_if (xw_t (xw_or (xt_cmp op_isN op2_isN (xe_var 6) xe_non) (xw_or1 (xt_cmp op_isN op2_isN (xe_var 3) xe_non)))) (xs_one (xs_set (i := 3) nd rfl (Or.inl rfl) xe_non)) (xs_one (xs_set (i := 3) nd rfl (Or.inl rfl) (xe_op op_mul o_mul (xe_var 3) (xe_var 6)))))))))
    (xs_one (xs_ret (xe_tup (xa_cons (xe_var 3) (xa_cons (xe_var 2) xa_nil)))))))
abbrev s_is_of : Stmt := topS 14
theorem sc_is_of : FnScope ["letters", "rule", "word"] ["letters", "rule", "word"] (defScope s_is_of) := ⟨rfl, rfl, rfl, by decide +kernel, rfl, by decide +kernel, by decide +kernel⟩
def W_is_of : DS := (wRet (wCall sp_is_piece (wCons (wCall sp_piecesU (wCons (wVar 1) (wCons (wVar 2) wNil))) (wCons (wC (.int 0)) (wCons (wCB (wN1 gLen) (wCons (wVar 2) wNil)) wNil)))))
theorem dv_is_of (B : Bi mg) (c_is_piece : Ca P w K mg base 1 "is_piece" ["pieces", "begin", "end"] (spD K sp_is_piece)) (c_pieces_of : Ca P w K mg base 10 "pieces_of" ["rule", "word"] (spD K sp_piecesU)) {f : Addr} (cdv : Value) (A : Around) (outer : List Env) (s : Shared) (H : Hp) (E : XK) (hgd : (A.deeper (envOfC "is_of" (defScope s_is_of) s.heap.objs.size f cdv)).guards = some []) (hr : Room 10 (A.deeper (envOfC "is_of" (defScope s_is_of) s.heap.objs.size f cdv))) :
    XSs (cxOf CX0 P w K mg base ["letters", "rule", "word"] "is_of" (defScope s_is_of) f cdv A outer s H E).nox (defBody s_is_of) (W_is_of) := by
  have nd := sc_is_of.nd
  exact (xs_one (xs_ret (c_call c_is_piece hgd hr (by omega) rfl (xa_cons (c_call c_pieces_of hgd hr (by omega) rfl (xa_cons (xe_var 1) (xa_cons (xe_var 2) xa_nil))) (xa_cons xe_int (xa_cons (xe_callB call_lenA opn_len rfl B.len bb_len (xa_cons (xe_var 2) xa_nil)) xa_nil))))))
abbrev s__law_any_rule : Stmt := topS 25
theorem sc__law_any_rule : FnScope ["pool", "letters", "wide", "size"] ["pool", "letters", "wide"] (defScope s__law_any_rule) := ⟨rfl, rfl, rfl, by decide +kernel, rfl, by decide +kernel, by decide +kernel⟩
def W__law_any_rule : DS := (wSeq (wSet 3 (wCallP 0 sp_pick (wCons (wC (.int 3)) wNil)))
    (wRet (wCallP 0 sp_ruleU (wCons (wVar 1) (wCons (wBin wIx (wFz (wLst (wCons (wC (.int 4)) (wCons (wC (.int 8)) (wCons (wC (.int 12)) wNil))))) (wVar 3)) (wCons (wBin wAdd (wC (.int 1)) (wCallP 0 sp_pick (wCons (wBin wIx (wFz (wLst (wCons (wC (.int 4)) (wCons (wC (.int 4)) (wCons (wC (.int 3)) wNil))))) (wVar 3)) wNil))) (wCons (wVar 2) wNil)))))))
theorem dv__law_any_rule (c__law_rule : Ca P w K mg base 8 "_law_rule" ["pool", "letters", "room", "depth", "wide"] (spP K sp_ruleU)) (c__law_pick : Ca P w K mg base 1 "_law_pick" ["pool", "many"] (spP K sp_pick)) {f : Addr} (cdv : Value) (A : Around) (outer : List Env) (s : Shared) (H : Hp) (E : XK) (hgd : (A.deeper (envOfC "_law_any_rule" (defScope s__law_any_rule) s.heap.objs.size f cdv)).guards = some []) (hr : Room 8 (A.deeper (envOfC "_law_any_rule" (defScope s__law_any_rule) s.heap.objs.size f cdv))) :
    XSs (cxOf CX0 P w K mg base ["pool", "letters", "wide", "size"] "_law_any_rule" (defScope s__law_any_rule) f cdv A outer s H E).nox (defBody s__law_any_rule) (W__law_any_rule) := by
  have nd := sc__law_any_rule.nd
  exact (xs_cons (xs_set (i := 3) nd rfl (Or.inl rfl) (c_callP (i := 0) c__law_pick hgd hr (by omega) rfl (pv 0) (xa_cons xe_int xa_nil)))
    (xs_one (xs_ret (c_callP (i := 0) c__law_rule hgd hr (by omega) rfl (pv 0) (xa_cons (xe_var 1) (xa_cons (xe_ixR ix_seq op2_ix (xl_fz (xl_lst (xa_cons xe_int (xa_cons xe_int (xa_cons xe_int xa_nil))))) (xe_var 3)) (xa_cons (xe_op opr_plus op2_plus xe_int (c_callP (i := 0) c__law_pick hgd hr (by omega) rfl (pv 0) (xa_cons (xe_ixR ix_seq op2_ix (xl_fz (xl_lst (xa_cons xe_int (xa_cons xe_int (xa_cons xe_int xa_nil))))) (xe_var 3)) xa_nil))) (xa_cons (xe_var 2) xa_nil))))))))
abbrev s__law_count : Stmt := topS 30
theorem sc__law_count : FnScope ["rule", "word"] ["rule", "word"] (defScope s__law_count) := ⟨rfl, rfl, rfl, by decide +kernel, rfl, by decide +kernel, by decide +kernel⟩
def W__law_count : DS := (wRet (wBin wIx (wBin wIx (wBin wIx (wCall sp_treeU (wCons (wVar 0) (wCons (wVar 1) wNil))) (wC (.int 1))) (wC (.int 0))) (wCB (wN1 gLen) (wCons (wVar 1) wNil))))
theorem dv__law_count (B : Bi mg) (c__law_tree : Ca P w K mg base 7 "_law_tree" ["rule", "word"] (spD K sp_treeU)) {f : Addr} (cdv : Value) (A : Around) (outer : List Env) (s : Shared) (H : Hp) (E : XK) (hgd : (A.deeper (envOfC "_law_count" (defScope s__law_count) s.heap.objs.size f cdv)).guards = some []) (hr : Room 7 (A.deeper (envOfC "_law_count" (defScope s__law_count) s.heap.objs.size f cdv))) :
    XSs (cxOf CX0 P w K mg base ["rule", "word"] "_law_count" (defScope s__law_count) f cdv A outer s H E).nox (defBody s__law_count) (W__law_count) := by
  have nd := sc__law_count.nd
  exact (xs_one (xs_ret (xe_ixR ix_seq op2_ix (xe_ixR ix_seq op2_ix (xe_ixR ix_seq op2_ix (c_call c__law_tree hgd hr (by omega) rfl (xa_cons (xe_var 0) (xa_cons (xe_var 1) xa_nil))) xe_int) xe_int) (xe_callB call_lenA opn_len rfl B.len bb_len (xa_cons (xe_var 1) xa_nil)))))
abbrev s__law_deep : Stmt := topS 34
theorem sc__law_deep : FnScope ["pool", "letters", "most", "rule", "denied", "kept", "size", "word", "k"] ["pool", "letters"] (defScope s__law_deep) := ⟨rfl, rfl, rfl, by decide +kernel, rfl, by decide +kernel, by decide +kernel⟩
def W__law_deep : DS := (wSeq (wAsgT (wCallP 0 sp_nested (wCons (wVar 1) wNil)) (gTp 2 (gCs (gNm 2) (gCs (gNm 3) gNl))))
    (wSeq (wSet 4 (wBin (wEq false) (wCallP 0 sp_pick (wCons (wC (.int 3)) wNil)) (wC (.int 0))))
    (wSeq (wIfS (wTru (wVar 4)) (wSet 3 (wTup (wCons (wC (.str ("not" : Str))) (wCons (wVar 3) wNil)))) wNext)
    (wSeq (wSet 5 (wCB (wN1 gRepr) (wCons (wVar 3) wNil)))
    (wSeq (wFor (wIt (wFz (wLst (wCons (wC (.int 0)) (wCons (wC (.int 1)) (wCons (wC (.int 2)) (wCons (wC (.int 7)) (wCons (wC (.int 8)) (wCons (wC (.int 9)) (wCons (wC (.int 15)) (wCons (wC (.int 17)) (wCons (wC (.int 29)) (wCons (wC (.int 30)) (wCons (wCallP 0 sp_pick (wCons (wC (.int 31)) wNil)) wNil)))))))))))))) (gNm 6) (wSeq (wSet 7 (wJoin (wC (.str ("" : Str))) (wFz (wLc [8] (wRng1 (wCons (wVar 6) wNil)) (gNm 8) wYes (wBin wIx (wVar 1) (wBin wMod (wCB (wN1 gInt) (wCons (wBin wAdd (wBin wMul (wVar 8) (wVar 8)) (wVar 6)) wNil)) (wCB (wN1 gLen) (wCons (wVar 1) wNil))))))))
    (wIfS (wNot (wTru (wCall sp_is_so (wCons (wCall sp_isU (wCons (wVar 1) (wCons (wVar 3) (wCons (wVar 7) wNil)))) (wCons (wBin (wEq true) (wOrV (wBin (wIsN false) (wVar 2) (wC .none)) (wBin wLe (wVar 6) (wVar 2))) (wVar 4)) wNil))))) (wRet (wC (.bool false))) wNext)))
    (wRet (wBin (wEq false) (wCB (wN1 gRepr) (wCons (wVar 3) wNil)) (wVar 5))))))))
theorem dv__law_deep (B : Bi mg) (c__law_pick : Ca P w K mg base 1 "_law_pick" ["pool", "many"] (spP K sp_pick)) (c__law_is_so : Ca P w K mg base 1 "_law_is_so" ["value", "due"] (spD K sp_is_so)) (c_is_of : Ca P w K mg base 11 "is_of" ["letters", "rule", "word"] (spD K sp_isU)) (c__law_nested : Ca P w K mg base 2 "_law_nested" ["pool", "letters"] (spP K sp_nested)) {f : Addr} (cdv : Value) (A : Around) (outer : List Env) (s : Shared) (H : Hp) (E : XK) (hgd : (A.deeper (envOfC "_law_deep" (defScope s__law_deep) s.heap.objs.size f cdv)).guards = some []) (hr : Room 11 (A.deeper (envOfC "_law_deep" (defScope s__law_deep) s.heap.objs.size f cdv))) :
    XSs (cxOf CX0 P w K mg base ["pool", "letters", "most", "rule", "denied", "kept", "size", "word", "k"] "_law_deep" (defScope s__law_deep) f cdv A outer s H E).nox (defBody s__law_deep) (W__law_deep) := by
  have nd := sc__law_deep.nd
  exact (xs_cons (xs_asgT (c_callP (i := 0) c__law_nested hgd hr (by omega) rfl (pv 0) (xa_cons (xe_var 1) xa_nil)) (xg_tup rfl (xgs_cons (xg_name (i := 2) nd rfl (Or.inl rfl)) (xgs_cons (xg_name (i := 3) nd rfl (Or.inl rfl)) xgs_nil))))
    (xs_cons (xs_set (i := 4) nd rfl (Or.inl rfl) (xe_cmp (opr_eq hr.units) op2_eq (c_callP (i := 0) c__law_pick hgd hr (by omega) rfl (pv 0) (xa_cons xe_int xa_nil)) xe_int))
    (xs_cons (xs_if (xt_tru (xe_var 4)) (xs_one (xs_set (i := 3) nd rfl (Or.inl rfl) (xe_tup (xa_cons xe_str (xa_cons (xe_var 3) xa_nil))))) xs_nil)
    (xs_cons (xs_set (i := 5) nd rfl (Or.inl rfl) (xe_callB (call_repr hgd hr) opn_repr rfl B.repr bb_repr (xa_cons (xe_var 3) xa_nil)))
    (xs_cons (xs_for PassesOwn.never rfl (xi_any (xl_fz (xl_lst (xa_cons xe_int (xa_cons xe_int (xa_cons xe_int (xa_cons xe_int (xa_cons xe_int (xa_cons xe_int (xa_cons xe_int (xa_cons xe_int (xa_cons xe_int (xa_cons xe_int (xa_cons (c_callP (i := 0) c__law_pick hgd hr (by omega) rfl (pv 0) (xa_cons xe_int xa_nil)) xa_nil)))))))))))))) (xg_name (i := 6) nd rfl (by first | exact Or.inl rfl | exact Or.inr rfl)) (xs_cons (xs_set (i := 7) nd rfl (Or.inl rfl) (xe_join xe_str (xl_fz (xl_lc (own := [(("k" : Str), 8)]) rfl nd (xi_range1 rfl B.range (xa_cons (xe_var 6) xa_nil)) (blkOk_by (N := ["pool", "letters", "most", "rule", "denied", "kept", "size", "word", "k"]) (sc := (defScope s__law_deep)) (by decide +kernel)) (by decide) (fun _ _ _ _ _ => (xg_name (i := 8) nd rfl (Or.inl rfl))) (fun _ _ _ _ _ => xts_nil) (fun _ _ _ _ _ => (xe_ixR ix_seq op2_ix (xe_var 1) (xe_op op_mod o_mod (xe_callTy call_int1 opn_int rfl B.int bb_int (xa_cons (xe_op opr_plus op2_plus (xe_op op_mul o_mul (xe_var 8) (xe_var 8)) (xe_var 6)) xa_nil)) (xe_callB call_lenA opn_len rfl B.len bb_len (xa_cons (xe_var 1) xa_nil)))))))))
    (xs_one (xs_if (xt_not (xt_tru (c_call c__law_is_so hgd hr (by omega) rfl (xa_cons (c_call c_is_of hgd hr (by omega) rfl (xa_cons (xe_var 1) (xa_cons (xe_var 3) (xa_cons (xe_var 7) xa_nil)))) (xa_cons (xe_cmp (opr_ne hr.units) op2_ne (xe_or (xe_cmp op_isN op2_isN (xe_var 2) xe_non) (xe_one (xe_cmp op_le o_le (xe_var 6) (xe_var 2)))) (xe_var 4)) xa_nil))))) (xs_one (xs_ret xe_bl)) xs_nil))))
    (xs_one (xs_ret (xe_cmp (opr_eq hr.units) op2_eq (xe_callB (call_repr hgd hr) opn_repr rfl B.repr bb_repr (xa_cons (xe_var 3) xa_nil)) (xe_var 5)))))))))
abbrev s_law : Stmt := topS 35
theorem sc_law : FnScope ["script", "pool", "letters", "rules", "size", "kept", "words", "rule", "turn", "word", "k"] ["script"] (defScope s_law) := ⟨rfl, rfl, rfl, by decide +kernel, rfl, by decide +kernel, by decide +kernel⟩
def W_law : DS := (wSeq (wSet 2 (wCallP 1 sp_letters (wCons (wBin wIx (wFz (wLst (wCons (wC (.int 3)) (wCons (wC (.int 3)) (wCons (wC (.int 3)) (wCons (wC (.int 6)) wNil)))))) (wCallP 1 sp_pick (wCons (wC (.int 4)) wNil))) wNil)))
    (wSeq (wIfS (wTst (wBin (wEq false) (wCallP 1 sp_pick (wCons (wC (.int 12)) wNil)) (wC (.int 7)))) (wRet (wCallP 1 sp_deep (wCons (wVar 2) wNil))) wNext)
    (wSeq (wSet 3 (wFz (wLc [10] (wRng1 (wCons (wC (.int 2)) wNil)) (gNm 10) wYes (wCallP 1 sp_any_rule (wCons (wVar 2) (wCons (wC (.bool true)) wNil))))))
    (wSeq (wSet 4 (wBin wAdd (wC (.int 6)) (wCallP 1 sp_pick (wCons (wC (.int 4)) wNil))))
    (wSeq (wIfS (wTst (wBin (wEq false) (wCallP 1 sp_pick (wCons (wC (.int 30)) wNil)) (wC (.int 7)))) (wSet 4 (wC (.int 30))) wNext)
    (wSeq (wIfS (wTst (wBin (wEq false) (wVar 4) (wC (.int 30)))) (wSet 3 (wFz (wLc [7] (wIt (wVar 3)) (gNm 7) wYes (wTup (wCons (wC (.str ("times" : Str))) (wCons (wCallP 1 sp_ruleU (wCons (wVar 2) (wCons (wC (.int 6)) (wCons (wC (.int 3)) (wCons (wC (.bool true)) wNil))))) (wCons (wBin wIx (wFz (wLst (wCons (wC (.int 0)) (wCons (wC (.int 1)) (wCons (wC (.int 8)) wNil))))) (wCallP 1 sp_pick (wCons (wC (.int 3)) wNil))) (wCons (wC .none) wNil)))))))) wNext)
    (wSeq (wSet 5 (wCB (wN1 gRepr) (wCons (wVar 3) wNil)))
    (wSeq (wSet 6 (wCall sp_words (wCons (wVar 2) (wCons (wBin wIx (wFz (wLst (wCons (wC (.int 4)) (wCons (wC (.int 2)) (wCons (wC (.int 2)) (wCons (wC (.int 1)) (wCons (wC (.int 1)) (wCons (wC (.int 1)) wNil)))))))) (wBin wSub (wCB (wN1 gLen) (wCons (wVar 2) wNil)) (wC (.int 1)))) wNil))))
    (wSeq (wIfS (wTst (wBin (wEq false) (wVar 4) (wC (.int 30)))) (wSet 6 (wFz (wLst wNil))) wNext)
    (wSeq (wFor (wIt (wVar 3)) (gNm 7) (wFor (wRng1 (wCons (wBin wIx (wFz (wLst (wCons (wC (.int 3)) (wCons (wC (.int 1)) wNil)))) (wCB (wN1 gInt) (wCons (wBin (wEq false) (wVar 4) (wC (.int 30))) wNil))) wNil)) (gNm 8) (wSeq (wSet 9 (wSl (wCallP 1 sp_downU (wCons (wVar 2) (wCons (wVar 7) wNil))) wNoP (wPart (wVar 4))))
    (wSeq (wIfS (wTst (wBin (wEq false) (wVar 4) (wC (.int 30)))) (wSet 9 (wSl (wJoin (wC (.str ("" : Str))) (wFz (wLc [10] (wRng1 (wCons (wC (.int 14)) wNil)) (gNm 10) wYes (wCallP 1 sp_downU (wCons (wVar 2) (wCons (wBin wIx (wVar 7) (wC (.int 1))) wNil)))))) wNoP (wPart (wBin wSub (wC (.int 30)) (wCallP 1 sp_pick (wCons (wC (.int 4)) wNil)))))) wNext)
    (wSet 6 (wBin wAdd (wVar 6) (wFz (wLst (wCons (wVar 9) (wCons (wSl (wCallP 1 sp_near (wCons (wVar 2) (wCons (wVar 9) wNil))) wNoP (wPart (wC (.int 30)))) wNil))))))))))
    (wSeq (wSet 6 (wBin wAdd (wBin wAdd (wVar 6) (wSl (wVar 6) (wPart (wUn wNeg (wC (.int 3)))) (wPart (wUn wNeg (wC (.int 2)))))) (wSl (wVar 6) wNoP (wPart (wC (.int 1))))))
    (wSeq (wFor (wIt (wVar 6)) (gNm 9) (wFor (wIt (wVar 3)) (gNm 7) (wIfS (wNot (wTru (wCall sp_is_so (wCons (wCall sp_isU (wCons (wVar 2) (wCons (wVar 7) (wCons (wVar 9) wNil)))) (wCons (wBin wGt (wCall sp_countU (wCons (wVar 7) (wCons (wVar 9) wNil))) (wC (.int 0))) wNil))))) (wRet (wC (.bool false))) wNext)))
    (wRet (wBin (wEq false) (wCB (wN1 gRepr) (wCons (wVar 3) wNil)) (wVar 5)))))))))))))))
theorem dv_law (B : Bi mg) (c__law_is_so : Ca P w K mg base 1 "_law_is_so" ["value", "due"] (spD K sp_is_so)) (c__law_count : Ca P w K mg base 8 "_law_count" ["rule", "word"] (spD K sp_countU)) (c_is_of : Ca P w K mg base 11 "is_of" ["letters", "rule", "word"] (spD K sp_isU)) (c__law_near : Ca P w K mg base 2 "_law_near" ["pool", "letters", "word"] (spP K sp_near)) (c__law_down : Ca P w K mg base 7 "_law_down" ["pool", "letters", "rule"] (spP K sp_downU)) (c__law_pick : Ca P w K mg base 1 "_law_pick" ["pool", "many"] (spP K sp_pick)) (c__law_words : Ca P w K mg base 1 "_law_words" ["letters", "length"] (spD K sp_words)) (c__law_rule : Ca P w K mg base 8 "_law_rule" ["pool", "letters", "room", "depth", "wide"] (spP K sp_ruleU)) (c__law_any_rule : Ca P w K mg base 9 "_law_any_rule" ["pool", "letters", "wide"] (spP K sp_any_rule)) (c__law_deep : Ca P w K mg base 12 "_law_deep" ["pool", "letters"] (spP K sp_deep)) (c__law_letters : Ca P w K mg base 2 "_law_letters" ["pool", "most"] (spP K sp_letters)) {f : Addr} (cdv : Value) (A : Around) (outer : List Env) (s : Shared) (H : Hp) (E : XK) (hgd : (A.deeper (envOfC "law" (defScope s_law) s.heap.objs.size f cdv)).guards = some []) (hr : Room 12 (A.deeper (envOfC "law" (defScope s_law) s.heap.objs.size f cdv))) :
    XSs (cxOf CX0 P w K mg base ["script", "pool", "letters", "rules", "size", "kept", "words", "rule", "turn", "word", "k"] "law" (defScope s_law) f cdv A outer s H E).nox ((defBody s_law).drop 1) (W_law) := by
  have nd := sc_law.nd
  exact (xs_cons (xs_set (i := 2) nd rfl (Or.inr rfl) (c_callP (i := 1) c__law_letters hgd hr (by omega) rfl (pv 1) (xa_cons (xe_ixR ix_seq op2_ix (xl_fz (xl_lst (xa_cons xe_int (xa_cons xe_int (xa_cons xe_int (xa_cons xe_int xa_nil)))))) (c_callP (i := 1) c__law_pick hgd hr (by omega) rfl (pv 1) (xa_cons xe_int xa_nil))) xa_nil)))
    (xs_cons (xs_if (xt_cmp (opr_eq hr.units) op2_eq (c_callP (i := 1) c__law_pick hgd hr (by omega) rfl (pv 1) (xa_cons xe_int xa_nil)) xe_int) (xs_one (xs_ret (c_callP (i := 1) c__law_deep hgd hr (by omega) rfl (pv 1) (xa_cons (xe_var 2) xa_nil)))) xs_nil)
    (xs_cons (xs_setLc (i := 3) (own := [(("k" : Str), 10)]) rfl nd rfl rfl (sw_true rfl rfl rfl (by decide +kernel)) (xi_range1 rfl B.range (xa_cons xe_int xa_nil)) (blkOk_by (N := ["script", "pool", "letters", "rules", "size", "kept", "words", "rule", "turn", "word", "k"]) (sc := (defScope s_law)) (by decide +kernel)) (by decide) (fun _ _ _ _ _ => (xg_name (i := 10) nd rfl (Or.inl rfl))) (fun _ _ _ _ _ => xts_nil) (fun _ _ _ _ _ => (c_callP (i := 1) c__law_any_rule hgd hr (by omega) rfl (pv 1) (xa_cons (xe_var 2) (xa_cons xe_bl xa_nil)))))
    (xs_cons (xs_set (i := 4) nd rfl (Or.inl rfl) (xe_op opr_plus op2_plus xe_int (c_callP (i := 1) c__law_pick hgd hr (by omega) rfl (pv 1) (xa_cons xe_int xa_nil))))
    (xs_cons (xs_if (xt_cmp (opr_eq hr.units) op2_eq (c_callP (i := 1) c__law_pick hgd hr (by omega) rfl (pv 1) (xa_cons xe_int xa_nil)) xe_int) (xs_one (xs_set (i := 4) nd rfl (Or.inl rfl) xe_int)) xs_nil)
    (xs_cons (xs_if (xt_cmp (opr_eq hr.units) op2_eq (xe_var 4) xe_int) (xs_one (xs_setLc (i := 3) (own := [(("rule" : Str), 7)]) rfl nd rfl rfl (sw_true rfl rfl rfl (by decide +kernel)) (xi_any (xe_var 3)) (blkOk_by (N := ["script", "pool", "letters", "rules", "size", "kept", "words", "rule", "turn", "word", "k"]) (sc := (defScope s_law)) (by decide +kernel)) (by decide) (fun _ _ _ _ _ => (xg_name (i := 7) nd rfl (by first | exact Or.inl rfl | exact Or.inr rfl))) (fun _ _ _ _ _ => xts_nil) (fun _ _ _ _ _ => (xe_tup (xa_cons xe_str (xa_cons (c_callP (i := 1) c__law_rule hgd hr (by omega) rfl (pv 1) (xa_cons (xe_var 2) (xa_cons xe_int (xa_cons xe_int (xa_cons xe_bl xa_nil))))) (xa_cons (xe_ixR ix_seq op2_ix (xl_fz (xl_lst (xa_cons xe_int (xa_cons xe_int (xa_cons xe_int xa_nil))))) (c_callP (i := 1) c__law_pick hgd hr (by omega) rfl (pv 1) (xa_cons xe_int xa_nil))) (xa_cons xe_non xa_nil)))))))) xs_nil)
    (xs_cons (xs_set (i := 5) nd rfl (Or.inl rfl) (xe_callB (call_repr hgd hr) opn_repr rfl B.repr bb_repr (xa_cons (xe_var 3) xa_nil)))
    (xs_cons (xs_set (i := 6) nd rfl (Or.inl rfl) (c_call c__law_words hgd hr (by omega) rfl (xa_cons (xe_var 2) (xa_cons (xe_ixR ix_seq op2_ix (xl_fz (xl_lst (xa_cons xe_int (xa_cons xe_int (xa_cons xe_int (xa_cons xe_int (xa_cons xe_int (xa_cons xe_int xa_nil)))))))) (xe_op op_sub o_sub (xe_callB call_lenA opn_len rfl B.len bb_len (xa_cons (xe_var 2) xa_nil)) xe_int)) xa_nil))))
    (xs_cons (xs_if (xt_cmp (opr_eq hr.units) op2_eq (xe_var 4) xe_int) (xs_one (xs_set (i := 6) nd rfl (Or.inl rfl) (xl_fz (xl_lst xa_nil)))) xs_nil)
    (xs_cons (xs_for PassesOwn.never rfl (xi_any (xe_var 3)) (xg_name (i := 7) nd rfl (by first | exact Or.inl rfl | exact Or.inr rfl)) (xs_one (xs_for PassesOwn.never rfl (xi_range1 rfl B.range (xa_cons (xe_ixR ix_seq op2_ix (xl_fz (xl_lst (xa_cons xe_int (xa_cons xe_int xa_nil)))) (xe_callTy call_int1 opn_int rfl B.int bb_int (xa_cons (xe_cmp (opr_eq hr.units) op2_eq (xe_var 4) xe_int) xa_nil))) xa_nil)) (xg_name (i := 8) nd rfl (Or.inl rfl)) (xs_cons (xs_set (i := 9) nd rfl (Or.inl rfl) (xe_slice (c_callP (i := 1) c__law_down hgd hr (by omega) rfl (pv 1) (xa_cons (xe_var 2) (xa_cons (xe_var 7) xa_nil))) xo_none (xo_some (xe_var 4))))
    (xs_cons (xs_if (xt_cmp (opr_eq hr.units) op2_eq (xe_var 4) xe_int) (xs_one (xs_set (i := 9) nd rfl (Or.inl rfl) (xe_slice (xe_join xe_str (xl_fz (xl_lc (own := [(("k" : Str), 10)]) rfl nd (xi_range1 rfl B.range (xa_cons xe_int xa_nil)) (blkOk_by (N := ["script", "pool", "letters", "rules", "size", "kept", "words", "rule", "turn", "word", "k"]) (sc := (defScope s_law)) (by decide +kernel)) (by decide) (fun _ _ _ _ _ => (xg_name (i := 10) nd rfl (Or.inl rfl))) (fun _ _ _ _ _ => xts_nil) (fun _ _ _ _ _ => (c_callP (i := 1) c__law_down hgd hr (by omega) rfl (pv 1) (xa_cons (xe_var 2) (xa_cons (xe_ixR ix_seq op2_ix (xe_var 7) xe_int) xa_nil))))))) xo_none (xo_some (xe_op op_sub o_sub xe_int (c_callP (i := 1) c__law_pick hgd hr (by omega) rfl (pv 1) (xa_cons xe_int xa_nil))))))) xs_nil)
    (xs_one (xs_set (i := 6) nd rfl (Or.inl rfl) (xe_op opr_plus op2_plus (xe_var 6) (xl_fz (xl_lst (xa_cons (xe_var 9) (xa_cons (xe_slice (c_callP (i := 1) c__law_near hgd hr (by omega) rfl (pv 1) (xa_cons (xe_var 2) (xa_cons (xe_var 9) xa_nil))) xo_none (xo_some xe_int)) xa_nil))))))))))))
    (xs_cons (xs_set (i := 6) nd rfl (Or.inl rfl) (xe_op opr_plus op2_plus (xe_op opr_plus op2_plus (xe_var 6) (xe_slice (xe_var 6) (xo_some (xe_un un_neg o_neg xe_int)) (xo_some (xe_un un_neg o_neg xe_int)))) (xe_slice (xe_var 6) xo_none (xo_some xe_int))))
    (xs_cons (xs_for PassesOwn.never rfl (xi_any (xe_var 6)) (xg_name (i := 9) nd rfl (Or.inl rfl)) (xs_one (xs_for PassesOwn.never rfl (xi_any (xe_var 3)) (xg_name (i := 7) nd rfl (by first | exact Or.inl rfl | exact Or.inr rfl)) (xs_one (xs_if (xt_not (xt_tru (c_call c__law_is_so hgd hr (by omega) rfl (xa_cons (c_call c_is_of hgd hr (by omega) rfl (xa_cons (xe_var 2) (xa_cons (xe_var 7) (xa_cons (xe_var 9) xa_nil)))) (xa_cons (xe_cmp op_gt o_gt (c_call c__law_count hgd hr (by omega) rfl (xa_cons (xe_var 7) (xa_cons (xe_var 9) xa_nil))) xe_int) xa_nil))))) (xs_one (xs_ret xe_bl)) xs_nil)))))
    (xs_one (xs_ret (xe_cmp (opr_eq hr.units) op2_eq (xe_callB (call_repr hgd hr) opn_repr rfl B.repr bb_repr (xa_cons (xe_var 3) xa_nil)) (xe_var 5))))))))))))))))
end
end L17
namespace L17
open PySem PySem.Spec PyProof.Rows L2 DL
theorem emod_le' {a m : Int} (h : 0 ≤ a) (hm : 0 < m) : a % m ≤ a := by
  have e := Int.mul_ediv_add_emod a m
  have q : 0 ≤ a / m := Int.ediv_nonneg h (by omega)
  have q2 : 0 ≤ m * (a / m) := Int.mul_nonneg (by omega) q
  omega
theorem w_pick (ds : List PyData) (q : List Int) (Φ : PyData → List Int → Prop) (h : sp_pick ds q Φ) : W__law_pick (endP Φ) ⟨startE ["pool", "many"] (.pl :: ds.map .d), q⟩ := by
  obtain ⟨m, rfl, hm, hq, k⟩ := h
  obtain ⟨a, t, rfl, ha, h1, h2, h3⟩ := hq.head
  have e1 : (0 : Int) ≤ a % (t.length : Int) := Int.emod_nonneg _ (by omega)
  have e2 : a % (t.length : Int) < t.length := Int.emod_lt_of_pos _ (by omega)
  simp only [W__law_pick, wSeq, wPlSet, wC, wBin, wAdd, wMod, wII, wCB, wN1, gInt, wCons, wNil, wPlIx, poolAt, wSub, wI2, wPlLen, wRet, wVar, endP, startE, S.put, optP, atI_cons0, List.length_cons, List.cons_append, List.getElem?_cons_zero, List.map_cons, List.map_nil]
  simp only [ixN_zero, List.set_cons_zero, atI_cons0]
  have e3 : ((t.length + 1 : Nat) : Int) - 1 = t.length := by omega
  rw [e3]
  refine ⟨by omega, ?_⟩
  rw [atI_lt (xs := (1 + a % (t.length : Int)) :: t) (k := 1 + a % (t.length : Int)) (by omega) (by simp; omega)]
  have e4 : (1 + a % (t.length : Int)).toNat = (a % (t.length : Int)).toNat + 1 := by omega
  have hm' := h3 _ (List.getElem_mem (l := t) (n := (a % (t.length : Int)).toNat) (by omega))
  simp only [e4, List.getElem_cons_succ]
  refine ⟨hm, k _ _ (PoolOk.mk' (by omega) h1 h2 h3) (Int.emod_nonneg _ (by omega)) (Int.emod_lt_of_pos _ hm) ?_⟩
  exact Int.lt_of_le_of_lt (emod_le' hm'.1 hm) hm'.2
theorem w_stream (ns : List Int) (Φ : List PyData → Prop) (h : spStream ns Φ) : W__law_stream (endL Φ) ⟨startE ["script"] [.sc ns], []⟩ := by
  obtain ⟨h1, k⟩ := h
  simp [W__law_stream]
  refine ⟨sz_le (by omega), h1, fun q a b c => ⟨sz_le (by rw [List.length_map]; omega), ?_⟩⟩
  exact k (0 :: q) (PoolOk.mk' (by omega) a (by omega) c)
theorem w_pool (ns : List Int) (Φ : List PyData → Prop) (h : sp_pool ns Φ) : W__law_pool (endL Φ) ⟨startE ["script", "pool", "state", "k", "cell", "step", "one", "two"] [.sc ns], []⟩ := by
  obtain ⟨h1, k⟩ := h
  simp [W__law_pool]
  have hn : (if 63 < (ns.length : Int) then (63 : Int) else (ns.length : Int)) = (ns.length : Int) := by
    rw [if_neg (by omega)]
  rw [hn, Int.toNat_natCast]
  refine ⟨⟨by omega, by omega⟩, ?_⟩
  refine loop_rng (fun i s => ∃ (q : List Int) (st : Int) (a3 a4 a5 a6 a7 : Sl), s = ⟨[.sc ns, .o (q.map .int), .d (.int st), a3, a4, a5, a6, a7], []⟩ ∧ q.length ≤ 60 * i ∧ ∀ n ∈ q, 0 ≤ n ∧ n < 60) ⟨[], 17, _, _, _, _, _, rfl, by simp, by simp⟩ ?_ ?_
  · rintro i s hi ⟨q, st, a3, a4, a5, a6, a7, rfl, hq, ho⟩ Ψ k1 k2 k3 k4 k5
    clear k2 k3 k4 k5
    simp
    generalize ns[i]?.getD 0 = c
    have m59 : ∀ z : Int, 0 ≤ z % 60 ∧ z % 60 < 60 := fun z => ⟨Int.emod_nonneg _ (by decide), Int.emod_lt_of_pos _ (by decide)⟩
    refine ⟨hi, .inr ⟨by decide, by decide⟩, .inr ⟨by decide, by decide⟩, ⟨by decide, by decide, by decide⟩, ?_⟩
    split
    · refine ⟨⟨by decide, by decide⟩, ?_⟩
      generalize (st * 69621 + c * 48271 + (i : Int)) % 2147483647 = st'
      refine loop_rng (fun j s => ∃ (q' : List Int) (c : Int) (a5 : Sl), s = ⟨[.sc ns, .o (q'.map .int), .d (.int st'), .d (.int i), .d (.int c), a5, a6, a7], []⟩ ∧ q'.length ≤ q.length + j ∧ ∀ n ∈ q', 0 ≤ n ∧ n < 60) ⟨q, c, _, rfl, by omega, ho⟩ ?_ ?_
      · rintro j s hj ⟨q', c, a5, rfl, hq', ho'⟩ Ψ' k1' k2 k3 k4 k5
        clear k2 k3 k5
        simp
        refine ite2 (fun _ => ?_) (fun _ => ⟨sz_lt (by omega), ⟨by decide, by decide⟩, k1' _ ⟨q' ++ [c % 60], c / 60, .d (.int (j : Int)), by simp, by simp; omega, fun n hn => ?_⟩⟩)
        · rw [k4]
          exact k1 _ ⟨q', st', _, _, _, _, _, rfl, by omega, ho'⟩
        · rcases List.mem_append.mp hn with h | h
          · exact ho' n h
          · rw [List.mem_singleton.mp h]
            exact m59 c
      · rintro s ⟨q', c, a5, rfl, hq', ho'⟩
        exact k1 _ ⟨q', st', _, _, _, _, _, rfl, by omega, ho'⟩
    · refine ⟨.inr ⟨by decide, by decide⟩, .inr ⟨by decide, by decide⟩, .inr ⟨by decide, by decide⟩, .inr ⟨by decide, by decide⟩, ⟨by decide, by decide⟩, sz_le (by omega), sz_le (by omega), ?_⟩
      refine k1 _ ⟨q ++ [(c * 48271 + (i : Int) * 69621 + 7) % 2147483647 / 11 % 60, ((c * 48271 + (i : Int) * 69621 + 7) % 2147483647 * 16807 + c * 31 + (i : Int)) % 1000003 % 60], _, _, _, _, _, _, by simp; exact ⟨rfl, rfl, rfl, rfl, rfl, rfl⟩, by simp; omega, fun n hn => ?_⟩
      rcases List.mem_append.mp hn with h | h
      · exact ho n h
      · rcases List.mem_cons.mp h with h | h
        · rw [h]
          exact m59 _
        · rw [List.mem_singleton.mp h]
          exact m59 _
  · rintro s ⟨q, st, a3, a4, a5, a6, a7, rfl, hq, ho⟩
    simp
    have m59 : ∀ z : Int, 0 ≤ z % 60 ∧ z % 60 < 60 := fun z => ⟨Int.emod_nonneg _ (by decide), Int.emod_lt_of_pos _ (by decide)⟩
    refine ⟨⟨by decide, by decide⟩, ?_⟩
    refine loop_rng (fun j s => ∃ (q' : List Int) (st : Int) (a5 : Sl), s = ⟨[.sc ns, .o (q'.map .int), .d (.int st), a3, a4, a5, a6, a7], []⟩ ∧ q'.length = q.length + j ∧ ∀ n ∈ q', 0 ≤ n ∧ n < 60) ⟨q, st, _, rfl, by omega, ho⟩ ?_ ?_
    · rintro j s hj ⟨q', st, a5, rfl, hq', ho'⟩ Ψ' k1' k2 k3 k4 k5
      clear k2 k3 k4 k5
      simp
      refine ⟨.inr ⟨by decide, by decide⟩, ⟨by decide, by decide⟩, sz_lt (by omega), k1' _ ⟨q' ++ [(st * 48271 + 11) % 2147483647 / 97 % 60], _, _, by simp; exact ⟨rfl, rfl⟩, by simp; omega, fun n hn => ?_⟩⟩
      rcases List.mem_append.mp hn with h | h
      · exact ho' n h
      · rw [List.mem_singleton.mp h]
        exact m59 _
    · rintro s ⟨q', st, a5, rfl, hq', ho'⟩
      simp
      exact k q' (by omega) (by omega) ho'
end L17
/-! DL: lemmas for lists of numbers, bits, tables -/
namespace DL
open PySem PySem.Spec PyProof.Rows L2
@[simp] theorem flatD_str (s : Str) : flatD (.str s) = true := rfl
@[simp] theorem flatD_int (s : Int) : flatD (.int s) = true := rfl
@[simp] theorem flatD_none : flatD .none = true := rfl
@[simp] theorem atI_cons1 {α : Type} (x y : α) (xs : List α) : atI (x :: y :: xs) 1 = some y := by
  rw [atI_lt (by omega) (by simp; omega)]
  rfl
@[simp] theorem atI_cons2 {α : Type} (x y z : α) (xs : List α) : atI (x :: y :: z :: xs) 2 = some z := by
  rw [atI_lt (by omega) (by simp; omega)]
  rfl
@[simp] theorem atI_cons3 {α : Type} (x y z t : α) (xs : List α) : atI (x :: y :: z :: t :: xs) 3 = some t := by
  rw [atI_lt (by omega) (by simp; omega)]
  rfl
theorem mkI_len (n : Nat) (f : Nat → Nat) : (mkI n f).length = n := by
  unfold mkI
  rw [List.length_map, List.length_range]
theorem mkT_len (n : Nat) (g : Nat → Nat → Nat) : (mkT n g).length = n := by
  unfold mkT
  rw [List.length_map, List.length_range]
theorem mkI_get {n : Nat} {f : Nat → Nat} {i : Nat} (h : i < n) : (mkI n f)[i]? = some (.int (f i : Nat)) := by
  unfold mkI
  rw [List.getElem?_map, List.getElem?_range h]
  rfl
theorem mkT_get {n : Nat} {g : Nat → Nat → Nat} {i : Nat} (h : i < n) : (mkT n g)[i]? = some (.list (mkI n (g i))) := by
  unfold mkT
  rw [List.getElem?_map, List.getElem?_range h]
  rfl
theorem atI_nat {α : Type} {xs : List α} {i : Nat} (h : i < xs.length) : atI xs (i : Int) = xs[i]? := by
  rw [atI_lt (by omega) (by omega)]
  exact (List.getElem?_eq_getElem (by simpa using h)).symm
theorem atI_mkI {n : Nat} {f : Nat → Nat} {i : Nat} (h : i < n) : atI (mkI n f) (i : Int) = some (.int (f i : Nat)) := by
  rw [atI_nat (by rw [mkI_len]; exact h), mkI_get h]
theorem atI_mkT {n : Nat} {g : Nat → Nat → Nat} {i : Nat} (h : i < n) : atI (mkT n g) (i : Int) = some (.list (mkI n (g i))) := by
  rw [atI_nat (by rw [mkT_len]; exact h), mkT_get h]
theorem mkI_congr {n : Nat} {f g : Nat → Nat} (h : ∀ i, i < n → f i = g i) : mkI n f = mkI n g := by
  unfold mkI
  exact List.map_congr_left fun i hi => by rw [h i (List.mem_range.mp hi)]
theorem mkT_congr {n : Nat} {f g : Nat → Nat → Nat} (h : ∀ i j, i < n → j < n → f i j = g i j) : mkT n f = mkT n g := by
  unfold mkT
  exact List.map_congr_left fun i hi => by rw [mkI_congr fun j hj => h i j (List.mem_range.mp hi) hj]
theorem mkI_app (n : Nat) (f : Nat → Nat) : mkI n f ++ [.int (f n : Nat)] = mkI (n + 1) f := by
  unfold mkI
  rw [List.range_succ, List.map_append]
  rfl
/-- a map with one place put anew -/
def setF {α : Type} (r : Nat → α) (i : Nat) (v : α) : Nat → α := fun b => if b = i then v else r b
@[simp] theorem setF_same {α : Type} (r : Nat → α) (i : Nat) (v : α) : setF r i v i = v := if_pos rfl
theorem setF_ne {α : Type} {r : Nat → α} {i b : Nat} {v : α} (h : b ≠ i) : setF r i v b = r b := if_neg h
theorem mkI_snoc (n : Nat) (f : Nat → Nat) (v : Nat) : mkI n f ++ [.int (v : Nat)] = mkI (n + 1) (setF f n v) := by
  rw [← mkI_app, setF_same, mkI_congr fun b (hb : b < n) => setF_ne (r := f) (v := v) (Nat.ne_of_lt hb)]
theorem mkT_snoc (n m : Nat) (f : Nat → Nat → Nat) (v : Nat → Nat) : ((List.range n).map fun b => PyData.list (mkI m (f b))) ++ [.list (mkI m v)] = (List.range (n + 1)).map fun b => PyData.list (mkI m (setF f n v b)) := by
  rw [List.range_succ, List.map_append, List.map_singleton, setF_same]
  congr 1
  exact List.map_congr_left fun i hi => by rw [setF_ne (Nat.ne_of_lt (List.mem_range.mp hi))]
theorem mkI_set {n i : Nat} {f : Nat → Nat} {v : Nat} (h : i < n) : (mkI n f).set i (.int (v : Nat)) = mkI n (setF f i v) := by
  apply List.ext_getElem?
  intro j
  rw [List.getElem?_set]
  by_cases hj : j < n
  · by_cases hij : i = j
    · subst hij
      rw [if_pos rfl, mkI_len, if_pos h, mkI_get hj, setF_same]
    · rw [if_neg hij, mkI_get hj, mkI_get hj, setF_ne (Ne.symm hij)]
  · rw [List.getElem?_eq_none (l := mkI n (setF f i v)) (by rw [mkI_len]; omega), if_neg (by omega), List.getElem?_eq_none (by rw [mkI_len]; omega)]
theorem mkT_set {n i : Nat} {g : Nat → Nat → Nat} {v : Nat → Nat} (h : i < n) : (mkT n g).set i (.list (mkI n v)) = mkT n (setF g i v) := by
  apply List.ext_getElem?
  intro j
  rw [List.getElem?_set]
  by_cases hj : j < n
  · by_cases hij : i = j
    · subst hij
      rw [if_pos rfl, mkT_len, if_pos h, mkT_get hj, setF_same]
    · rw [if_neg hij, mkT_get hj, mkT_get hj, setF_ne (Ne.symm hij)]
  · rw [List.getElem?_eq_none (l := mkT n (setF g i v)) (by rw [mkT_len]; omega), if_neg (by omega), List.getElem?_eq_none (by rw [mkT_len]; omega)]
theorem ixN_nat {n i : Nat} (h : i < n) : ixN n (i : Int) = some i := by
  rw [ixN_lt (by omega) (by omega), Int.toNat_natCast]
/-! loops by the number of the turn -/
theorem loop_ix {wg : DG} {wb : DS} {Φ : EN} (xs : List PyData) (Inv : Nat → S → Prop) {s : S} (h0 : Inv 0 s)
    (hs : ∀ i x s, xs[i]? = some x → Inv i s → ∀ Ψ : EN, (∀ s, Inv (i + 1) s → Ψ.nx s) → (∀ s, Inv (i + 1) s → Ψ.ct s) → Ψ.rt = Φ.rt → Ψ.bk = Φ.nx → Ψ.rl = Φ.rl → wg x s fun s1 => wb Ψ s1)
    (hd : ∀ s, Inv xs.length s → Φ.nx s) : loopW wg wb Φ xs s := by
  refine loop_inv xs (fun pre s => Inv pre.length s) h0 (fun pre x post s e q Ψ h1 h2 h3 h4 h5 => ?_) (fun s q => hd s q)
  exact hs pre.length x s (by rw [e]; simp) q Ψ (fun s z => h1 s (by simpa using z)) (fun s z => h2 s (by simpa using z)) h3 h4 h5
theorem loop_enumI {wg : DG} {wb : DS} {Φ : EN} {n : Nat} {f : Nat → Nat} (Inv : Nat → S → Prop) {s : S} (h0 : Inv 0 s)
    (hs : ∀ i s, i < n → Inv i s → ∀ Ψ : EN, (∀ s, Inv (i + 1) s → Ψ.nx s) → (∀ s, Inv (i + 1) s → Ψ.ct s) → Ψ.rt = Φ.rt → Ψ.bk = Φ.nx → Ψ.rl = Φ.rl → wg (.tuple [.int (i : Nat), .int (f i : Nat)]) s fun s1 => wb Ψ s1)
    (hd : ∀ s, Inv n s → Φ.nx s) : loopW wg wb Φ (enumD (mkI n f)) s := by
  refine loop_ix (enumD (mkI n f)) Inv h0 (fun i x s hx q Ψ h1 h2 h3 h4 h5 => ?_) (fun s q => hd s (by rw [enumD_len, mkI_len] at q; exact q))
  obtain ⟨y, hy, rfl⟩ := enumD_get hx
  have hi : i < n := by rw [← mkI_len n f]; exact (List.getElem?_eq_some_iff.mp hy).1
  rw [mkI_get hi] at hy
  cases hy
  exact hs i s hi q Ψ h1 h2 h3 h4 h5
/-- range(n - 1, -1, -1): from the last one down -/
theorem rangeC_get {lo c : Int} {n i : Nat} {x : PyData} (h : (rangeC lo c n)[i]? = some x) : i < n ∧ x = .int (lo + (i : Int) * c) := by
  have hi : i < n := by rw [← rangeC_len lo c n]; exact (List.getElem?_eq_some_iff.mp h).1
  unfold rangeC at h
  rw [List.getElem?_map, List.getElem?_range hi] at h
  cases h
  exact ⟨hi, rfl⟩
/-! comprehensions that map, by the number of the turn -/
theorem lc_ix {vs : List Nat} {e0 : List Sl} {wg : DG} {we : DE} {Φ : List PyData → List Int → Prop} (xs : List PyData) (F : Nat → PyData) {q : List Int} (hl : xs.length ≤ 16777216)
    (hs : ∀ i x, xs[i]? = some x → ∀ Θ : S → PyData → S → Prop, (∀ s1 s3, s3.e = s1.e → s3.q = q → Θ s1 (F i) s3) → wg x ⟨wipeE e0 vs, q⟩ fun s1 => wipeE s1.e vs = wipeE e0 vs ∧ we s1 (Θ s1))
    (hd : Φ ((List.range xs.length).map F) q) : lcW vs e0 wg wYes we Φ xs [] q := by
  refine lc_inv xs (fun pre acc q' => acc = (List.range pre.length).map F ∧ q' = q) ⟨rfl, rfl⟩ (fun pre x post acc q' e h Ψ k => ?_) (fun acc q' h => by rw [h.1, h.2]; exact hd)
  obtain ⟨rfl, rfl⟩ := h
  have hlen : ((List.range pre.length).map F).length < sizeLine := sz_lt (by
    rw [e] at hl
    simp at hl ⊢
    omega)
  have r := hs pre.length x (by rw [e]; simp) (fun s1 y s3 => s3.e = s1.e ∧ ((List.range pre.length).map F).length < sizeLine ∧ Ψ ((List.range pre.length).map F ++ [y]) s3.q)
    (fun s1 s3 h1 h2 => ⟨h1, hlen, k _ _ ⟨by rw [List.length_append, List.length_singleton, List.range_succ, List.map_append]; rfl, h2⟩⟩)
  simp only [wYes, true_and, if_true]
  exact r
theorem lc_rng {vs : List Nat} {e0 : List Sl} {wg : DG} {we : DE} {Φ : List PyData → List Int → Prop} {lo : Int} {n : Nat} (F : Nat → PyData) {q : List Int} (hl : n ≤ 16777216)
    (hs : ∀ i, i < n → ∀ Θ : S → PyData → S → Prop, (∀ s1 s3, s3.e = s1.e → s3.q = q → Θ s1 (F i) s3) → wg (.int (lo + (i : Int))) ⟨wipeE e0 vs, q⟩ fun s1 => wipeE s1.e vs = wipeE e0 vs ∧ we s1 (Θ s1))
    (hd : Φ ((List.range n).map F) q) : lcW vs e0 wg wYes we Φ (rangeD lo n) [] q := by
  refine lc_ix (rangeD lo n) F (by rw [rangeD_len]; exact hl) (fun i x hx Θ k => ?_) (by rw [rangeD_len]; exact hd)
  obtain ⟨hi, rfl⟩ := rangeD_get hx
  exact hs i hi Θ k
theorem lc_enumI {vs : List Nat} {e0 : List Sl} {wg : DG} {we : DE} {Φ : List PyData → List Int → Prop} {n : Nat} {f : Nat → Nat} (F : Nat → PyData) {q : List Int} (hl : n ≤ 16777216)
    (hs : ∀ i, i < n → ∀ Θ : S → PyData → S → Prop, (∀ s1 s3, s3.e = s1.e → s3.q = q → Θ s1 (F i) s3) → wg (.tuple [.int (i : Nat), .int (f i : Nat)]) ⟨wipeE e0 vs, q⟩ fun s1 => wipeE s1.e vs = wipeE e0 vs ∧ we s1 (Θ s1))
    (hd : Φ ((List.range n).map F) q) : lcW vs e0 wg wYes we Φ (enumD (mkI n f)) [] q := by
  refine lc_ix (enumD (mkI n f)) F (by rw [enumD_len, mkI_len]; exact hl) (fun i x hx Θ k => ?_) (by rw [enumD_len, mkI_len]; exact hd)
  obtain ⟨y, hy, rfl⟩ := enumD_get hx
  have hi : i < n := by rw [← mkI_len n f]; exact (List.getElem?_eq_some_iff.mp hy).1
  rw [mkI_get hi] at hy
  cases hy
  exact hs i hi Θ k
theorem lc_zipI {vs : List Nat} {e0 : List Sl} {wg : DG} {we : DE} {Φ : List PyData → List Int → Prop} {n : Nat} {f g : Nat → Nat} (F : Nat → PyData) {q : List Int} (hl : n ≤ 16777216)
    (hs : ∀ i, i < n → ∀ Θ : S → PyData → S → Prop, (∀ s1 s3, s3.e = s1.e → s3.q = q → Θ s1 (F i) s3) → wg (.tuple [.int (f i : Nat), .int (g i : Nat)]) ⟨wipeE e0 vs, q⟩ fun s1 => wipeE s1.e vs = wipeE e0 vs ∧ we s1 (Θ s1))
    (hd : Φ ((List.range n).map F) q) : lcW vs e0 wg wYes we Φ (zipD (mkI n f) (mkI n g)) [] q := by
  have hl2 : (zipD (mkI n f) (mkI n g)).length = n := by
    unfold zipD
    rw [List.length_map, List.length_zip, mkI_len, mkI_len, Nat.min_self]
  refine lc_ix (zipD (mkI n f) (mkI n g)) F (by rw [hl2]; exact hl) (fun i x hx Θ k => ?_) (by rw [hl2]; exact hd)
  have hi : i < n := by rw [← hl2]; exact (List.getElem?_eq_some_iff.mp hx).1
  obtain ⟨y, z, hy, hz, rfl⟩ := zipD_get hx
  rw [mkI_get hi] at hy hz
  cases hy
  cases hz
  exact hs i hi Θ k
/-! bits -/
theorem bitNot_eq (x : Int) : Builtin.bitNot x = -x - 1 := by
  unfold Builtin.bitNot
  omega
theorem band_nat (a b : Nat) : Builtin.bitAnd (a : Int) (b : Int) = ((a &&& b : Nat) : Int) := by simp [Builtin.bitAnd]
theorem bor_nat (a b : Nat) : Builtin.bitOr (a : Int) (b : Int) = ((a ||| b : Nat) : Int) := by
  have h1 : decide ((0 : Int) ≤ -(a : Int) - 1) = false := by simp; omega
  have h2 : decide ((0 : Int) ≤ -(b : Int) - 1) = false := by simp; omega
  have e1 : (-(-(a : Int) - 1) - 1).toNat = a := by omega
  have e2 : (-(-(b : Int) - 1) - 1).toNat = b := by omega
  unfold Builtin.bitOr Builtin.bitAnd
  simp only [bitNot_eq, h1, h2, e1, e2]
  omega
theorem bxor_nat (a b : Nat) : Builtin.bitXor (a : Int) (b : Int) = ((a ^^^ b : Nat) : Int) := by
  have e1 : ((a ^^^ b) ||| (a &&& b)) = (a ||| b) := Nat.eq_of_testBit_eq fun i => by
    simp only [Nat.testBit_or, Nat.testBit_xor, Nat.testBit_and]
    cases a.testBit i <;> cases b.testBit i <;> rfl
  have e2 : ((a ^^^ b) &&& (a &&& b)) = 0 := Nat.eq_of_testBit_eq fun i => by
    simp only [Nat.testBit_and, Nat.testBit_xor, Nat.zero_testBit]
    cases a.testBit i <;> cases b.testBit i <;> rfl
  have e3 := nat_or_add_and (a ^^^ b) (a &&& b)
  rw [e1, e2] at e3
  unfold Builtin.bitXor
  rw [bor_nat, band_nat]
  omega
theorem shr_nat (a k : Nat) : (a : Int) / 2 ^ k = ((a >>> k : Nat) : Int) := by
  rw [Nat.shiftRight_eq_div_pow]
  simp
theorem shl_nat (a k : Nat) : (a : Int) * 2 ^ k = ((a <<< k : Nat) : Int) := by
  rw [Nat.shiftLeft_eq]
  simp
theorem shr_one (a k : Nat) : Builtin.bitAnd ((a : Int) / 2 ^ k) 1 = if a.testBit k then 1 else 0 := by
  rw [shr_nat, show (1 : Int) = ((1 : Nat) : Int) from rfl, band_nat, Nat.and_one_is_mod, Nat.testBit_eq_decide_div_mod_eq, Nat.shiftRight_eq_div_pow]
  have := Nat.mod_two_eq_zero_or_one (a / 2 ^ k)
  by_cases h : a / 2 ^ k % 2 = 1
  · simp [h]
  · have h0 : a / 2 ^ k % 2 = 0 := by omega
    simp [h0]
/-! the kinds of rules differ -/
@[simp] theorem kd_none_empty : ¬ Str.ofString "none" = Str.ofString "empty" := by decide +kernel
@[simp] theorem kd_none_one : ¬ Str.ofString "none" = Str.ofString "one" := by decide +kernel
@[simp] theorem kd_none_row : ¬ Str.ofString "none" = Str.ofString "row" := by decide +kernel
@[simp] theorem kd_none_either : ¬ Str.ofString "none" = Str.ofString "either" := by decide +kernel
@[simp] theorem kd_none_both : ¬ Str.ofString "none" = Str.ofString "both" := by decide +kernel
@[simp] theorem kd_none_not : ¬ Str.ofString "none" = Str.ofString "not" := by decide +kernel
@[simp] theorem kd_none_times : ¬ Str.ofString "none" = Str.ofString "times" := by decide +kernel
@[simp] theorem kd_empty_none : ¬ Str.ofString "empty" = Str.ofString "none" := by decide +kernel
@[simp] theorem kd_empty_one : ¬ Str.ofString "empty" = Str.ofString "one" := by decide +kernel
@[simp] theorem kd_empty_row : ¬ Str.ofString "empty" = Str.ofString "row" := by decide +kernel
@[simp] theorem kd_empty_either : ¬ Str.ofString "empty" = Str.ofString "either" := by decide +kernel
@[simp] theorem kd_empty_both : ¬ Str.ofString "empty" = Str.ofString "both" := by decide +kernel
@[simp] theorem kd_empty_not : ¬ Str.ofString "empty" = Str.ofString "not" := by decide +kernel
@[simp] theorem kd_empty_times : ¬ Str.ofString "empty" = Str.ofString "times" := by decide +kernel
@[simp] theorem kd_one_none : ¬ Str.ofString "one" = Str.ofString "none" := by decide +kernel
@[simp] theorem kd_one_empty : ¬ Str.ofString "one" = Str.ofString "empty" := by decide +kernel
@[simp] theorem kd_one_row : ¬ Str.ofString "one" = Str.ofString "row" := by decide +kernel
@[simp] theorem kd_one_either : ¬ Str.ofString "one" = Str.ofString "either" := by decide +kernel
@[simp] theorem kd_one_both : ¬ Str.ofString "one" = Str.ofString "both" := by decide +kernel
@[simp] theorem kd_one_not : ¬ Str.ofString "one" = Str.ofString "not" := by decide +kernel
@[simp] theorem kd_one_times : ¬ Str.ofString "one" = Str.ofString "times" := by decide +kernel
@[simp] theorem kd_row_none : ¬ Str.ofString "row" = Str.ofString "none" := by decide +kernel
@[simp] theorem kd_row_empty : ¬ Str.ofString "row" = Str.ofString "empty" := by decide +kernel
@[simp] theorem kd_row_one : ¬ Str.ofString "row" = Str.ofString "one" := by decide +kernel
@[simp] theorem kd_row_either : ¬ Str.ofString "row" = Str.ofString "either" := by decide +kernel
@[simp] theorem kd_row_both : ¬ Str.ofString "row" = Str.ofString "both" := by decide +kernel
@[simp] theorem kd_row_not : ¬ Str.ofString "row" = Str.ofString "not" := by decide +kernel
@[simp] theorem kd_row_times : ¬ Str.ofString "row" = Str.ofString "times" := by decide +kernel
@[simp] theorem kd_either_none : ¬ Str.ofString "either" = Str.ofString "none" := by decide +kernel
@[simp] theorem kd_either_empty : ¬ Str.ofString "either" = Str.ofString "empty" := by decide +kernel
@[simp] theorem kd_either_one : ¬ Str.ofString "either" = Str.ofString "one" := by decide +kernel
@[simp] theorem kd_either_row : ¬ Str.ofString "either" = Str.ofString "row" := by decide +kernel
@[simp] theorem kd_either_both : ¬ Str.ofString "either" = Str.ofString "both" := by decide +kernel
@[simp] theorem kd_either_not : ¬ Str.ofString "either" = Str.ofString "not" := by decide +kernel
@[simp] theorem kd_either_times : ¬ Str.ofString "either" = Str.ofString "times" := by decide +kernel
@[simp] theorem kd_both_none : ¬ Str.ofString "both" = Str.ofString "none" := by decide +kernel
@[simp] theorem kd_both_empty : ¬ Str.ofString "both" = Str.ofString "empty" := by decide +kernel
@[simp] theorem kd_both_one : ¬ Str.ofString "both" = Str.ofString "one" := by decide +kernel
@[simp] theorem kd_both_row : ¬ Str.ofString "both" = Str.ofString "row" := by decide +kernel
@[simp] theorem kd_both_either : ¬ Str.ofString "both" = Str.ofString "either" := by decide +kernel
@[simp] theorem kd_both_not : ¬ Str.ofString "both" = Str.ofString "not" := by decide +kernel
@[simp] theorem kd_both_times : ¬ Str.ofString "both" = Str.ofString "times" := by decide +kernel
@[simp] theorem kd_not_none : ¬ Str.ofString "not" = Str.ofString "none" := by decide +kernel
@[simp] theorem kd_not_empty : ¬ Str.ofString "not" = Str.ofString "empty" := by decide +kernel
@[simp] theorem kd_not_one : ¬ Str.ofString "not" = Str.ofString "one" := by decide +kernel
@[simp] theorem kd_not_row : ¬ Str.ofString "not" = Str.ofString "row" := by decide +kernel
@[simp] theorem kd_not_either : ¬ Str.ofString "not" = Str.ofString "either" := by decide +kernel
@[simp] theorem kd_not_both : ¬ Str.ofString "not" = Str.ofString "both" := by decide +kernel
@[simp] theorem kd_not_times : ¬ Str.ofString "not" = Str.ofString "times" := by decide +kernel
@[simp] theorem kd_times_none : ¬ Str.ofString "times" = Str.ofString "none" := by decide +kernel
@[simp] theorem kd_times_empty : ¬ Str.ofString "times" = Str.ofString "empty" := by decide +kernel
@[simp] theorem kd_times_one : ¬ Str.ofString "times" = Str.ofString "one" := by decide +kernel
@[simp] theorem kd_times_row : ¬ Str.ofString "times" = Str.ofString "row" := by decide +kernel
@[simp] theorem kd_times_either : ¬ Str.ofString "times" = Str.ofString "either" := by decide +kernel
@[simp] theorem kd_times_both : ¬ Str.ofString "times" = Str.ofString "both" := by decide +kernel
@[simp] theorem kd_times_not : ¬ Str.ofString "times" = Str.ofString "not" := by decide +kernel
/-! relations -/
theorem tidy_rid (n : Nat) : Tidy n (rid n) := fun b e h => ⟨Nat.le_of_eq h.1, h.2⟩
theorem tidy_rno (n : Nat) : Tidy n rno := fun b e h => h.elim
theorem tidy_rup (n : Nat) : Tidy n (rup n) := fun b e h => h
theorem tidy_comp {n : Nat} {P Q : Rel} (h1 : Tidy n P) (h2 : Tidy n Q) : Tidy n (rcomp P Q) := fun b e ⟨m, x, y⟩ => ⟨Nat.le_trans (h1 _ _ x).1 (h2 _ _ y).1, (h2 _ _ y).2⟩
theorem tidy_or {n : Nat} {P Q : Rel} (h1 : Tidy n P) (h2 : Tidy n Q) : Tidy n (ror P Q) := fun b e h => h.elim (h1 b e) (h2 b e)
theorem tidy_and {n : Nat} {P Q : Rel} (h1 : Tidy n P) : Tidy n (rand P Q) := fun b e h => h1 b e h.1
theorem tidy_not {n : Nat} {P : Rel} : Tidy n (rnot n P) := fun b e h => h.1
theorem tidy_row {n : Nat} : ∀ {Ps : List Rel}, (∀ P, P ∈ Ps → Tidy n P) → Tidy n (rrow n Ps)
  | [], _ => tidy_rid n
  | P :: Ps, h => tidy_comp (h P List.mem_cons_self) (tidy_row fun Q hq => h Q (List.mem_cons_of_mem _ hq))
theorem tidy_any {n : Nat} : ∀ {Ps : List Rel}, (∀ P, P ∈ Ps → Tidy n P) → Tidy n (rany Ps)
  | [], _ => tidy_rno n
  | P :: Ps, h => tidy_or (h P List.mem_cons_self) (tidy_any fun Q hq => h Q (List.mem_cons_of_mem _ hq))
theorem tidy_all {n : Nat} : ∀ {Ps : List Rel}, (∀ P, P ∈ Ps → Tidy n P) → Tidy n (rall n Ps)
  | [], _ => tidy_rup n
  | P :: Ps, h => tidy_and (h P List.mem_cons_self)
theorem tidy_pow {n : Nat} {P Q : Rel} (h1 : Tidy n P) (h2 : Tidy n Q) : ∀ k, Tidy n (rpow P Q k)
  | 0 => h2
  | k + 1 => tidy_comp h1 (tidy_pow h1 h2 k)
theorem tidy_star {n : Nat} {P : Rel} (h : Tidy n P) : Tidy n (Rstar n P) := fun b e r => by
  induction r with
  | refl h0 => exact ⟨Nat.le_refl _, h0⟩
  | step h1 h2 h3 ih => exact ⟨by omega, ih.2⟩
theorem tidy_times {n : Nat} {P : Rel} (h : Tidy n P) (lo : Nat) (hi : Option Nat) : Tidy n (rtimes n P lo hi) := by
  cases hi with
  | none => exact tidy_pow h (tidy_star h) lo
  | some k => exact tidy_pow h (tidy_pow (tidy_or h (tidy_rid n)) (tidy_rid n) _) lo
theorem rel_ext {P Q : Rel} (h : ∀ b e, P b e ↔ Q b e) : P = Q := funext fun b => funext fun e => propext (h b e)
theorem comp_assoc (P Q R : Rel) : rcomp (rcomp P Q) R = rcomp P (rcomp Q R) := rel_ext fun b e =>
  ⟨fun ⟨m, ⟨k, h1, h2⟩, h3⟩ => ⟨k, h1, m, h2, h3⟩, fun ⟨k, h1, m, h2, h3⟩ => ⟨m, ⟨k, h1, h2⟩, h3⟩⟩
theorem id_comp {n : Nat} {P : Rel} (h : Tidy n P) : rcomp (rid n) P = P := rel_ext fun b e =>
  ⟨fun ⟨m, ⟨h1, h2⟩, h3⟩ => by rw [h1]; exact h3, fun h3 => ⟨b, ⟨rfl, by have := h _ _ h3; omega⟩, h3⟩⟩
theorem comp_id {n : Nat} {P : Rel} (h : Tidy n P) : rcomp P (rid n) = P := rel_ext fun b e =>
  ⟨fun ⟨m, h1, ⟨h2, h3⟩⟩ => by rw [← h2]; exact h1, fun h3 => ⟨e, h3, ⟨rfl, (h _ _ h3).2⟩⟩⟩
/-- a row folded from the left -/
theorem foldl_comp {n : Nat} : ∀ (Ps : List Rel) (P : Rel), Tidy n P → (∀ Q, Q ∈ Ps → Tidy n Q) → Ps.foldl rcomp P = rcomp P (rrow n Ps)
  | [], P, h, _ => (comp_id h).symm
  | Q :: Ps, P, h, hq => by
    rw [List.foldl_cons, foldl_comp Ps _ (tidy_comp h (hq Q List.mem_cons_self)) fun R hr => hq R (List.mem_cons_of_mem _ hr), comp_assoc]
    rfl
theorem row_rep {n : Nat} (P Q : Rel) (hq : Tidy n Q) : ∀ k, rcomp (rrow n (List.replicate k P)) Q = rpow P Q k
  | 0 => id_comp hq
  | k + 1 => by
    show rcomp (rcomp P _) Q = rcomp P _
    rw [comp_assoc, row_rep P Q hq k]
/-- all of a rule's words lie tidy -/
theorem tidy_leaf {x : PyData} {D : Den} (h : Leaf x D) (w : Str) : Tidy w.length (D w) := by
  cases h with
  | no => exact tidy_rno _
  | em => exact tidy_rid _
  | one h1 h2 h3 =>
    rintro b e ⟨rfl, c, h4, _⟩
    have := (List.getElem?_eq_some_iff.mp h4).1
    refine ⟨by omega, ?_⟩
    rw [Array.length_toList] at this
    exact this
theorem all2_mem {α β : Type} {R : α → β → Prop} {xs : List α} {ys : List β} (h : All2 R xs ys) : ∀ y, y ∈ ys → ∃ x, x ∈ xs ∧ R x y := by
  induction h with
  | nil => intro y hy; cases hy
  | cons a b ih =>
    intro y hy
    rcases List.mem_cons.mp hy with rfl | hy
    · exact ⟨_, List.mem_cons_self, a⟩
    · obtain ⟨x, hx, r⟩ := ih y hy
      exact ⟨x, List.mem_cons_of_mem _ hx, r⟩
theorem all2_len {α β : Type} {R : α → β → Prop} {xs : List α} {ys : List β} (h : All2 R xs ys) : xs.length = ys.length := by
  induction h with
  | nil => rfl
  | cons a b ih => rw [List.length_cons, List.length_cons, ih]
theorem tidy_rul : ∀ (d : Nat) {x : PyData} {D : Den}, Rul d x D → ∀ w : Str, Tidy w.length (D w)
  | 0, x, D, h, w => tidy_leaf h w
  | d + 1, x, D, h, w => by
    have step : ∀ {xs : List PyData} {Ds : List Den}, All2 (Rul d) xs Ds → ∀ P, P ∈ Ds.map (· w) → Tidy w.length P := fun h P hP => by
      obtain ⟨E, hE, rfl⟩ := List.mem_map.mp hP
      obtain ⟨x, _, hx⟩ := all2_mem h E hE
      exact tidy_rul d hx w
    cases h with
    | leaf h => exact tidy_leaf h w
    | row h1 h2 h3 => exact tidy_row (step h3)
    | ei h1 h2 h3 => exact tidy_any (step h3)
    | bo h1 h2 h3 => exact tidy_all (step h3)
    | no h => exact tidy_not
    | ti h h1 h2 => exact tidy_times (tidy_rul d h w) _ _
end DL
/-! DL: the law's own call, its promise one of those that know that nothing is under repr; promises put together -/
namespace DL
open PySem PySem.Spec PyProof.Rows L2
section
variable {P : Program} {w : World} {K : PySem.W.Frag} {mg mb : Str → Option Value} {k : Nat} {fa p : Addr} {fd : FuncData} {x : Str} {t : Shared} {us : List Value} {ns : List Int}
/-- what stands behind the call of a law -/
abbrev LawEnd (t : Shared) (r : Result) (t' : Shared) : Prop := r = .ok (.ret (.bool true)) ∧ OldK t.heap t'.heap ∧ t'.os = t.os ∧ AllBare t'.gens
theorem law_at (kin : K.In t.heap) (gl : t.heap.Ns mainGlobals mg) (bn : t.heap.Ns builtinsNs mb) (bb : ∀ y : Str, y ≠ "__name__" → mb y = bootBuiltins y) (nl : t.heap.NoLimit) (gn : t.gens = #[])
    (hp : t.heap.get? p = some { cls := .type "list", data := .seq us.toArray }) (hr : Room k callerA) (F : ∀ base : Heap, FnG P w K mg base CX0 k fa fd [x] (spLaw K)) (bd : ∀ (s : Shared) (u : Value), BindsTo s fd ⟨[u], []⟩ [(x, u)])
    (H : Hp) (h0 : ∀ b, H b = none ∨ (b = p ∧ ∃ o xs, H b = some (.frz o (.lst xs)))) (sq : SqL K H p (ns.map V.int)) (nn : ns.length ≤ 63) (hok : HOk P w H t.heap) (hK : H p ≠ none → K.lookup p = none) :
    codeAny (model P w) callerA (.call (.ref fa) ⟨[.ref p], []⟩) (LawEnd t) t := by
  have free : ∀ {b : Addr}, b ≠ p → H b = none := fun {b} n => (h0 b).resolve_right fun z => n z.1
  have dict : ∀ {b : Addr} {m : Str → Option Value}, t.heap.Ns b m → (hidT t.heap H).Ns b m := fun {b m} q => by
    obtain ⟨o, es, ep, e1, e2, e3⟩ := q
    refine ⟨o, es, ep, hidT_get e1 (free fun z => ?_), e2, e3⟩
    rw [z, hp] at e1
    cases e1
    cases e2
  have inb : K.In (hidT t.heap H) := fun b o e => by
    by_cases z : H b = none
    · exact hidT_get (kin b o e) z
    · have zb : b = p := ((h0 b).resolve_left z).1
      rw [zb] at e z
      rw [hK z] at e
      cases e
  obtain ⟨ml, l1, l2⟩ := nl
  have envd : Env0 P w K mg (hidT t.heap H) callerA [] t H :=
    ⟨rfl, ⟨inb, dict gl, ⟨mb, dict bn, bb⟩, ⟨ml, dict l1, l2⟩⟩, fun b o e => of_hidT e, Nat.le_of_eq (hidT_size _ _), trivial, fun b hb => (by cases (show b ∈ ([] : List Addr) from hb)), hok, .of_eq gn⟩
  refine codeAny_mono ((F (hidT t.heap H)).go callerA [] t H ⟨[.ref p], []⟩ [.ref p] [.ref p] (fun v _ => v = .bl true) (fun _ _ _ => False) rfl hr envd (bd t (.ref p)) (.cons rfl .nil) ⟨p, ns, rfl, sq, nn, fun _ => rfl⟩) fun r t' q => ?_
  match r, q with
  | .error e, q => exact (show False from q).elim
  | .ok .next, q => exact q.elim
  | .ok .brk, q => exact q.elim
  | .ok .cont, q => exact q.elim
  | .ok (.ret u), q =>
    obtain ⟨v, H', o1, o2, un, hok2, ru, rfl⟩ := q
    obtain rfl : u = Value.bool true := ru
    refine ⟨rfl, OldK.of_keep fun b o e => ?_, o1, o2⟩
    rcases h0 b with z | ⟨_, ob, xs, z⟩
    · exact un.keep b o e z (fun y => (by cases (show b ∈ ([] : List Addr) from y))) fun y => (by cases y)
    · have g1 := (hok b _ z).1
      have g2 := (hok2 b _ (un.frzs b ob _ z)).1
      rw [e] at g1
      cases g1
      exact g2
theorem law_callG (kin : K.In t.heap) (gl : t.heap.Ns mainGlobals mg) (bn : t.heap.Ns builtinsNs mb) (bb : ∀ y : Str, y ≠ "__name__" → mb y = bootBuiltins y) (nl : t.heap.NoLimit) (gn : t.gens = #[])
    (hp : t.heap.get? p = some { cls := .type "list", data := .seq us.toArray }) (hi : IntsAre us ns) (nn : ns.length ≤ 63) (hr : Room k callerA) (F : ∀ base : Heap, FnG P w K mg base CX0 k fa fd [x] (spLaw K)) (bd : ∀ (s : Shared) (u : Value), BindsTo s fd ⟨[u], []⟩ [(x, u)]) :
    codeAny (model P w) callerA (.call (.ref fa) ⟨[.ref p], []⟩) (LawEnd t) t := by
  have rv := vals_ints hi
  have line : ns.length ≤ sizeLine := by rw [sizeLine_eq]; omega
  have ln := hi.length
  cases hk : K.lookup p with
  | some o =>
    have e := kin p o hk
    rw [hp] at e
    cases e
    exact law_at kin gl bn bb nl gn hp hr F bd (fun _ => none) (fun _ => .inl rfl) (.inr ⟨_, us.toArray, _, hk, rfl, rfl, rfl, by rw [List.size_toArray, ln]; exact line, by simpa using rv⟩) nn (fun b u z => by cases (show (none : Option HO) = some u from z)) fun z => absurd rfl z
  | none =>
    let H : Hp := fun b => if b = p then some (.frz { cls := .type "list", data := .seq us.toArray } (.lst (ns.map V.int))) else none
    have hp2 : H p = some (.frz { cls := .type "list", data := .seq us.toArray } (.lst (ns.map V.int))) := if_pos rfl
    refine law_at kin gl bn bb nl gn hp hr F bd H (fun b => ?_) (.inl (.inr ⟨_, hp2⟩)) nn (fun b u z => ?_) fun _ => hk
    · by_cases z : b = p
      · exact .inr ⟨z, _, _, by rw [z]; exact hp2⟩
      · exact .inl (if_neg z)
    · by_cases y : b = p
      · rw [y, hp2] at z
        cases z
        rw [y]
        exact ⟨hp, by rw [List.length_map]; exact line, us, _, rv, hp⟩
      · rw [show H b = none from if_neg y] at z
        cases z
end
/-- behind k_head, from the law's promise -/
theorem walk_ofG {l : PySem.W.OpenLaw} {k : Nat} {q : Program} {loose : List Str} {XP : (Str → Option Value) → Heap → Prop} {YP : World → Heap → Prop} {d : DefRec} {K : Params → PySem.W.Frag} {x : Str}
    (h63 : l.most = some 63) (nodf : d.params.defaults = []) (room : Room k callerA) (hK : ∀ (w : World) (h : Heap), YP w h → (K w.params).In h)
    (F : ∀ (w : World) (mg : Str → Option Value) (fa : Addr) (h : Heap), (K w.params).In h → h.Ns mainGlobals mg → mg d.name = some (.ref fa) →
      ∃ fd : FuncData, (∀ (s : Shared) (u : Value), BindsTo s fd ⟨[u], []⟩ [(x, u)]) ∧ ∀ base : Heap, FnG l.prog w (K w.params) mg base CX0 k fa fd [x] (spLaw (K w.params))) :
    PySem.W.WalkO q loose XP YP l.row.toRowW d [] (fun f vs => PySem.call f vs) := by
  refine Att.attach_call h63 nodf fun w t0 t mg mb fa o pm cd doc p us ns G Y e1 e2 e3 hm hp hi hl gn => ?_
  obtain ⟨fd, bd, hF⟩ := F w mg fa _ (hK w _ Y) G.T.g hm
  exact law_callG (hK w _ Y) G.T.g G.T.b G.T.builtins G.T.nolimit gn hp hi hl room hF bd
/-! promises put together, and the one that is never asked -/
section
variable {P : Program} {w : World} {K : PySem.W.Frag} {mg : Str → Option Value} {base : Heap} {k : Nat} {f : Addr} {fd : FuncData} {ps : List Str} {qual x : Str} {st : Stmt} {N : List Str}
theorem fng_unionD {U : DSp} {sp : Nat → DSp} {n : Nat} (h : ∀ d, d ≤ n → FnG P w K mg base CX0 k f fd ps (spD K (sp d))) (hU : ∀ ds Φ, U ds Φ → ∃ d, d ≤ n ∧ sp d ds Φ) : FnG P w K mg base CX0 k f fd ps (spD K U) :=
  ⟨fun vs H Q E ⟨F, ds, Φ, a, b, c, e⟩ => by
    obtain ⟨d, hd, c⟩ := hU _ _ c
    exact (h d hd).len vs H Q E ⟨F, ds, Φ, a, b, c, e⟩, fun A outer s H args us vs Q E g hr z hb hv ⟨F, ds, Φ, a, b, c, e⟩ => by
    obtain ⟨d, hd, c⟩ := hU _ _ c
    exact (h d hd).go A outer s H args us vs Q E g hr z hb hv ⟨F, ds, Φ, a, b, c, e⟩⟩
theorem fng_unionP {U : DSpP} {sp : Nat → DSpP} {n : Nat} (h : ∀ d, d ≤ n → FnG P w K mg base CX0 k f fd ps (spP K (sp d))) (hU : ∀ ds q Φ, U ds q Φ → ∃ d, d ≤ n ∧ sp d ds q Φ) : FnG P w K mg base CX0 k f fd ps (spP K U) :=
  ⟨fun vs H Q E ⟨a, us, F, ds, q, Φ, h1, h2, h3, h4, h5, c, h6⟩ => by
    obtain ⟨d, hd, c⟩ := hU _ _ _ c
    exact (h d hd).len vs H Q E ⟨a, us, F, ds, q, Φ, h1, h2, h3, h4, h5, c, h6⟩, fun A outer s H args us' vs Q E g hr z hb hv ⟨a, us, F, ds, q, Φ, h1, h2, h3, h4, h5, c, h6⟩ => by
    obtain ⟨d, hd, c⟩ := hU _ _ _ c
    exact (h d hd).go A outer s H args us' vs Q E g hr z hb hv ⟨a, us, F, ds, q, Φ, h1, h2, h3, h4, h5, c, h6⟩⟩
theorem fng_noD : FnG P w K mg base CX0 k f fd ps (spD K fun _ _ => False) := ⟨fun vs H Q E ⟨F, ds, Φ, a, b, c, e⟩ => c.elim, fun A outer s H args us vs Q E g hr z hb hv ⟨F, ds, Φ, a, b, c, e⟩ => c.elim⟩
theorem fng_noP : FnG P w K mg base CX0 k f fd ps (spP K fun _ _ _ => False) := ⟨fun vs H Q E ⟨a, us, F, ds, q, Φ, h1, h2, h3, h4, h5, c, h6⟩ => c.elim, fun A outer s H args us vs Q E g hr z hb hv ⟨a, us', F, ds, q, Φ, h1, h2, h3, h4, h5, c, h6⟩ => c.elim⟩
end
/-- a def of the text in the written part -/
structure DefK (K : PySem.W.Frag) (x : Str) (st : Stmt) : Prop where
  ex : ∃ (f : Addr) (od an : Option Addr) (sl : Array (Option Value)) (oc kV dc pm cd ct : Value), PySem.W.nsIn K mainGlobals x = some (some (.ref f)) ∧
    K.lookup f = some ⟨oc, od, .func (PySem.W.fnOf x x (defArgs st) (defBody st) (defScope st) .none kV dc pm an cd ct), sl⟩ ∧ PySem.W.codeIn K cd x = true ∧ PySem.W.keepIn K (.ref f) = true
theorem DefK.mk4 {K : PySem.W.Frag} {x : Str} {st : Stmt} {f : Addr} {od an : Option Addr} {sl : Array (Option Value)} {oc kV dc pm cd ct : Value} (a : PySem.W.nsIn K mainGlobals x = some (some (.ref f)))
    (l : K.lookup f = some ⟨oc, od, .func (PySem.W.fnOf x x (defArgs st) (defBody st) (defScope st) .none kV dc pm an cd ct), sl⟩) (c : PySem.W.codeIn K cd x = true) (kp : PySem.W.keepIn K (.ref f) = true) : DefK K x st := ⟨_, _, _, _, _, _, _, _, _, _, a, l, c, kp⟩
theorem DefK.fn {K : PySem.W.Frag} {h : Heap} {mg : Str → Option Value} {x : Str} {st : Stmt} (D : DefK K x st) (X : K.In h) (G : h.Ns mainGlobals mg) :
    ∃ (f : Addr) (od an : Option Addr) (sl : Array (Option Value)) (oc kV dc pm cd ct : Value), Fun K x x st f (PySem.W.fnOf x x (defArgs st) (defBody st) (defScope st) .none kV dc pm an cd ct) ∧ mg x = some (.ref f) ∧ PySem.W.keepIn K (.ref f) = true := by
  obtain ⟨f, od, an, sl, oc, kV, dc, pm, cd, ct, a, l, c, kp⟩ := D.ex
  exact ⟨f, od, an, sl, oc, kV, dc, pm, cd, ct, fun_mk l c kp, PySem.W.mg_of X G a, kp⟩
end DL
/-! DL: defs that stand, from their readings -/
namespace DL
open PySem PySem.Spec PyProof.Rows L2
section
variable {P : Program} {w : World} {K : PySem.W.Frag} {mg : Str → Option Value} {base h : Heap} {k : Nat} {ps N : List Str} {x : Str} {st : Stmt}
/-- how its arguments are bound -/
abbrev Bnd (x : Str) (st : Stmt) (ps : List Str) : Prop := ∀ (kV doc pm : Value) (an : Option Addr) (cdv ct : Value) (us : List Value), us.length = ps.length → bindArgs (PySem.W.fnOf x x (defArgs st) (defBody st) (defScope st) .none kV doc pm an cdv ct) ⟨us, []⟩ = pure (ps.zip us)
/-- its body over data -/
abbrev Bdy (P : Program) (w : World) (K : PySem.W.Frag) (mg : Str → Option Value) (base : Heap) (k : Nat) (N : List Str) (x : Str) (st : Stmt) (c : DS → Prop) : Prop :=
  ∀ (f : Addr) (cdv : Value) (A : Around) (outer : List Env) (s : Shared) (H : Hp) (E : XK), (A.deeper (envOfC x (defScope st) s.heap.objs.size f cdv)).guards = some [] → Room k (A.deeper (envOfC x (defScope st) s.heap.objs.size f cdv)) →
    ∃ wd, XSs (cxOf CX0 P w K mg base N x (defScope st) f cdv A outer s H E).nox (defBody st) wd ∧ c wd
theorem caD {sp : DSp} (D : DefK K x st) (X : K.In h) (G : h.Ns mainGlobals mg) (Sc : FnScope N ps (defScope st)) (b : Bnd x st ps) (len : ∀ ds Φ, sp ds Φ → ds.length = ps.length)
    (body : Bdy P w K mg base k N x st fun wd => ∀ ds Φ, sp ds Φ → wd (endD Φ) ⟨startE N (ds.map .d), []⟩) : Ca P w K mg base (k + 1) x ps (spD K sp) := by
  obtain ⟨f, od, an, sl, oc, kV, dc, pm, cd, ct, F, gm, kp⟩ := D.fn X G
  exact ⟨f, _, fn_D F Sc len (body f), gm, kp, F.binds b⟩
theorem caP {sp : DSpP} (D : DefK K x st) (X : K.In h) (G : h.Ns mainGlobals mg) (Sc : FnScope N ps (defScope st)) (b : Bnd x st ps) (len : ∀ ds q Φ, sp ds q Φ → ds.length + 1 = ps.length)
    (body : Bdy P w K mg base k N x st fun wd => ∀ ds q Φ, sp ds q Φ → wd (endP Φ) ⟨startE N (.pl :: ds.map .d), q⟩) : Ca P w K mg base (k + 1) x ps (spP K sp) := by
  obtain ⟨f, od, an, sl, oc, kV, dc, pm, cd, ct, F, gm, kp⟩ := D.fn X G
  exact ⟨f, _, fn_P F Sc len (body f), gm, kp, F.binds b⟩
theorem caL {sp : DSpL} (D : DefK K x st) (X : K.In h) (G : h.Ns mainGlobals mg) (Sc : FnScope N ps (defScope st)) (b : Bnd x st ps) (len : ∀ ds Φ, sp ds Φ → ds.length = ps.length)
    (body : Bdy P w K mg base k N x st fun wd => ∀ ds Φ, sp ds Φ → wd (endL Φ) ⟨startE N (ds.map .d), []⟩) : Ca P w K mg base (k + 1) x ps (spL K sp) := by
  obtain ⟨f, od, an, sl, oc, kV, dc, pm, cd, ct, F, gm, kp⟩ := D.fn X G
  exact ⟨f, _, fn_L F Sc len (body f), gm, kp, F.binds b⟩
theorem caS {sp : DSpS} (D : DefK K x st) (X : K.In h) (G : h.Ns mainGlobals mg) (Sc : FnScope N ps (defScope st)) (b : Bnd x st ps) (len : ps.length = 1)
    (body : Bdy P w K mg base k N x st fun wd => ∀ ns Φ, sp ns Φ → wd (endL Φ) ⟨startE N [.sc ns], []⟩) : Ca P w K mg base (k + 1) x ps (spS K sp) := by
  obtain ⟨f, od, an, sl, oc, kV, dc, pm, cd, ct, F, gm, kp⟩ := D.fn X G
  exact ⟨f, _, fn_S F Sc len (body f), gm, kp, F.binds b⟩
/-- a def that calls itself, a promise for each depth -/
theorem caRecD {sp : Nat → DSp} {U : DSp} {n k0 : Nat} (D : DefK K x st) (X : K.In h) (G : h.Ns mainGlobals mg) (Sc : FnScope N ps (defScope st)) (b : Bnd x st ps) (len : ∀ d ds Φ, sp d ds Φ → ds.length = ps.length) (hU : ∀ ds Φ, U ds Φ → ∃ d, d ≤ n ∧ sp d ds Φ)
    (body : ∀ (d : Nat) (rc : DSp), (∀ e, d = e + 1 → rc = sp e) → ∀ l : Nat, l ≤ k0 + d → Ca P w K mg base l x ps (spD K rc) → Bdy P w K mg base (k0 + d) N x st fun wd => ∀ ds Φ, sp d ds Φ → wd (endD Φ) ⟨startE N (ds.map .d), []⟩) : Ca P w K mg base (k0 + n + 1) x ps (spD K U) := by
  obtain ⟨f, od, an, sl, oc, kV, dc, pm, cd, ct, F, gm, kp⟩ := D.fn X G
  have go : ∀ d, FnG P w K mg base CX0 (k0 + d + 1) f (PySem.W.fnOf x x (defArgs st) (defBody st) (defScope st) .none kV dc pm an cd ct) ps (spD K (sp d)) := by
    intro d
    induction d with
    | zero => exact fn_D F Sc (len 0) (body 0 (fun _ _ => False) (fun e z => by cases z) 0 (Nat.zero_le _) ⟨f, _, fng_noD, gm, kp, F.binds b⟩ f)
    | succ d ih => exact fn_D F Sc (len (d + 1)) (body (d + 1) (sp d) (fun e z => by cases z; rfl) (k0 + d + 1) (Nat.le_refl _) ⟨f, _, ih, gm, kp, F.binds b⟩ f)
  exact ⟨f, _, fng_unionD (n := n) (fun d hd => (go d).mono (by omega)) hU, gm, kp, F.binds b⟩
theorem caRecP {sp : Nat → DSpP} {U : DSpP} {n k0 : Nat} (D : DefK K x st) (X : K.In h) (G : h.Ns mainGlobals mg) (Sc : FnScope N ps (defScope st)) (b : Bnd x st ps) (len : ∀ d ds q Φ, sp d ds q Φ → ds.length + 1 = ps.length) (hU : ∀ ds q Φ, U ds q Φ → ∃ d, d ≤ n ∧ sp d ds q Φ)
    (body : ∀ (d : Nat) (rc : DSpP), (∀ e, d = e + 1 → rc = sp e) → ∀ l : Nat, l ≤ k0 + d → Ca P w K mg base l x ps (spP K rc) → Bdy P w K mg base (k0 + d) N x st fun wd => ∀ ds q Φ, sp d ds q Φ → wd (endP Φ) ⟨startE N (.pl :: ds.map .d), q⟩) : Ca P w K mg base (k0 + n + 1) x ps (spP K U) := by
  obtain ⟨f, od, an, sl, oc, kV, dc, pm, cd, ct, F, gm, kp⟩ := D.fn X G
  have go : ∀ d, FnG P w K mg base CX0 (k0 + d + 1) f (PySem.W.fnOf x x (defArgs st) (defBody st) (defScope st) .none kV dc pm an cd ct) ps (spP K (sp d)) := by
    intro d
    induction d with
    | zero => exact fn_P F Sc (len 0) (body 0 (fun _ _ _ => False) (fun e z => by cases z) 0 (Nat.zero_le _) ⟨f, _, fng_noP, gm, kp, F.binds b⟩ f)
    | succ d ih => exact fn_P F Sc (len (d + 1)) (body (d + 1) (sp d) (fun e z => by cases z; rfl) (k0 + d + 1) (Nat.le_refl _) ⟨f, _, ih, gm, kp, F.binds b⟩ f)
  exact ⟨f, _, fng_unionP (n := n) (fun d hd => (go d).mono (by omega)) hU, gm, kp, F.binds b⟩
/-- the law's own def -/
theorem caLaw {sx : Str} {yp p1 p2 cp pos : Pos} {rest : List Stmt} {fa : Addr} {kS : Nat} (D : DefK K "law" st) (X : K.In h) (G : h.Ns mainGlobals mg) (hfa : mg "law" = some (.ref fa)) (Sc : FnScope N ["script"] (defScope st)) (hN : 2 ≤ N.length)
    (hb0 : defBody st = .Assign [.Name "pool" yp] (.Call (.Name sx p1) [.Name "script" p2] [] cp) pos :: rest) (hk : kS ≤ k)
    (bd : ∀ (s : Shared) (v : Value) (kV dc pm : Value) (an : Option Addr) (cd ct : Value), BindsTo s (PySem.W.fnOf "law" "law" (defArgs st) (defBody st) (defScope st) .none kV dc pm an cd ct) ⟨[v], []⟩ [("script", v)])
    (C : ∀ base, Ca P w K mg base kS sx ["script"] (spS K spStream))
    (head : ∀ base (f : Addr) (cdv : Value) (A : Around) (outer : List Env) (s : Shared) (H : Hp) (E : XK) (fS : Addr) (fdS : FuncData), FnG P w K mg base CX0 kS fS fdS ["script"] (spS K spStream) → mg sx = some (.ref fS) → PySem.W.keepIn K (.ref fS) = true → Binds K fdS ["script"] [] →
      (A.deeper (envOfC "law" (defScope st) s.heap.objs.size f cdv)).guards = some [] → Room k (A.deeper (envOfC "law" (defScope st) s.heap.objs.size f cdv)) →
      PS (cxOf CX0 P w K mg base N "law" (defScope st) f cdv A outer s H E).nox (.Assign [.Name "pool" yp] (.Call (.Name sx p1) [.Name "script" p2] [] cp) pos) (tAsg (tCall (spS K spStream) [] E0 (tCons (tVar 0) tNil)) (gName 1)))
    (body : ∀ base (f : Addr) (cdv : Value) (A : Around) (outer : List Env) (s : Shared) (H : Hp) (E : XK), (A.deeper (envOfC "law" (defScope st) s.heap.objs.size f cdv)).guards = some [] → Room k (A.deeper (envOfC "law" (defScope st) s.heap.objs.size f cdv)) →
      ∃ wd, XSs (cxOf CX0 P w K mg base N "law" (defScope st) f cdv A outer s H E).nox rest wd ∧ ∀ ns q, PoolOk q → wd endTrue ⟨(startE N [.sc ns]).set 1 .pl, q⟩) :
    ∃ fd : FuncData, (∀ (s : Shared) (v : Value), BindsTo s fd ⟨[v], []⟩ [("script", v)]) ∧ ∀ base : Heap, FnG P w K mg base CX0 (k + 1) fa fd ["script"] (spLaw K) := by
  obtain ⟨f, od, an, sl, oc, kV, dc, pm, cd, ct, F, gm, kp⟩ := D.fn X G
  cases hfa.symm.trans gm
  refine ⟨_, fun s v => bd s v kV dc pm an cd ct, fun base => ?_⟩
  obtain ⟨fS, fdS, FS, gS, kS', bS⟩ := (C base).ex
  exact fn_law F Sc hN hb0 FS gS kS' bS hk (fun cdv A outer s H E g r => head base fa cdv A outer s H E fS fdS FS gS kS' bS g r) (body base fa)
end
end DL
namespace L17
open PySem PySem.Spec PyProof.Rows L2 DL
theorem w_rules_in (ds : List PyData) (Φ : PyData → Prop) (h : sp_rules_in ds Φ) : W_rules_in (endD Φ) ⟨startE ["rule"] (ds.map .d), []⟩ := by
  have h2 : 2 ≤ sizeLine := sz_le (by omega)
  have h1 : 1 ≤ sizeLine := sz_le (by omega)
  rcases h with ⟨s, xs, rfl, hs, hl, k⟩ | ⟨s, x, ys, rfl, hs, k⟩
  · simp [W_rules_in]
    rcases hs with rfl | rfl | rfl
    · rw [if_pos (by decide +kernel)]
      exact k
    · rw [if_pos (by decide +kernel)]
      exact k
    · rw [if_pos (by decide +kernel)]
      exact k
  · simp [W_rules_in]
    rcases hs with rfl | rfl
    · rw [if_neg (by decide +kernel), if_pos (by decide +kernel)]
      exact ⟨h2, h1, k⟩
    · rw [if_neg (by decide +kernel), if_pos (by decide +kernel)]
      exact ⟨h2, h1, k⟩
theorem w_is_piece (ds : List PyData) (Φ : PyData → Prop) (h : sp_is_piece ds Φ) : W_is_piece (endD Φ) ⟨startE ["pieces", "begin", "end"] (ds.map .d), []⟩ := by
  obtain ⟨n, x, P, b, e, rfl, hn, ⟨xs, rfl, f, rfl, hf⟩, hb, he, k⟩ := h
  simp [W_is_piece, atI_mkI (show b < n + 1 by omega), shr_one]
  refine k _ ?_
  rw [← hf b hb e]
theorem w_only_empty (ds : List PyData) (Φ : PyData → Prop) (h : sp_only_empty ds Φ) : W_only_empty (endD Φ) ⟨startE ["many", "at"] (ds.map .d), []⟩ := by
  obtain ⟨n, rfl, hn, k⟩ := h
  simp [W_only_empty]
  refine ⟨⟨by omega, by omega⟩, ?_⟩
  refine lc_rng (fun i => .int ((2 ^ i : Nat) : Int)) (by omega) (fun i hi Θ kΘ => ?_) ?_
  · simp
    refine ⟨⟨by omega, by omega, by decide⟩, kΘ _ _ rfl rfl⟩
  · refine k _ ⟨_, rfl, fun i => 2 ^ i, rfl, fun b hb e => ?_⟩
    rw [Nat.testBit_two_pow, decide_eq_true_eq]
    exact ⟨fun h => ⟨h, by omega⟩, fun h => h.1⟩
theorem w_in_turn (ds : List PyData) (Φ : List PyData → Prop) (h : sp_in_turn ds Φ) : W_in_turn (endL Φ) ⟨startE ["first", "second", "found", "begin", "middles", "ends", "middle"] (ds.map .d), []⟩ := by
  obtain ⟨n, x, y, P, Q, rfl, hn, tp, tq, ⟨xs, rfl, f, rfl, hf⟩, ⟨ys, rfl, g, rfl, hg⟩, k⟩ := h
  simp [W_in_turn]
  refine loop_enumI (fun i s => ∃ (r : Nat → Nat) (a3 a4 a5 a6 : Sl), s = ⟨[.d (.list (mkI (n + 1) f)), .d (.list (mkI (n + 1) g)), .o (mkI i r), a3, a4, a5, a6], []⟩ ∧ ∀ b, b < i → ∀ e, (r b).testBit e = true ↔ rcomp P Q b e)
    ⟨fun _ => 0, _, _, _, _, rfl, fun b hb => by omega⟩ ?_ ?_
  · rintro i s hi ⟨r, a3, a4, a5, a6, rfl, hr⟩ Ψ k1 k2 k3 k4 k5
    clear k2 k3 k4 k5
    simp [mkI_len]
    refine ⟨⟨⟨by omega, by omega⟩, by omega, by omega⟩, ?_⟩
    refine loop_rng (fun j s => ∃ (a6 : Sl) (v : Nat), s = ⟨[.d (.list (mkI (n + 1) f)), .d (.list (mkI (n + 1) g)), .o (mkI i r), .d (.int (i : Nat)), .d (.int (f i : Nat)), .d (.int (v : Nat)), a6], []⟩ ∧ ∀ e, v.testBit e = true ↔ ∃ m, m < i + j ∧ P i m ∧ Q m e)
      ⟨_, 0, rfl, fun e => ?_⟩ ?_ ?_
    · rw [Nat.zero_testBit]
      exact ⟨fun h => (by cases h), fun ⟨m, h1, h2, _⟩ => by have := (tp _ _ h2).1; omega⟩
    · rintro j s hj ⟨a6, v, rfl, hv⟩ Ψ' k1' k2 k3 k4 k5
      clear k2 k3 k4 k5
      have hm : i + j ≤ n := by omega
      have e2 : (i : Int) + (j : Int) = ((i + j : Nat) : Int) := by omega
      rw [e2]
      simp only [gNm, S.put, wIfS, wTru, wBin, wI2, wII, wVar, wC, wSet, wNext, wIx, List.getElem?_cons_zero, List.getElem?_cons_succ, List.set_cons_zero, List.set_cons_succ, Int.toNat_natCast, shr_one, optP, atI_mkI (show i + j < n + 1 by omega), bor_nat]
      have hf' := hf i (by omega) (i + j)
      have hg' := hg (i + j) hm
      refine ⟨by omega, ?_⟩
      by_cases hb : (f i).testBit (i + j) = true
      · simp only [hb, if_true]
        refine k1' _ ⟨_, v ||| g (i + j), rfl, fun e => ?_⟩
        rw [Nat.testBit_or, Bool.or_eq_true, hv, hg']
        refine ⟨fun h => h.elim (fun ⟨m, h1, h2, h3⟩ => ⟨m, by omega, h2, h3⟩) (fun h => ⟨i + j, by omega, hf'.mp hb, h⟩), fun ⟨m, h1, h2, h3⟩ => ?_⟩
        by_cases hmj : m = i + j
        · exact .inr (hmj ▸ h3)
        · exact .inl ⟨m, by omega, h2, h3⟩
      · simp only [hb]
        refine k1' _ ⟨_, v, rfl, fun e => ?_⟩
        rw [hv]
        refine ⟨fun ⟨m, h1, h2, h3⟩ => ⟨m, by omega, h2, h3⟩, fun ⟨m, h1, h2, h3⟩ => ⟨m, ?_, h2, h3⟩⟩
        have : m ≠ i + j := fun e => hb (hf'.mpr (e ▸ h2))
        omega
    · rintro s ⟨a6, v, rfl, hv⟩
      simp
      rw [mkI_len]
      refine ⟨sz_lt (by omega), k1 _ ⟨setF r i v, _, _, _, _, by rw [mkI_snoc], fun b hb e => ?_⟩⟩
      by_cases hbi : b = i
      · subst hbi
        rw [setF_same, hv]
        exact ⟨fun ⟨m, h1, h2, h3⟩ => ⟨m, h2, h3⟩, fun ⟨m, h2, h3⟩ => ⟨m, by have := (tp _ _ h2).2; omega, h2, h3⟩⟩
      · rw [setF_ne hbi]
        exact hr b (by omega) e
  · rintro s ⟨r, a3, a4, a5, a6, rfl, hr⟩
    simp
    exact k _ ⟨r, rfl, fun b hb e => hr b (by omega) e⟩
end L17
namespace L17
open PySem PySem.Spec PyProof.Rows L2 DL
theorem all2_get {α β : Type} {R : α → β → Prop} {xs : List α} {ys : List β} (h : All2 R xs ys) : ∀ {i : Nat} {y : β}, ys[i]? = some y → ∃ x, xs[i]? = some x ∧ R x y := by
  induction h with
  | nil => intro i y hy; cases hy
  | cons a b ih =>
    intro i y hy
    cases i with
    | zero =>
      cases hy
      exact ⟨_, rfl, a⟩
    | succ i => exact ih hy
theorem take_snoc {α : Type} {xs : List α} {i : Nat} {x : α} (h : xs[i]? = some x) : xs.take (i + 1) = xs.take i ++ [x] := by
  rw [List.take_add_one, h]
  rfl
theorem cutD_1 (x : PyData) (xs : List PyData) (hl : xs.length ≤ 1000000): DL.cutD (x :: xs) (some 1) none = xs := by
  have e : min 1 (xs.length + 1) = 1 := by omega
  simp [DL.cutD, HT.sIx, e]
theorem foldl_or : ∀ (Ps : List Rel) (P : Rel), Ps.foldl ror P = ror P (rany Ps)
  | [], P => rel_ext fun b e => ⟨fun h => .inl h, fun h => h.elim (fun h => h) fun h => h.elim⟩
  | Q :: Ps, P => by
    rw [List.foldl_cons, foldl_or Ps]
    exact rel_ext fun b e => ⟨fun h => h.elim (fun h => h.elim .inl fun h => .inr (.inl h)) fun h => .inr (.inr h), fun h => h.elim (fun h => .inl (.inl h)) fun h => h.elim (fun h => .inl (.inr h)) .inr⟩
theorem foldl_and {n : Nat} : ∀ (Ps : List Rel) (P : Rel), Tidy n P → Ps.foldl rand P = rand P (rall n Ps)
  | [], P, hp => rel_ext fun b e => ⟨fun h => ⟨h, hp _ _ h⟩, fun h => h.1⟩
  | Q :: Ps, P, hp => by
    rw [List.foldl_cons, foldl_and Ps _ (tidy_and hp)]
    exact rel_ext fun b e => ⟨fun h => ⟨h.1.1, h.1.2, h.2⟩, fun h => ⟨⟨h.1, h.2.1⟩, h.2.2⟩⟩
theorem w_in_some (ds : List PyData) (Φ : PyData → Prop) (h : sp_in_some ds Φ) : W_in_some (endD Φ) ⟨startE ["several", "found", "pieces", "one", "other"] (ds.map .d), []⟩ := by
  obtain ⟨n, xs, Ps, rfl, hn, hne, hl, ha, k⟩ := h
  cases ha with
  | nil => exact absurd rfl hne
  | @cons P x Ps xs h0 ha =>
  obtain ⟨xs0, rfl, f, rfl, hf⟩ := h0
  simp [W_in_some]
  rw [cutD_1 _ _ (by simp at hl; omega)]
  refine loop_ix xs (fun i s => ∃ (r : Nat → Nat) (a2 : Sl), s = ⟨[.d (.list (.list (mkI (n + 1) f) :: xs)), .d (.list (mkI (n + 1) r)), a2, .un, .un], []⟩ ∧ ∀ b, b ≤ n → ∀ e, (r b).testBit e = true ↔ (Ps.take i).foldl ror P b e)
    ⟨f, _, rfl, hf⟩ ?_ ?_
  · rintro i x s hx ⟨r, a2, rfl, hr⟩ Ψ k1 k2 k3 k4 k5
    clear k2 k3 k4 k5
    obtain ⟨Q, hQ, ys, rfl, g, rfl, hg⟩ := all2_get ha hx
    simp
    refine lc_zipI (fun i => .int ((r i ||| g i : Nat) : Int)) (by omega) (fun i hi Θ kΘ => ?_) ?_
    · simp [bor_nat]
      exact kΘ _ _ rfl rfl
    · refine k1 _ ⟨fun i => r i ||| g i, _, rfl, fun b hb e => ?_⟩
      rw [take_snoc hQ, List.foldl_append, Nat.testBit_or, Bool.or_eq_true, hr b hb, hg b hb]
      rfl
  · rintro s ⟨r, a2, rfl, hr⟩
    simp
    refine k _ ⟨_, rfl, r, rfl, fun b hb e => ?_⟩
    rw [hr b hb e, ← all2_len ha, List.take_length, foldl_or]
    rfl
theorem w_in_all (ds : List PyData) (Φ : PyData → Prop) (h : sp_in_all ds Φ) : W_in_all (endD Φ) ⟨startE ["several", "found", "pieces", "one", "other"] (ds.map .d), []⟩ := by
  obtain ⟨n, xs, Ps, rfl, hn, hne, hl, ha, ht, k⟩ := h
  cases ha with
  | nil => exact absurd rfl hne
  | @cons P x Ps xs h0 ha =>
  obtain ⟨xs0, rfl, f, rfl, hf⟩ := h0
  simp [W_in_all]
  rw [cutD_1 _ _ (by simp at hl; omega)]
  refine loop_ix xs (fun i s => ∃ (r : Nat → Nat) (a2 : Sl), s = ⟨[.d (.list (.list (mkI (n + 1) f) :: xs)), .d (.list (mkI (n + 1) r)), a2, .un, .un], []⟩ ∧ ∀ b, b ≤ n → ∀ e, (r b).testBit e = true ↔ (Ps.take i).foldl rand P b e)
    ⟨f, _, rfl, hf⟩ ?_ ?_
  · rintro i x s hx ⟨r, a2, rfl, hr⟩ Ψ k1 k2 k3 k4 k5
    clear k2 k3 k4 k5
    obtain ⟨Q, hQ, ys, rfl, g, rfl, hg⟩ := all2_get ha hx
    simp
    refine lc_zipI (fun i => .int ((r i &&& g i : Nat) : Int)) (by omega) (fun i hi Θ kΘ => ?_) ?_
    · simp [band_nat]
      exact kΘ _ _ rfl rfl
    · refine k1 _ ⟨fun i => r i &&& g i, _, rfl, fun b hb e => ?_⟩
      rw [take_snoc hQ, List.foldl_append, Nat.testBit_and, Bool.and_eq_true, hr b hb, hg b hb]
      rfl
  · rintro s ⟨r, a2, rfl, hr⟩
    simp
    refine k _ ⟨_, rfl, r, rfl, fun b hb e => ?_⟩
    rw [hr b hb e, ← all2_len ha, List.take_length, foldl_and (n := n) Ps P (ht P List.mem_cons_self)]
    rfl
theorem w_all_in_turn (ds : List PyData) (Φ : PyData → Prop) (h : sp_all_in_turn ds Φ) : W_all_in_turn (endD Φ) ⟨startE ["several", "found", "pieces"] (ds.map .d), []⟩ := by
  obtain ⟨n, xs, Ps, rfl, hn, hne, hl, ha, ht, k⟩ := h
  cases ha with
  | nil => exact absurd rfl hne
  | @cons P x Ps xs h0 ha =>
  simp [W_all_in_turn]
  rw [cutD_1 _ _ (by simp at hl; omega)]
  refine loop_ix xs (fun i s => ∃ (y : PyData) (a2 : Sl), s = ⟨[.d (.list (x :: xs)), .d y, a2], []⟩ ∧ MaskD n ((Ps.take i).foldl rcomp P) y ∧ Tidy n ((Ps.take i).foldl rcomp P))
    ⟨x, _, rfl, h0, ht P List.mem_cons_self⟩ ?_ ?_
  · rintro i z s hz ⟨y, a2, rfl, hy, hty⟩ Ψ k1 k2 k3 k4 k5
    clear k2 k3 k4 k5
    obtain ⟨Q, hQ, hq⟩ := all2_get ha hz
    have tq := ht Q (List.mem_cons_of_mem _ (List.mem_of_getElem? hQ))
    simp
    refine ⟨n, y, z, _, Q, rfl, hn, hty, tq, hy, hq, fun ys hys => k1 _ ⟨_, _, rfl, ⟨ys, rfl, ?_⟩, ?_⟩⟩
    · rw [take_snoc hQ, List.foldl_append]
      exact hys
    · rw [take_snoc hQ, List.foldl_append]
      exact tidy_comp hty tq
  · rintro s ⟨y, a2, rfl, hy, hty⟩
    simp
    refine k _ ?_
    rw [← all2_len ha, List.take_length, foldl_comp Ps P (ht P List.mem_cons_self) fun Q hq => ht Q (List.mem_cons_of_mem _ hq)] at hy
    exact hy
theorem star_iff {n : Nat} {P : Rel} (b e : Nat) : Rstar n P b e ↔ (b = e ∧ b ≤ n) ∨ ∃ m, b < m ∧ P b m ∧ Rstar n P m e := by
  constructor
  · intro h
    cases h with
    | refl h => exact .inl ⟨rfl, h⟩
    | step h1 h2 h3 => exact .inr ⟨_, h2, h1, h3⟩
  · rintro (⟨rfl, h⟩ | ⟨m, h1, h2, h3⟩)
    · exact .refl h
    · exact .step h2 h1 h3
theorem rep_mkI (n : Nat) : List.replicate n (PyData.int 0) = mkI n fun _ => 0 := by
  unfold mkI
  rw [List.map_const', List.length_range]
  rfl
theorem w_any_turns (ds : List PyData) (Φ : List PyData → Prop) (h : sp_any_turns ds Φ) : W_any_turns (endL Φ) ⟨startE ["pieces", "found", "begin", "middle"] (ds.map .d), []⟩ := by
  obtain ⟨n, x, P, rfl, hn, tp, ⟨xs, rfl, f, rfl, hf⟩, k⟩ := h
  simp [W_any_turns, mkI_len]
  refine ⟨sz_le (by omega), ⟨by omega, by omega, sz_le (by omega)⟩, ⟨⟨by omega, by omega⟩, by decide, by decide⟩, ?_⟩
  rw [rep_mkI]
  refine loop_ix (rangeC (n : Int) (-1) (n + 1)) (fun i s => ∃ (r : Nat → Nat) (a2 a3 : Sl), s = ⟨[.d (.list (mkI (n + 1) f)), .o (mkI (n + 1) r), a2, a3], []⟩ ∧ ∀ b, b ≤ n → n < b + i → ∀ e, (r b).testBit e = true ↔ Rstar n P b e)
    ⟨_, _, _, rfl, fun b hb h => by omega⟩ ?_ ?_
  · rintro i x s hx ⟨r, a2, a3, rfl, hr⟩ Ψ k1 k2 k3 k4 k5
    clear k2 k3 k4 k5
    obtain ⟨hi, rfl⟩ := rangeC_get hx
    have hb0 : ∃ b : Nat, b + i = n := ⟨n - i, by omega⟩
    obtain ⟨b, hbi⟩ := hb0
    have e1 : (n : Int) + (i : Int) * (-1) = (b : Int) := by omega
    rw [e1]
    simp [mkI_len, ixN_nat (show b < n + 1 by omega)]
    refine ⟨⟨by omega, by omega, by decide⟩, ⟨⟨by omega, by omega⟩, by omega, by omega⟩, ?_⟩
    have e3 : (PyData.int (2 ^ b)) = PyData.int ((2 ^ b : Nat) : Int) := by simp
    rw [e3, mkI_set (by omega)]
    refine loop_rng (fun j s => ∃ (r' : Nat → Nat) (a3 : Sl), s = ⟨[.d (.list (mkI (n + 1) f)), .o (mkI (n + 1) r'), .d (.int (b : Nat)), a3], []⟩ ∧ (∀ c, c ≤ n → b < c → r' c = r c) ∧ ∀ e, (r' b).testBit e = true ↔ (b = e ∧ b ≤ n) ∨ ∃ m, (b < m ∧ m < b + 1 + j) ∧ P b m ∧ Rstar n P m e)
      ⟨_, _, rfl, fun c h1 h2 => setF_ne (by omega), fun e => ?_⟩ ?_ ?_
    · rw [setF_same, Nat.testBit_two_pow, decide_eq_true_eq]
      exact ⟨fun h => .inl ⟨h, by omega⟩, fun h => h.elim (fun h => h.1) fun ⟨m, h1, _⟩ => by omega⟩
    · rintro j s hj ⟨r', a3, rfl, hr', hv⟩ Ψ' k1' k2 k3 k4 k5
      clear k2 k3 k4 k5
      have hm : b + 1 + j ≤ n := by omega
      have e2 : (b : Int) + 1 + (j : Int) = ((b + 1 + j : Nat) : Int) := by omega
      rw [e2]
      simp only [gNm, S.put, wIfS, wTru, wBin, wI2, wII, wVar, wC, wNext, wIx, wItem, wOwnIx, ownAt, List.getElem?_cons_zero, List.getElem?_cons_succ, List.set_cons_zero, List.set_cons_succ, Int.toNat_natCast, shr_one, optP, atI_mkI (show b < n + 1 by omega), atI_mkI (show b + 1 + j < n + 1 by omega), bor_nat, mkI_len, ixN_nat (show b < n + 1 by omega)]
      have hf' := hf b (by omega) (b + 1 + j)
      have hg' := hr (b + 1 + j) hm (by omega)
      refine ⟨by omega, ?_⟩
      by_cases hb : (f b).testBit (b + 1 + j) = true
      · simp only [hb, if_true]
        rw [mkI_set (by omega)]
        refine k1' _ ⟨_, _, rfl, fun c h1 h2 => by rw [setF_ne (by omega)]; exact hr' c h1 h2, fun e => ?_⟩
        rw [setF_same, Nat.testBit_or, Bool.or_eq_true, hv, hr' _ hm (by omega), hg']
        refine ⟨fun h => h.elim (fun h => h.elim .inl fun ⟨m, h1, h2, h3⟩ => .inr ⟨m, by omega, h2, h3⟩) fun h => .inr ⟨b + 1 + j, by omega, hf'.mp hb, h⟩, fun h => h.elim (fun h => .inl (.inl h)) fun ⟨m, h1, h2, h3⟩ => ?_⟩
        by_cases hmj : m = b + 1 + j
        · exact .inr (hmj ▸ h3)
        · exact .inl (.inr ⟨m, by omega, h2, h3⟩)
      · simp only [hb]
        refine k1' _ ⟨_, _, rfl, hr', fun e => ?_⟩
        rw [hv]
        refine ⟨fun h => h.elim .inl fun ⟨m, h1, h2, h3⟩ => .inr ⟨m, by omega, h2, h3⟩, fun h => h.elim .inl fun ⟨m, h1, h2, h3⟩ => .inr ⟨m, ?_, h2, h3⟩⟩
        have : m ≠ b + 1 + j := fun e => hb (hf'.mpr (e ▸ h2))
        omega
    · rintro s ⟨r', a3, rfl, hr', hv⟩
      refine k1 _ ⟨r', _, _, rfl, fun c hc hci e => ?_⟩
      by_cases hcb : c = b
      · subst hcb
        rw [hv, star_iff]
        exact ⟨fun h => h.elim .inl fun ⟨m, h1, h2, h3⟩ => .inr ⟨m, h1.1, h2, h3⟩, fun h => h.elim .inl fun ⟨m, h1, h2, h3⟩ => .inr ⟨m, ⟨h1, by have := (tp _ _ h2).2; omega⟩, h2, h3⟩⟩
      · rw [hr' c hc (by omega)]
        exact hr c hc (by omega) e
  · rintro s ⟨r, a2, a3, rfl, hr⟩
    simp
    refine k _ ⟨r, rfl, fun b hb e => hr b hb ?_ e⟩
    rw [rangeC_len]
    omega
theorem all2_rep {α β : Type} {R : α → β → Prop} {a : α} {b : β} (h : R a b) : ∀ k, All2 R (List.replicate k a) (List.replicate k b)
  | 0 => .nil
  | k + 1 => .cons h (all2_rep h k)
theorem mem_rep {α : Type} {a x : α} {k : Nat} (h : x ∈ List.replicate k a) : x = a := (List.mem_replicate.mp h).2
theorem w_in_times (ds : List PyData) (Φ : PyData → Prop) (h : sp_in_times ds Φ) : W_in_times (endD Φ) ⟨startE ["pieces", "low", "high", "found", "maybe"] (ds.map .d), []⟩ := by
  obtain ⟨n, x, P, lo, hi, rfl, hn, tp, ⟨xs, rfl, f, rfl, hf⟩, hlo, hhi, k⟩ := h
  have hx : MaskD n P (.list (mkI (n + 1) f)) := ⟨_, rfl, f, rfl, hf⟩
  have s1 : 1 ≤ sizeLine := sz_le (by omega)
  have s2 : 2 ≤ sizeLine := sz_le (by omega)
  have first : ∀ r, MaskD n (rid n) r → ∀ Ψ : PyData → Prop, (∀ y, MaskD n (rrow n (rid n :: List.replicate lo P)) y → Ψ y) → sp_all_in_turn [.list (r :: List.replicate lo (.list (mkI (n + 1) f)))] Ψ := fun r hr Ψ kΨ =>
    ⟨n, _, _, rfl, hn, by simp, by simp; omega, .cons hr (all2_rep hx lo), fun Q hQ => by
      rcases List.mem_cons.mp hQ with rfl | hQ
      · exact tidy_rid n
      · rw [mem_rep hQ]
        exact tp, kΨ⟩
  have erow : ∀ k, rcomp (rrow n (rid n :: List.replicate lo P)) k = rcomp (rcomp (rid n) (rrow n (List.replicate lo P))) k := fun _ => rfl
  have trow : Tidy n (rrow n (List.replicate lo P)) := tidy_row fun Q hQ => by rw [mem_rep hQ]; exact tp
  have trow' : Tidy n (rrow n (rid n :: List.replicate lo P)) := tidy_comp (tidy_rid n) trow
  cases hi with
  | none =>
    simp [W_in_times, hiD, mkI_len]
    refine ⟨n, by simp, hn, fun r hr => ⟨s1, ⟨by omega, sz_le (by omega)⟩, sz_le (by omega), first r hr _ fun y hy => ⟨n, _, P, rfl, hn, tp, hx, fun zs hz => ⟨n, _, _, _, _, rfl, hn, trow', tidy_star tp, hy, ⟨_, rfl, hz⟩, fun us hu => k _ ⟨_, rfl, ?_⟩⟩⟩⟩⟩
    rw [erow, id_comp trow, row_rep P _ (tidy_star tp)] at hu
    exact hu
  | some h =>
    have hh := hhi h rfl
    simp [W_in_times, hiD, mkI_len]
    refine ⟨n, by simp, hn, fun r hr => ⟨s1, ⟨by omega, sz_le (by omega)⟩, sz_le (by omega), first r hr _ fun y hy => ⟨n, by simp, hn, fun r1 hr1 => ⟨s2, n, _, [P, rid n], rfl, hn, by simp, by simp, .cons hx (.cons hr1 .nil), fun z hz => ?_⟩⟩⟩⟩
    have em : rany [P, rid n] = ror P (rid n) := rel_ext fun b e => ⟨fun h => h.elim .inl fun h => h.elim .inr fun h => h.elim, fun h => h.elim .inl fun h => .inr (.inl h)⟩
    rw [em] at hz
    have tm : Tidy n (ror P (rid n)) := tidy_or tp (tidy_rid n)
    refine ⟨s1, ⟨by omega, by omega, by have := sz_le (n := 8) (by omega); omega⟩, sz_le (by omega), n, _, _, rfl, hn, by simp, by simp; omega, .cons hy (all2_rep hz (h - lo)), fun Q hQ => ?_, fun u hu => k _ ?_⟩
    · rcases List.mem_cons.mp hQ with rfl | hQ
      · exact trow'
      · rw [mem_rep hQ]
        exact tm
    · have e2 : rrow n (List.replicate (h - lo) (ror P (rid n))) = rpow (ror P (rid n)) (rid n) (h - lo) := by
        rw [← row_rep (n := n) _ _ (tidy_rid n), comp_id (tidy_row fun Q hQ => by rw [mem_rep hQ]; exact tm)]
      have e3 : rrow n (rrow n (rid n :: List.replicate lo P) :: List.replicate (h - lo) (ror P (rid n))) = rtimes n P lo (some h) := by
        show rcomp _ (rrow n (List.replicate (h - lo) (ror P (rid n)))) = _
        rw [e2, erow, id_comp trow, row_rep P _ (tidy_pow tm (tidy_rid n) _)]
        rfl
      rw [e3] at hu
      exact hu
end L17
namespace L17
open PySem PySem.Spec PyProof.Rows L2 DL
theorem all2_app {α β : Type} {R : α → β → Prop} {xs us : List α} {ys vs : List β} (h : All2 R xs ys) (g : All2 R us vs) : All2 R (xs ++ us) (ys ++ vs) := by
  induction h with
  | nil => exact g
  | cons a b ih => exact .cons a ih
theorem all2_split {α β : Type} {R : α → β → Prop} {p : List α} {x : α} {t : List α} {ys : List β} (h : All2 R (p ++ x :: t) ys) : ∃ y, R x y ∧ (ys[p.length]? = some y) := by
  induction p generalizing ys with
  | nil =>
    cases h with
    | cons a b => exact ⟨_, a, rfl⟩
  | cons q p ih =>
    cases h with
    | cons a b =>
      obtain ⟨y, h1, h2⟩ := ih b
      exact ⟨y, h1, by simpa using h2⟩
/-- a comprehension over parts: what each one gives -/
theorem lc_all2 {β : Type} {vs : List Nat} {e0 : List Sl} {wg : DG} {we : DE} {Φ : List PyData → List Int → Prop} {R : PyData → β → Prop} {R' : β → PyData → Prop} {xs : List PyData} {ts : List β} {q : List Int} (I : List Int → Prop) (hq : I q) (h : All2 R xs ts) (hl : xs.length ≤ 16777216)
    (hs : ∀ x t q, R x t → I q → ∀ Θ : S → PyData → S → Prop, (∀ s1 y s3, s3.e = s1.e → I s3.q → R' t y → Θ s1 y s3) → wg x ⟨wipeE e0 vs, q⟩ fun s1 => wipeE s1.e vs = wipeE e0 vs ∧ we s1 (Θ s1))
    (hd : ∀ ys q, I q → All2 R' ts ys → Φ ys q) : lcW vs e0 wg wYes we Φ xs [] q := by
  refine lc_inv xs (fun pre acc q' => I q' ∧ All2 R' (ts.take pre.length) acc) ⟨hq, .nil⟩ (fun pre x post acc q' e h' Ψ k => ?_) (fun acc q' h' => hd _ _ h'.1 (by rw [all2_len h, List.take_length] at h'; exact h'.2))
  obtain ⟨hI, ha⟩ := h'
  subst e
  obtain ⟨t, hx, ht⟩ := all2_split h
  have hlen : acc.length < sizeLine := sz_lt (by
    have e1 := all2_len ha
    rw [List.length_take] at e1
    rw [List.length_append, List.length_cons] at hl
    omega)
  have r := hs x t q' hx hI (fun s1 y s3 => s3.e = s1.e ∧ acc.length < sizeLine ∧ Ψ (acc ++ [y]) s3.q) (fun s1 y s3 h1 h2 h3 => ⟨h1, hlen, k _ _ ⟨h2, by
    rw [List.length_append, List.length_singleton, take_snoc ht]
    exact all2_app ha (.cons h3 .nil)⟩⟩)
  simp only [wYes, true_and, if_true]
  exact r
theorem all2_map {α β γ : Type} {R : α → β → Prop} {R' : γ → β → Prop} {f : α → γ} {xs : List α} {ys : List β} (h : All2 R xs ys) (g : ∀ x y, R x y → R' (f x) y) : All2 R' (xs.map f) ys := by
  induction h with
  | nil => exact .nil
  | cons a b ih => exact .cons (g _ _ a) ih
theorem mem_signs {z : Str} {c : Nat} : inF (.str ⟨#[c]⟩) (signsOf z) = true ↔ c ∈ z.cps.toList := by
  unfold inF signsOf
  rw [List.any_eq_true]
  constructor
  · rintro ⟨y, hy, h⟩
    obtain ⟨d, hd, rfl⟩ := List.mem_map.mp hy
    have : (⟨#[d]⟩ : Str) = ⟨#[c]⟩ := by simpa [eqF] using h
    cases this
    exact hd
  · intro h
    exact ⟨_, List.mem_map.mpr ⟨c, h, rfl⟩, by simp [eqF]⟩
theorem not_mem_signs {z : Str} {s : Str} (h : ∀ c, s ≠ ⟨#[c]⟩) : inF (.str s) (signsOf z) = false := by
  unfold inF signsOf
  rw [List.any_eq_false]
  intro y hy
  obtain ⟨d, hd, rfl⟩ := List.mem_map.mp hy
  intro e
  exact h d (by simpa [eqF] using e : (⟨#[d]⟩ : Str) = s).symm
theorem signs_flat (z : Str) : (signsOf z).all flatD = true := by
  unfold signsOf
  rw [List.all_map]
  exact List.all_eq_true.mpr fun x _ => rfl
theorem sIx_in {n d : Nat} {v : Int} (h0 : 0 ≤ v) (h1 : v ≤ n) : HT.sIx n d (some v) = v.toNat := by
  unfold HT.sIx
  simp only
  rw [if_neg (by omega)]
  omega
theorem sIx_over {n d : Nat} {v : Int} (h0 : 0 ≤ v) (h1 : n ≤ v) : HT.sIx n d (some v) = n := by
  unfold HT.sIx
  simp only
  rw [if_neg (by omega)]
  omega
theorem slice_sign {w : Str} {i : Nat} (h : i < w.length) : cutS w (some (i : Int)) (some ((i : Int) + 1)) = ⟨#[w.cps[i]'h]⟩ := by
  unfold cutS
  rw [sIx_in (n := w.length) (by omega) (by omega), sIx_in (n := w.length) (by omega) (by omega)]
  have e1 : ((i : Int) + 1).toNat - (i : Int).toNat = 1 := by omega
  have e2 : (i : Int).toNat = i := by omega
  have hl : i < w.cps.toList.length := by rw [Array.length_toList]; exact h
  rw [e1, e2, List.drop_eq_getElem_cons hl]
  simp
  rfl
theorem slice_end {w : Str} : cutS w (some (w.length : Int)) (some ((w.length : Int) + 1)) = ⟨#[]⟩ := by
  unfold cutS
  rw [sIx_in (n := w.length) (v := (w.length : Int)) (by omega) (by omega), sIx_over (n := w.length) (by omega) (by omega)]
  simp
def NP : List Str := ["rule", "word", "kind", "places", "inner", "whole", "_", "at", "ends", "part"]
theorem w_pieces_of (d : Nat) (rc : DSp) (hrc : ∀ e, d = e + 1 → rc = sp_pieces_of e) (ds : List PyData) (Φ : PyData → Prop) (h : sp_pieces_of d ds Φ) : W_pieces_of rc (endD Φ) ⟨startE ["rule", "word", "kind", "places", "inner", "whole", "_", "at", "ends", "part"] (ds.map .d), []⟩ := by
  obtain ⟨x, D, w, rfl, hr, hw, k⟩ := h
  have szw : w.length ≤ sizeLine := sz_le (by omega)
  have sm0 : small62 0 ∧ small62 (w.length + 1) := ⟨⟨by omega, by omega⟩, by omega, by omega⟩
  have e1 : ((w.length : Int) + 1 - 0).toNat = w.length + 1 := by omega
  have leaf : ∀ x D, Leaf x D → (∀ y, MaskD w.length (D w) y → Φ y) → W_pieces_of rc (endD Φ) ⟨startE ["rule", "word", "kind", "places", "inner", "whole", "_", "at", "ends", "part"] ([x, .str w].map .d), []⟩ := fun x D h k => by
    cases h with
    | no =>
      simp [W_pieces_of]
      refine ⟨szw, sm0, lc_rng (fun _ => .int ((0 : Nat) : Int)) (by omega) (fun i hi Θ kΘ => ?_) ?_⟩
      · simp
        exact kΘ _ _ rfl rfl
      · refine k _ ⟨_, rfl, fun _ => 0, rfl, fun b hb e => ?_⟩
        rw [Nat.zero_testBit]
        exact ⟨fun h => (by cases h), fun h => h.elim⟩
    | em =>
      simp [W_pieces_of]
      exact ⟨szw, sm0, w.length, by simp, hw, k⟩
    | @one z h1 h2 h3 =>
      simp [W_pieces_of]
      refine ⟨szw, sm0, lc_rng (fun i => .int ((if inF (.str (cutS w (some (i : Int)) (some ((i : Int) + 1)))) (signsOf z) = true then 2 <<< i else 0 : Nat) : Int)) (by omega) (fun i hi Θ kΘ => ?_) ?_⟩
      · simp [signs_flat]
        refine ⟨szw, sz_le (by omega), ?_⟩
        by_cases hin : inF (.str (cutS w (some (i : Int)) (some ((i : Int) + 1)))) (signsOf z) = true
        · rw [if_pos hin]
          refine ⟨⟨by omega, by omega, by decide⟩, ?_⟩
          have kt : ∀ s1 s3, s3.e = s1.e → s3.q = [] → Θ s1 (PyData.int (2 * 2 ^ i)) s3 := fun s1 s3 a b => by
            have := kΘ s1 s3 a b
            rw [if_pos hin, ← shl_nat] at this
            exact this
          exact kt _ _ rfl rfl
        · rw [if_neg hin]
          have kt : ∀ s1 s3, s3.e = s1.e → s3.q = [] → Θ s1 (PyData.int 0) s3 := fun s1 s3 a b => by
            have := kΘ s1 s3 a b
            rw [if_neg hin] at this
            exact this
          exact kt _ _ rfl rfl
      · refine k _ ⟨_, rfl, fun i => if inF (.str (cutS w (some (i : Int)) (some ((i : Int) + 1)))) (signsOf z) = true then 2 <<< i else 0, rfl, fun b hb e => ?_⟩
        by_cases hbl : b < w.length
        · have hg : w.cps.toList[b]? = some (w.cps[b]'hbl) := by
            rw [Array.getElem?_toList]
            exact Array.getElem?_eq_getElem hbl
          simp only [slice_sign hbl, mem_signs]
          have e2 : 2 <<< b = 2 ^ (b + 1) := by
            rw [Nat.shiftLeft_eq, Nat.pow_succ, Nat.mul_comm]
          rw [e2]
          unfold dOne
          rw [hg]
          by_cases hm : w.cps[b]'hbl ∈ z.cps.toList
          · rw [if_pos hm, Nat.testBit_two_pow, decide_eq_true_eq]
            exact ⟨fun h => ⟨h.symm, _, rfl, hm⟩, fun h => h.1.symm⟩
          · rw [if_neg hm, Nat.zero_testBit]
            exact ⟨fun h => (by cases h), fun ⟨_, c, h1, h2⟩ => (by cases h1; exact absurd h2 hm)⟩
        · have : b = w.length := by omega
          subst this
          have hno : inF (.str (cutS w (some (w.length : Int)) (some ((w.length : Int) + 1)))) (signsOf z) = false := by
            rw [slice_end]
            exact not_mem_signs fun c h => by cases h
          simp only [hno]
          unfold dOne
          rw [show (w.cps.toList[w.length]? : Option Nat) = none from List.getElem?_eq_none (by rw [Array.length_toList]; exact Nat.le_refl _)]
          simp
  cases d with
  | zero => exact leaf x D hr k
  | succ d =>
    rw [hrc d rfl]
    have inner : ∀ {xs : List PyData} {Ds : List Den} {vs : List Nat} {e0 : List Sl} {wg : DG} {we : DE} {Ψ : List PyData → List Int → Prop}, True := trivial
    cases hr with
    | leaf h =>
      rw [← hrc d rfl]
      exact leaf x D h k
    | @row xs Ds h1 h2 h3 =>
      simp [W_pieces_of]
      refine ⟨szw, .inl ⟨_, xs, rfl, .inl rfl, by omega, ?_⟩⟩
      refine lc_all2 (R' := fun E y => MaskD w.length (E w) y) (fun q => q = []) rfl h3 (by omega) (fun x E q hx hq Θ kΘ => ?_) (fun ys q hq hys => ?_)
      · simp
        exact ⟨x, E, w, rfl, hx, hw, fun y hy => kΘ _ _ _ rfl hq hy⟩
      · have ha := all2_map (R' := MaskD w.length) (f := fun E : Den => E w) hys fun E y h => h
        exact ⟨w.length, ys, _, rfl, hw, fun e => by have := all2_len ha; rw [e, List.length_map, ← all2_len h3, List.length_nil] at this; omega, by rw [← all2_len ha, List.length_map, ← all2_len h3]; exact Nat.le_trans h2 (by omega), ha, fun P hP => by
          obtain ⟨E, hE, rfl⟩ := List.mem_map.mp hP
          obtain ⟨x, _, hx⟩ := all2_mem h3 E hE
          exact tidy_rul d hx w, k⟩
    | @ei xs Ds h1 h2 h3 =>
      simp [W_pieces_of]
      refine ⟨szw, .inl ⟨_, xs, rfl, .inr (.inl rfl), by omega, ?_⟩⟩
      refine lc_all2 (R' := fun E y => MaskD w.length (E w) y) (fun q => q = []) rfl h3 (by omega) (fun x E q hx hq Θ kΘ => ?_) (fun ys q hq hys => ?_)
      · simp
        exact ⟨x, E, w, rfl, hx, hw, fun y hy => kΘ _ _ _ rfl hq hy⟩
      · have ha := all2_map (R' := MaskD w.length) (f := fun E : Den => E w) hys fun E y h => h
        exact ⟨w.length, ys, _, rfl, hw, fun e => by have := all2_len ha; rw [e, List.length_map, ← all2_len h3, List.length_nil] at this; omega, by rw [← all2_len ha, List.length_map, ← all2_len h3]; exact Nat.le_trans h2 (by omega), ha, k⟩
    | @bo xs Ds h1 h2 h3 =>
      simp [W_pieces_of]
      refine ⟨szw, .inl ⟨_, xs, rfl, .inr (.inr rfl), by omega, ?_⟩⟩
      refine lc_all2 (R' := fun E y => MaskD w.length (E w) y) (fun q => q = []) rfl h3 (by omega) (fun x E q hx hq Θ kΘ => ?_) (fun ys q hq hys => ?_)
      · simp
        exact ⟨x, E, w, rfl, hx, hw, fun y hy => kΘ _ _ _ rfl hq hy⟩
      · have ha := all2_map (R' := MaskD w.length) (f := fun E : Den => E w) hys fun E y h => h
        exact ⟨w.length, ys, _, rfl, hw, fun e => by have := all2_len ha; rw [e, List.length_map, ← all2_len h3, List.length_nil] at this; omega, by rw [← all2_len ha, List.length_map, ← all2_len h3]; exact Nat.le_trans h2 (by omega), ha, fun P hP => by
          obtain ⟨E, hE, rfl⟩ := List.mem_map.mp hP
          obtain ⟨x, _, hx⟩ := all2_mem h3 E hE
          exact tidy_rul d hx w, k⟩
    | @no x E h =>
      simp [W_pieces_of]
      refine ⟨szw, .inr ⟨_, x, [], rfl, .inl rfl, ?_⟩⟩
      simp
      refine lc_all2 (R' := fun E y => MaskD w.length (E w) y) (fun q => q = []) rfl (.cons h .nil) (by simp) (fun x E q hx hq Θ kΘ => ?_) (fun ys q hq hys => ?_)
      · simp
        exact ⟨x, E, w, rfl, hx, hw, fun y hy => kΘ _ _ _ rfl hq hy⟩
      · cases hys with
        | cons hy hn =>
          cases hn
          obtain ⟨zs, rfl, f, rfl, hf⟩ := hy
          simp
          refine ⟨szw, ⟨by omega, by omega, by decide⟩, ?_⟩
          have ew : (2 * 2 ^ w.length - 1 : Int) = ((2 ^ (w.length + 1) - 1 : Nat) : Int) := by
            have := Nat.two_pow_pos (w.length + 1)
            rw [Int.natCast_sub this, Nat.pow_succ]
            simp [Int.mul_comm]
          rw [ew]
          refine lc_enumI (fun i => .int ((((2 ^ (w.length + 1) - 1) >>> i <<< i ^^^ f i : Nat)) : Int)) (by omega) (fun i hi Θ kΘ => ?_) ?_
          · simp only [gTp, gCs, gNm, gNl]
            refine ⟨rfl, True.intro, rfl, ?_⟩
            simp only [wBin, wI2, wII, wVar, S.put, wipeE, List.getElem?_cons_zero, List.getElem?_cons_succ, List.set_cons_zero, List.set_cons_succ, Int.toNat_natCast, shr_nat, shl_nat, bxor_nat]
            have hb1 : (2 ^ (w.length + 1) - 1) >>> i < 2 ^ 64 := by
              refine Nat.lt_of_le_of_lt (Nat.shiftRight_le _ _) ?_
              have := Nat.pow_le_pow_right (n := 2) (by decide) (show w.length + 1 ≤ 32 by omega)
              omega
            exact ⟨by omega, ⟨by omega, by omega, by rw [Int.natAbs_natCast]; exact hb1⟩, kΘ _ _ rfl rfl⟩
          · refine k _ ⟨_, rfl, fun i => (2 ^ (w.length + 1) - 1) >>> i <<< i ^^^ f i, rfl, fun b hb e => ?_⟩
            rw [Nat.testBit_xor, Nat.testBit_shiftLeft, Nat.testBit_shiftRight, Nat.testBit_two_pow_sub_one]
            have hfb := hf b hb e
            have tb := tidy_rul d h w b e
            show _ ↔ (b ≤ e ∧ e ≤ w.length) ∧ ¬ E w b e
            rw [← hfb] at tb ⊢
            cases hv : (f b).testBit e
            · simp
              omega
            · have := tb hv
              simp
              omega
    | @ti x E lo hi h h1 h2 =>
      simp [W_pieces_of]
      refine ⟨szw, .inr ⟨_, x, _, rfl, .inr rfl, ?_⟩⟩
      simp
      refine lc_all2 (R' := fun E y => MaskD w.length (E w) y) (fun q => q = []) rfl (.cons h .nil) (by simp) (fun x E q hx hq Θ kΘ => ?_) (fun ys q hq hys => ?_)
      · simp
        exact ⟨x, E, w, rfl, hx, hw, fun y hy => kΘ _ _ _ rfl hq hy⟩
      · cases hys with
        | cons hy hn =>
          cases hn
          simp
          exact ⟨w.length, _, E w, lo, hi, rfl, hw, tidy_rul d h w, hy, h1, h2, k⟩
end L17
namespace L17
open PySem PySem.Spec PyProof.Rows L2 DL
/-- a comprehension over a mapped list -/
theorem lc_mapl {α : Type} {vs : List Nat} {e0 : List Sl} {wg : DG} {we : DE} {Φ : List PyData → List Int → Prop} (l : List α) (F G : α → PyData) {q : List Int} (hl : l.length ≤ 16777216)
    (hs : ∀ a, a ∈ l → ∀ Θ : S → PyData → S → Prop, (∀ s1 s3, s3.e = s1.e → s3.q = q → Θ s1 (G a) s3) → wg (F a) ⟨wipeE e0 vs, q⟩ fun s1 => wipeE s1.e vs = wipeE e0 vs ∧ we s1 (Θ s1))
    (hd : Φ (l.map G) q) : lcW vs e0 wg wYes we Φ (l.map F) [] q := by
  refine lc_inv (l.map F) (fun pre acc q' => acc = (l.take pre.length).map G ∧ q' = q) ⟨rfl, rfl⟩ (fun pre x post acc q' e h Ψ k => ?_) (fun acc q' h => by rw [h.1, h.2, List.length_map, List.take_length]; exact hd)
  obtain ⟨rfl, rfl⟩ := h
  have hx : (l.map F)[pre.length]? = some x := by rw [e]; simp
  rw [List.getElem?_map] at hx
  cases ha : l[pre.length]? with
  | none =>
    rw [ha] at hx
    cases hx
  | some a =>
    rw [ha] at hx
    cases hx
    have hlen : ((l.take pre.length).map G).length < sizeLine := sz_lt (by
      have := (List.getElem?_eq_some_iff.mp ha).1
      rw [List.length_map, List.length_take]
      omega)
    have r := hs a (List.mem_of_getElem? ha) (fun s1 y s3 => s3.e = s1.e ∧ ((l.take pre.length).map G).length < sizeLine ∧ Ψ ((l.take pre.length).map G ++ [y]) s3.q)
      (fun s1 s3 h1 h2 => ⟨h1, hlen, k _ _ ⟨by rw [List.length_append, List.length_singleton, take_snoc ha, List.map_append]; rfl, h2⟩⟩)
    simp only [wYes, true_and, if_true]
    exact r
/-- .. over a range, with a test -/
theorem lc_filt {vs : List Nat} {e0 : List Sl} {wg : DG} {wt : DT} {we : DE} {Φ : List PyData → List Int → Prop} {lo : Int} {n : Nat} (p : Nat → Bool) (F : Nat → PyData) {q : List Int} (hl : n ≤ 16777216)
    (hs : ∀ i, i < n → ∀ (Y : S → PyData → S → Prop) (N : S → Prop), (p i = true → ∀ s1 s3, s3.e = s1.e → s3.q = q → Y s1 (F i) s3) → (p i = false → ∀ s2, s2.q = q → N s2) →
      wg (.int (lo + (i : Int))) ⟨wipeE e0 vs, q⟩ fun s1 => wipeE s1.e vs = wipeE e0 vs ∧ wt s1 fun b s2 => s2.e = s1.e ∧ if b = true then we s2 (Y s1) else N s2)
    (hd : Φ (((List.range n).filter p).map F) q) : lcW vs e0 wg wt we Φ (rangeD lo n) [] q := by
  refine lc_inv (rangeD lo n) (fun pre acc q' => acc = ((List.range pre.length).filter p).map F ∧ q' = q) ⟨rfl, rfl⟩ (fun pre x post acc q' e h Ψ k => ?_) (fun acc q' h => by rw [h.1, h.2, rangeD_len]; exact hd)
  obtain ⟨rfl, rfl⟩ := h
  have hx : (rangeD lo n)[pre.length]? = some x := by rw [e]; simp
  obtain ⟨hi, rfl⟩ := rangeD_get hx
  have hlen : (((List.range pre.length).filter p).map F).length < sizeLine := sz_lt (by
    have := List.length_filter_le p (List.range pre.length)
    rw [List.length_map]
    rw [List.length_range] at this
    omega)
  refine hs pre.length hi (fun s1 y s3 => s3.e = s1.e ∧ (((List.range pre.length).filter p).map F).length < sizeLine ∧ Ψ (((List.range pre.length).filter p).map F ++ [y]) s3.q) (fun s2 => Ψ (((List.range pre.length).filter p).map F) s2.q)
    (fun hp s1 s3 h1 h2 => ⟨h1, hlen, k _ _ ⟨?_, h2⟩⟩) (fun hp s2 h2 => k _ _ ⟨?_, h2⟩)
  · rw [List.length_append, List.length_singleton, List.range_succ, List.filter_append, List.map_append]
    simp [hp]
  · rw [List.length_append, List.length_singleton, List.range_succ, List.filter_append, List.map_append]
    simp [hp]
/-! sums -/
theorem sum_filter {α : Type} (p : α → Bool) (f : α → Nat) : ∀ l : List α, (∀ a, a ∈ l → p a = false → f a = 0) → ((l.filter p).map f).sum = (l.map f).sum
  | [], _ => rfl
  | a :: l, h => by
    have ih := sum_filter p f l fun b hb => h b (List.mem_cons_of_mem _ hb)
    cases hp : p a
    · rw [List.filter_cons_of_neg (by simp [hp]), ih, List.map_cons, List.sum_cons, h a List.mem_cons_self hp, Nat.zero_add]
    · rw [List.filter_cons_of_pos hp, List.map_cons, List.sum_cons, ih, List.map_cons, List.sum_cons]
def sumN (n : Nat) (f : Nat → Nat) : Nat := ((List.range n).map f).sum
theorem sumN_succ (n : Nat) (f : Nat → Nat) : sumN (n + 1) f = sumN n f + f n := by
  unfold sumN
  rw [List.range_succ, List.map_append, List.sum_append]
  simp
theorem sumN_zero {f : Nat → Nat} : ∀ {n : Nat}, sumN n f ≠ 0 ↔ ∃ i, i < n ∧ f i ≠ 0
  | 0 => ⟨fun h => absurd rfl h, fun ⟨i, h, _⟩ => by omega⟩
  | n + 1 => by
    rw [sumN_succ]
    constructor
    · intro h
      by_cases h0 : f n = 0
      · obtain ⟨i, h1, h2⟩ := sumN_zero.mp (show sumN n f ≠ 0 by omega)
        exact ⟨i, by omega, h2⟩
      · exact ⟨n, by omega, h0⟩
    · rintro ⟨i, h1, h2⟩
      by_cases h0 : i = n
      · subst h0
        omega
      · have := sumN_zero.mpr ⟨i, show i < n by omega, h2⟩
        omega
theorem sumN_le {f : Nat → Nat} {K M : Nat} (h1 : ∀ i, i < K → f i ≤ M) (h2 : ∀ i, K ≤ i → f i = 0) : ∀ n, sumN n f ≤ min n K * M
  | 0 => Nat.zero_le _
  | n + 1 => by
    rw [sumN_succ]
    have ih := sumN_le h1 h2 n
    by_cases h : n < K
    · have e1 : min (n + 1) K = min n K + 1 := by omega
      rw [e1, Nat.succ_mul]
      exact Nat.add_le_add ih (h1 n h)
    · have e1 : min (n + 1) K = min n K := by omega
      rw [e1, h2 n (by omega)]
      exact ih
theorem succ_le_pow (L : Nat) : L + 1 ≤ 2 ^ L := Nat.lt_two_pow_self
theorem join_le {P Q : Rel} {γ δ n b e : Nat} {g h : Nat → Nat → Nat} {α β α' β' : Nat} (tp : Tidy n P) (tq : Tidy n Q) (G : TabOk γ n P g) (H : TabOk δ n Q h) (hg : ∀ b e, b ≤ e → e ≤ n → g b e ≤ 2 ^ (α + β * (e - b))) (hh : ∀ b e, b ≤ e → e ≤ n → h b e ≤ 2 ^ (α' + β' * (e - b)))
    (hbe : b ≤ e) (hen : e ≤ n) : sumN (n + 1 - b) (fun j => g b (b + j) * h (b + j) e) ≤ 2 ^ (α + α' + (β + β' + 1) * (e - b)) := by
  have h1 : ∀ i, i < e - b + 1 → g b (b + i) * h (b + i) e ≤ 2 ^ (α + α' + (β + β') * (e - b)) := fun i hi => by
    refine Nat.le_trans (Nat.mul_le_mul (hg b (b + i) (by omega) (by omega)) (hh (b + i) e (by omega) hen)) ?_
    rw [← Nat.pow_add]
    refine Nat.pow_le_pow_right (by decide) ?_
    have e1 : b + i - b = i := by omega
    have e2 := Nat.mul_le_mul_left β (show i ≤ e - b by omega)
    have e3 := Nat.mul_le_mul_left β' (show e - (b + i) ≤ e - b by omega)
    rw [e1, Nat.add_mul]
    omega
  have h2 : ∀ i, e - b + 1 ≤ i → i < n + 1 - b → g b (b + i) * h (b + i) e = 0 := fun i hi hi2 => by
    have : h (b + i) e = 0 := by
      by_cases h0 : h (b + i) e = 0
      · exact h0
      · have := (tq _ _ ((H.iff (b + i) e (by omega) hen).mp h0)).1
        omega
    rw [this, Nat.mul_zero]
  -- beyond n the terms do not count
  have key : ∀ N, N ≤ n + 1 - b → sumN N (fun j => g b (b + j) * h (b + j) e) ≤ min N (e - b + 1) * 2 ^ (α + α' + (β + β') * (e - b)) := by
    intro N
    induction N with
    | zero => intro _; exact Nat.zero_le _
    | succ N ih =>
      intro hN
      rw [sumN_succ]
      have ih := ih (by omega)
      by_cases hK : N < e - b + 1
      · have e1 : min (N + 1) (e - b + 1) = min N (e - b + 1) + 1 := by omega
        rw [e1, Nat.succ_mul]
        exact Nat.add_le_add ih (h1 N hK)
      · have e1 : min (N + 1) (e - b + 1) = min N (e - b + 1) := by omega
        rw [e1, h2 N (by omega) (by omega)]
        exact ih
  refine Nat.le_trans (key _ (Nat.le_refl _)) ?_
  refine Nat.le_trans (Nat.mul_le_mul_right _ (show min (n + 1 - b) (e - b + 1) ≤ 2 ^ (e - b) from Nat.le_trans (Nat.min_le_right _ _) (succ_le_pow _))) ?_
  rw [← Nat.pow_add]
  refine Nat.pow_le_pow_right (by decide) ?_
  rw [Nat.add_mul (β + β') 1, Nat.one_mul]
  omega
theorem join_ok {P Q : Rel} {γ δ n : Nat} {g h : Nat → Nat → Nat} (tp : Tidy n P) (tq : Tidy n Q) (G : TabOk γ n P g) (H : TabOk δ n Q h) : TabOk (γ + δ) n (rcomp P Q) fun b e => sumN (n + 1 - b) fun j => g b (b + j) * h (b + j) e := by
  refine ⟨fun b e hb he => ?_, ?_⟩
  · rw [sumN_zero]
    constructor
    · rintro ⟨i, hi, h0⟩
      have h1 : g b (b + i) ≠ 0 := fun z => h0 (by rw [z, Nat.zero_mul])
      have h2 : h (b + i) e ≠ 0 := fun z => h0 (by rw [z, Nat.mul_zero])
      exact ⟨b + i, (G.iff _ _ hb (by omega)).mp h1, (H.iff _ _ (by omega) he).mp h2⟩
    · rintro ⟨m, h1, h2⟩
      have t1 := tp _ _ h1
      have e1 : b + (m - b) = m := by omega
      refine ⟨m - b, by omega, ?_⟩
      rw [e1]
      exact Nat.mul_ne_zero ((G.iff _ _ hb t1.2).mpr h1) ((H.iff _ _ t1.2 he).mpr h2)
  · obtain ⟨α, β, h1, h2⟩ := G.le
    obtain ⟨α', β', h3, h4⟩ := H.le
    exact ⟨α + α', β + β' + 1, by omega, fun b e hb he => join_le tp tq G H h2 h4 hb he⟩
theorem tab_small {P : Rel} {γ n : Nat} {g : Nat → Nat → Nat} (tp : Tidy n P) (G : TabOk γ n P g) (hn : n ≤ 31) {b e : Nat} (hb : b ≤ n) (he : e ≤ n) : g b e < 2 ^ (31 * γ) := by
  by_cases h0 : g b e = 0
  · rw [h0]
    exact Nat.two_pow_pos _
  · have t := tp _ _ ((G.iff b e hb he).mp h0)
    obtain ⟨α, β, h1, h2⟩ := G.le
    refine Nat.lt_of_le_of_lt (h2 b e t.1 t.2) (Nat.pow_lt_pow_right (by decide) ?_)
    have := Nat.mul_le_mul_left β (show e - b ≤ 31 by omega)
    omega
theorem tab_wide {P Q : Rel} {γ δ n : Nat} {g h : Nat → Nat → Nat} (tp : Tidy n P) (G : TabOk γ n P g) (tq : Tidy n Q) (H : TabOk δ n Q h) (hn : n ≤ 31) (hgd : γ + δ ≤ 30000) {b e c d : Nat} (hb : b ≤ n) (he : e ≤ n) (hc : c ≤ n) (hd : d ≤ n) : CMulW (g b e : Nat) (h c d : Nat) := by
  have g0 : 0 < γ := by
    obtain ⟨α, β, h1, _⟩ := G.le
    omega
  have d0 : 0 < δ := by
    obtain ⟨α, β, h1, _⟩ := H.le
    omega
  exact wide_mul (a := 31 * γ) (b := 31 * δ) (by rw [Int.natAbs_natCast]; exact tab_small tp G hn hb he) (by rw [Int.natAbs_natCast]; exact tab_small tq H hn hc hd) (by omega) (by omega) (by omega)
end L17
namespace L17
open PySem PySem.Spec PyProof.Rows L2 DL
theorem sum_cast {α : Type} (f : α → Nat) (l : List α) : (l.map fun a => ((f a : Nat) : Int)).sum = ((l.map f).sum : Nat) := by
  induction l with
  | nil => rfl
  | cons a l ih => rw [List.map_cons, List.sum_cons, ih, List.map_cons, List.sum_cons, Int.natCast_add]
theorem w_joined (ds : List PyData) (Φ : List PyData → Prop) (h : sp_joined ds Φ) : W__law_joined (endL Φ) ⟨startE ["first", "second", "size", "columns", "found", "begin", "row", "held", "column", "end", "place"] (ds.map .d), []⟩ := by
  obtain ⟨γ, δ, n, x, y, P, Q, rfl, hn, hg, tp, tq, ⟨xs, rfl, g, rfl, hG⟩, ⟨ys, rfl, h, rfl, hH⟩, k⟩ := h
  simp [W__law_joined, mkT_len]
  have sm : small62 ((n : Int) + 1) := ⟨by omega, by omega⟩
  refine ⟨sm, lc_rng (fun e => .list (mkI (n + 1) fun m => h m e)) (by omega) (fun e he Θ kΘ => ?_) ?_⟩
  · simp
    refine lc_mapl (List.range (n + 1)) (fun m => .list (mkI (n + 1) (h m))) (fun m => .int (h m e : Nat)) (by simp; omega) (fun m hm Θ' kΘ' => ?_) ?_
    · simp [atI_mkI he]
      exact kΘ' _ _ rfl rfl
    · exact kΘ _ _ rfl rfl
  · refine ⟨sm, loop_rng (fun i s => ∃ (r : Nat → Nat → Nat) (a5 a6 a7 : Sl), s = ⟨[.d (.list (mkT (n + 1) g)), .d (.list (mkT (n + 1) h)), .d (.int ((n : Int) + 1)), .d (.list ((List.range (n + 1)).map fun e => .list (mkI (n + 1) fun m => h m e))), .o ((List.range i).map fun b => .list (mkI (n + 1) (r b))), a5, a6, a7, .un, .un, .un], []⟩ ∧ ∀ b, b < i → r b = fun e => sumN (n + 1 - b) fun j => g b (b + j) * h (b + j) e)
      ⟨fun _ _ => 0, _, _, _, rfl, fun b hb => by omega⟩ ?_ ?_⟩
    · rintro b s hb ⟨r, a5, a6, a7, rfl, hr⟩ Ψ k1 k2 k3 k4 k5
      clear k2 k3 k4 k5
      simp [atI_mkT hb]
      refine ⟨⟨⟨by omega, by omega⟩, sm⟩, ?_⟩
      refine lc_filt (fun j => g b (b + j) != 0) (fun j => .int ((b + j : Nat) : Int)) (by omega) (fun j hj Y N hY hN => ?_) ?_
      · have e1 : (b : Int) + (j : Int) = ((b + j : Nat) : Int) := by omega
        rw [e1]
        simp only [gNm, S.put, wipeE, wTst, wBin, wIx, wVar, wC, wEq, optP, List.getElem?_cons_zero, List.getElem?_cons_succ, List.set_cons_zero, List.set_cons_succ, atI_mkI (show b + j < n + 1 by omega)]
        refine ⟨trivial, trivial, ?_⟩
        by_cases h0 : g b (b + j) = 0
        · simp [h0]
          exact hN (by simp [h0]) _ rfl
        · simp [h0]
          exact hY (by simp [h0]) _ _ rfl rfl
      · refine lc_mapl (List.range (n + 1)) (fun e => .list (mkI (n + 1) fun m => h m e)) (fun e => .int ((sumN (n + 1 - b) fun j => g b (b + j) * h (b + j) e : Nat) : Int)) (by simp; omega) (fun e he Θ kΘ => ?_) ?_
        · simp
          refine lc_mapl ((List.range (n + 1 - b)).filter fun j => g b (b + j) != 0) (fun j => .int ((b + j : Nat) : Int)) (fun j => .int (((g b (b + j) * h (b + j) e : Nat)) : Int)) ?_ (fun j hj Θ' kΘ' => ?_) ?_
          · have := List.length_filter_le (fun j => g b (b + j) != 0) (List.range (n + 1 - b))
            rw [List.length_range] at this
            omega
          · have hjb : j < n + 1 - b := List.mem_range.mp (List.mem_filter.mp hj).1
            simp only [gNm, S.put, wipeE, wBin, wIx, wVar, wII, optP, List.getElem?_cons_zero, List.getElem?_cons_succ, List.set_cons_zero, List.set_cons_succ, atI_mkI (show b + j < n + 1 by omega)]
            refine ⟨trivial, tab_wide tp hG tq hH hn (by omega) (by omega) (by omega) (by omega) (by have := List.mem_range.mp he; omega), ?_⟩
            rw [← Int.natCast_mul]
            exact kΘ' _ _ rfl rfl
          · refine ⟨_, by rw [List.map_map]; rfl, ?_⟩
            have e1 : (((List.range (n + 1 - b)).filter fun j => g b (b + j) != 0).map fun j => ((g b (b + j) * h (b + j) e : Nat) : Int)).sum = ((sumN (n + 1 - b) fun j => g b (b + j) * h (b + j) e : Nat) : Int) := by
              rw [sum_cast, sum_filter]
              · rfl
              · intro j _ hp
                have : g b (b + j) = 0 := by simpa using hp
                rw [this, Nat.zero_mul]
            show Θ _ (PyData.int (((List.range (n + 1 - b)).filter fun j => g b (b + j) != 0).map fun j => ((g b (b + j) * h (b + j) e : Nat) : Int)).sum) _
            rw [e1]
            exact kΘ _ _ rfl rfl
        · simp
          refine ⟨sz_lt (by omega), k1 _ ⟨setF r b fun e => sumN (n + 1 - b) fun j => g b (b + j) * h (b + j) e, _, _, _, by first | (rw [← mkT_snoc]; done) | (rw [← mkT_snoc]; rfl), fun c hc => ?_⟩⟩
          by_cases hcb : c = b
          · subst hcb
            rw [setF_same]
          · rw [setF_ne hcb]
            exact hr c (by omega)
    · rintro s ⟨r, a5, a6, a7, rfl, hr⟩
      simp
      refine k _ ⟨fun b e => sumN (n + 1 - b) fun j => g b (b + j) * h (b + j) e, ?_, join_ok tp tq hG hH⟩
      exact List.map_congr_left fun b hb => by rw [hr b (List.mem_range.mp hb)]
end L17
namespace L17
open PySem PySem.Spec PyProof.Rows L2 DL
theorem star_sum {L C : Nat} {f : Nat → Nat} (h1 : ∀ j, j < L → f j ≤ C * 2 ^ (L - 1 - j)) : ∀ N, (∀ j, j < N → L ≤ j → f j = 0) → sumN N f + C * 2 ^ (L - min N L) ≤ C * 2 ^ L
  | 0, _ => by
    show 0 + C * 2 ^ (L - min 0 L) ≤ _
    rw [show L - min 0 L = L by omega]
    omega
  | N + 1, h2 => by
    have ih := star_sum h1 N fun j hj => h2 j (by omega)
    rw [sumN_succ]
    by_cases h : N < L
    · have a := h1 N h
      have e1 : L - min (N + 1) L = L - 1 - N := by omega
      have e2 : L - min N L = (L - 1 - N) + 1 := by omega
      rw [e2, Nat.pow_succ, ← Nat.mul_assoc, Nat.mul_two] at ih
      rw [e1]
      omega
    · have e1 : L - min (N + 1) L = L - min N L := by omega
      rw [h2 N (by omega) (by omega), e1]
      omega
theorem star_le {n b e α β : Nat} {g r : Nat → Nat → Nat} (hbe : b < e) (he : e ≤ n) (hg : ∀ b e, b ≤ e → e ≤ n → g b e ≤ 2 ^ (α + β * (e - b))) (hr : ∀ m, b < m → m ≤ e → r m e ≤ 2 ^ ((α + β + 1) * (e - m))) (h0 : ∀ m, e < m → m ≤ n → r m e = 0) :
    sumN (n - b) (fun j => g b (b + 1 + j) * r (b + 1 + j) e) ≤ 2 ^ ((α + β + 1) * (e - b)) := by
  have key := star_sum (L := e - b) (C := 2 ^ ((α + β) * (e - b))) (f := fun j => g b (b + 1 + j) * r (b + 1 + j) e) (fun j hj => by
    refine Nat.le_trans (Nat.mul_le_mul (hg b (b + 1 + j) (by omega) (by omega)) (hr (b + 1 + j) (by omega) (by omega))) ?_
    rw [← Nat.pow_add, ← Nat.pow_add]
    refine Nat.pow_le_pow_right (by decide) ?_
    have e1 : b + 1 + j - b = j + 1 := by omega
    have e2 : e - (b + 1 + j) = e - b - 1 - j := by omega
    obtain ⟨t, ht⟩ : ∃ t, e - b - 1 - j = t := ⟨_, rfl⟩
    have e3 : e - b = (j + 1) + t := by omega
    rw [e1, e2, ht, e3, Nat.mul_add (α + β), Nat.add_mul (α + β) 1 t, Nat.one_mul, Nat.add_mul α β (j + 1)]
    have := Nat.mul_le_mul_left α (show 1 ≤ j + 1 by omega)
    omega) (n - b) (fun j hj hL => by
    show g b (b + 1 + j) * r (b + 1 + j) e = 0
    rw [h0 (b + 1 + j) (by omega) (by omega), Nat.mul_zero])
  have e1 : (α + β + 1) * (e - b) = (α + β) * (e - b) + (e - b) := by rw [Nat.add_mul (α + β) 1, Nat.one_mul]
  rw [e1, Nat.pow_add]
  exact Nat.le_trans (Nat.le_add_right _ _) key
def delta (b e : Nat) : Nat := if b = e then 1 else 0
theorem delta_int (b e : Nat) : (if (b : Int) = (e : Int) then (1 : Int) else 0) = ((delta b e : Nat) : Int) := by
  unfold delta
  by_cases h : b = e
  · rw [if_pos h, if_pos (by omega)]
    rfl
  · rw [if_neg h, if_neg (by omega)]
    rfl
theorem w_any (ds : List PyData) (Φ : List PyData → Prop) (h : sp_any ds Φ) : W__law_any (endL Φ) ⟨startE ["inner", "size", "found", "back", "begin", "place", "end"] (ds.map .d), []⟩ := by
  obtain ⟨γ, n, x, P, rfl, hn, hg, tp, ⟨xs, rfl, g, rfl, hG⟩, k⟩ := h
  simp [W__law_any, mkT_len]
  have sm : small62 ((n : Int) + 1) := ⟨by omega, by omega⟩
  obtain ⟨α, β, hαβ, hle⟩ := hG.le
  refine ⟨sm, lc_rng (fun b => .list (mkI (n + 1) (delta b))) (by omega) (fun b hb Θ kΘ => ?_) ?_⟩
  · simp
    refine ⟨sm, lc_rng (fun e => .int (delta b e : Nat)) (by omega) (fun e he Θ' kΘ' => ?_) ?_⟩
    · simp
      rw [delta_int]
      exact kΘ' _ _ rfl rfl
    · exact kΘ _ _ rfl rfl
  · refine ⟨sm, ?_⟩
    refine loop_rng (fun i s => ∃ (r : Nat → Nat → Nat) (a3 a4 a5 : Sl), s = ⟨[.d (.list (mkT (n + 1) g)), .d (.int ((n : Int) + 1)), .o (mkT (n + 1) r), a3, a4, a5, .un], []⟩ ∧ (∀ b, b + i ≤ n → r b = delta b) ∧
      ∀ b, b ≤ n → n < b + i → ∀ e, e ≤ n → (r b e ≠ 0 ↔ Rstar n P b e) ∧ (b ≤ e → r b e ≤ 2 ^ ((α + β + 1) * (e - b)))) ⟨delta, _, _, _, rfl, fun b _ => rfl, fun b hb h => by omega⟩ ?_ ?_
    · rintro i s hi ⟨r, a3, a4, a5, rfl, hr0, hr⟩ Ψ k1 k2 k3 k4 k5
      clear k2 k3 k4 k5
      obtain ⟨b, hbi⟩ : ∃ b : Nat, b + i = n := ⟨n - i, by omega⟩
      have e1 : (n : Int) - (i : Int) = (b : Int) := by omega
      simp
      rw [e1]
      refine ⟨⟨⟨by omega, by omega⟩, sm⟩, ?_⟩
      have e2 : ((n : Int) + 1 - ((b : Int) + 1)).toNat = n - b := by omega
      rw [e2]
      have rb := hr0 b (by omega)
      refine loop_rng (fun j s => ∃ (r' : Nat → Nat → Nat) (a5 : Sl), s = ⟨[.d (.list (mkT (n + 1) g)), .d (.int ((n : Int) + 1)), .o (mkT (n + 1) r'), .d (.int (i : Nat)), .d (.int (b : Nat)), a5, .un], []⟩ ∧ (∀ c, c ≠ b → r' c = r c) ∧
        ∀ e, r' b e = delta b e + sumN j fun j => g b (b + 1 + j) * r (b + 1 + j) e) ⟨r, _, rfl, fun c _ => rfl, fun e => by rw [rb]; rfl⟩ ?_ ?_
      · rintro j s hj ⟨r', a5, rfl, hr1, hr2⟩ Ψ' k1' k2 k3 k4 k5
        clear k2 k3 k4 k5
        have e3 : (b : Int) + 1 + (j : Int) = ((b + 1 + j : Nat) : Int) := by omega
        rw [e3]
        simp only [gNm, S.put, wIfS, wTst, wBin, wIx, wVar, wC, wEq, optP, List.getElem?_cons_zero, List.getElem?_cons_succ, List.set_cons_zero, List.set_cons_succ, atI_mkT (show b < n + 1 by omega), atI_mkI (show b + 1 + j < n + 1 by omega)]
        by_cases h0 : g b (b + 1 + j) = 0
        · simp [h0]
          refine k1' _ ⟨r', _, rfl, hr1, fun e => ?_⟩
          rw [sumN_succ, h0, Nat.zero_mul, Nat.add_zero]
          exact hr2 e
        · simp [h0]
          refine ⟨sm, lc_rng (fun e => .int ((r' b e + g b (b + 1 + j) * r (b + 1 + j) e : Nat) : Int)) (by omega) (fun e he Θ kΘ => ?_) ?_⟩
          · have e4 : (0 : Int) + (e : Int) = (e : Int) := by omega
            rw [e4]
            simp only [e3, gNm, S.put, wipeE, wBin, wIx, wVar, wII, wAdd, wOwnIx, ownAt, optP, List.getElem?_cons_zero, List.getElem?_cons_succ, List.set_cons_zero, List.set_cons_succ, atI_mkT (show b < n + 1 by omega), atI_mkI (show b + 1 + j < n + 1 by omega), atI_mkT (show b + 1 + j < n + 1 by omega), atI_mkI (show e < n + 1 by omega), hr1 (b + 1 + j) (by omega)]
            refine ⟨trivial, ?_, ?_⟩
            · have hs : r (b + 1 + j) e < 2 ^ (31 * γ + 1) := by
                by_cases hz : r (b + 1 + j) e = 0
                · rw [hz]
                  exact Nat.two_pow_pos _
                · have hh := hr (b + 1 + j) (by omega) (by omega) e (by omega)
                  have t := tidy_star tp _ _ (hh.1.mp hz)
                  refine Nat.lt_of_le_of_lt (hh.2 t.1) (Nat.pow_lt_pow_right (by decide) ?_)
                  have := Nat.mul_le_mul (show α + β + 1 ≤ γ by omega) (show e - (b + 1 + j) ≤ 31 by omega)
                  omega
              exact wide_mul (a := 31 * γ) (b := 31 * γ + 1) (by rw [Int.natAbs_natCast]; exact tab_small tp hG hn (by omega) (by omega)) (by rw [Int.natAbs_natCast]; exact hs) (by omega) (by omega) (by omega)
            · rw [← Int.natCast_mul, ← Int.natCast_add]
              exact kΘ _ _ rfl rfl
          · have e5 : ixN (mkT (n + 1) r').length (b : Int) = some b := ixN_nat (by rw [mkT_len]; omega)
            simp only [e5]
            refine k1' _ ⟨setF r' b fun e => r' b e + g b (b + 1 + j) * r (b + 1 + j) e, .d (.int ((b : Int) + 1 + (j : Int))), ?_, fun c hc => by rw [setF_ne hc]; exact hr1 c hc, fun e => ?_⟩
            · rw [← mkT_set (show b < n + 1 by omega)]
              rfl
            · rw [setF_same, sumN_succ, hr2 e, Nat.add_assoc]
      · rintro s ⟨r', a5, rfl, hr1, hr2⟩
        refine k1 _ ⟨r', _, _, _, rfl, fun c hc => ?_, fun c hc hci e he => ?_⟩
        · rw [hr1 c (by omega)]
          exact hr0 c (by omega)
        · by_cases hcb : c = b
          · subst hcb
            have late : ∀ m, c < m → m ≤ n → (r m e ≠ 0 ↔ Rstar n P m e) ∧ (m ≤ e → r m e ≤ 2 ^ ((α + β + 1) * (e - m))) := fun m h1 h2 => hr m h2 (by omega) e he
            have zero : ∀ m, c < m → e < m → m ≤ n → r m e = 0 := fun m h1 h2 h3 => by
              by_cases hz : r m e = 0
              · exact hz
              · have := tidy_star tp _ _ ((late m h1 h3).1.mp hz)
                omega
            rw [hr2 e]
            constructor
            · rw [star_iff]
              constructor
              · intro h
                by_cases hce : c = e
                · exact .inl ⟨hce, hc⟩
                · have hs : sumN (n - c) (fun j => g c (c + 1 + j) * r (c + 1 + j) e) ≠ 0 := by
                    unfold delta at h
                    rw [if_neg hce] at h
                    omega
                  obtain ⟨j, hj, h0⟩ := sumN_zero.mp hs
                  have h1 : g c (c + 1 + j) ≠ 0 := fun z => h0 (by rw [z, Nat.zero_mul])
                  have h2 : r (c + 1 + j) e ≠ 0 := fun z => h0 (by rw [z, Nat.mul_zero])
                  exact .inr ⟨c + 1 + j, by omega, (hG.iff _ _ hc (by omega)).mp h1, (late _ (by omega) (by omega)).1.mp h2⟩
              · rintro (⟨rfl, _⟩ | ⟨m, h1, h2, h3⟩)
                · unfold delta
                  rw [if_pos rfl]
                  omega
                · have tm := tp _ _ h2
                  have : sumN (n - c) (fun j => g c (c + 1 + j) * r (c + 1 + j) e) ≠ 0 := by
                    refine sumN_zero.mpr ⟨m - c - 1, by omega, ?_⟩
                    have em : c + 1 + (m - c - 1) = m := by omega
                    rw [em]
                    exact Nat.mul_ne_zero ((hG.iff _ _ hc tm.2).mpr h2) ((late m h1 tm.2).1.mpr h3)
                  omega
            · intro hce
              by_cases heq : c = e
              · subst heq
                have hs : sumN (n - c) (fun j => g c (c + 1 + j) * r (c + 1 + j) c) = 0 := by
                  by_cases hz : sumN (n - c) (fun j => g c (c + 1 + j) * r (c + 1 + j) c) = 0
                  · exact hz
                  · obtain ⟨j, hj, h0⟩ := sumN_zero.mp hz
                    exact absurd (by rw [zero (c + 1 + j) (by omega) (by omega) (by omega), Nat.mul_zero]) h0
                rw [hs]
                unfold delta
                rw [if_pos rfl]
                exact Nat.one_le_two_pow
              · have hd : delta c e = 0 := if_neg heq
                rw [hd, Nat.zero_add]
                exact star_le (by omega) he hle (fun m h1 h2 => (late m h1 (by omega)).2 h2) (fun m h1 h2 => zero m (by omega) h1 h2)
          · rw [hr1 c hcb]
            exact hr c hc (by omega) e he
    · rintro s ⟨r, a3, a4, a5, rfl, hr0, hr⟩
      simp
      refine k _ ⟨r, rfl, fun b e hb he => (hr b hb (by omega) e he).1, 0, α + β + 1, by omega, fun b e hb he => ?_⟩
      rw [Nat.zero_add]
      exact (hr b (by omega) (by omega) e he).2 hb
end L17
namespace L17
open PySem PySem.Spec PyProof.Rows L2 DL
theorem tab_mono {γ δ n : Nat} {P : Rel} {g : Nat → Nat → Nat} (G : TabOk γ n P g) (h : γ ≤ δ) : TabOk δ n P g := ⟨G.iff, by
  obtain ⟨α, β, h1, h2⟩ := G.le
  exact ⟨α, β, by omega, h2⟩⟩
theorem tabD_mono {γ δ n : Nat} {P : Rel} {x : PyData} (G : TabD γ n P x) (h : γ ≤ δ) : TabD δ n P x := by
  obtain ⟨xs, rfl, g, rfl, G⟩ := G
  exact ⟨_, rfl, g, rfl, tab_mono G h⟩
theorem tab_or {γ δ n : Nat} {P Q : Rel} {g h : Nat → Nat → Nat} (G : TabOk γ n P g) (H : TabOk δ n Q h) : TabOk (γ + δ) n (ror P Q) fun b e => g b e + h b e := by
  refine ⟨fun b e hb he => ?_, ?_⟩
  · have h1 := G.iff b e hb he
    have h2 := H.iff b e hb he
    show _ ↔ P b e ∨ Q b e
    rw [← h1, ← h2]
    show ¬ (g b e + h b e = 0) ↔ ¬ (g b e = 0) ∨ ¬ (h b e = 0)
    omega
  · obtain ⟨α, β, h1, h2⟩ := G.le
    obtain ⟨α', β', h3, h4⟩ := H.le
    refine ⟨α + α' + 1, β + β', by omega, fun b e hb he => ?_⟩
    have a1 : g b e ≤ 2 ^ (α + α' + (β + β') * (e - b)) := Nat.le_trans (h2 b e hb he) (Nat.pow_le_pow_right (by decide) (by rw [Nat.add_mul]; omega))
    have a2 : h b e ≤ 2 ^ (α + α' + (β + β') * (e - b)) := Nat.le_trans (h4 b e hb he) (Nat.pow_le_pow_right (by decide) (by rw [Nat.add_mul]; omega))
    have e1 : α + α' + 1 + (β + β') * (e - b) = (α + α' + (β + β') * (e - b)) + 1 := by omega
    rw [e1, Nat.pow_succ]
    omega
theorem tab_and {γ δ n : Nat} {P Q : Rel} {g h : Nat → Nat → Nat} (G : TabOk γ n P g) (H : TabOk δ n Q h) : TabOk (γ + δ) n (rand P Q) fun b e => g b e * h b e := by
  refine ⟨fun b e hb he => ?_, ?_⟩
  · have h1 := G.iff b e hb he
    have h2 := H.iff b e hb he
    show _ ↔ P b e ∧ Q b e
    rw [← h1, ← h2]
    exact Nat.mul_ne_zero_iff
  · obtain ⟨α, β, h1, h2⟩ := G.le
    obtain ⟨α', β', h3, h4⟩ := H.le
    refine ⟨α + α', β + β', by omega, fun b e hb he => ?_⟩
    refine Nat.le_trans (Nat.mul_le_mul (h2 b e hb he) (h4 b e hb he)) ?_
    rw [← Nat.pow_add]
    exact Nat.pow_le_pow_right (by decide) (by rw [Nat.add_mul]; omega)
def rsig (P : Rel) : Rel := fun b e => P b e ∧ b ≠ e
theorem tidy_sig {n : Nat} {P : Rel} (h : Tidy n P) : Tidy n (rsig P) := fun b e q => h b e q.1
def ndelta (b e : Nat) : Nat := if b = e then 0 else 1
theorem ndelta_int (b e : Nat) : (if (b : Int) = (e : Int) then (0 : Int) else 1) = ((ndelta b e : Nat) : Int) := by
  unfold ndelta
  by_cases h : b = e
  · rw [if_pos h, if_pos (by omega)]
    rfl
  · rw [if_neg h, if_neg (by omega)]
    rfl
theorem tab_sig {γ n : Nat} {P : Rel} {g : Nat → Nat → Nat} (G : TabOk γ n P g) : TabOk γ n (rsig P) fun b e => g b e * ndelta b e := by
  refine ⟨fun b e hb he => ?_, ?_⟩
  · have h1 := G.iff b e hb he
    show _ ↔ P b e ∧ b ≠ e
    rw [← h1]
    unfold ndelta
    by_cases h : b = e
    · rw [if_pos h, Nat.mul_zero]
      exact ⟨fun z => absurd rfl z, fun z => absurd h z.2⟩
    · rw [if_neg h, Nat.mul_one]
      exact ⟨fun z => ⟨z, h⟩, fun z => z.1⟩
  · obtain ⟨α, β, h1, h2⟩ := G.le
    refine ⟨α, β, h1, fun b e hb he => Nat.le_trans ?_ (h2 b e hb he)⟩
    unfold ndelta
    split
    · rw [Nat.mul_zero]
      exact Nat.zero_le _
    · rw [Nat.mul_one]
      exact Nat.le_refl _
def Rn (n : Nat) (P : Rel) (i : Nat) : Rel := rpow (ror P (rid n)) (rid n) i
theorem rn_tidy {n : Nat} {P : Rel} (tp : Tidy n P) (i : Nat) : Tidy n (Rn n P i) := tidy_pow (tidy_or tp (tidy_rid n)) (tidy_rid n) i
theorem rn_up {n : Nat} {P : Rel} (tp : Tidy n P) {i b e : Nat} (h : Rn n P i b e) : Rn n P (i + 1) b e :=
  ⟨b, .inr ⟨rfl, by have := rn_tidy tp i _ _ h; omega⟩, h⟩
theorem rn_part {n : Nat} {P : Rel} (tp : Tidy n P) : ∀ (i : Nat) {b e : Nat}, Rn n P i b e → ror (rcomp (rsig P) (Rn n P i)) (rid n) b e
  | 0, b, e, h => .inr h
  | i + 1, b, e, ⟨m, h1, h2⟩ => by
    by_cases hm : b = m
    · subst hm
      rcases rn_part tp i h2 with ⟨m', h3, h4⟩ | h3
      · exact .inl ⟨m', h3, rn_up tp h4⟩
      · exact .inr h3
    · rcases h1 with h1 | h1
      · exact .inl ⟨m, ⟨h1, hm⟩, rn_up tp h2⟩
      · exact absurd h1.1 hm
theorem rn_id {n : Nat} {P : Rel} (tp : Tidy n P) : ∀ (i : Nat) {b e : Nat}, rid n b e → Rn n P i b e
  | 0, b, e, h => h
  | i + 1, b, e, h => rn_up tp (rn_id tp i h)
theorem rn_step {n : Nat} {P : Rel} (tp : Tidy n P) (i : Nat) : ror (rcomp (rsig P) (Rn n P i)) (rid n) = Rn n P (i + 1) := rel_ext fun b e => by
  constructor
  · rintro (⟨m, h1, h2⟩ | h)
    · exact ⟨m, .inl h1.1, h2⟩
    · exact rn_id tp (i + 1) h
  · rintro ⟨m, h1, h2⟩
    by_cases hm : b = m
    · subst hm
      exact rn_part tp i h2
    · rcases h1 with h1 | h1
      · exact .inl ⟨m, ⟨h1, hm⟩, h2⟩
      · exact absurd h1.1 hm
theorem sm31 {n : Nat} (hn : n ≤ 31) : small62 ((n : Int) + 1) := ⟨by omega, by omega⟩
theorem w_rests (ds : List PyData) (Φ : PyData → Prop) (h : sp_rests ds Φ) : W__law_rests (endD Φ) ⟨startE ["rule", "inner", "same", "rests", "back", "table", "size", "signs", "turn", "rest", "begin", "end"] (ds.map .d), []⟩ := by
  have s1 : 1 ≤ sizeLine := sz_le (by omega)
  have s2 : 2 ≤ sizeLine := sz_le (by omega)
  rcases h with ⟨γ, n, xs, ts, Ps, t, rfl, hn, ht, hl, ha, tp, hg, k⟩ | ⟨γ, n, x, u, t, P, lo, hi, rfl, hn, ht, hu, tp, hg, hlo, hhi, k⟩
  · simp [W__law_rests]
    have hlen := all2_len ha
    refine ⟨s1, ⟨by omega, by omega⟩, ?_⟩
    refine loop_rng (fun i s => ∃ (y : PyData) (ys : List PyData) (a4 : Sl), s = ⟨[.d (.tuple [.str (Str.ofString "row"), .list ts]), .d (.list xs), .d t, .d (.list (y :: ys)), a4, .un, .un, .un, .un, .un, .un, .un], []⟩ ∧ ys.length = i ∧ TabD (i * γ + 1) n (rrow n (Ps.drop (xs.length - i))) y)
      ⟨t, [], _, rfl, rfl, by rw [← hlen, Nat.sub_zero, List.drop_length, Nat.zero_mul]; exact ht⟩ ?_ ?_
    · rintro i s hi ⟨y, ys, a4, rfl, hys, hy⟩ Ψ k1 k2 k3 k4 k5
      clear k2 k3 k4 k5
      obtain ⟨j, hj⟩ : ∃ j, j + i + 1 = xs.length := ⟨xs.length - i - 1, by omega⟩
      have e1 : (xs.length : Int) - 1 - (i : Int) = (j : Int) := by omega
      cases hxj : xs[j]? with
      | none => rw [List.getElem?_eq_none_iff] at hxj; omega
      | some u =>
        obtain ⟨P, hP, r, t', i', s', rfl, ht'⟩ := all2_get ha hxj
        simp
        rw [e1, DL.atI_nat (by omega), hxj]
        simp
        have tP := tp P (List.mem_of_getElem? hP)
        have tR : Tidy n (rrow n (Ps.drop (xs.length - i))) := tidy_row fun Q hQ => tp Q (List.mem_of_mem_drop hQ)
        refine ⟨γ, i * γ + 1, n, t', y, P, _, rfl, hn, ?_, tP, tR, ht', hy, fun zs hz => ⟨s1, sz_le (by omega), k1 _ ⟨.list zs, y :: ys, _, rfl, by simp [hys], ?_⟩⟩⟩
        · have := Nat.mul_le_mul_right γ (show i ≤ 6 by omega)
          omega
        · have e2 : xs.length - (i + 1) = j := by omega
          have e3 : xs.length - i = j + 1 := by omega
          have e4 : Ps.drop j = P :: Ps.drop (j + 1) := by
            obtain ⟨hlt, hget⟩ := List.getElem?_eq_some_iff.mp hP
            rw [List.drop_eq_getElem_cons hlt, hget]
          rw [e3] at hz
          rw [e2, e4, Nat.succ_mul]
          have e5 : i * γ + γ + 1 = γ + (i * γ + 1) := by omega
          rw [e5]
          exact ⟨_, rfl, hz⟩
    · rintro s ⟨y, ys, a4, rfl, hys, hy⟩
      simp
      refine k y ys (tabD_mono (by rw [Nat.sub_self, List.drop_zero] at hy; exact hy) ?_)
      have := Nat.mul_le_mul_right γ hl
      omega
  · obtain ⟨xt, rfl, gt, rfl, hgt⟩ := ht
    obtain ⟨r, t, i, s, rfl, ht⟩ := hu
    -- the last loop
    have last : ∀ (hiD' : PyData) (δ : Nat) (Q : Rel) (y : PyData) (ys : List PyData) (a6 a7 a8 a9 : Sl), Tidy n Q → TabD δ n Q y → ys.length ≤ 8 → lo * γ + δ ≤ 15000 →
        (∀ z zs, TabD (lo * γ + δ) n (rpow P Q lo) z → Φ (.list (z :: zs))) →
        loopW (gNm 8) (wSet 3 (wBin wAdd (wFz (wLst (wCons (wFz (wCallL sp_joined (wCons (wVar 5) (wCons (wBin wIx (wVar 3) (wC (.int 0))) wNil)))) wNil))) (wVar 3)))
          { nx := wRet (wVar 3) { nx := fun x => Φ .none, rt := fun x x_1 => Φ x }, rt := fun x x_1 => Φ x } (rangeD 0 lo)
          ⟨[.d (.tuple [.str (Str.ofString "times"), x, .int (lo : Nat), hiD']), .d (.list [.tuple [r, t, i, s]]), .d (.list (mkT (n + 1) gt)), .d (.list (y :: ys)), .un, .d t, a6, a7, a8, a9, .un, .un], []⟩ := by
      intro hiD' δ Q y ys a6 a7 a8 a9 tq hy hys hb kk
      refine loop_rng (fun j s' => ∃ (y : PyData) (ys : List PyData) (a8 : Sl), s' = ⟨[.d (.tuple [.str (Str.ofString "times"), x, .int (lo : Nat), hiD']), .d (.list [.tuple [r, t, i, s]]), .d (.list (mkT (n + 1) gt)), .d (.list (y :: ys)), .un, .d t, a6, a7, a8, a9, .un, .un], []⟩ ∧ ys.length ≤ 8 + j ∧ TabD (j * γ + δ) n (rpow P Q j) y)
        ⟨y, ys, _, rfl, by omega, by rw [Nat.zero_mul, Nat.zero_add]; exact hy⟩ ?_ ?_
      · rintro j s' hj ⟨y, ys, a8, rfl, hys, hy⟩ Ψ k1 k2 k3 k4 k5
        clear k2 k3 k4 k5
        simp
        refine ⟨γ, j * γ + δ, n, t, y, P, _, rfl, hn, ?_, tp, tidy_pow tp tq j, ht, hy, fun zs hz => ⟨s1, sz_le (by omega), k1 _ ⟨.list zs, y :: ys, _, rfl, by simp; omega, ?_⟩⟩⟩
        · have := Nat.mul_le_mul_right γ (show j + 1 ≤ lo by omega)
          rw [Nat.succ_mul] at this
          omega
        · rw [Nat.succ_mul]
          have e5 : j * γ + γ + δ = γ + (j * γ + δ) := by omega
          rw [e5]
          exact ⟨_, rfl, hz⟩
      · rintro s' ⟨y, ys, a8, rfl, hys, hy⟩
        simp
        exact kk y ys hy
    have hlg := Nat.mul_le_mul_right γ hlo
    cases hi with
    | none =>
      simp [W__law_rests, hiD]
      refine ⟨s1, s2, γ, n, t, P, rfl, hn, by omega, tp, ht, fun zs hz => ⟨s1, ⟨by omega, by omega⟩, ?_⟩⟩
      exact last .none (γ + 1) (Rstar n P) (.list zs) [] _ _ _ _ (tidy_star tp) ⟨_, rfl, hz⟩ (by simp) (by omega) fun z zs h => k z zs (tabD_mono h (by omega))
    | some h =>
      have hh := hhi h rfl
      obtain ⟨xs', rfl, g, rfl, hG⟩ := ht
      have sm := sm31 hn
      simp [W__law_rests, hiD, mkT_len]
      refine ⟨s1, s2, sm, lc_rng (fun b => .list (mkI (n + 1) fun e => g b e * ndelta b e)) (by omega) (fun b hb Θ kΘ => ?_) ?_⟩
      · simp
        refine ⟨sm, lc_rng (fun e => .int ((g b e * ndelta b e : Nat) : Int)) (by omega) (fun e he Θ' kΘ' => ?_) ?_⟩
        · simp [atI_mkT hb, atI_mkI he]
          rw [ndelta_int, ← Int.natCast_mul]
          refine ⟨?_, kΘ' _ _ rfl rfl⟩
          have g0 : 0 < γ := by
            obtain ⟨α, β, h1, _⟩ := hG.le
            omega
          refine wide_mul (a := 31 * γ) (b := 1) (by rw [Int.natAbs_natCast]; exact tab_small tp hG hn (by omega) (by omega)) ?_ (by omega) (by omega) (by omega)
          unfold ndelta
          split <;> decide
        · exact kΘ _ _ rfl rfl
      · refine ⟨⟨by omega, by omega⟩, ?_⟩
        refine loop_rng (fun j s' => ∃ (y : PyData) (ys : List PyData) (a8 a9 : Sl), s' = ⟨[.d (.tuple [.str (Str.ofString "times"), x, .int (lo : Nat), .int (h : Nat)]), .d (.list [.tuple [r, .list (mkT (n + 1) g), i, s]]), .d (.list (mkT (n + 1) gt)), .d (.list (y :: ys)), .un, .d (.list (mkT (n + 1) g)), .d (.int ((n : Int) + 1)), .d (.list (mkT (n + 1) fun b e => g b e * ndelta b e)), a8, a9, .un, .un], []⟩ ∧ ys.length ≤ j ∧ TabD (j * (γ + 1) + 1) n (Rn n P j) y)
          ⟨.list (mkT (n + 1) gt), [], _, _, rfl, by simp, by rw [Nat.zero_mul, Nat.zero_add]; exact ⟨_, rfl, gt, rfl, hgt⟩⟩ ?_ ?_
        · rintro j s' hj ⟨y, ys, a8, a9, rfl, hys, hy⟩ Ψ k1 k2 k3 k4 k5
          clear k2 k3 k4 k5
          simp
          have hjg := Nat.mul_le_mul_right (γ + 1) (show j + 1 ≤ 8 by omega)
          rw [Nat.succ_mul] at hjg
          refine ⟨γ, j * (γ + 1) + 1, n, _, y, rsig P, _, rfl, hn, by omega, tidy_sig tp, rn_tidy tp j, ⟨_, rfl, _, rfl, tab_sig hG⟩, hy, fun zs hz => ?_⟩
          obtain ⟨q, rfl, hq⟩ := hz
          refine ⟨sm, lc_rng (fun b => .list (mkI (n + 1) fun e => q b e + gt b e)) (by omega) (fun b hb Θ kΘ => ?_) ?_⟩
          · simp
            refine ⟨sm, lc_rng (fun e => .int ((q b e + gt b e : Nat) : Int)) (by omega) (fun e he Θ' kΘ' => ?_) ?_⟩
            · simp [atI_mkT hb, atI_mkI he]
              rw [← Int.natCast_add]
              exact kΘ' _ _ rfl rfl
            · exact kΘ _ _ rfl rfl
          · refine ⟨s1, sz_le (by omega), k1 _ ⟨.list (mkT (n + 1) fun b e => q b e + gt b e), y :: ys, _, _, rfl, by simp; omega, ?_⟩⟩
            have := tab_or hq hgt
            rw [rn_step tp j] at this
            rw [Nat.succ_mul]
            exact ⟨_, rfl, _, rfl, tab_mono this (by omega)⟩
        · rintro s' ⟨y, ys, a8, a9, rfl, hys, hy⟩
          simp
          refine ⟨⟨by omega, by omega⟩, ?_⟩
          have hsum : lo * γ + ((h - lo) * (γ + 1) + 1) ≤ 9 * γ + 9 := by
            obtain ⟨d, hd⟩ : ∃ d, h = lo + d := ⟨h - lo, by omega⟩
            have e1 : h - lo = d := by omega
            have e2 := Nat.mul_le_mul_right γ (show lo + d ≤ 8 by omega)
            rw [Nat.add_mul] at e2
            rw [e1, Nat.mul_succ]
            omega
          exact last (.int (h : Nat)) ((h - lo) * (γ + 1) + 1) (Rn n P (h - lo)) y ys _ _ _ _ (rn_tidy tp _) hy (by omega) (by omega) fun z zs hz => k z zs (tabD_mono hz hsum)
end L17
namespace L17
open PySem PySem.Spec PyProof.Rows L2 DL
theorem tree_tab {n : Nat} {a0 a1 a2 a4 a5 a6 a7 a8 : Sl} {body : DE} {Φ : List PyData → List Int → Prop} {q : List Int} (hn : n ≤ 31) (G : Nat → Nat → Nat)
    (hb : ∀ b e, b < n + 1 → e < n + 1 → ∀ K : PyData → S → Prop, K (.int (G b e : Nat)) ⟨[a0, a1, a2, .d (.int ((n : Int) + 1)), a4, a5, a6, a7, a8, .d (.int (b : Nat)), .d (.int (e : Nat))], q⟩ → body ⟨[a0, a1, a2, .d (.int ((n : Int) + 1)), a4, a5, a6, a7, a8, .d (.int (b : Nat)), .d (.int (e : Nat))], q⟩ K)
    (hd : Φ (mkT (n + 1) G) q) : lcW [9] [a0, a1, a2, .d (.int ((n : Int) + 1)), a4, a5, a6, a7, a8, .un, .un] (gNm 9) wYes (wFz (wLc [10] (wRng1 (wCons (wVar 3) wNil)) (gNm 10) wYes body)) Φ (rangeD 0 (n + 1)) [] q := by
  refine lc_rng (fun b => .list (mkI (n + 1) (G b))) (by omega) (fun b hb' Θ kΘ => ?_) hd
  simp
  refine ⟨sm31 hn, lc_rng (fun e => .int (G b e : Nat)) (by omega) (fun e he Θ' kΘ' => ?_) ?_⟩
  · simp
    exact hb b e hb' he _ (kΘ' _ _ rfl rfl)
  · exact kΘ _ _ rfl rfl
theorem tab_01 {n : Nat} {P : Rel} {g : Nat → Nat → Nat} (h1 : ∀ b e, b ≤ n → e ≤ n → (g b e ≠ 0 ↔ P b e)) (h2 : ∀ b e, g b e ≤ 1) : TabOk 1 n P g :=
  ⟨h1, 0, 0, by omega, fun b e _ _ => Nat.le_trans (h2 b e) Nat.one_le_two_pow⟩
theorem tab_delta (n : Nat) : TabOk 1 n (rid n) delta := tab_01 (fun b e hb he => by
  unfold delta
  show _ ↔ b = e ∧ e ≤ n
  by_cases h : b = e
  · rw [if_pos h]
    exact ⟨fun _ => ⟨h, he⟩, fun _ => by omega⟩
  · rw [if_neg h]
    exact ⟨fun z => absurd rfl z, fun z => absurd z.1 h⟩) fun b e => by unfold delta; split <;> omega
theorem tab_no (n : Nat) : TabOk 1 n rno fun _ _ => 0 := tab_01 (fun b e hb he => ⟨fun z => absurd rfl z, fun z => z.elim⟩) fun b e => by omega
def upper (b e : Nat) : Nat := if b ≤ e then 1 else 0
theorem tab_up (n : Nat) : TabOk 1 n (rup n) upper := tab_01 (fun b e hb he => by
  unfold upper
  show _ ↔ b ≤ e ∧ e ≤ n
  by_cases h : b ≤ e
  · rw [if_pos h]
    exact ⟨fun _ => ⟨h, he⟩, fun _ => by omega⟩
  · rw [if_neg h]
    exact ⟨fun z => absurd rfl z, fun z => absurd z.1 h⟩) fun b e => by unfold upper; split <;> omega
def notTab (g : Nat → Nat → Nat) (b e : Nat) : Nat := if b ≤ e ∧ g b e = 0 then 1 else 0
theorem tab_not {γ n : Nat} {P : Rel} {g : Nat → Nat → Nat} (G : TabOk γ n P g) : TabOk 1 n (rnot n P) (notTab g) := tab_01 (fun b e hb he => by
  unfold notTab
  show _ ↔ (b ≤ e ∧ e ≤ n) ∧ ¬ P b e
  rw [← G.iff b e hb he]
  by_cases h : b ≤ e ∧ g b e = 0
  · rw [if_pos h]
    exact ⟨fun _ => ⟨⟨h.1, he⟩, fun z => z h.2⟩, fun _ => by omega⟩
  · rw [if_neg h]
    refine ⟨fun z => absurd rfl z, fun z => absurd ⟨z.1.1, ?_⟩ h⟩
    have := z.2
    omega) fun b e => by unfold notTab; split <;> omega
def oneTab (z w : Str) (b e : Nat) : Nat := if e = b + 1 then (match w.cps.toList[b]? with
  | some c => if c ∈ z.cps.toList then 1 else 0
  | none => 0) else 0
theorem tab_one (z w : Str) : TabOk 1 w.length (dOne z w) (oneTab z w) := tab_01 (fun b e hb he => by
  unfold oneTab
  show _ ↔ e = b + 1 ∧ ∃ c, w.cps.toList[b]? = some c ∧ c ∈ z.cps.toList
  by_cases h : e = b + 1
  · rw [if_pos h]
    cases hc : w.cps.toList[b]? with
    | none => exact ⟨fun z => absurd rfl z, fun ⟨_, c, h1, _⟩ => by cases h1⟩
    | some c =>
      show (if c ∈ z.cps.toList then 1 else 0) ≠ 0 ↔ _
      by_cases hm : c ∈ z.cps.toList
      · rw [if_pos hm]
        exact ⟨fun _ => ⟨h, c, rfl, hm⟩, fun _ => by omega⟩
      · rw [if_neg hm]
        exact ⟨fun z => absurd rfl z, fun ⟨_, c', h1, h2⟩ => by cases h1; exact absurd h2 hm⟩
  · rw [if_neg h]
    exact ⟨fun z => absurd rfl z, fun z => absurd z.1 h⟩) fun b e => by
  unfold oneTab
  split
  · split
    · split <;> omega
    · omega
  · omega
theorem gam_pos : ∀ d, 1 ≤ gam d
  | 0 => Nat.le_refl _
  | d + 1 => by
    show 1 ≤ 9 * gam d + 9
    omega
theorem gam_mono {a b : Nat} (h : a ≤ b) : gam a ≤ gam b := by
  induction h with
  | refl => exact Nat.le_refl _
  | step h ih =>
    refine Nat.le_trans ih ?_
    show _ ≤ 9 * _ + 9
    omega
theorem gam_4 {d : Nat} (h : d ≤ 4) : gam d ≤ 15000 := Nat.le_trans (gam_mono h) (by decide)
theorem rall_up {n : Nat} (Ps : List Rel) : rand (rup n) (rall n Ps) = rall n Ps := by
  cases Ps with
  | nil => exact rel_ext fun b e => ⟨fun h => h.1, fun h => ⟨h, h⟩⟩
  | cons P Ps => 
    refine rel_ext fun b e => ⟨fun h => h.2, fun h => ⟨?_, h⟩⟩
    have : ∀ Qs : List Rel, ∀ b e, rall n Qs b e → rup n b e := fun Qs => by
      induction Qs with
      | nil => exact fun b e h => h
      | cons Q Qs ih => exact fun b e h => ih b e h.2
    exact this _ _ _ h
theorem ror_no (P : Rel) : ror rno P = P := rel_ext fun b e => ⟨fun h => h.elim (fun h => h.elim) fun h => h, .inr⟩
theorem w_tree (d : Nat) (rc : DSp) (hrc : ∀ e, d = e + 1 → rc = sp_tree e) (ds : List PyData) (Φ : PyData → Prop) (h : sp_tree d ds Φ) : W__law_tree rc (endD Φ) ⟨startE ["rule", "word", "kind", "size", "inner", "found", "rests", "one", "table", "begin", "end"] (ds.map .d), []⟩ := by
  obtain ⟨x, D, w, rfl, hr, hd, hw, k⟩ := h
  have szw : w.length ≤ sizeLine := sz_le (by omega)
  have s1 : 1 ≤ sizeLine := sz_le (by omega)
  have s2 : 2 ≤ sizeLine := sz_le (by omega)
  have s3 : 3 ≤ sizeLine := sz_le (by omega)
  have s4 : 4 ≤ sizeLine := sz_le (by omega)
  have sm := sm31 hw
  have hgam := gam_4 hd
  have leaf : ∀ x D, Leaf x D → (∀ y, TreeD 1 w.length (D w) y → Φ y) → W__law_tree rc (endD Φ) ⟨startE ["rule", "word", "kind", "size", "inner", "found", "rests", "one", "table", "begin", "end"] ([x, .str w].map .d), []⟩ := fun x D h k => by
    cases h with
    | no =>
      simp [W__law_tree, inF, eqF]
      refine ⟨szw, s3, s2, sm, tree_tab hw delta (fun b e hb he K kK => ?_) ?_⟩
      · simp
        rw [delta_int]
        exact kK
      · refine ⟨s2, sm, tree_tab hw (fun _ _ => 0) (fun b e hb he K kK => ?_) ?_⟩
        · simp
          exact kK
        · simp [loopW]
          exact ⟨s4, k _ ⟨_, _, _, _, rfl, _, rfl, _, rfl, tab_no _⟩⟩
    | em =>
      simp [W__law_tree, inF, eqF]
      refine ⟨szw, s3, s2, sm, tree_tab hw delta (fun b e hb he K kK => ?_) ?_⟩
      · simp
        rw [delta_int]
        exact kK
      · simp [loopW]
        exact ⟨s2, s4, k _ ⟨_, _, _, _, rfl, _, rfl, _, rfl, tab_delta _⟩⟩
    | @one z h1 h2 h3 =>
      simp [W__law_tree, inF, eqF]
      refine ⟨szw, s3, s2, sm, tree_tab hw delta (fun b e hb he K kK => ?_) ?_⟩
      · simp
        rw [delta_int]
        exact kK
      · refine ⟨s2, sm, tree_tab hw (oneTab z w) (fun b e hb he K kK => ?_) ?_⟩
        · simp
          by_cases hbe : e = b + 1
          · have e1 : (e : Int) = (b : Int) + 1 := by omega
            have hbl : b < w.length := by omega
            have hg : w.cps.toList[b]? = some (w.cps[b]'hbl) := by
              rw [Array.getElem?_toList]
              exact Array.getElem?_eq_getElem hbl
            have e2 : ((oneTab z w b e : Nat) : Int) = if (w.cps[b]'hbl) ∈ z.cps then 1 else 0 := by
              unfold oneTab
              rw [if_pos hbe, hg]
              by_cases hm : (w.cps[b]'hbl) ∈ z.cps
              · simp [hm]
              · simp [hm]
            rw [e2, e1] at kK
            rw [if_pos e1, e1]
            exact ⟨szw, _, slice_sign hbl, kK⟩
          · rw [if_neg (by omega)]
            have e2 : oneTab z w b e = 0 := if_neg hbe
            rw [e2] at kK
            exact kK
        · simp [loopW]
          exact ⟨s4, k _ ⟨_, _, _, _, rfl, _, rfl, _, rfl, tab_one _ _⟩⟩
  have toD : ∀ {γ : Nat} {P : Rel} {y : PyData}, γ ≤ gam d → TreeD γ w.length P y → TreeD (gam d) w.length P y := fun h ⟨r, t, i, s, e, t2⟩ => ⟨r, t, i, s, e, tabD_mono t2 h⟩
  cases d with
  | zero => exact leaf x D hr fun y hy => k y (toD (gam_pos 0) hy)
  | succ d =>
    cases hr with
    | leaf h => exact leaf x D h fun y hy => k y (toD (gam_pos _) hy)
    | @row xs Ds h1 h2 h3 =>
      rw [hrc d rfl]
      have g9 : gam (d + 1) = 9 * gam d + 9 := rfl
      simp [W__law_tree, inF, eqF]
      refine ⟨szw, s3, lc_all2 (R' := fun E y => TreeD (gam d) w.length (E w) y) (fun q => q = []) rfl h3 (by omega) (fun x E q hx hq Θ kΘ => ?_) (fun ys q hq hys => ?_)⟩
      · simp
        exact ⟨x, E, w, rfl, hx, by omega, hw, fun y hy => kΘ _ _ _ rfl hq hy⟩
      · have ha := all2_map (R' := TreeD (gam d) w.length) (f := fun E : Den => E w) hys fun E y h => h
        refine ⟨s2, sm, tree_tab hw delta (fun b e hb he K kK => ?_) ?_⟩
        · simp
          rw [delta_int]
          exact kK
        · refine ⟨s2, .inl ⟨gam d, w.length, ys, xs, _, _, rfl, hw, ⟨_, rfl, _, rfl, tab_delta _⟩, by rw [← all2_len ha, List.length_map, ← all2_len h3]; exact h2, ha, fun P hP => ?_, by omega, fun y zs hy => ?_⟩⟩
          · obtain ⟨E, hE, rfl⟩ := List.mem_map.mp hP
            obtain ⟨x, _, hx⟩ := all2_mem h3 E hE
            exact tidy_rul d hx w
          · simp
            exact ⟨s4, k _ ⟨_, _, _, _, rfl, hy⟩⟩
    | @ti x E lo hi h h1 h2 =>
      rw [hrc d rfl]
      have g9 : gam (d + 1) = 9 * gam d + 9 := rfl
      simp [W__law_tree, inF, eqF]
      refine ⟨szw, s3, s2, ⟨x, E, w, rfl, h, by omega, hw, fun y hy => ⟨s1, sm, tree_tab hw delta (fun b e hb he K kK => ?_) ?_⟩⟩⟩
      · simp
        rw [delta_int]
        exact kK
      · refine ⟨s2, .inr ⟨gam d, w.length, x, y, _, E w, lo, hi, rfl, hw, ⟨_, rfl, _, rfl, tab_delta _⟩, hy, tidy_rul d h w, by omega, h1, h2, fun u zs hu => ?_⟩⟩
        simp
        exact ⟨s4, k _ ⟨_, _, _, _, rfl, hu⟩⟩
    | @no x E h =>
      rw [hrc d rfl]
      simp [W__law_tree, inF, eqF]
      refine ⟨szw, s3, s2, ⟨x, E, w, rfl, h, by omega, hw, fun y hy => ⟨s1, sm, tree_tab hw delta (fun b e hb he K kK => ?_) ?_⟩⟩⟩
      · simp
        rw [delta_int]
        exact kK
      · refine ⟨s2, sm, tree_tab hw (fun _ _ => 0) (fun b e hb he K kK => ?_) ?_⟩
        · simp
          exact kK
        · obtain ⟨r, t, i', s', rfl, ts, rfl, q, rfl, hq⟩ := hy
          simp [loopW]
          refine ⟨sm, tree_tab hw (notTab q) (fun b e hb he K kK => ?_) ?_⟩
          · simp [atI_mkT hb, atI_mkI he]
            by_cases h1 : b ≤ e
            · rw [if_pos h1]
              have e1 : (if q b e = 0 then (1 : Int) else 0) = ((notTab q b e : Nat) : Int) := by
                unfold notTab
                by_cases h2 : q b e = 0
                · rw [if_pos h2, if_pos ⟨h1, h2⟩]
                  rfl
                · rw [if_neg h2, if_neg fun z => h2 z.2]
                  rfl
              rw [e1]
              exact kK
            · rw [if_neg h1]
              have e1 : notTab q b e = 0 := if_neg fun z => h1 z.1
              rw [e1] at kK
              exact kK
          · exact ⟨s4, k _ ⟨_, _, _, _, rfl, _, rfl, _, rfl, tab_mono (tab_not hq) (gam_pos _)⟩⟩
    | @ei xs Ds h1 h2 h3 =>
      rw [hrc d rfl]
      have g9 : gam (d + 1) = 9 * gam d + 9 := rfl
      simp [W__law_tree, inF, eqF]
      refine ⟨szw, s3, lc_all2 (R' := fun E y => TreeD (gam d) w.length (E w) y) (fun q => q = []) rfl h3 (by omega) (fun x E q hx hq Θ kΘ => ?_) (fun ys q hq hys => ?_)⟩
      · simp
        exact ⟨x, E, w, rfl, hx, by omega, hw, fun y hy => kΘ _ _ _ rfl hq hy⟩
      · have ha := all2_map (R' := TreeD (gam d) w.length) (f := fun E : Den => E w) hys fun E y h => h
        refine ⟨s2, sm, tree_tab hw delta (fun b e hb he K kK => ?_) ?_⟩
        · simp
          rw [delta_int]
          exact kK
        · refine ⟨s2, sm, tree_tab hw (fun _ _ => 0) (fun b e hb he K kK => ?_) ?_⟩
          · simp
            exact kK
          · subst hq
            refine loop_ix ys (fun i s => ∃ (g : Nat → Nat → Nat) (a7 a8 : Sl), s = ⟨[.d (.tuple [.str (Str.ofString "either"), .list xs]), .d (.str w), .d (.str (Str.ofString "either")), .d (.int ((w.length : Int) + 1)), .d (.list ys), .d (.list (mkT (w.length + 1) g)), .un, a7, a8, .un, .un], []⟩ ∧ TabOk (i * gam d + 1) w.length (((Ds.map fun E => E w).take i).foldl ror rno) g)
              ⟨_, _, _, rfl, by rw [Nat.zero_mul]; exact tab_no _⟩ ?_ ?_
            · rintro i u s hu ⟨g, a7, a8, rfl, hg⟩ Ψ k1 k2 k3 k4 k5
              clear k2 k3 k4 k5
              obtain ⟨P, hP, r, t, i', s', rfl, ts, rfl, q, rfl, hq⟩ := all2_get ha hu
              simp
              refine ⟨sm, tree_tab hw (fun b e => g b e + q b e) (fun b e hb he K kK => ?_) ?_⟩
              · simp [atI_mkT hb, atI_mkI he]
                rw [← Int.natCast_add]
                exact kK
              · refine k1 _ ⟨_, _, _, rfl, ?_⟩
                rw [take_snoc hP, List.foldl_append, Nat.succ_mul]
                exact tab_mono (tab_or hg hq) (by omega)
            · rintro s ⟨g, a7, a8, rfl, hg⟩
              simp
              refine ⟨s4, k _ ⟨_, _, _, _, rfl, _, rfl, _, rfl, tab_mono (γ := ys.length * gam d + 1) ?_ ?_⟩⟩
              · rw [← all2_len ha, List.take_length, foldl_or, ror_no] at hg
                rw [← all2_len ha]
                exact hg
              · have e6 : ys.length ≤ 6 := by rw [← all2_len ha, List.length_map, ← all2_len h3]; exact h2
                have := Nat.mul_le_mul_right (gam d) e6
                omega
    | @bo xs Ds h1 h2 h3 =>
      rw [hrc d rfl]
      have g9 : gam (d + 1) = 9 * gam d + 9 := rfl
      simp [W__law_tree, inF, eqF]
      refine ⟨szw, s3, lc_all2 (R' := fun E y => TreeD (gam d) w.length (E w) y) (fun q => q = []) rfl h3 (by omega) (fun x E q hx hq Θ kΘ => ?_) (fun ys q hq hys => ?_)⟩
      · simp
        exact ⟨x, E, w, rfl, hx, by omega, hw, fun y hy => kΘ _ _ _ rfl hq hy⟩
      · have ha := all2_map (R' := TreeD (gam d) w.length) (f := fun E : Den => E w) hys fun E y h => h
        have tD : ∀ P, P ∈ Ds.map (fun E => E w) → Tidy w.length P := fun P hP => by
          obtain ⟨E, hE, rfl⟩ := List.mem_map.mp hP
          obtain ⟨x, _, hx⟩ := all2_mem h3 E hE
          exact tidy_rul d hx w
        refine ⟨s2, sm, tree_tab hw delta (fun b e hb he K kK => ?_) ?_⟩
        · simp
          rw [delta_int]
          exact kK
        · refine ⟨s2, sm, tree_tab hw upper (fun b e hb he K kK => ?_) ?_⟩
          · simp
            have e1 : (if b ≤ e then (1 : Int) else 0) = ((upper b e : Nat) : Int) := by
              unfold upper
              split <;> rfl
            rw [e1]
            exact kK
          · subst hq
            have tF : ∀ i, Tidy w.length (((Ds.map fun E => E w).take i).foldl rand (rup w.length)) := fun i => by
              rw [foldl_and _ _ (tidy_rup _)]
              exact tidy_and (tidy_rup _)
            refine loop_ix ys (fun i s => ∃ (g : Nat → Nat → Nat) (a7 a8 : Sl), s = ⟨[.d (.tuple [.str (Str.ofString "both"), .list xs]), .d (.str w), .d (.str (Str.ofString "both")), .d (.int ((w.length : Int) + 1)), .d (.list ys), .d (.list (mkT (w.length + 1) g)), .un, a7, a8, .un, .un], []⟩ ∧ TabOk (i * gam d + 1) w.length (((Ds.map fun E => E w).take i).foldl rand (rup w.length)) g)
              ⟨_, _, _, rfl, by rw [Nat.zero_mul]; exact tab_up _⟩ ?_ ?_
            · rintro i u s hu ⟨g, a7, a8, rfl, hg⟩ Ψ k1 k2 k3 k4 k5
              clear k2 k3 k4 k5
              obtain ⟨P, hP, r, t, i', s', rfl, ts, rfl, q, rfl, hq⟩ := all2_get ha hu
              have e6 : ys.length ≤ 6 := by rw [← all2_len ha, List.length_map, ← all2_len h3]; exact h2
              have hi6 : i < ys.length := (List.getElem?_eq_some_iff.mp hu).1
              have := Nat.mul_le_mul_right (gam d) (show i ≤ 6 by omega)
              simp
              refine ⟨sm, tree_tab hw (fun b e => g b e * q b e) (fun b e hb he K kK => ?_) ?_⟩
              · simp [atI_mkT hb, atI_mkI he]
                refine ⟨tab_wide (tF i) hg (tD P (List.mem_of_getElem? hP)) hq hw (by omega) (by omega) (by omega) (by omega) (by omega), ?_⟩
                rw [← Int.natCast_mul]
                exact kK
              · refine k1 _ ⟨_, _, _, rfl, ?_⟩
                rw [take_snoc hP, List.foldl_append, Nat.succ_mul]
                exact tab_mono (tab_and hg hq) (by omega)
            · rintro s ⟨g, a7, a8, rfl, hg⟩
              simp
              refine ⟨s4, k _ ⟨_, _, _, _, rfl, _, rfl, _, rfl, tab_mono (γ := ys.length * gam d + 1) ?_ ?_⟩⟩
              · rw [← all2_len ha, List.take_length, foldl_and _ _ (tidy_rup _), rall_up] at hg
                rw [← all2_len ha]
                exact hg
              · have e6 : ys.length ≤ 6 := by rw [← all2_len ha, List.length_map, ← all2_len h3]; exact h2
                have := Nat.mul_le_mul_right (gam d) e6
                omega
end L17
namespace L17
open PySem PySem.Spec PyProof.Rows L2 DL
theorem pick_go {m : Int} {q : List Int} {Φ : PyData → List Int → Prop} (hm : 0 < m) (hq : PoolOk q) (h : ∀ (n : Nat) q', PoolOk q' → (n : Int) < m → n < 60 → Φ (.int (n : Nat)) q') : sp_pick [.int m] q Φ :=
  ⟨m, rfl, hm, hq, fun n q' hq' h0 h1 h2 => by
    obtain ⟨k, rfl⟩ := Int.eq_ofNat_of_zero_le h0
    exact h k q' hq' h1 (by omega)⟩
theorem join_foldl (acc : Array Nat) : ∀ zs : List Str, (zs.foldl (fun acc p => acc ++ (#[] : Array Nat) ++ p.cps) acc).toList = acc.toList ++ (zs.map fun z => z.cps.toList).flatten
  | [] => by simp
  | z :: zs => by
    rw [List.foldl_cons, join_foldl _ zs]
    simp
theorem join_cps (zs : List Str) : (Txt.join (Str.ofString "") zs).cps.toList = (zs.map fun z => z.cps.toList).flatten := by
  have e : (Str.ofString "").cps = #[] := by decide +kernel
  show (List.foldl (fun acc p => acc ++ (Str.ofString "").cps ++ p.cps) (zs.headD Str.empty).cps (zs.drop 1)).toList = _
  rw [e, join_foldl]
  cases zs with
  | nil => rfl
  | cons z zs => rfl
theorem join_len (zs : List Str) : (Txt.join (Str.ofString "") zs).length = (zs.map fun z => z.length).sum := by
  have h := congrArg List.length (join_cps zs)
  rw [Array.length_toList, List.length_flatten, List.map_map] at h
  rw [show (Txt.join (Str.ofString "") zs).length = (Txt.join (Str.ofString "") zs).cps.size from rfl, h]
  congr 1
theorem empty_len : (Str.ofString "").length = 0 := by decide +kernel
/-- one sign -/
def sg (c : Nat) : Str := ⟨#[c]⟩
theorem sg_len (c : Nat) : (sg c).length = 1 := rfl
theorem sum_le {l : List Nat} {m : Nat} (h : ∀ a, a ∈ l → a ≤ m) : l.sum ≤ l.length * m := by
  induction l with
  | nil => exact Nat.zero_le _
  | cons a l ih =>
    rw [List.sum_cons, List.length_cons, Nat.succ_mul]
    have h1 := h a List.mem_cons_self
    have h2 := ih fun b hb => h b (List.mem_cons_of_mem _ hb)
    omega
theorem join_signs (cs : List Nat) : (Txt.join (Str.ofString "") (cs.map sg)).cps.toList = cs := by
  rw [join_cps, List.map_map]
  induction cs with
  | nil => rfl
  | cons c cs ih =>
    rw [List.map_cons, List.flatten_cons, ih]
    rfl
theorem str_at {z : Str} {n : Nat} (h : n < z.length) : atI z.cps.toList (n : Int) = some (z.cps[n]'h) := by
  rw [DL.atI_nat (by rw [Array.length_toList]; exact h), Array.getElem?_toList]
  exact Array.getElem?_eq_getElem h
theorem str_mem {z : Str} {n : Nat} (h : n < z.length) : z.cps[n]'h ∈ z.cps.toList := by
  rw [Array.mem_toList_iff]
  exact Array.getElem_mem h
theorem w_count (ds : List PyData) (Φ : PyData → Prop) (h : sp_countU ds Φ) : W__law_count (endD Φ) ⟨startE ["rule", "word"] (ds.map .d), []⟩ := by
  obtain ⟨d, hd, x, D, w, rfl, hr, hd', hw, k⟩ := h
  simp [W__law_count]
  refine ⟨d, hd, x, D, w, rfl, hr, hd, hw, fun y hy => ?_⟩
  obtain ⟨r, t, i, s, rfl, ts, rfl, g, rfl, hg⟩ := hy
  have e0 : atI (mkT (w.length + 1) g) 0 = some (.list (mkI (w.length + 1) (g 0))) := atI_mkT (i := 0) (by omega)
  simp [e0, atI_mkI (show w.length < w.length + 1 by omega)]
  exact ⟨sz_le (by omega), k _ (hg.iff 0 w.length (by omega) (by omega))⟩
theorem w_is_of (ds : List PyData) (Φ : PyData → Prop) (h : sp_isU ds Φ) : W_is_of (endD Φ) ⟨startE ["letters", "rule", "word"] (ds.map .d), []⟩ := by
  obtain ⟨d, hd, l, x, D, w, rfl, hr, hw, k⟩ := h
  simp [W_is_of]
  exact ⟨d, hd, x, D, w, rfl, hr, hw, fun y hy => ⟨sz_le (by omega), w.length, y, D w, 0, w.length, rfl, hw, hy, by omega, by omega, k⟩⟩
theorem w_is_so (ds : List PyData) (Φ : PyData → Prop) (h : sp_is_so ds Φ) : W__law_is_so (endD Φ) ⟨startE ["value", "due"] (ds.map .d), []⟩ := by
  obtain ⟨a, b, rfl, k⟩ := h
  simp [W__law_is_so]
  rw [show kitB "bool" "bool" = some true from by decide +kernel]
  simp
  refine ⟨⟨rfl, rfl⟩, ?_⟩
  have e : (PyData.bool a).eqv (PyData.bool b) = (a == b) := by cases a <;> cases b <;> rfl
  rw [e]
  exact k
theorem lay_signs : ∀ cs : List Nat, (∀ c, c ∈ cs → c < 1114112) → PyData.canLayAll0 (cs.map fun c => PyData.str (sg c)) = true
  | [], _ => rfl
  | c :: cs, h => by
    rw [List.map_cons]
    show (PyData.canLay0 (.str (sg c)) && PyData.canLayAll0 _) = true
    rw [lay_signs cs fun d hd => h d (List.mem_cons_of_mem _ hd), Bool.and_true]
    have := h c List.mem_cons_self
    simp [PyData.canLay0, PyData.strOk, sg]
    exact this
theorem depth_strs : ∀ zs : List Str, PyData.depthAll (zs.map PyData.str) ≤ 1
  | [] => by simp [PyData.depthAll]
  | z :: zs => by
    have := depth_strs zs
    rw [List.map_cons]
    simp only [PyData.depthAll, PyData.depth]
    omega
theorem shaped_signs (cs : List Nat) (h : ∀ c, c ∈ cs → c < 1114112) : SeqAt.shaped (.list (cs.map fun c => PyData.str (sg c))) = true := by
  unfold SeqAt.shaped
  have h1 : PyData.canLay0 (.list (cs.map fun c => PyData.str (sg c))) = true := lay_signs cs h
  rw [h1, Bool.true_and, decide_eq_true_eq]
  have h2 := depth_strs (cs.map sg)
  rw [List.map_map] at h2
  have h3 : (PyData.list (cs.map fun c => PyData.str (sg c))).depth ≤ 1 + PyData.depthAll (cs.map fun c => PyData.str (sg c)) := by
    simp only [PyData.depth]
    omega
  exact Nat.le_trans h3 (Nat.le_trans (Nat.add_le_add_left h2 1) (by decide))
theorem w_signs (ds : List PyData) (q : List Int) (Φ : PyData → List Int → Prop) (h : sp_signs ds q Φ) : W__law_signs (endP Φ) ⟨startE ["pool", "letters", "held", "sign"] (.pl :: ds.map .d), q⟩ := by
  obtain ⟨z, rfl, h1, h2, h3, hq, k⟩ := h
  simp [W__law_signs]
  refine lc_inv (signsOf z) (fun pre acc q' => PoolOk q' ∧ ∃ cs : List Nat, acc = cs.map (fun c => PyData.str (sg c)) ∧ cs.length ≤ pre.length ∧ ∀ c, c ∈ cs → c ∈ z.cps.toList) ⟨hq, [], rfl, by simp, by simp⟩ (fun pre x post acc q' e hI Ψ kΨ => ?_) (fun acc q' hI => ?_)
  · obtain ⟨hq', cs, rfl, hl, hc⟩ := hI
    have hx : x ∈ signsOf z := by rw [e]; simp
    have hlen : (signsOf z).length ≤ 6 := by rw [signsOf_len]; exact h2
    rw [e] at hlen
    simp at hlen
    obtain ⟨c, hcm, rfl⟩ := List.mem_map.mp hx
    simp
    refine pick_go (by omega) hq' fun n q1 hq1 hn1 hn2 => ?_
    simp
    refine ite2 (fun _ => ⟨sz_lt (by omega), kΨ _ _ ⟨hq1, cs ++ [c], by simp [sg], by simp; omega, fun d hd => ?_⟩⟩) (fun _ => kΨ _ _ ⟨hq1, cs, rfl, by simp; omega, hc⟩)
    rcases List.mem_append.mp hd with hd | hd
    · exact hc d hd
    · rw [List.mem_singleton.mp hd]
      exact hcm
  · obtain ⟨hq', cs, rfl, hl, hc⟩ := hI
    rw [signsOf_len] at hl
    have hl6 : cs.length ≤ 6 := Nat.le_trans hl h2
    refine ⟨⟨shaped_signs cs fun c h => Nat.lt_of_le_of_lt (h3 c (hc c h)).2 (by decide), rfl⟩, ?_⟩
    cases cs with
    | nil =>
      rw [if_pos (by simp [PyData.eqv, PyData.eqvAll])]
      refine ⟨sz_le (by omega), pick_go (by omega) hq' fun n q1 hq1 hn1 hn2 => ?_⟩
      have hnz : n < z.length := by omega
      simp [str_at hnz]
      have ej := join_signs [z.cps[n]'hnz]
      refine ⟨sz_le (by omega), sz_le (by omega), [sg (z.cps[n]'hnz)], rfl, by rw [empty_len]; exact (show (1 : Nat) ≤ 16777216 by decide), k _ _ hq1 ?_ ?_ ?_⟩
      · show 1 ≤ (Txt.join (Str.ofString "") ([z.cps[n]'hnz].map sg)).cps.size
        rw [← Array.length_toList, ej]
        exact Nat.le_refl 1
      · show (Txt.join (Str.ofString "") ([z.cps[n]'hnz].map sg)).cps.size ≤ 6
        rw [← Array.length_toList, ej]
        exact (show 1 ≤ 6 by decide)
      · show ∀ c ∈ (Txt.join (Str.ofString "") ([z.cps[n]'hnz].map sg)).cps.toList, _
        rw [ej]
        intro c h
        rw [List.mem_singleton.mp h]
        exact h3 _ (str_mem _)
    | cons c cs =>
      rw [if_neg (by simp [PyData.eqv, PyData.eqvAll])]
      have ej := join_signs (c :: cs)
      refine ⟨(c :: cs).map sg, by rw [List.map_map]; rfl, ?_, k _ _ hq' ?_ ?_ ?_⟩
      · rw [empty_len, Nat.mul_zero, Nat.add_zero, List.map_map]
        refine Nat.le_trans (sum_le (m := 1) fun a h => ?_) (by rw [List.length_map]; omega)
        obtain ⟨b, _, rfl⟩ := List.mem_map.mp h
        exact Nat.le_refl _
      · show 1 ≤ (Txt.join (Str.ofString "") ((c :: cs).map sg)).cps.size
        rw [← Array.length_toList, ej, List.length_cons]
        omega
      · show (Txt.join (Str.ofString "") ((c :: cs).map sg)).cps.size ≤ 6
        rw [← Array.length_toList, ej]
        exact hl6
      · show ∀ c ∈ (Txt.join (Str.ofString "") _).cps.toList, _
        rw [ej]
        intro d h
        exact h3 d (hc d h)
theorem w_leaf (ds : List PyData) (q : List Int) (Φ : PyData → List Int → Prop) (h : sp_leaf ds q Φ) : W__law_leaf (endP Φ) ⟨startE ["pool", "letters", "kind"] (.pl :: ds.map .d), q⟩ := by
  obtain ⟨z, rfl, h1, h2, h3, hq, k⟩ := h
  have s1 : 1 ≤ sizeLine := sz_le (by omega)
  have s2 : 2 ≤ sizeLine := sz_le (by omega)
  have sz : z.length ≤ sizeLine := sz_le (by omega)
  simp [W__law_leaf]
  refine pick_go (by omega) hq fun n q1 hq1 hn1 hn2 => ?_
  simp
  refine ite2 (fun _ => ⟨s1, k _ _ _ hq1 .no⟩) fun _ => ite2 (fun _ => ⟨s1, k _ _ _ hq1 .em⟩) fun _ => ite2 (fun _ => ⟨sz, ?_⟩) fun _ => ?_
  · refine pick_go (by omega) hq1 fun m q2 hq2 hm1 hm2 => ?_
    simp [str_at (show m < z.length by omega)]
    have hm : m < z.length := by omega
    refine ⟨sz, s2, k _ _ _ hq2 (.one (z := sg (z.cps[m]'hm)) (Nat.le_refl 1) (show 1 ≤ 6 by decide) fun c hc => ?_)⟩
    have : c = z.cps[m]'hm := by simpa [sg] using hc
    rw [this]
    exact h3 _ (str_mem hm)
  · exact ⟨z, rfl, h1, h2, h3, hq1, fun y q2 hq2 a1 a2 a3 => by simp; exact ⟨s2, k _ _ _ hq2 (.one a1 a2 a3)⟩⟩
theorem cutS_to {w : Str} {v : Int} (h : 0 ≤ v) : (cutS w none (some v)).length = min v.toNat w.length := by
  unfold cutS HT.sIx
  simp only
  rw [if_neg (by omega)]
  show (List.take _ (List.drop 0 w.cps.toList)).toArray.size = _
  rw [List.size_toArray, List.drop_zero, List.length_take, Array.length_toList]
  show min (min v.toNat w.length - 0) w.length = _
  omega
theorem cutS_from {w : Str} {v : Int} (h : 0 ≤ v) : (cutS w (some v) none).length = w.length - min v.toNat w.length := by
  unfold cutS HT.sIx
  simp only
  rw [if_neg (by omega)]
  show (List.take _ (List.drop _ w.cps.toList)).toArray.size = _
  rw [List.size_toArray, List.length_take, List.length_drop, Array.length_toList]
  show min (w.length - min v.toNat w.length) (w.length - min v.toNat w.length) = _
  omega
theorem w_near (ds : List PyData) (q : List Int) (Φ : PyData → List Int → Prop) (h : sp_near ds q Φ) : W__law_near (endP Φ) ⟨startE ["pool", "letters", "word", "at", "sign"] (.pl :: ds.map .d), q⟩ := by
  obtain ⟨z, w, rfl, h1, h2, h3, hq, k⟩ := h
  have szz : z.length ≤ sizeLine := sz_le (by omega)
  have szw : w.length ≤ sizeLine := sz_le (by omega)
  simp [W__law_near]
  refine pick_go (by omega) hq fun n q1 hq1 hn1 hn2 => ?_
  simp
  refine ⟨szw, szz, pick_go (by omega) hq1 fun m q2 hq2 hm1 hm2 => ?_⟩
  have hmz : m < z.length := by omega
  have hv : (0 : Int) ≤ (n : Int) % ((w.length : Int) + 1) := Int.emod_nonneg _ (by omega)
  have l1 := cutS_to (w := w) hv
  have l2 := cutS_from (w := w) hv
  have l3 := cutS_from (w := w) (v := (n : Int) % ((w.length : Int) + 1) + 1) (by omega)
  have l4 : (⟨#[z.cps[m]'hmz]⟩ : Str).length = 1 := rfl
  simp [str_at hmz, Str.length_append, l4]
  refine ⟨szz, szw, sz_le (by omega), szw, sz_le (by omega), szw, sz_le (by omega), szw, sz_le (by omega), szw, sz_le (by omega), sz_le (by omega), pick_go (by omega) hq2 fun i q3 hq3 hi1 hi2 => ?_⟩
  have hi3 : i = 0 ∨ i = 1 ∨ i = 2 := by omega
  rcases hi3 with rfl | rfl | rfl
  · simp
    exact k _ _ hq3 (by rw [Str.length_append, Str.length_append]; omega)
  · simp
    exact k _ _ hq3 (by rw [Str.length_append]; omega)
  · simp
    exact k _ _ hq3 (by rw [Str.length_append, Str.length_append]; omega)
theorem abc_cps : (Str.ofString "abcdefghijklmnopqrstuvwxyz").cps.toList = (List.range 26).map fun t => 97 + t := by decide +kernel
theorem abc_at {t : Nat} (h : t < 26) : atI (Str.ofString "abcdefghijklmnopqrstuvwxyz").cps.toList (t : Int) = some (97 + t) := by
  rw [abc_cps, DL.atI_nat (by rw [List.length_map, List.length_range]; exact h), List.getElem?_map, List.getElem?_range h]
  rfl
theorem odd_at {i : Nat} (h : i < 6) : atI [PyData.int 1, .int 3, .int 5, .int 7, .int 9, .int 11] (i : Int) = some (.int ((2 * i + 1 : Nat) : Int)) := by
  rw [DL.atI_nat (by simpa using h)]
  have h6 : i = 0 ∨ i = 1 ∨ i = 2 ∨ i = 3 ∨ i = 4 ∨ i = 5 := by omega
  rcases h6 with rfl | rfl | rfl | rfl | rfl | rfl <;> rfl
theorem w_letters (ds : List PyData) (q : List Int) (Φ : PyData → List Int → Prop) (h : sp_letters ds q Φ) : W__law_letters (endP Φ) ⟨startE ["pool", "most", "many", "signs", "at", "step", "k"] (.pl :: ds.map .d), q⟩ := by
  obtain ⟨m, rfl, h1, h2, hq, k⟩ := h
  simp [W__law_letters]
  refine pick_go (by omega) hq fun n q1 hq1 hn1 hn2 => ?_
  simp
  refine pick_go (by omega) hq1 fun a q2 hq2 ha1 ha2 => ?_
  refine ⟨sz_le (by omega), pick_go (by omega) hq2 fun i q3 hq3 hi1 hi2 => ?_⟩
  rw [show ((1 : Int) + (n : Int)) = ((n + 1 : Nat) : Int) by omega]
  simp only [odd_at (show i < 6 by omega)]
  refine ⟨sz_le (by omega), ⟨by omega, by omega⟩, ?_⟩
  rw [Int.toNat_natCast]
  refine lc_rng (fun j => .str (sg (97 + (a + (2 * i + 1) * j) % 26))) (by omega) (fun j hj Θ kΘ => ?_) ?_
  · have e : ((a : Int) + ((2 * i + 1 : Nat) : Int) * ((0 : Int) + (j : Int))) % 26 = (((a + (2 * i + 1) * j) % 26 : Nat) : Int) := by
      rw [Int.zero_add, ← Int.natCast_mul, ← Int.natCast_add]
      rfl
    simp only [gNm, S.put, wipeE, wBin, wIx, wVar, wII, wC, wAdd, wCB, wN1, gInt, wCons, wNil, optP, List.getElem?_cons_zero, List.getElem?_cons_succ, List.set_cons_zero, List.set_cons_succ, e, abc_at (Nat.mod_lt (a + (2 * i + 1) * j) (show 0 < 26 by omega))]
    exact ⟨trivial, .inr ⟨by omega, by omega⟩, by decide, sz_le (by decide +kernel), kΘ _ _ rfl rfl⟩
  · let cs := (List.range (n + 1)).map fun j => 97 + (a + (2 * i + 1) * j) % 26
    have ej := join_signs cs
    have hl : cs.length = n + 1 := by rw [List.length_map, List.length_range]
    refine ⟨cs.map sg, by simp [cs], ?_, k _ _ hq3 ⟨?_, ?_, ?_⟩⟩
    · rw [empty_len, Nat.mul_zero, Nat.add_zero, List.map_map]
      refine Nat.le_trans (sum_le (m := 1) fun a h => ?_) (by rw [List.length_map]; omega)
      obtain ⟨b, _, rfl⟩ := List.mem_map.mp h
      exact Nat.le_refl _
    · show 1 ≤ (Txt.join (Str.ofString "") (cs.map sg)).cps.size
      rw [← Array.length_toList, ej, hl]
      omega
    · show ((Txt.join (Str.ofString "") (cs.map sg)).cps.size : Int) ≤ m
      rw [← Array.length_toList, ej, hl]
      omega
    · rw [ej]
      intro c hc
      obtain ⟨j, _, rfl⟩ := List.mem_map.mp hc
      have := Nat.mod_lt (a + (2 * i + 1) * j) (show 0 < 26 by omega)
      omega
theorem w_words (ds : List PyData) (Φ : PyData → Prop) (h : sp_words ds Φ) : W__law_words (endD Φ) ⟨startE ["letters", "length", "found", "layer", "step", "behind", "word", "sign"] (ds.map .d), []⟩ := by
  obtain ⟨z, k, rfl, h1, h2, h3, kΦ⟩ := h
  simp [W__law_words]
  have hM : z.length ≤ max z.length 1 := by omega
  have hM1 : 1 ≤ max z.length 1 := by omega
  have hbig : ∀ j, j ≤ k → (max z.length 1) ^ j ≤ 36 := fun j hj => by
    by_cases hz : z.length ≤ 1
    · rw [show max z.length 1 = 1 by omega, Nat.one_pow]
      omega
    · refine Nat.le_trans (Nat.pow_le_pow_left (show max z.length 1 ≤ 6 by omega) j) ?_
      exact Nat.le_trans (Nat.pow_le_pow_right (by omega) (show j ≤ 2 by omega)) (by decide)
  refine ⟨sz_le (by omega), ⟨by omega, by omega⟩, ?_⟩
  refine loop_rng (fun j s => ∃ (fs ls : List PyData) (a4 a5 a6 : Sl), s = ⟨[.d (.str z), .d (.int (k : Nat)), .d (.list fs), .d (.list ls), a4, a5, a6, .un], []⟩ ∧ fs.length ≤ 36 * (j + 1) ∧ ls.length ≤ (max z.length 1) ^ j ∧ (∀ x, x ∈ fs → ∃ w : Str, x = .str w ∧ w.length ≤ j) ∧ ∀ x, x ∈ ls → ∃ w : Str, x = .str w ∧ w.length ≤ j)
    ⟨_, _, _, _, _, rfl, by simp, by simp, ?_, ?_⟩ ?_ ?_
  · intro x hx
    rw [List.mem_singleton.mp hx]
    exact ⟨_, rfl, by rw [empty_len]; exact Nat.le_refl 0⟩
  · intro x hx
    rw [List.mem_singleton.mp hx]
    exact ⟨_, rfl, by rw [empty_len]; exact Nat.le_refl 0⟩
  · rintro j s hj ⟨fs, ls, a4, a5, a6, rfl, hf1, hl1, hf2, hl2⟩ Ψ k1 k2 k3 k4 k5
    clear k2 k3 k4 k5
    simp
    refine loop_ix ls (fun i s => ∃ (bs : List PyData) (a6 : Sl), s = ⟨[.d (.str z), .d (.int (k : Nat)), .d (.list fs), .d (.list ls), .d (.int (j : Nat)), .d (.list bs), a6, .un], []⟩ ∧ bs.length ≤ i * max z.length 1 ∧ ∀ x, x ∈ bs → ∃ w : Str, x = .str w ∧ w.length ≤ j + 1) ⟨[], _, rfl, by simp, by simp⟩ ?_ ?_
    · rintro i x s hx ⟨bs, a6, rfl, hb1, hb2⟩ Ψ' k1' k2 k3 k4 k5
      clear k2 k3 k4 k5
      obtain ⟨w, rfl, hw⟩ := hl2 x (List.mem_of_getElem? hx)
      have hi : i < ls.length := (List.getElem?_eq_some_iff.mp hx).1
      have hl36 := hbig j (by omega)
      have hb3 : bs.length ≤ 300 := Nat.le_trans hb1 (Nat.le_trans (Nat.mul_le_mul (show i ≤ 36 by omega) (show max z.length 1 ≤ 6 by omega)) (by decide))
      simp
      refine lc_mapl z.cps.toList (fun c => PyData.str ⟨#[c]⟩) (fun c => PyData.str (w ++ ⟨#[c]⟩)) (by rw [Array.length_toList]; show z.length ≤ _; omega) (fun c hc Θ kΘ => ?_) ?_
      · simp
        refine ⟨sz_le (by show w.length + 1 ≤ _; omega), kΘ _ _ rfl rfl⟩
      · have hzl : (z.cps.toList.map fun c => PyData.str (w ++ ⟨#[c]⟩)).length = z.length := by
          rw [List.length_map, Array.length_toList]
          rfl
        simp
        refine ⟨sz_le (by show bs.length + z.length ≤ _; omega), k1' _ ⟨_, _, rfl, ?_, fun y hy => ?_⟩⟩
        · rw [List.length_append, List.length_map, Array.length_toList, Nat.succ_mul]
          exact Nat.add_le_add hb1 hM
        · rcases List.mem_append.mp hy with hy | hy
          · exact hb2 y hy
          · obtain ⟨c, hc, rfl⟩ := List.mem_map.mp hy
            exact ⟨_, rfl, by rw [Str.length_append]; show w.length + 1 ≤ _; omega⟩
    · rintro s ⟨bs, a6, rfl, hb1, hb2⟩
      have hb3 : bs.length ≤ (max z.length 1) ^ (j + 1) := Nat.le_trans hb1 (by rw [Nat.pow_succ]; exact Nat.mul_le_mul_right _ hl1)
      have hb4 := hbig (j + 1) (by omega)
      simp
      refine ⟨sz_le (by omega), k1 _ ⟨_, _, _, _, _, rfl, by rw [List.length_append]; omega, hb3, fun x hx => ?_, hb2⟩⟩
      rcases List.mem_append.mp hx with hx | hx
      · obtain ⟨w, rfl, hw⟩ := hf2 x hx
        exact ⟨w, rfl, by omega⟩
      · exact hb2 x hx
  · rintro s ⟨fs, ls, a4, a5, a6, rfl, hf1, hl1, hf2, hl2⟩
    simp
    exact kΦ fs (by omega) fun x hx => by
      obtain ⟨w, rfl, hw⟩ := hf2 x hx
      exact ⟨w, rfl, by omega⟩
theorem rule_go {d : Nat} {z : Str} {r : Nat} {q : List Int} {Φ : PyData → List Int → Prop} (hd : d ≤ 4) (h1 : 1 ≤ r) (h2 : r ≤ 100) (z1 : 1 ≤ z.length) (z2 : z.length ≤ 6) (z3 : Az z) (hq : PoolOk q) (k : ∀ x D q', PoolOk q' → Rul d x D → Φ x q') : sp_ruleU [.str z, .int (r : Nat), .int (d : Nat), .bool true] q Φ :=
  ⟨d, hd, z, r, rfl, h1, h2, z1, z2, z3, hq, k⟩
theorem w_any_rule (ds : List PyData) (q : List Int) (Φ : PyData → List Int → Prop) (h : sp_any_rule ds q Φ) : W__law_any_rule (endP Φ) ⟨startE ["pool", "letters", "wide", "size"] (.pl :: ds.map .d), q⟩ := by
  obtain ⟨z, rfl, h1, h2, h3, hq, k⟩ := h
  simp [W__law_any_rule]
  refine pick_go (by omega) hq fun n q1 hq1 hn1 hn2 => ?_
  have hn3 : n = 0 ∨ n = 1 ∨ n = 2 := by omega
  have s3 : 3 ≤ sizeLine := sz_le (by omega)
  have go : ∀ (r m : Nat), 1 ≤ r → r ≤ 100 → m ≤ 4 → sp_pick [.int (m : Nat)] q1 (fun x q' => wAdd (.int 1) x fun y => sp_ruleU [.str z, .int (r : Nat), y, .bool true] q' Φ) ∨ m = 0 := fun r m hr1 hr2 hm => by
    by_cases hm0 : m = 0
    · exact .inr hm0
    · refine .inl (pick_go (by omega) hq1 fun i q2 hq2 hi1 hi2 => ?_)
      have e : (1 : Int) + (i : Int) = ((i + 1 : Nat) : Int) := by omega
      show sp_ruleU [.str z, .int (r : Nat), .int ((1 : Int) + (i : Int)), .bool true] q2 Φ
      rw [e]
      exact rule_go (d := i + 1) (by omega) hr1 hr2 h1 h2 h3 hq2 fun x D q' hq' hx => k (i + 1) x D q' hq' (by omega) hx
  rcases hn3 with rfl | rfl | rfl
  · simp
    exact ⟨s3, (go 4 4 (by omega) (by omega) (by omega)).resolve_right (by omega)⟩
  · simp
    exact ⟨s3, (go 8 4 (by omega) (by omega) (by omega)).resolve_right (by omega)⟩
  · simp
    exact ⟨s3, (go 12 3 (by omega) (by omega) (by omega)).resolve_right (by omega)⟩
end L17
namespace L17
open PySem PySem.Spec PyProof.Rows L2 DL
theorem lc_rul {d m : Nat} {vs : List Nat} {e0 : List Sl} {wg : DG} {we : DE} {Φ : List PyData → List Int → Prop} {q : List Int} (hq : PoolOk q) (hm : m ≤ 100)
    (hs : ∀ i q, i < m → PoolOk q → ∀ Θ : S → PyData → S → Prop, (∀ s1 y D s3, s3.e = s1.e → PoolOk s3.q → Rul d y D → Θ s1 y s3) → wg (.int ((0 : Int) + (i : Int))) ⟨wipeE e0 vs, q⟩ fun s1 => wipeE s1.e vs = wipeE e0 vs ∧ we s1 (Θ s1))
    (hd : ∀ ys Ds q, PoolOk q → ys.length = m → All2 (Rul d) ys Ds → Φ ys q) : lcW vs e0 wg wYes we Φ (rangeD 0 m) [] q := by
  refine lc_inv (rangeD 0 m) (fun pre acc q' => PoolOk q' ∧ acc.length = pre.length ∧ ∃ Ds, All2 (Rul d) acc Ds) ⟨hq, rfl, [], .nil⟩ (fun pre x post acc q' e h Ψ k => ?_) (fun acc q' h => ?_)
  · obtain ⟨hq', hl, Ds, ha⟩ := h
    have hx : (rangeD 0 m)[pre.length]? = some x := by rw [e]; simp
    obtain ⟨hi, rfl⟩ := rangeD_get hx
    have hlen : acc.length < sizeLine := sz_lt (by omega)
    have r := hs pre.length q' hi hq' (fun s1 y s3 => s3.e = s1.e ∧ acc.length < sizeLine ∧ Ψ (acc ++ [y]) s3.q) (fun s1 y D s3 h1 h2 h3 => ⟨h1, hlen, k _ _ ⟨h2, by simp [hl], Ds ++ [D], all2_app ha (.cons h3 .nil)⟩⟩)
    simp only [wYes, true_and, if_true]
    exact r
  · obtain ⟨hq', hl, Ds, ha⟩ := h
    exact hd acc Ds q' hq' (by rw [hl, rangeD_len]) ha
theorem tab_times {i : Nat} (h : i < 11) : ∃ (lo : Nat) (hi : Option Nat), atI [.tuple [.int 0, .none], .tuple [.int 0, .none], .tuple [.int 1, .none], .tuple [.int 0, .int 1], .tuple [.int 0, .int 2], .tuple [.int 2, .int 2], .tuple [.int 1, .int 3], .tuple [.int 2, .none], .tuple [.int 3, .int 5], .tuple [.int 0, .int 0], .tuple [.int 8, .int 8]] (i : Int) = some (PyData.tuple [.int (lo : Nat), hiD hi]) ∧
    lo ≤ 8 ∧ (∀ h, hi = some h → lo ≤ h ∧ h ≤ 8) ∧ (hi = none → lo ≤ 3) := by
  have mk : ∀ (lo : Nat) (hi : Option Nat) (o : Option PyData), o = some (PyData.tuple [.int (lo : Nat), hiD hi]) → lo ≤ 8 → (∀ h, hi = some h → lo ≤ h ∧ h ≤ 8) → (hi = none → lo ≤ 3) → ∃ (lo : Nat) (hi : Option Nat), o = some (PyData.tuple [.int (lo : Nat), hiD hi]) ∧ lo ≤ 8 ∧ (∀ h, hi = some h → lo ≤ h ∧ h ≤ 8) ∧ (hi = none → lo ≤ 3) := fun lo hi o a b c e => ⟨lo, hi, a, b, c, e⟩
  have sm : ∀ (lo h' : Nat), lo ≤ h' → h' ≤ 8 → ∀ h, some h' = some h → lo ≤ h ∧ h ≤ 8 := fun lo h' a b h e => by cases e; exact ⟨a, b⟩
  have hc : i = 0 ∨ i = 1 ∨ i = 2 ∨ i = 3 ∨ i = 4 ∨ i = 5 ∨ i = 6 ∨ i = 7 ∨ i = 8 ∨ i = 9 ∨ i = 10 := by omega
  rcases hc with rfl | rfl | rfl | rfl | rfl | rfl | rfl | rfl | rfl | rfl | rfl
  · exact mk 0 none _ rfl (by omega) (fun h e => by cases e) fun _ => by omega
  · exact mk 0 none _ rfl (by omega) (fun h e => by cases e) fun _ => by omega
  · exact mk 1 none _ rfl (by omega) (fun h e => by cases e) fun _ => by omega
  · exact mk 0 (some 1) _ rfl (by omega) (sm 0 1 (by omega) (by omega)) fun e => by cases e
  · exact mk 0 (some 2) _ rfl (by omega) (sm 0 2 (by omega) (by omega)) fun e => by cases e
  · exact mk 2 (some 2) _ rfl (by omega) (sm 2 2 (by omega) (by omega)) fun e => by cases e
  · exact mk 1 (some 3) _ rfl (by omega) (sm 1 3 (by omega) (by omega)) fun e => by cases e
  · exact mk 2 none _ rfl (by omega) (fun h e => by cases e) fun _ => by omega
  · exact mk 3 (some 5) _ rfl (by omega) (sm 3 5 (by omega) (by omega)) fun e => by cases e
  · exact mk 0 (some 0) _ rfl (by omega) (sm 0 0 (by omega) (by omega)) fun e => by cases e
  · exact mk 8 (some 8) _ rfl (by omega) (sm 8 8 (by omega) (by omega)) fun e => by cases e
theorem tab_many {i : Nat} (h : i < 8) : ∃ v : Nat, atI [PyData.int 2, .int 2, .int 2, .int 3, .int 3, .int 4, .int 1, .int 6] (i : Int) = some (.int (v : Nat)) ∧ 1 ≤ v ∧ v ≤ 6 := by
  have hc : i = 0 ∨ i = 1 ∨ i = 2 ∨ i = 3 ∨ i = 4 ∨ i = 5 ∨ i = 6 ∨ i = 7 := by omega
  rcases hc with rfl | rfl | rfl | rfl | rfl | rfl | rfl | rfl
  · exact ⟨2, rfl, by omega, by omega⟩
  · exact ⟨2, rfl, by omega, by omega⟩
  · exact ⟨2, rfl, by omega, by omega⟩
  · exact ⟨3, rfl, by omega, by omega⟩
  · exact ⟨3, rfl, by omega, by omega⟩
  · exact ⟨4, rfl, by omega, by omega⟩
  · exact ⟨1, rfl, by omega, by omega⟩
  · exact ⟨6, rfl, by omega, by omega⟩
theorem w_rule (d : Nat) (rc : DSpP) (hrc : ∀ e, d = e + 1 → rc = sp_rule e) (ds : List PyData) (q : List Int) (Φ : PyData → List Int → Prop) (h : sp_rule d ds q Φ) : W__law_rule rc (endP Φ) ⟨startE ["pool", "letters", "room", "depth", "wide", "kind", "many", "low", "high", "turns", "k"] (.pl :: ds.map .d), q⟩ := by
  obtain ⟨z, r, rfl, hr1, hr2, h1, h2, h3, hq, k⟩ := h
  have leaf : ∀ q1, PoolOk q1 → sp_leaf [.str z] q1 Φ := fun q1 hq1 => ⟨z, rfl, h1, h2, h3, hq1, fun x D q2 hq2 hx => k x D q2 hq2 (by cases d with
    | zero => exact hx
    | succ d => exact .leaf hx)⟩
  have s2 : 2 ≤ sizeLine := sz_le (by omega)
  have s3 : 3 ≤ sizeLine := sz_le (by omega)
  have s4 : 4 ≤ sizeLine := sz_le (by omega)
  simp [W__law_rule]
  refine pick_go (by omega) hq fun n q1 hq1 hn1 hn2 => ?_
  simp
  cases d with
  | zero =>
    simp
    exact leaf q1 hq1
  | succ d =>
    rw [hrc d rfl]
    clear hrc
    have go : ∀ (r' : Nat) q2 (Ψ : PyData → List Int → Prop), 1 ≤ r' → r' ≤ 100 → PoolOk q2 → (∀ x D q', PoolOk q' → Rul d x D → Ψ x q') → sp_rule d [.str z, .int (r' : Nat), .int (d : Nat), .bool true] q2 Ψ := fun r' q2 Ψ a1 a2 a3 a4 => ⟨z, r', rfl, a1, a2, h1, h2, h3, a3, a4⟩
    have tms : ∀ (lo : Nat) (hi : Option Nat) (t : Int) q2, PoolOk q2 → 1 ≤ t → t ≤ 9 → lo ≤ 8 → (∀ h, hi = some h → lo ≤ h ∧ h ≤ 8) →
        (if (r : Int) < t then 3 ≤ sizeLine ∧ CDiv (r : Int) 1 ∧ sp_rule d [.str z, .int (r : Nat), .int (d : Nat), .bool true] q2 fun x q' => 4 ≤ sizeLine ∧ Φ (.tuple [.str "times", x, .int 0, .none]) q'
        else CDiv (r : Int) t ∧ sp_rule d [.str z, .int ((r : Int) / t), .int (d : Nat), .bool true] q2 fun x q' => 4 ≤ sizeLine ∧ Φ (.tuple [.str "times", x, .int (lo : Nat), hiD hi]) q') := fun lo hi t q2 hq2 ht1 ht2 hlo hhi => by
      obtain ⟨turns, rfl⟩ := Int.eq_ofNat_of_zero_le (show 0 ≤ t by omega)
      by_cases hrt : (r : Int) < (turns : Int)
      · rw [if_pos hrt]
        exact ⟨s3, ⟨by omega, by omega⟩, go r q2 _ hr1 hr2 hq2 fun x D q' hq' hx => ⟨s4, k _ _ q' hq' (.ti (lo := 0) (hi := none) hx (by omega) (fun h e => by cases e))⟩⟩
      · rw [if_neg hrt, ← Int.natCast_ediv]
        refine ⟨⟨by omega, by omega⟩, go (r / turns) q2 _ ?_ ?_ hq2 fun x D q' hq' hx => ⟨s4, k _ _ q' hq' (.ti hx hlo hhi)⟩⟩
        · exact Nat.div_pos (by omega) (by omega)
        · exact Nat.le_trans (Nat.div_le_self _ _) hr2
    simp
    refine ite2 (fun _ => leaf q1 hq1) fun hk2 => ite2 (fun hk11 => ite2 (fun hr => ?_) fun hr => ?_) fun hk11 => ?_
    · refine pick_go (by omega) hq1 fun i q2 hq2 hi1 hi2 => ?_
      have e : (1 : Int) + (i : Int) = ((i + 1 : Nat) : Int) := by omega
      simp only [e]
      refine ⟨⟨by omega, by omega⟩, ?_⟩
      rw [Int.toNat_natCast]
      refine lc_rul (d := d) hq2 (by omega) (fun j q3 hj hq3 Θ kΘ => ?_) fun ys Ds q3 hq3 hl ha => ⟨s2, k _ _ _ hq3 (.bo (by omega) (by omega) ha)⟩
      have ed : (d : Int) + 1 - 1 = (d : Nat) := by omega
      simp only [gNm, S.put, wipeE, wCallP, wBin, wVar, wII, wI2, wC, wCons, wNil, List.getElem?_cons_zero, List.getElem?_cons_succ, List.set_cons_zero, List.set_cons_succ, ed, ← Int.natCast_ediv]
      refine ⟨trivial, ⟨by omega, by omega⟩, go (r / (i + 1)) q3 _ ?_ ?_ hq3 fun x D q' hq' hx => kΘ _ _ _ _ rfl hq' hx⟩
      · exact Nat.div_pos (by omega) (by omega)
      · exact Nat.le_trans (Nat.div_le_self _ _) hr2
    · rw [if_neg (by omega), if_pos (by omega)]
      refine ⟨s2, sz_le (by omega), pick_go (by omega) hq1 fun i q2 hq2 hi1 hi2 => ?_⟩
      obtain ⟨lo, hi, ev, e1, e2, e3⟩ := tab_times (show i < 11 by omega)
      simp only [ev]
      cases hi with
      | none =>
        simp only [hiD]
        exact ⟨by first | trivial | rfl, by first | trivial | rfl, tms lo none _ q2 hq2 (by omega) (by have := e3 rfl; omega) e1 e2⟩
      | some h =>
        have hh := e2 h rfl
        simp only [hiD]
        exact ⟨by first | trivial | rfl, by first | trivial | rfl, tms lo (some h) _ q2 hq2 (by split <;> omega) (by split <;> omega) e1 e2⟩
    · refine ite2 (fun hn11 => ?_) fun hn11 => ite2 (fun hn7 => ?_) fun hn7 => ?_
      · exact go r q1 _ hr1 hr2 hq1 fun x D q' hq' hx => ⟨s2, k _ _ q' hq' (.no hx)⟩
      · refine ⟨s2, sz_le (by omega), pick_go (by omega) hq1 fun i q2 hq2 hi1 hi2 => ?_⟩
        obtain ⟨lo, hi, ev, e1, e2, e3⟩ := tab_times (show i < 11 by omega)
        simp only [ev]
        cases hi with
        | none =>
          simp only [hiD]
          exact ⟨by first | trivial | rfl, by first | trivial | rfl, tms lo none _ q2 hq2 (by omega) (by have := e3 rfl; omega) e1 e2⟩
        | some h =>
          have hh := e2 h rfl
          simp only [hiD]
          exact ⟨by first | trivial | rfl, by first | trivial | rfl, tms lo (some h) _ q2 hq2 (by split <;> omega) (by split <;> omega) e1 e2⟩
      · refine ⟨sz_le (by omega), pick_go (by omega) hq1 fun i q2 hq2 hi1 hi2 => ?_⟩
        obtain ⟨v, ev, v1, v2⟩ := tab_many (show i < 8 by omega)
        simp only [ev]
        have em : (if (v : Int) < (r : Int) then (v : Int) else (r : Int)) = ((min v r : Nat) : Int) := by
          split <;> omega
        simp only [em]
        have hm1 : 1 ≤ min v r := by omega
        refine ⟨s2, ?_⟩
        have both : ∀ (s : Str), (s = "row" ∨ s = "either") → small62 ((min v r : Nat) : Int) ∧ lcW [10]
            [Sl.pl, Sl.d (.str z), Sl.d (.int (r : Nat)), Sl.d (.int ((d : Int) + 1)), Sl.d (.bool true), Sl.d (.int (n : Nat)), Sl.d (.int ((min v r : Nat) : Int)), Sl.un, Sl.un, Sl.un, Sl.un]
            (gNm 10) wYes (wCallP 0 (sp_rule d) (wCons (wVar 1) (wCons (wBin (wII CDiv fun i j => .int (i / j)) (wVar 2) (wVar 6)) (wCons (wBin (wI2 fun i j => .int (i - j)) (wVar 3) (wC (.int 1))) (wCons (wVar 4) wNil)))))
            (fun ys q => 2 ≤ sizeLine ∧ Φ (.tuple [.str s, .list ys]) q) (rangeD 0 ((min v r : Nat) : Int).toNat) [] q2 := fun s hs => by
          refine ⟨⟨by omega, by omega⟩, ?_⟩
          rw [Int.toNat_natCast]
          refine lc_rul (d := d) hq2 (by omega) (fun j q3 hj hq3 Θ kΘ => ?_) fun ys Ds q3 hq3 hl ha => ?_
          · have ed : (d : Int) + 1 - 1 = (d : Nat) := by omega
            simp only [gNm, S.put, wipeE, wCallP, wBin, wVar, wII, wI2, wC, wCons, wNil, List.getElem?_cons_zero, List.getElem?_cons_succ, List.set_cons_zero, List.set_cons_succ, ed, ← Int.natCast_ediv]
            refine ⟨trivial, ⟨by omega, by omega⟩, go (r / min v r) q3 _ ?_ ?_ hq3 fun x D q' hq' hx => kΘ _ _ _ _ rfl hq' hx⟩
            · exact Nat.div_pos (by omega) (by omega)
            · exact Nat.le_trans (Nat.div_le_self _ _) hr2
          · rcases hs with rfl | rfl
            · exact ⟨s2, k _ _ _ hq3 (.row (by omega) (by omega) ha)⟩
            · exact ⟨s2, k _ _ _ hq3 (.ei (by omega) (by omega) ha)⟩
        by_cases h5 : (5 : Int) < (n : Int)
        · simp only [if_pos h5, atI_cons1]
          exact both _ (.inr rfl)
        · simp only [if_neg h5, atI_cons0]
          exact both _ (.inl rfl)
end L17
namespace L17
open PySem PySem.Spec PyProof.Rows L2 DL
/-- a comprehension of words -/
theorem lc_words {m L : Nat} {vs : List Nat} {e0 : List Sl} {wg : DG} {we : DE} {Φ : List PyData → List Int → Prop} {q : List Int} (xs : List PyData) (hq : PoolOk q) (hm : xs.length ≤ m) (hm2 : m ≤ 10000)
    (hs : ∀ x q, x ∈ xs → PoolOk q → ∀ Θ : S → PyData → S → Prop, (∀ s1 (w : Str) s3, s3.e = s1.e → PoolOk s3.q → w.length ≤ L → Θ s1 (.str w) s3) → wg x ⟨wipeE e0 vs, q⟩ fun s1 => wipeE s1.e vs = wipeE e0 vs ∧ we s1 (Θ s1))
    (hd : ∀ (ws : List Str) q, PoolOk q → ws.length ≤ m → (∀ w, w ∈ ws → w.length ≤ L) → Φ (ws.map .str) q) : lcW vs e0 wg wYes we Φ xs [] q := by
  refine lc_inv xs (fun pre acc q' => PoolOk q' ∧ ∃ ws : List Str, acc = ws.map .str ∧ ws.length = pre.length ∧ ∀ w, w ∈ ws → w.length ≤ L) ⟨hq, [], rfl, rfl, by simp⟩ (fun pre x post acc q' e h Ψ k => ?_) (fun acc q' h => ?_)
  · obtain ⟨hq', ws, rfl, hl, hw⟩ := h
    have hlen : (ws.map PyData.str).length < sizeLine := sz_lt (by
      rw [e] at hm
      rw [List.length_map, hl]
      simp at hm
      omega)
    have r := hs x q' (by rw [e]; simp) hq' (fun s1 y s3 => s3.e = s1.e ∧ (ws.map PyData.str).length < sizeLine ∧ Ψ (ws.map PyData.str ++ [y]) s3.q) (fun s1 w s3 h1 h2 h3 => ⟨h1, hlen, k _ _ ⟨h2, ws ++ [w], by simp, by simp [hl], fun v hv => by
      rcases List.mem_append.mp hv with hv | hv
      · exact hw v hv
      · rw [List.mem_singleton.mp hv]
        exact h3⟩⟩)
    simp only [wYes, true_and, if_true]
    exact r
  · obtain ⟨hq', ws, rfl, hl, hw⟩ := h
    exact hd ws q' hq' (by omega) hw
theorem join_bound {ws : List Str} {m L : Nat} (h1 : ws.length ≤ m) (h2 : ∀ w, w ∈ ws → w.length ≤ L) : (ws.map fun x => x.length).sum ≤ m * L := by
  refine Nat.le_trans (sum_le (m := L) fun a h => ?_) (by rw [List.length_map]; exact Nat.mul_le_mul_right _ h1)
  obtain ⟨w, hw, rfl⟩ := List.mem_map.mp h
  exact h2 w hw
theorem lenD_le : ∀ {d : Nat}, d ≤ 4 → lenD d ≤ 60000 ∧ 4 ≤ lenD d := by
  intro d h
  have hc : d = 0 ∨ d = 1 ∨ d = 2 ∨ d = 3 ∨ d = 4 := by omega
  rcases hc with rfl | rfl | rfl | rfl | rfl <;> decide
theorem all2_left {α β : Type} {R : α → β → Prop} {xs : List α} {ys : List β} (h : All2 R xs ys) : ∀ x, x ∈ xs → ∃ y, R x y := by
  induction h with
  | nil => intro y hy; cases hy
  | cons a b ih =>
    intro y hy
    rcases List.mem_cons.mp hy with rfl | hy
    · exact ⟨_, a⟩
    · exact ih y hy
theorem w_down (d : Nat) (rc : DSpP) (hrc : ∀ e, d = e + 1 → rc = sp_down e) (ds : List PyData) (q : List Int) (Φ : PyData → List Int → Prop) (h : sp_down d ds q Φ) : W__law_down rc (endP Φ) ⟨startE ["pool", "letters", "rule", "kind", "most", "turns", "k", "one"] (.pl :: ds.map .d), q⟩ := by
  obtain ⟨z, x, D, rfl, hr, hd, h1, h2, hq, k⟩ := h
  have ⟨hL, hL4⟩ := lenD_le hd
  have szz : z.length ≤ sizeLine := sz_le (by omega)
  have s1 : 1 ≤ sizeLine := sz_le (by omega)
  have s2 : 2 ≤ sizeLine := sz_le (by omega)
  have leaf : ∀ x D, Leaf x D → W__law_down rc (endP Φ) ⟨startE ["pool", "letters", "rule", "kind", "most", "turns", "k", "one"] (.pl :: [PyData.str z, x].map .d), q⟩ := fun x D h => by
    cases h with
    | no =>
      simp [W__law_down, inF, eqF]
      exact ⟨s2, k _ _ hq (by rw [empty_len]; omega)⟩
    | em =>
      simp [W__law_down, inF, eqF]
      exact ⟨s2, k _ _ hq (by rw [empty_len]; omega)⟩
    | @one y a1 a2 a3 =>
      simp [W__law_down, inF, eqF]
      refine ⟨sz_le (by omega), pick_go (by omega) hq fun i q2 hq2 hi1 hi2 => ?_⟩
      simp [str_at (show i < y.length by omega)]
      exact ⟨sz_le (by omega), k _ _ hq2 (show 1 ≤ lenD d by omega)⟩
  cases d with
  | zero => exact leaf x D hr
  | succ d =>
    have g11 : lenD (d + 1) = 11 * lenD d := rfl
    have hd0 := lenD_le (show d ≤ 4 by omega)
    have rcd := hrc d rfl
    have go : ∀ (y : PyData) (E : Den) q2 (Ψ : PyData → List Int → Prop), Rul d y E → PoolOk q2 → (∀ (w : Str) q', PoolOk q' → w.length ≤ lenD d → Ψ (.str w) q') → sp_down d [.str z, y] q2 Ψ := fun y E q2 Ψ hy hq2 kk => ⟨z, y, E, rfl, hy, by omega, h1, h2, hq2, kk⟩
    cases hr with
    | leaf h => exact leaf x D h
    | @row xs Ds a1 a2 a3 =>
      rw [rcd]
      simp [W__law_down, inF, eqF]
      refine lc_words (m := 6) (L := lenD d) xs hq a2 (by omega) (fun x q2 hx hq2 Θ kΘ => ?_) (fun ws q2 hq2 b1 b2 => ⟨ws, rfl, ?_, k _ _ hq2 ?_⟩)
      · have := all2_left a3 x hx
        obtain ⟨E, hE⟩ := this
        simp
        exact go x E q2 _ hE hq2 fun w q' hq' hw => kΘ _ _ _ rfl hq' hw
      · have := join_bound b1 b2
        rw [empty_len]
        omega
      · rw [join_len]
        have := join_bound b1 b2
        omega
    | @ei xs Ds a1 a2 a3 =>
      rw [rcd]
      simp [W__law_down, inF, eqF]
      refine ⟨s2, pick_go (by omega) hq fun i q2 hq2 hi1 hi2 => ?_⟩
      have hi : i < xs.length := by omega
      obtain ⟨E, hE⟩ := all2_left a3 _ (List.getElem_mem hi)
      simp only [DL.atI_nat hi, List.getElem?_eq_getElem hi]
      exact go _ E q2 _ hE hq2 fun w q' hq' hw => k _ _ hq' (by omega)
    | @bo xs Ds a1 a2 a3 =>
      rw [rcd]
      simp [W__law_down, inF, eqF]
      refine ⟨s2, pick_go (by omega) hq fun i q2 hq2 hi1 hi2 => ?_⟩
      have hi : i < xs.length := by omega
      obtain ⟨E, hE⟩ := all2_left a3 _ (List.getElem_mem hi)
      simp only [DL.atI_nat hi, List.getElem?_eq_getElem hi]
      exact go _ E q2 _ hE hq2 fun w q' hq' hw => k _ _ hq' (by omega)
    | @no y E hy =>
      rw [rcd]
      simp [W__law_down, inF, eqF]
      refine ⟨s2, pick_go (by omega) hq fun n q2 hq2 hn1 hn2 => ⟨⟨by omega, by omega⟩, ?_⟩⟩
      rw [Int.toNat_natCast]
      refine lc_words (m := 4) (L := 1) _ hq2 (by rw [rangeD_len]; omega) (by omega) (fun x q3 hx hq3 Θ kΘ => ?_) (fun ws q3 hq3 c1 c2 => ⟨ws, rfl, ?_, k _ _ hq3 ?_⟩)
      · simp
        refine ⟨szz, pick_go (by omega) hq3 fun i q4 hq4 hi1 hi2 => ?_⟩
        simp [str_at (show i < z.length by omega)]
        exact ⟨szz, kΘ _ _ _ rfl hq4 (Nat.le_refl 1)⟩
      · have := join_bound c1 c2
        rw [empty_len]
        omega
      · rw [join_len]
        have := join_bound c1 c2
        omega
    | @ti y E lo hi hy b1 b2 =>
      rw [rcd]
      have fin : ∀ (hiD' : PyData) (a4 a5 : Sl) (m : Nat) q2, m ≤ 11 → PoolOk q2 → lcW [6] [Sl.pl, .d (.str z), .d (.tuple [.str (Str.ofString "times"), y, .int (lo : Nat), hiD']), .d (.str (Str.ofString "times")), a4, a5, .un, .un]
          (gNm 6) wYes (wCallP 0 (sp_down d) (wCons (wVar 1) (wCons (wBin wIx (wVar 2) (wC (.int 1))) wNil)))
          (fun ys q => ∃ ys_1, ys = List.map PyData.str ys_1 ∧ (List.map (fun x => x.length) ys_1).sum + ys_1.length * (Str.ofString "").length ≤ 16777216 ∧ Φ (.str (Txt.join (Str.ofString "") ys_1)) q) (rangeD 0 m) [] q2 := fun hiD' a4 a5 m q2 hm hq2 => by
        refine lc_words (m := 11) (L := lenD d) _ hq2 (by rw [rangeD_len]; exact hm) (by omega) (fun x q3 hx hq3 Θ kΘ => ?_) (fun ws q3 hq3 c1 c2 => ⟨ws, rfl, ?_, k _ _ hq3 ?_⟩)
        · simp
          exact go y E q3 _ hy hq3 fun w q' hq' hw => kΘ _ _ _ rfl hq' hw
        · have := join_bound c1 c2
          rw [empty_len]
          omega
        · rw [join_len]
          have := join_bound c1 c2
          omega
      cases hi with
      | none =>
        simp [W__law_down, inF, eqF, hiD]
        refine ⟨s2, pick_go (by omega) hq fun n q2 hq2 hn1 hn2 => ⟨⟨by omega, by omega⟩, ?_⟩⟩
        rw [show ((lo : Int) + (n : Int)).toNat = lo + n by omega]
        exact fin _ _ _ _ _ (by omega) hq2
      | some h =>
        have hh := b2 h rfl
        simp [W__law_down, inF, eqF, hiD]
        refine ⟨s2, pick_go (by omega) hq fun n q2 hq2 hn1 hn2 => ⟨⟨by omega, by omega⟩, ?_⟩⟩
        rw [show ((lo : Int) + (n : Int)).toNat = lo + n by omega]
        exact fin _ _ _ _ _ (by omega) hq2
end L17
namespace L17
open PySem PySem.Spec PyProof.Rows L2 DL
/-- data that repr can show -/
structure Shw (s p : Nat) (x : PyData) : Prop where
  ok : x.showable = true
  nd : x.hasDict = false
  dp : x.depth ≤ p
  le : x.shown.length ≤ s
structure ShwA (s p : Nat) (xs : List PyData) : Prop where
  ok : PyData.showableAll xs = true
  nd : PyData.hasDictAll xs = false
  dp : PyData.depthAll xs ≤ p
  le : piled (PyData.shownAll xs) ≤ s
theorem shwA_nil (p : Nat) : ShwA 0 p [] := ⟨rfl, rfl, Nat.zero_le _, Nat.le_refl _⟩
theorem shwA_cons {s t p : Nat} {x : PyData} {xs : List PyData} (h : Shw s p x) (g : ShwA t p xs) : ShwA (s + 2 + t) p (x :: xs) where
  ok := by
    show (x.showable && PyData.showableAll xs) = true
    rw [h.ok, g.ok]
    rfl
  nd := by
    show (x.hasDict || PyData.hasDictAll xs) = false
    rw [h.nd, g.nd]
    rfl
  dp := Nat.max_le.mpr ⟨h.dp, g.dp⟩
  le := by
    show piled (x.shown :: PyData.shownAll xs) ≤ _
    rw [piled_cons]
    have := h.le
    have := g.le
    omega
theorem shwA_all {s p : Nat} : ∀ {xs : List PyData}, (∀ x, x ∈ xs → Shw s p x) → ShwA (xs.length * (s + 2)) p xs
  | [], _ => by
    rw [List.length_nil, Nat.zero_mul]
    exact shwA_nil p
  | x :: xs, h => by
    rw [List.length_cons, Nat.succ_mul, Nat.add_comm]
    exact shwA_cons (h x List.mem_cons_self) (shwA_all fun y hy => h y (List.mem_cons_of_mem _ hy))
theorem shw_mono {s t p r : Nat} {x : PyData} (h : Shw s p x) (a : s ≤ t) (b : p ≤ r) : Shw t r x := ⟨h.ok, h.nd, Nat.le_trans h.dp b, Nat.le_trans h.le a⟩
theorem shw_list {s p : Nat} {xs : List PyData} (h : ShwA s p xs) : Shw (s + 2) (p + 1) (.list xs) where
  ok := h.ok
  nd := h.nd
  dp := Nat.succ_le_succ h.dp
  le := by
    show (textFrom 0 "[" (PyData.shownAll xs) ++ ("]" : Str)).length ≤ _
    rw [Str.length_append]
    have h1 := textFrom_len_le (PyData.shownAll xs) 0 "["
    have h2 := h.le
    have h3 : piled (PyData.shownAll xs) = ((PyData.shownAll xs).map (·.length)).sum + 2 * (PyData.shownAll xs).length := by
      unfold piled
      induction PyData.shownAll xs with
      | nil => rfl
      | cons a l ih =>
        rw [List.map_cons, List.sum_cons, ih, List.map_cons, List.sum_cons, List.length_cons]
        omega
    have h4 : ("[" : Str).length = 1 := by decide +kernel
    have h5 : ("]" : Str).length = 1 := by decide +kernel
    omega
theorem shw_tuple {s p : Nat} {x : PyData} {xs : List PyData} (h : ShwA s p (x :: xs)) : Shw (s + 1) (p + 1) (.tuple (x :: xs)) where
  ok := h.ok
  nd := h.nd
  dp := Nat.succ_le_succ h.dp
  le := by
    show (("(" : Str) ++ Str.join ", " (PyData.shownAll (x :: xs)) ++ ((if (PyData.shownAll (x :: xs)).length == 1 then ",)" else ")" : String) : Str)).length ≤ _
    rw [Str.length_append, Str.length_append]
    have h1 := join_length_add (PyData.shownAll (x :: xs)) (by
      show x.shown :: PyData.shownAll xs ≠ []
      simp)
    have h2 := h.le
    have h4 : ("(" : Str).length = 1 := by decide +kernel
    have h5 : ((if (PyData.shownAll (x :: xs)).length == 1 then ",)" else ")" : String) : Str).length ≤ 2 := by
      split <;> decide +kernel
    omega
theorem shw_str {z : Str} (h : ∀ c, c ∈ z.cps.toList → c < 1114112) : Shw (10 * z.length + 2) 0 (.str z) := ⟨rfl, rfl, Nat.le_refl _, StrLaws.reprText_len z fun c hc => Nat.lt_trans (h c hc) (by decide)⟩
theorem shw_none : Shw 4 0 .none := ⟨rfl, rfl, Nat.le_refl _, by decide +kernel⟩
theorem shw_small {n : Nat} (h : n ≤ 8) : Shw 4 0 (.int (n : Nat)) := by
  have hc : n = 0 ∨ n = 1 ∨ n = 2 ∨ n = 3 ∨ n = 4 ∨ n = 5 ∨ n = 6 ∨ n = 7 ∨ n = 8 := by omega
  rcases hc with rfl | rfl | rfl | rfl | rfl | rfl | rfl | rfl | rfl
  all_goals exact ⟨by decide +kernel, rfl, Nat.le_refl _, by decide +kernel⟩
theorem shw_kind {s : Str} (h : s.length ≤ 6) (h2 : s.cps.all (· < 1114112) = true) : Shw 62 0 (.str s) := shw_mono (shw_str fun c hc => by
  rw [Array.all_eq_true_iff_forall_mem] at h2
  have := h2 c (Array.mem_toList_iff.mp hc)
  simpa using this) (by omega) (Nat.le_refl _)
def shS : Nat → Nat
  | 0 => 151
  | d + 1 => 6 * shS d + 93
theorem shS_ge : ∀ d, 151 ≤ shS d
  | 0 => Nat.le_refl _
  | d + 1 => by
    have := shS_ge d
    show 151 ≤ 6 * shS d + 93
    omega
theorem shw_leaf {x : PyData} {D : Den} (h : Leaf x D) : Shw 151 1 x := by
  cases h with
  | no => exact shw_mono (shw_tuple (shwA_cons (shw_kind (by decide +kernel) (by decide +kernel)) (shwA_nil 0))) (by omega) (by omega)
  | em => exact shw_mono (shw_tuple (shwA_cons (shw_kind (by decide +kernel) (by decide +kernel)) (shwA_nil 0))) (by omega) (by omega)
  | @one z h1 h2 h3 =>
    have hz : Shw 62 0 (.str z) := shw_mono (shw_str fun c hc => Nat.lt_of_le_of_lt (h3 c hc).2 (by decide)) (by omega) (Nat.le_refl _)
    exact shw_mono (shw_tuple (shwA_cons (shw_kind (by decide +kernel) (by decide +kernel)) (shwA_cons hz (shwA_nil 0)))) (by omega) (by omega)
theorem shw_up {s p q : Nat} {x : PyData} (h : Shw s p x) (a : p ≤ q) : Shw s q x := shw_mono h (Nat.le_refl _) a
theorem shw_rul : ∀ (d : Nat) {x : PyData} {D : Den}, Rul d x D → Shw (shS d) (2 * d + 1) x
  | 0, x, D, h => shw_leaf h
  | d + 1, x, D, h => by
    have hs := shS_ge d
    have e : shS (d + 1) = 6 * shS d + 93 := rfl
    have lst : ∀ {s : Str} {xs : List PyData} {Ds : List Den}, s.length ≤ 6 → s.cps.all (· < 1114112) = true → xs.length ≤ 6 → All2 (Rul d) xs Ds → Shw (shS (d + 1)) (2 * (d + 1) + 1) (.tuple [.str s, .list xs]) := fun {s xs Ds} a b c g => by
      have hx : ∀ x, x ∈ xs → Shw (shS d) (2 * d + 1) x := fun x hx => by
        obtain ⟨E, hE⟩ := all2_left g x hx
        exact shw_rul d hE
      have hl := shw_list (shwA_all hx)
      have hm := Nat.mul_le_mul_right (shS d + 2) c
      refine shw_mono (shw_tuple (shwA_cons (shw_up (shw_kind a b) (show 0 ≤ 2 * d + 2 by omega)) (shwA_cons hl (shwA_nil _)))) ?_ (by omega)
      omega
    cases h with
    | leaf h => exact shw_mono (shw_leaf h) (by omega) (by omega)
    | row h1 h2 h3 => exact lst (by decide +kernel) (by decide +kernel) h2 h3
    | ei h1 h2 h3 => exact lst (by decide +kernel) (by decide +kernel) h2 h3
    | bo h1 h2 h3 => exact lst (by decide +kernel) (by decide +kernel) h2 h3
    | no h =>
      exact shw_mono (shw_tuple (shwA_cons (shw_up (shw_kind (by decide +kernel) (by decide +kernel)) (show 0 ≤ 2 * d + 1 by omega)) (shwA_cons (shw_rul d h) (shwA_nil _)))) (by omega) (by omega)
    | @ti x D lo hi h h1 h2 =>
      have hh : Shw 4 (2 * d + 1) (hiD hi) := by
        cases hi with
        | none => exact shw_up shw_none (by omega)
        | some k => exact shw_up (shw_small (h2 k rfl).2) (by omega)
      exact shw_mono (shw_tuple (shwA_cons (shw_up (shw_kind (by decide +kernel) (by decide +kernel)) (show 0 ≤ 2 * d + 1 by omega)) (shwA_cons (shw_rul d h) (shwA_cons (shw_up (shw_small h1) (by omega)) (shwA_cons hh (shwA_nil _)))))) (by omega) (by omega)
theorem shS_6 {d : Nat} (h : d ≤ 6) : shS d ≤ 7912839 := by
  have hc : d = 0 ∨ d = 1 ∨ d = 2 ∨ d = 3 ∨ d = 4 ∨ d = 5 ∨ d = 6 := by omega
  rcases hc with rfl | rfl | rfl | rfl | rfl | rfl | rfl <;> decide
theorem rul_tuple {d : Nat} {x : PyData} {D : Den} (h : Rul d x D) : ∃ xs, x = .tuple xs := by
  have leaf : ∀ {x D}, Leaf x D → ∃ xs, x = PyData.tuple xs := fun h => by cases h <;> exact ⟨_, rfl⟩
  cases d with
  | zero => exact leaf h
  | succ d =>
    cases h with
    | leaf h => exact leaf h
    | _ => exact ⟨_, rfl⟩
end L17
namespace L17
open PySem PySem.Spec PyProof.Rows L2 DL
theorem all2_imp {α β : Type} {R R' : α → β → Prop} {xs : List α} {ys : List β} (h : All2 R xs ys) (g : ∀ x y, R x y → R' x y) : All2 R' xs ys := by
  induction h with
  | nil => exact .nil
  | cons a b ih => exact .cons (g _ _ a) ih
theorem rul_up : ∀ (d : Nat) {x : PyData} {D : Den}, Rul d x D → Rul (d + 1) x D
  | 0, x, D, h => .leaf h
  | d + 1, x, D, h => by
    cases h with
    | leaf h => exact .leaf h
    | row h1 h2 h3 => exact .row h1 h2 (all2_imp h3 fun x y h => rul_up d h)
    | ei h1 h2 h3 => exact .ei h1 h2 (all2_imp h3 fun x y h => rul_up d h)
    | bo h1 h2 h3 => exact .bo h1 h2 (all2_imp h3 fun x y h => rul_up d h)
    | no h => exact .no (rul_up d h)
    | ti h h1 h2 => exact .ti (rul_up d h) h1 h2
theorem rul_le {d e : Nat} (h : d ≤ e) {x : PyData} {D : Den} (r : Rul d x D) : Rul e x D := by
  induction h with
  | refl => exact r
  | step h ih => exact rul_up _ ih
def LR (n : Nat) (m : Option Nat) : Rel := fun b e => (b ≤ e ∧ e ≤ n) ∧ ∀ k, m = some k → e - b ≤ k
theorem lr_some {n a b e : Nat} : LR n (some a) b e ↔ (b ≤ e ∧ e ≤ n) ∧ e - b ≤ a := ⟨fun h => ⟨h.1, h.2 a rfl⟩, fun h => ⟨h.1, fun k e => by cases e; exact h.2⟩⟩
theorem lr_none {n b e : Nat} : LR n none b e ↔ b ≤ e ∧ e ≤ n := ⟨fun h => h.1, fun h => ⟨h, fun k e => by cases e⟩⟩
theorem lr_comp (n a c : Nat) : rcomp (LR n (some a)) (LR n (some c)) = LR n (some (a + c)) := rel_ext fun b e => by
  constructor
  · rintro ⟨m, h1, h2⟩
    rw [lr_some] at h1 h2 ⊢
    omega
  · intro h
    rw [lr_some] at h
    refine ⟨min (b + a) e, ?_, ?_⟩
    · rw [lr_some]
      omega
    · rw [lr_some]
      omega
theorem lr_rid (n : Nat) : rid n = LR n (some 0) := rel_ext fun b e => by
  rw [lr_some]
  show b = e ∧ e ≤ n ↔ _
  omega
theorem lr_pow (n a c : Nat) : ∀ k, rpow (LR n (some a)) (LR n (some c)) k = LR n (some (k * a + c))
  | 0 => by
    rw [Nat.zero_mul, Nat.zero_add]
    rfl
  | k + 1 => by
    show rcomp _ (rpow _ _ k) = _
    rw [lr_pow n a c k, lr_comp, Nat.succ_mul]
    congr 2
    omega
theorem lr_or (n a : Nat) : ror (LR n (some a)) (rid n) = LR n (some a) := rel_ext fun b e => by
  rw [lr_rid]
  show LR n (some a) b e ∨ LR n (some 0) b e ↔ _
  rw [lr_some, lr_some]
  omega
theorem lr_orN (n : Nat) : ror (LR n none) (rid n) = LR n none := rel_ext fun b e => by
  show LR n none b e ∨ (b = e ∧ e ≤ n) ↔ _
  rw [lr_none]
  omega
theorem lr_in {n : Nat} {Q : Rel} (hq : Tidy n Q) (hi : ∀ e, e ≤ n → Q e e) : rcomp (LR n none) Q = LR n none := rel_ext fun b e => by
  rw [lr_none]
  constructor
  · rintro ⟨m, h1, h2⟩
    rw [lr_none] at h1
    have := hq _ _ h2
    omega
  · intro h
    exact ⟨e, lr_none.mpr h, hi e h.2⟩
theorem lr_powN {n : Nat} {Q : Rel} (hq : Tidy n Q) (hi : ∀ e, e ≤ n → Q e e) : ∀ k, rpow (LR n none) Q (k + 1) = LR n none
  | 0 => lr_in hq hi
  | k + 1 => by
    show rcomp _ (rpow _ _ (k + 1)) = _
    rw [lr_powN hq hi k]
    exact lr_in (fun b e h => h.1) fun e he => lr_none.mpr ⟨Nat.le_refl _, he⟩
theorem lr_star {n : Nat} {m : Option Nat} (hm : ∀ k, m = some k → 1 ≤ k) : Rstar n (LR n m) = LR n none := rel_ext fun b e => by
  rw [lr_none]
  constructor
  · intro h
    exact tidy_star (fun b e h => h.1) _ _ h
  · intro h
    obtain ⟨k, hk⟩ : ∃ k, b + k = e := ⟨e - b, by omega⟩
    induction k generalizing b with
    | zero =>
      have : b = e := by omega
      subst this
      exact .refl h.2
    | succ k ih =>
      exact .step (m := b + 1) ⟨⟨by omega, by omega⟩, fun j hj => by have := hm j hj; omega⟩ (by omega) (ih (b + 1) ⟨by omega, h.2⟩ (by omega))
def nextM : Option Nat → Option Nat → Option Nat
  | some a, some h => some (a * h)
  | _, _ => none
theorem lr_times {n : Nat} {m : Option Nat} (hm : ∀ k, m = some k → 1 ≤ k) {lo : Nat} {hi : Option Nat} (h1 : hi = none → lo = 1) (h2 : ∀ h, hi = some h → lo ≤ h ∧ 1 ≤ h) : rtimes n (LR n m) lo hi = LR n (nextM m hi) := by
  cases hi with
  | none =>
    rw [h1 rfl]
    show rcomp (LR n m) (Rstar n (LR n m)) = _
    rw [lr_star hm]
    have e : nextM m none = none := by cases m <;> rfl
    rw [e]
    refine rel_ext fun b e => ?_
    rw [lr_none]
    constructor
    · rintro ⟨k, a1, a2⟩
      have := a1.1
      have := a2.1
      omega
    · intro h
      exact ⟨b, ⟨⟨Nat.le_refl _, by omega⟩, fun k hk => by omega⟩, lr_none.mpr h⟩
  | some h =>
    have hh := h2 h rfl
    cases m with
    | some a =>
      show rpow _ (rpow (ror _ _) (rid n) (h - lo)) lo = LR n (some (a * h))
      rw [lr_or, lr_rid, lr_pow, lr_pow]
      congr 2
      obtain ⟨d, rfl⟩ : ∃ d, h = lo + d := ⟨h - lo, by omega⟩
      rw [Nat.add_sub_cancel_left, Nat.add_zero, Nat.mul_add, Nat.mul_comm a lo, Nat.mul_comm a d]
    | none =>
      show rpow _ (rpow (ror _ _) (rid n) (h - lo)) lo = LR n none
      rw [lr_orN]
      cases lo with
      | zero =>
        obtain ⟨d, rfl⟩ : ∃ d, h = d + 1 := ⟨h - 1, by omega⟩
        show rpow _ (rid n) (d + 1 - 0) = _
        exact lr_powN (tidy_rid n) (fun e he => ⟨rfl, he⟩) d
      | succ l =>
        refine lr_powN (tidy_pow (fun b e h => h.1) (tidy_rid n) _) (fun e he => ?_) l
        cases h - (l + 1) with
        | zero => exact ⟨rfl, he⟩
        | succ j =>
          rw [lr_powN (tidy_rid n) (fun e he => ⟨rfl, he⟩) j]
          exact lr_none.mpr ⟨Nat.le_refl _, he⟩
theorem tab_nest {i : Nat} (h : i < 6) : ∃ (lo : Nat) (hi : Option Nat), atI [.tuple [.int 8, .int 8], .tuple [.int 0, .int 8], .tuple [.int 3, .int 8], .tuple [.int 7, .int 7], .tuple [.int 0, .int 2], .tuple [.int 1, .none]] (i : Int) = some (PyData.tuple [.int (lo : Nat), hiD hi]) ∧
    lo ≤ 8 ∧ (hi = none → lo = 1) ∧ ∀ h, hi = some h → (lo ≤ h ∧ 1 ≤ h) ∧ h ≤ 8 := by
  have mk : ∀ (lo : Nat) (hi : Option Nat) (o : Option PyData), o = some (PyData.tuple [.int (lo : Nat), hiD hi]) → lo ≤ 8 → (hi = none → lo = 1) → (∀ h, hi = some h → (lo ≤ h ∧ 1 ≤ h) ∧ h ≤ 8) → ∃ (lo : Nat) (hi : Option Nat), o = some (PyData.tuple [.int (lo : Nat), hiD hi]) ∧ lo ≤ 8 ∧ (hi = none → lo = 1) ∧ ∀ h, hi = some h → (lo ≤ h ∧ 1 ≤ h) ∧ h ≤ 8 := fun lo hi o a b c e => ⟨lo, hi, a, b, c, e⟩
  have sm : ∀ (lo h' : Nat), (lo ≤ h' ∧ 1 ≤ h') ∧ h' ≤ 8 → ∀ h, some h' = some h → (lo ≤ h ∧ 1 ≤ h) ∧ h ≤ 8 := fun lo h' a h e => by cases e; exact a
  have hc : i = 0 ∨ i = 1 ∨ i = 2 ∨ i = 3 ∨ i = 4 ∨ i = 5 := by omega
  rcases hc with rfl | rfl | rfl | rfl | rfl | rfl
  · exact mk 8 (some 8) _ rfl (by omega) (fun e => by cases e) (sm _ _ (by omega))
  · exact mk 0 (some 8) _ rfl (by omega) (fun e => by cases e) (sm _ _ (by omega))
  · exact mk 3 (some 8) _ rfl (by omega) (fun e => by cases e) (sm _ _ (by omega))
  · exact mk 7 (some 7) _ rfl (by omega) (fun e => by cases e) (sm _ _ (by omega))
  · exact mk 0 (some 2) _ rfl (by omega) (fun e => by cases e) (sm _ _ (by omega))
  · exact mk 1 none _ rfl (by omega) (fun e => rfl) (fun h e => by cases e)
theorem w_nested (ds : List PyData) (q : List Int) (Φ : PyData → List Int → Prop) (h : sp_nested ds q Φ) : W__law_nested (endP Φ) ⟨startE ["pool", "letters", "rule", "most", "turn", "low", "high"] (.pl :: ds.map .d), q⟩ := by
  obtain ⟨z, rfl, h1, h2, h3, hq, k⟩ := h
  have s1 : 1 ≤ sizeLine := sz_le (by omega)
  have s2 : 2 ≤ sizeLine := sz_le (by omega)
  have s4 : 4 ≤ sizeLine := sz_le (by omega)
  have s6 : 6 ≤ sizeLine := sz_le (by omega)
  simp [W__law_nested, s1, s2]
  refine pick_go (by omega) hq fun n q1 hq1 hn1 hn2 => ?_
  refine ⟨⟨by omega, by omega⟩, ?_⟩
  rw [show ((1 : Int) + (n : Int)).toNat = n + 1 by omega]
  refine loop_rng (fun t s => ∃ (x : PyData) (D : Den) (m : Option Nat) (a4 a5 a6 : Sl) (q : List Int), s = ⟨[Sl.pl, .d (.str z), .d x, .d (hiD m), a4, a5, a6], q⟩ ∧ PoolOk q ∧ Rul (1 + t) x D ∧ (∀ k, m = some k → 1 ≤ k) ∧ ∀ w, Over z w → D w = LR w.length m) ⟨_, fun w => rany ([fun w => rid w.length, dOne z].map (· w)), some 1, _, _, _, _, rfl, hq1, .ei (by simp) (by simp) (.cons .em (.cons (.one h1 h2 h3) .nil)), (fun k e => by cases e; exact Nat.le_refl _), fun w hw => ?_⟩ ?_ ?_
  · refine rel_ext fun b e => ?_
    rw [lr_some]
    show (b = e ∧ e ≤ w.length) ∨ (e = b + 1 ∧ ∃ c, w.cps.toList[b]? = some c ∧ c ∈ z.cps.toList) ∨ False ↔ _
    constructor
    · rintro (h | ⟨rfl, c, hc, _⟩ | h)
      · omega
      · have := (List.getElem?_eq_some_iff.mp hc).1
        rw [Array.length_toList] at this
        have t : w.length = w.cps.size := rfl
        omega
      · exact h.elim
    · intro h
      by_cases hbe : b = e
      · exact .inl ⟨hbe, h.1.2⟩
      · have hb : b < w.cps.toList.length := by
          rw [Array.length_toList]
          have t : w.length = w.cps.size := rfl
          omega
        exact .inr (.inl ⟨by omega, _, List.getElem?_eq_getElem hb, hw _ (List.getElem_mem hb)⟩)
  · rintro t s ht ⟨x, D, m, a4, a5, a6, q2, rfl, hq2, hr, hm, hD⟩ Ψ k1 k2 k3 k4 k5
    clear k2 k3 k4 k5
    simp [s6, s2, s4]
    refine pick_go (by omega) hq2 fun i q3 hq3 hi1 hi2 => ?_
    obtain ⟨lo, hi, ev, e1, e2, e3⟩ := tab_nest (show i < 6 by omega)
    simp only [ev]
    have new : Rul (1 + (t + 1)) (.tuple [.str "times", x, .int (lo : Nat), hiD hi]) fun w => rtimes w.length (D w) lo hi := .ti hr e1 fun h e => ⟨(e3 h e).1.1, (e3 h e).2⟩
    have newD : ∀ w, Over z w → rtimes w.length (D w) lo hi = LR w.length (nextM m hi) := fun w hw => by
      rw [hD w hw]
      exact lr_times hm e2 fun h e => (e3 h e).1
    have done : ∀ a4 a5 a6, Ψ.nx ⟨[Sl.pl, .d (.str z), .d (.tuple [.str "times", x, .int (lo : Nat), hiD hi]), .d (hiD (nextM m hi)), a4, a5, a6], q3⟩ := fun a4 a5 a6 => k1 _ ⟨_, _, nextM m hi, _, _, _, _, rfl, hq3, new, fun k hk => by
      cases m with
      | none => cases hi <;> cases hk
      | some a =>
        cases hi with
        | none => cases hk
        | some h =>
          cases hk
          exact Nat.mul_pos (hm a rfl) (e3 h rfl).1.2, newD⟩
    cases hi with
    | none =>
      have en : nextM m none = none := by cases m <;> rfl
      rw [en] at done
      refine ⟨rfl, trivial, ?_⟩
      rw [if_pos (by simp [hiD])]
      exact done _ _ _
    | some h =>
      cases m with
      | none =>
        refine ⟨rfl, trivial, ?_⟩
        rw [if_neg (by simp [hiD]), if_pos (by simp [hiD])]
        exact done _ _ _
      | some a =>
        refine ⟨rfl, trivial, ?_⟩
        rw [if_neg (by simp [hiD]), if_neg (by simp [hiD])]
        have hh := e3 h rfl
        have em : hiD (nextM (some a) (some h)) = .int ((a : Int) * (h : Int)) := by
          show PyData.int ((a * h : Nat) : Int) = _
          rw [Int.natCast_mul]
        rw [em] at done
        exact ⟨.inr ⟨by omega, by omega⟩, done _ _ _⟩
  · rintro s ⟨x, D, m, a4, a5, a6, q2, rfl, hq2, hr, hm, hD⟩
    simp [s2]
    exact k m x D q2 hq2 (rul_le (by omega) hr) fun w hw b e => by rw [hD w hw]; exact Iff.rfl
end L17
namespace L17
open PySem PySem.Spec PyProof.Rows L2 DL
theorem is_go {d : Nat} {x l : PyData} {D : Den} {w : Str} {Φ : PyData → Prop} (hd : d ≤ 6) (hr : Rul d x D) (hw : w.length ≤ 31) (k : ∀ k, (k = true ↔ D w 0 w.length) → Φ (.bool k)) : sp_isU [l, x, .str w] Φ := ⟨d, hd, l, x, D, w, rfl, hr, hw, k⟩
theorem w_deep (ds : List PyData) (q : List Int) (Φ : PyData → List Int → Prop) (h : sp_deep ds q Φ) : W__law_deep (endP Φ) ⟨startE ["pool", "letters", "most", "rule", "denied", "kept", "size", "word", "k"] (.pl :: ds.map .d), q⟩ := by
  obtain ⟨z, rfl, h1, h2, h3, hq, k⟩ := h
  simp [W__law_deep]
  refine ⟨z, rfl, h1, h2, h3, hq, fun m x D q1 hq1 hr hD => ?_⟩
  have s2 : 2 ≤ sizeLine := sz_le (by omega)
  have s11 : 11 ≤ sizeLine := sz_le (by omega)
  simp
  refine pick_go (by omega) hq1 fun n q2 hq2 hn1 hn2 => ?_
  -- the rule in hand, its words, denied or not
  have main : ∀ (x' : PyData) (D' : Den) (d : Nat) (de : Bool), d ≤ 6 → Rul d x' D' → (∀ w, Over z w → ((D' w 0 w.length ↔ lenRel m w 0 w.length) ∧ de = false) ∨ ((D' w 0 w.length ↔ ¬ lenRel m w 0 w.length) ∧ de = true)) →
      x'.showable = true ∧ x'.hasDict = false ∧ x'.depth ≤ 60 ∧ x'.shown.length ≤ sizeLine ∧ ∀ (s : Str) (i : Nat) q3, i < 31 → PoolOk q3 → s = x'.shown → loopW (gNm 6) (wSeq (wSet 7 (wJoin (wC (.str "")) (wFz (wLc [8] (wRng1 (wCons (wVar 6) wNil)) (gNm 8) wYes (wBin wIx (wVar 1) (wBin wMod (wCB (wN1 gInt) (wCons (wBin wAdd (wBin wMul (wVar 8) (wVar 8)) (wVar 6)) wNil)) (wCB (wN1 gLen) (wCons (wVar 1) wNil))))))))
        (wIfS (wNot (wTru (wCall sp_is_so (wCons (wCall sp_isU (wCons (wVar 1) (wCons (wVar 3) (wCons (wVar 7) wNil)))) (wCons (wBin (wEq true) (wOrV (wBin (wIsN false) (wVar 2) (wC .none)) (wBin wLe (wVar 6) (wVar 2))) (wVar 4)) wNil))))) (wRet (wC (.bool false))) wNext))
        { nx := wRet (wBin (wEq false) (wCB (wN1 gRepr) (wCons (wVar 3) wNil)) (wVar 5)) { nx := fun s => Φ .none s.q, rt := fun x s => Φ x s.q }, rt := fun x s => Φ x s.q }
        [.int 0, .int 1, .int 2, .int 7, .int 8, .int 9, .int 15, .int 17, .int 29, .int 30, .int (i : Nat)]
        ⟨[Sl.pl, .d (.str z), .d (hiD m), .d x', .d (.bool de), .d (.str s), .un, .un, .un], q3⟩ := by
    intro x' D' d de hd hr' hD'
    have sh := shw_rul d hr'
    have hS := shS_6 hd
    have hs : x'.shown.length ≤ sizeLine := Nat.le_trans sh.le (sz_le (by omega))
    have hdp : x'.depth ≤ 60 := Nat.le_trans sh.dp (by omega)
    refine ⟨sh.ok, sh.nd, hdp, hs, fun s i q3 hi hq3 he => ?_⟩
    subst he
    refine loop_ix _ (fun j s => ∃ (a6 a7 : Sl), s = ⟨[Sl.pl, .d (.str z), .d (hiD m), .d x', .d (.bool de), .d (.str x'.shown), a6, a7, .un], q3⟩) ⟨_, _, rfl⟩ ?_ ?_
    · rintro j y s hy ⟨a6, a7, rfl⟩ Ψ k1 k2 k3 k4 k5
      clear k2 k3 k4 k5
      have hsz : ∃ v : Nat, y = .int (v : Nat) ∧ v ≤ 30 := by
        have hm := List.mem_of_getElem? hy
        simp only [List.mem_cons, List.not_mem_nil, or_false] at hm
        rcases hm with rfl | rfl | rfl | rfl | rfl | rfl | rfl | rfl | rfl | rfl | rfl
        · exact ⟨0, rfl, by omega⟩
        · exact ⟨1, rfl, by omega⟩
        · exact ⟨2, rfl, by omega⟩
        · exact ⟨7, rfl, by omega⟩
        · exact ⟨8, rfl, by omega⟩
        · exact ⟨9, rfl, by omega⟩
        · exact ⟨15, rfl, by omega⟩
        · exact ⟨17, rfl, by omega⟩
        · exact ⟨29, rfl, by omega⟩
        · exact ⟨30, rfl, by omega⟩
        · exact ⟨i, rfl, by omega⟩
      obtain ⟨v, rfl, hv⟩ := hsz
      simp
      refine ⟨⟨by omega, by omega⟩, ?_⟩
      have hz0 : 0 < z.length := h1
      have hmod : ∀ j : Nat, (j * j + v) % z.length < z.length := fun j => Nat.mod_lt _ hz0
      let ch : Nat → Nat := fun j => z.cps[(j * j + v) % z.length]'(hmod j)
      refine lc_rng (fun j => .str (sg (ch j))) (by omega) (fun j hj Θ kΘ => ?_) ?_
      · have e : ((((0 : Int) + (j : Int)) * ((0 : Int) + (j : Int)) + (v : Int))) % (z.length : Int) = (((j * j + v) % z.length : Nat) : Int) := by
          rw [Int.zero_add, ← Int.natCast_mul, ← Int.natCast_add]
          rfl
        simp only [gNm, S.put, wipeE, wBin, wIx, wVar, wII, wC, wAdd, wCB, wN1, gInt, gLen, wCons, wNil, optP, List.getElem?_cons_zero, List.getElem?_cons_succ, List.set_cons_zero, List.set_cons_succ, e, str_at (hmod j)]
        exact ⟨trivial, .inr ⟨by omega, by omega⟩, sz_le (by omega), by omega, sz_le (by omega), kΘ _ _ rfl rfl⟩
      · let cs := (List.range v).map ch
        have ej := join_signs cs
        have hl : cs.length = v := by rw [List.length_map, List.length_range]
        have hwl : (Txt.join (Str.ofString "") (cs.map sg)).length = v := by
          show (Txt.join (Str.ofString "") (cs.map sg)).cps.size = v
          rw [← Array.length_toList, ej, hl]
        have hov : Over z (Txt.join (Str.ofString "") (cs.map sg)) := fun c hc => by
          rw [ej] at hc
          obtain ⟨j, _, rfl⟩ := List.mem_map.mp hc
          exact str_mem (hmod j)
        refine ⟨cs.map sg, by simp [cs], ?_, is_go hd hr' (by omega) fun r hr2 => ?_⟩
        · rw [empty_len, Nat.mul_zero, Nat.add_zero, List.map_map]
          refine Nat.le_trans (sum_le (m := 1) fun a h => ?_) (by rw [List.length_map]; omega)
          obtain ⟨b, _, rfl⟩ := List.mem_map.mp h
          exact Nat.le_refl _
        · have key : ∀ L : Bool, (L = true ↔ lenRel m (Txt.join (Str.ofString "") (cs.map sg)) 0 (Txt.join (Str.ofString "") (cs.map sg)).length) → (r == !(PyData.bool L).eqv (PyData.bool de)) = true := fun L hL => by
            have ee : (PyData.bool L).eqv (PyData.bool de) = (L == de) := by cases L <;> cases de <;> rfl
            rw [ee]
            rcases hD' _ hov with ⟨a, rfl⟩ | ⟨a, rfl⟩
            · rw [a, ← hL] at hr2
              cases L <;> cases r <;> simp at hr2 ⊢
            · rw [a, ← hL] at hr2
              cases L <;> cases r <;> simp at hr2 ⊢
          cases m with
          | none =>
            rw [if_pos (by simp [hiD])]
            refine ⟨⟨rfl, rfl⟩, r, _, rfl, ?_⟩
            rw [key true ⟨fun _ => ⟨⟨Nat.zero_le _, Nat.le_refl _⟩, fun k e => by cases e⟩, fun _ => rfl⟩]
            exact k1 _ ⟨_, _, rfl⟩
          | some mm =>
            rw [if_neg (by simp [hiD])]
            refine ⟨⟨rfl, rfl⟩, r, _, rfl, ?_⟩
            rw [key (decide ((v : Int) ≤ (mm : Int))) (by
              rw [decide_eq_true_eq, hwl]
              refine ⟨fun h => ⟨⟨Nat.zero_le _, by omega⟩, fun k e => by cases e; omega⟩, fun h => ?_⟩
              have := h.2 mm rfl
              omega)]
            exact k1 _ ⟨_, _, rfl⟩
    · rintro s ⟨a6, a7, rfl⟩
      obtain ⟨xs, rfl⟩ := rul_tuple hr'
      simp
      exact ⟨sh.ok, sh.nd, hdp, hs, k q3 hq3⟩
  by_cases hn : n = 0
  · subst hn
    obtain ⟨a1, a2, a3, a4, a5⟩ := main (.tuple [.str "not", x]) (fun w => rnot w.length (D w)) 6 true (by omega) (.no hr) fun w hw => .inr ⟨by
      show (0 ≤ w.length ∧ w.length ≤ w.length) ∧ ¬ D w 0 w.length ↔ _
      rw [hD w hw]
      exact ⟨fun h => h.2, fun h => ⟨⟨Nat.zero_le _, Nat.le_refl _⟩, h⟩⟩, rfl⟩
    simp
    refine ⟨s2, a1, a2, a3, a4, pick_go (by omega) hq2 fun i q3 hq3 hi1 hi2 => ⟨s11, a5 _ i q3 (by omega) hq3 rfl⟩⟩
  · obtain ⟨a1, a2, a3, a4, a5⟩ := main x D 5 false (by omega) hr fun w hw => .inl ⟨hD w hw _ _, rfl⟩
    obtain ⟨xs, rfl⟩ := rul_tuple hr
    simp [hn]
    refine ⟨a1, a2, a3, a4, pick_go (by omega) hq2 fun i q3 hq3 hi1 hi2 => ⟨s11, a5 _ i q3 (by omega) hq3 rfl⟩⟩
end L17
namespace L17
open PySem PySem.Spec PyProof.Rows L2 DL
theorem four_at {i : Nat} (h : i < 4) : ∃ m : Nat, atI [PyData.int 3, .int 3, .int 3, .int 6] (i : Int) = some (.int (m : Nat)) ∧ 1 ≤ m ∧ m ≤ 6 := by
  have hc : i = 0 ∨ i = 1 ∨ i = 2 ∨ i = 3 := by omega
  rcases hc with rfl | rfl | rfl | rfl
  · exact ⟨3, rfl, by omega, by omega⟩
  · exact ⟨3, rfl, by omega, by omega⟩
  · exact ⟨3, rfl, by omega, by omega⟩
  · exact ⟨6, rfl, by omega, by omega⟩
def W_tail : DS := (wSeq (wFor (wIt (wVar 3)) (gNm 7) (wFor (wRng1 (wCons (wBin wIx (wFz (wLst (wCons (wC (.int 3)) (wCons (wC (.int 1)) wNil)))) (wCB (wN1 gInt) (wCons (wBin (wEq false) (wVar 4) (wC (.int 30))) wNil))) wNil)) (gNm 8) (wSeq (wSet 9 (wSl (wCallP 1 sp_downU (wCons (wVar 2) (wCons (wVar 7) wNil))) wNoP (wPart (wVar 4))))
    (wSeq (wIfS (wTst (wBin (wEq false) (wVar 4) (wC (.int 30)))) (wSet 9 (wSl (wJoin (wC (.str ("" : Str))) (wFz (wLc [10] (wRng1 (wCons (wC (.int 14)) wNil)) (gNm 10) wYes (wCallP 1 sp_downU (wCons (wVar 2) (wCons (wBin wIx (wVar 7) (wC (.int 1))) wNil)))))) wNoP (wPart (wBin wSub (wC (.int 30)) (wCallP 1 sp_pick (wCons (wC (.int 4)) wNil)))))) wNext)
    (wSet 6 (wBin wAdd (wVar 6) (wFz (wLst (wCons (wVar 9) (wCons (wSl (wCallP 1 sp_near (wCons (wVar 2) (wCons (wVar 9) wNil))) wNoP (wPart (wC (.int 30)))) wNil))))))))))
    (wSeq (wSet 6 (wBin wAdd (wBin wAdd (wVar 6) (wSl (wVar 6) (wPart (wUn wNeg (wC (.int 3)))) (wPart (wUn wNeg (wC (.int 2)))))) (wSl (wVar 6) wNoP (wPart (wC (.int 1))))))
    (wSeq (wFor (wIt (wVar 6)) (gNm 9) (wFor (wIt (wVar 3)) (gNm 7) (wIfS (wNot (wTru (wCall sp_is_so (wCons (wCall sp_isU (wCons (wVar 2) (wCons (wVar 7) (wCons (wVar 9) wNil)))) (wCons (wBin wGt (wCall sp_countU (wCons (wVar 7) (wCons (wVar 9) wNil))) (wC (.int 0))) wNil))))) (wRet (wC (.bool false))) wNext)))
    (wRet (wBin (wEq false) (wCB (wN1 gRepr) (wCons (wVar 3) wNil)) (wVar 5))))))
structure RuleOk (n : Nat) (x : PyData) : Prop where
  rul : ∃ d D, d ≤ 4 ∧ Rul d x D
  sub : n = 30 → ∃ s r t E, x = .tuple (s :: r :: t) ∧ Rul 3 r E
def TextOk (x : PyData) : Prop := ∃ w : Str, x = .str w ∧ w.length ≤ 30
theorem cutD_mem {xs : List PyData} {l u : Option Int} {y : PyData} (h : y ∈ DL.cutD xs l u) : y ∈ xs := List.mem_of_mem_drop (List.mem_of_mem_take h)
theorem cutD_len (xs : List PyData) (l u : Option Int) : (DL.cutD xs l u).length ≤ xs.length := by
  unfold DL.cutD
  rw [List.length_take, List.length_drop]
  omega
theorem law_tail {z : Str} {ys ws : List PyData} {n : Nat} {q : List Int} {a0 : Sl} (hz1 : 1 ≤ z.length) (hz2 : z.length ≤ 6) (hn : n ≤ 30) (hq : PoolOk q) (hl : ys.length ≤ 2) (hy : ∀ x, x ∈ ys → RuleOk n x) (hw : ∀ x, x ∈ ws → TextOk x) (hwl : ws.length ≤ 200)
    (hrep : (PyData.list ys).showable = true ∧ (PyData.list ys).hasDict = false ∧ (PyData.list ys).depth ≤ 60 ∧ (PyData.list ys).shown.length ≤ sizeLine) :
    W_tail endTrue ⟨[a0, .pl, .d (.str z), .d (.list ys), .d (.int (n : Nat)), .d (.str (PyData.list ys).shown), .d (.list ws), .un, .un, .un, .un], q⟩ := by
  have s2 : 2 ≤ sizeLine := sz_le (by omega)
  simp [W_tail]
  refine loop_ix ys (fun j s => ∃ (us : List PyData) (a7 a8 a9 : Sl) (q : List Int), s = ⟨[a0, .pl, .d (.str z), .d (.list ys), .d (.int (n : Nat)), .d (.str (PyData.list ys).shown), .d (.list us), a7, a8, a9, .un], q⟩ ∧ PoolOk q ∧ us.length ≤ 200 + 6 * j ∧ ∀ x, x ∈ us → TextOk x)
    ⟨ws, _, _, _, q, rfl, hq, by omega, hw⟩ ?_ ?_
  · rintro j x s hx ⟨us, a7, a8, a9, q1, rfl, hq1, hul, hu⟩ Ψ k1 k2 k3 k4 k5
    clear k2 k3 k4 k5
    have hj : j < ys.length := (List.getElem?_eq_some_iff.mp hx).1
    have hxo := hy x (List.mem_of_getElem? hx)
    obtain ⟨d, D, hd4, hr⟩ := hxo.rul
    simp
    obtain ⟨v, ev, hv⟩ : ∃ v : Nat, atI [PyData.int 3, .int 1] (if (n : Int) = 30 then 1 else 0) = some (.int (v : Nat)) ∧ v ≤ 3 := by
      by_cases h30 : (n : Int) = 30
      · rw [if_pos h30]
        exact ⟨1, rfl, by omega⟩
      · rw [if_neg h30]
        exact ⟨3, rfl, by omega⟩
    simp only [ev]
    refine ⟨s2, ⟨by omega, by omega⟩, ?_⟩
    rw [Int.toNat_natCast]
    refine loop_rng (fun i s => ∃ (vs : List PyData) (a8 a9 : Sl) (q : List Int), s = ⟨[a0, .pl, .d (.str z), .d (.list ys), .d (.int (n : Nat)), .d (.str (PyData.list ys).shown), .d (.list vs), .d x, a8, a9, .un], q⟩ ∧ PoolOk q ∧ vs.length ≤ us.length + 2 * i ∧ ∀ x, x ∈ vs → TextOk x)
      ⟨us, _, _, q1, rfl, hq1, by omega, hu⟩ ?_ ?_
    · rintro i s hi ⟨vs, a8, a9, q2, rfl, hq2, hvl, hv2⟩ Ψ' k1' k2 k3 k4 k5
      clear k2 k3 k4 k5
      have near : ∀ (w : Str) q3, PoolOk q3 → w.length ≤ 30 → sp_near [.str z, .str w] q3 fun r q' => wSl (fun s Φ => Φ r ⟨s.e, q'⟩) wNoP (wPart (wC (.int 30))) ⟨[a0, .pl, .d (.str z), .d (.list ys), .d (.int (n : Nat)), .d (.str (PyData.list ys).shown), .d (.list vs), .d x, .d (.int (i : Nat)), .d (.str w), .un], q'⟩ fun y s1 => 2 ≤ sizeLine ∧ vs.length + 2 ≤ sizeLine ∧ Ψ'.nx ⟨[a0, .pl, .d (.str z), .d (.list ys), .d (.int (n : Nat)), .d (.str (PyData.list ys).shown), .d (.list (vs ++ [.str w, y])), .d x, .d (.int (i : Nat)), .d (.str w), .un], s1.q⟩ := fun w q3 hq3 hw3 => by
        refine ⟨z, w, rfl, hz1, hz2, hw3, hq3, fun y q4 hq4 hy4 => ?_⟩
        simp
        refine ⟨sz_le (by omega), s2, sz_le (by omega), k1' _ ⟨_, _, _, q4, rfl, hq4, by rw [List.length_append]; simp; omega, fun u hu4 => ?_⟩⟩
        rcases List.mem_append.mp hu4 with h | h
        · exact hv2 u h
        · rcases List.mem_cons.mp h with rfl | h
          · exact ⟨w, rfl, hw3⟩
          · rw [List.mem_singleton.mp h]
            refine ⟨_, rfl, ?_⟩
            rw [cutS_to (by omega)]
            omega
      simp
      refine ⟨d, hd4, z, x, D, rfl, hr, hd4, hz1, hz2, hq2, fun w q3 hq3 hw3 => ?_⟩
      have hL := (lenD_le hd4).1
      simp
      refine ⟨sz_le (by omega), ?_⟩
      by_cases h30 : n = 30
      · subst h30
        obtain ⟨s', r, t, E, rfl, hE⟩ := hxo.sub rfl
        simp
        refine ⟨⟨by decide, by decide⟩, lc_words (m := 14) (L := lenD 3) _ hq3 (by rw [rangeD_len]; omega) (by omega) (fun y q4 hy4 hq4 Θ kΘ => ?_) (fun us2 q4 hq4 c1 c2 => ⟨us2, rfl, ?_, pick_go (by omega) hq4 fun m q5 hq5 hm1 hm2 => ?_⟩)⟩
        · simp
          exact ⟨3, by omega, z, r, E, rfl, hE, by omega, hz1, hz2, hq4, fun w' q' hq' hw' => kΘ _ _ _ rfl hq' hw'⟩
        · have := join_bound c1 c2
          rw [empty_len]
          have e3 : lenD 3 = 5324 := by decide
          omega
        · have e3 : lenD 3 = 5324 := by decide
          have hjl : (Txt.join (Str.ofString "") us2).length ≤ 74536 := by
            rw [join_len]
            have := join_bound c1 c2
            omega
          exact ⟨sz_le (by omega), near _ q5 hq5 (by rw [cutS_to (by omega)]; omega)⟩
      · rw [if_neg (by omega)]
        exact near _ q3 hq3 (by rw [cutS_to (by omega)]; omega)
    · rintro s ⟨vs, a8, a9, q2, rfl, hq2, hvl, hv2⟩
      exact k1 _ ⟨vs, _, _, _, q2, rfl, hq2, by omega, hv2⟩
  · rintro s ⟨us, a7, a8, a9, q1, rfl, hq1, hul, hu⟩
    simp
    have c1 := cutD_len us (some (-3)) (some (-2))
    have c2 := cutD_len us none (some 1)
    refine ⟨sz_le (by omega), sz_le (by omega), ?_⟩
    refine loop_inv _ (fun pre s => ∃ (a7 a9 : Sl), s = ⟨[a0, .pl, .d (.str z), .d (.list ys), .d (.int (n : Nat)), .d (.str (PyData.list ys).shown), .d (.list (us ++ (DL.cutD us (some (-3)) (some (-2)) ++ DL.cutD us none (some 1)))), a7, a8, a9, .un], q1⟩) ⟨_, _, rfl⟩ ?_ ?_
    · rintro pre x post s e ⟨a7, a9, rfl⟩ Ψ k1 k2 k3 k4 k5
      clear k2 k3 k4 k5
      have hx : TextOk x := by
        have hm : x ∈ us ++ (DL.cutD us (some (-3)) (some (-2)) ++ DL.cutD us none (some 1)) := by rw [e]; simp
        rcases List.mem_append.mp hm with h | h
        · exact hu x h
        · rcases List.mem_append.mp h with h | h
          · exact hu x (cutD_mem h)
          · exact hu x (cutD_mem h)
      obtain ⟨w, rfl, hw⟩ := hx
      simp
      refine loop_inv _ (fun pre s => ∃ (a7 : Sl), s = ⟨[a0, .pl, .d (.str z), .d (.list ys), .d (.int (n : Nat)), .d (.str (PyData.list ys).shown), .d (.list (us ++ (DL.cutD us (some (-3)) (some (-2)) ++ DL.cutD us none (some 1)))), a7, a8, .d (.str w), .un], q1⟩) ⟨_, rfl⟩ ?_ ?_
      · rintro pre x post s e ⟨a7, rfl⟩ Ψ' k1' k2 k3 k4 k5
        clear k2 k3 k4 k5
        obtain ⟨d, D, hd4, hr⟩ := (hy x (by rw [e]; simp)).rul
        simp
        refine is_go (show d ≤ 6 by omega) hr (by omega) fun k hk => ?_
        refine ⟨d, hd4, x, D, w, rfl, hr, hd4, by omega, fun m hm => ?_⟩
        simp
        refine ⟨k, _, rfl, ?_⟩
        have ek : (k == decide (0 < m)) = true := by
          have : k = true ↔ 0 < m := by rw [hk, ← hm]; omega
          by_cases h0 : 0 < m
          · rw [this.mpr h0]
            simp [h0]
          · have : k = false := by
              cases k
              · rfl
              · exact absurd (this.mp rfl) h0
            rw [this]
            simp [h0]
        simp [ek]
        exact k1' _ ⟨_, rfl⟩
      · rintro s ⟨a7, rfl⟩
        exact k1 _ ⟨_, _, rfl⟩
    · rintro s ⟨a7, a9, rfl⟩
      simp
      exact hrep
end L17
namespace L17
open PySem PySem.Spec PyProof.Rows L2 DL
theorem rep_ok {n : Nat} {ys : List PyData} (hl : ys.length ≤ 2) (hy : ∀ x, x ∈ ys → RuleOk n x) : (PyData.list ys).showable = true ∧ (PyData.list ys).hasDict = false ∧ (PyData.list ys).depth ≤ 60 ∧ (PyData.list ys).shown.length ≤ sizeLine := by
  obtain ⟨S, hS, hS2⟩ : ∃ S, (∀ d, d ≤ 6 → shS d ≤ S) ∧ 2 * (S + 2) + 2 ≤ 16777216 := ⟨7912839, fun d h => shS_6 h, by decide⟩
  have hx : ∀ x, x ∈ ys → Shw S 13 x := fun x h => by
    obtain ⟨d, D, hd, hr⟩ := (hy x h).rul
    exact shw_mono (shw_rul d hr) (hS d (by omega)) (by omega)
  have s := shw_list (shwA_all hx)
  have hm := Nat.mul_le_mul_right (S + 2) hl
  exact ⟨s.ok, s.nd, Nat.le_trans s.dp (by omega), Nat.le_trans s.le (sz_le (Nat.le_trans (Nat.add_le_add_right hm 2) hS2))⟩
/-- a comprehension whose items all fulfil a word -/
theorem lc_pred {P : PyData → Prop} {m : Nat} {vs : List Nat} {e0 : List Sl} {wg : DG} {we : DE} {Φ : List PyData → List Int → Prop} {q : List Int} (xs : List PyData) (hq : PoolOk q) (hm : xs.length ≤ m) (hm2 : m ≤ 10000)
    (hs : ∀ x q, x ∈ xs → PoolOk q → ∀ Θ : S → PyData → S → Prop, (∀ s1 y s3, s3.e = s1.e → PoolOk s3.q → P y → Θ s1 y s3) → wg x ⟨wipeE e0 vs, q⟩ fun s1 => wipeE s1.e vs = wipeE e0 vs ∧ we s1 (Θ s1))
    (hd : ∀ ys q, PoolOk q → ys.length ≤ m → (∀ y, y ∈ ys → P y) → Φ ys q) : lcW vs e0 wg wYes we Φ xs [] q := by
  refine lc_inv xs (fun pre acc q' => PoolOk q' ∧ acc.length = pre.length ∧ ∀ y, y ∈ acc → P y) ⟨hq, rfl, by simp⟩ (fun pre x post acc q' e h Ψ k => ?_) (fun acc q' h => hd acc q' h.1 (by omega) h.2.2)
  obtain ⟨hq', hl, hp⟩ := h
  have hlen : acc.length < sizeLine := sz_lt (by
    rw [e] at hm
    simp at hm
    omega)
  have r := hs x q' (by rw [e]; simp) hq' (fun s1 y s3 => s3.e = s1.e ∧ acc.length < sizeLine ∧ Ψ (acc ++ [y]) s3.q) (fun s1 y s3 h1 h2 h3 => ⟨h1, hlen, k _ _ ⟨h2, by simp [hl], fun u hu => by
    rcases List.mem_append.mp hu with hu | hu
    · exact hp u hu
    · rw [List.mem_singleton.mp hu]
      exact h3⟩⟩)
  simp only [wYes, true_and, if_true]
  exact r
theorem six_at {z : Str} (h1 : 1 ≤ z.length) (h2 : z.length ≤ 6) : ∃ k : Nat, atI [PyData.int 4, .int 2, .int 2, .int 1, .int 1, .int 1] ((z.length : Int) - 1) = some (.int (k : Nat)) ∧ k ≤ 4 ∧ (2 ≤ z.length → k ≤ 2) := by
  generalize z.length = n at *
  have hc : n = 1 ∨ n = 2 ∨ n = 3 ∨ n = 4 ∨ n = 5 ∨ n = 6 := by omega
  rcases hc with rfl | rfl | rfl | rfl | rfl | rfl
  · exact ⟨4, rfl, by omega, by omega⟩
  · exact ⟨2, rfl, by omega, by omega⟩
  · exact ⟨2, rfl, by omega, by omega⟩
  · exact ⟨1, rfl, by omega, by omega⟩
  · exact ⟨1, rfl, by omega, by omega⟩
  · exact ⟨1, rfl, by omega, by omega⟩
theorem three_at {i : Nat} (h : i < 3) : ∃ k : Nat, atI [PyData.int 0, .int 1, .int 8] (i : Int) = some (.int (k : Nat)) ∧ k ≤ 8 := by
  have hc : i = 0 ∨ i = 1 ∨ i = 2 := by omega
  rcases hc with rfl | rfl | rfl
  · exact ⟨0, rfl, by omega⟩
  · exact ⟨1, rfl, by omega⟩
  · exact ⟨8, rfl, by omega⟩
theorem w_law (ns : List Int) (q : List Int) (hq : PoolOk q) : W_law endTrue ⟨(startE ["script", "pool", "letters", "rules", "size", "kept", "words", "rule", "turn", "word", "k"] [.sc ns]).set 1 .pl, q⟩ := by
  have s4 : 4 ≤ sizeLine := sz_le (by omega)
  have s6 : 6 ≤ sizeLine := sz_le (by omega)
  show W_law endTrue ⟨[.sc ns, .pl, .un, .un, .un, .un, .un, .un, .un, .un, .un], q⟩
  generalize Sl.sc ns = a0
  simp [W_law]
  refine ⟨s4, pick_go (by omega) hq fun i q1 hq1 hi1 hi2 => ?_⟩
  obtain ⟨m, ev, hm1, hm2⟩ := four_at (show i < 4 by omega)
  simp only [ev]
  refine ⟨m, rfl, by omega, by omega, hq1, fun z q2 hq2 hz => ?_⟩
  have hz1 := hz.lo
  have hz2 : z.length ≤ 6 := by have := hz.hi; omega
  refine pick_go (by omega) hq2 fun n q3 hq3 hn1 hn2 => ?_
  refine ite2 (fun _ => ⟨z, rfl, hz1, hz2, hz.az, hq3, fun q' _ => rfl⟩) fun _ => ?_
  refine ⟨⟨by decide, by decide⟩, ?_⟩
  refine lc_pred (P := RuleOk 0) (m := 2) _ hq3 (by rw [rangeD_len]; decide) (by omega) (fun x q4 hx hq4 Θ kΘ => ?_) fun ys q4 hq4 hyl hy => ?_
  · simp
    exact ⟨z, rfl, hz1, hz2, hz.az, hq4, fun d x D q' hq' hd hr => kΘ _ _ _ rfl hq' ⟨⟨d, D, hd, hr⟩, fun e => by cases e⟩⟩
  · refine pick_go (by omega) hq4 fun a q5 hq5 ha1 ha2 => ?_
    refine pick_go (by omega) hq5 fun b q6 hq6 hb1 hb2 => ?_
    by_cases hb7 : (b : Int) = 7
    · simp only [hb7, if_true]
      refine lc_pred (P := RuleOk 30) (m := 2) ys hq6 hyl (by omega) (fun x q7 hx hq7 Θ kΘ => ?_) fun us q7 hq7 hul hu => ?_
      · simp
        refine ⟨3, by omega, z, 6, rfl, by omega, by omega, hz1, hz2, hz.az, hq7, fun x D q8 hq8 hr => ?_⟩
        refine ⟨sz_le (by omega), pick_go (by omega) hq8 fun c q9 hq9 hc1 hc2 => ?_⟩
        obtain ⟨k, ek, hk⟩ := three_at (show c < 3 by omega)
        simp only [ek]
        exact ⟨s4, kΘ _ _ _ rfl hq9 ⟨⟨4, _, by omega, .ti (hi := none) hr hk fun h e => by cases e⟩, fun _ => ⟨_, _, _, D, rfl, hr⟩⟩⟩
      · obtain ⟨r1, r2, r3, r4⟩ := rep_ok hul hu
        refine ⟨r1, r2, r3, r4, s6, sz_le (by omega), ?_⟩
        obtain ⟨k, ek, hk1, hk2⟩ := six_at hz1 hz2
        simp only [ek]
        refine ⟨z, k, rfl, hz2, hk1, hk2, fun ws hws hw => ?_⟩
        exact law_tail (n := 30) (ws := []) hz1 hz2 (by omega) hq7 hul hu (by simp) (by simp) (rep_ok hul hu)
    · simp only [if_neg hb7]
      rw [if_neg (by omega)]
      have hy' : ∀ x, x ∈ ys → RuleOk (6 + a) x := fun x hx => ⟨(hy x hx).rul, fun e => by omega⟩
      obtain ⟨r1, r2, r3, r4⟩ := rep_ok hyl hy'
      refine ⟨r1, r2, r3, r4, s6, sz_le (by omega), ?_⟩
      obtain ⟨k, ek, hk1, hk2⟩ := six_at hz1 hz2
      simp only [ek]
      refine ⟨z, k, rfl, hz2, hk1, hk2, fun ws hws hw => ?_⟩
      simp only [if_neg (show ¬ (6 : Int) + (a : Int) = 30 by omega)]
      have e6 : (6 : Int) + (a : Int) = ((6 + a : Nat) : Int) := by omega
      rw [e6]
      exact law_tail (n := 6 + a) (ws := ws) hz1 hz2 (by omega) hq6 hyl hy' (fun x hx => by
        obtain ⟨w, rfl, hw4⟩ := hw x hx
        exact ⟨w, rfl, by omega⟩) hws (rep_ok hyl hy')
end L17
namespace L17
open PySem PySem.Spec PyProof.Rows L2 DL
section
variable {P : Program} {w : World} {K : PySem.W.Frag} {mg : Str → Option Value} {base h : Heap}

theorem ca__law_pool (X : K.In h) (G : h.Ns mainGlobals mg) (D : DefK K "_law_pool" s__law_pool) (B : Bi mg) : Ca P w K mg base 1 "_law_pool" ["script"] (spS K sp_pool) :=
  caS (k := 0) D X G sc__law_pool (fun _ _ _ _ _ _ us hl => match us, hl with | [_], _ => rfl) rfl
    fun f cdv A outer s H E g r => ⟨_, dv__law_pool B cdv A outer s H E g r, w_pool⟩
theorem ca__law_stream (X : K.In h) (G : h.Ns mainGlobals mg) (D : DefK K "_law_stream" s__law_stream) (c__law_pool : Ca P w K mg base 1 "_law_pool" ["script"] (spS K sp_pool)) : Ca P w K mg base 2 "_law_stream" ["script"] (spS K spStream) :=
  caS (k := 1) D X G sc__law_stream (fun _ _ _ _ _ _ us hl => match us, hl with | [_], _ => rfl) rfl
    fun f cdv A outer s H E g r => ⟨_, dv__law_stream c__law_pool cdv A outer s H E g r, w_stream⟩
theorem ca__law_pick (X : K.In h) (G : h.Ns mainGlobals mg) (D : DefK K "_law_pick" s__law_pick) (B : Bi mg) : Ca P w K mg base 1 "_law_pick" ["pool", "many"] (spP K sp_pick) :=
  caP (k := 0) D X G sc__law_pick (fun _ _ _ _ _ _ us hl => match us, hl with | [_, _], _ => rfl) (fun ds p Φ q => by first | (obtain ⟨rfl, _⟩ := q; rfl) | (obtain ⟨_, rfl, _⟩ := q; rfl) | (obtain ⟨_, _, rfl, _⟩ := q; rfl) | (obtain ⟨_, _, _, rfl, _⟩ := q; rfl) | (obtain ⟨_, _, _, _, rfl, _⟩ := q; rfl) | (obtain ⟨_, _, _, _, _, rfl, _⟩ := q; rfl) | (obtain ⟨_, _, _, _, _, _, rfl, _⟩ := q; rfl) | (obtain ⟨_, _, _, _, _, _, _, rfl, _⟩ := q; rfl) | (obtain ⟨_, _, _, _, _, _, _, _, rfl, _⟩ := q; rfl))
    fun f cdv A outer s H E g r => ⟨_, dv__law_pick B cdv A outer s H E g r, w_pick⟩
theorem ca__law_letters (X : K.In h) (G : h.Ns mainGlobals mg) (D : DefK K "_law_letters" s__law_letters) (B : Bi mg) (c__law_pick : Ca P w K mg base 1 "_law_pick" ["pool", "many"] (spP K sp_pick)) : Ca P w K mg base 2 "_law_letters" ["pool", "most"] (spP K sp_letters) :=
  caP (k := 1) D X G sc__law_letters (fun _ _ _ _ _ _ us hl => match us, hl with | [_, _], _ => rfl) (fun ds p Φ q => by first | (obtain ⟨rfl, _⟩ := q; rfl) | (obtain ⟨_, rfl, _⟩ := q; rfl) | (obtain ⟨_, _, rfl, _⟩ := q; rfl) | (obtain ⟨_, _, _, rfl, _⟩ := q; rfl) | (obtain ⟨_, _, _, _, rfl, _⟩ := q; rfl) | (obtain ⟨_, _, _, _, _, rfl, _⟩ := q; rfl) | (obtain ⟨_, _, _, _, _, _, rfl, _⟩ := q; rfl) | (obtain ⟨_, _, _, _, _, _, _, rfl, _⟩ := q; rfl) | (obtain ⟨_, _, _, _, _, _, _, _, rfl, _⟩ := q; rfl))
    fun f cdv A outer s H E g r => ⟨_, dv__law_letters B c__law_pick cdv A outer s H E g r, w_letters⟩
theorem ca_rules_in (X : K.In h) (G : h.Ns mainGlobals mg) (D : DefK K "rules_in" s_rules_in) (B : Bi mg) (g_LISTED : Gc K mg "LISTED" d_LISTED) : Ca P w K mg base 1 "rules_in" ["rule"] (spD K sp_rules_in) :=
  caD (k := 0) D X G sc_rules_in (fun _ _ _ _ _ _ us hl => match us, hl with | [_], _ => rfl) (fun ds Φ q => by rcases q with ⟨_, _, rfl, _⟩ | ⟨_, _, _, rfl, _⟩ <;> rfl)
    fun f cdv A outer s H E g r => ⟨_, dv_rules_in B g_LISTED cdv A outer s H E g r, w_rules_in⟩
theorem ca_is_piece (X : K.In h) (G : h.Ns mainGlobals mg) (D : DefK K "is_piece" s_is_piece)  : Ca P w K mg base 1 "is_piece" ["pieces", "begin", "end"] (spD K sp_is_piece) :=
  caD (k := 0) D X G sc_is_piece (fun _ _ _ _ _ _ us hl => match us, hl with | [_, _, _], _ => rfl) (fun ds Φ q => by first | (obtain ⟨rfl, _⟩ := q; rfl) | (obtain ⟨_, rfl, _⟩ := q; rfl) | (obtain ⟨_, _, rfl, _⟩ := q; rfl) | (obtain ⟨_, _, _, rfl, _⟩ := q; rfl) | (obtain ⟨_, _, _, _, rfl, _⟩ := q; rfl) | (obtain ⟨_, _, _, _, _, rfl, _⟩ := q; rfl) | (obtain ⟨_, _, _, _, _, _, rfl, _⟩ := q; rfl) | (obtain ⟨_, _, _, _, _, _, _, rfl, _⟩ := q; rfl) | (obtain ⟨_, _, _, _, _, _, _, _, rfl, _⟩ := q; rfl))
    fun f cdv A outer s H E g r => ⟨_, dv_is_piece cdv A outer s H E g r, w_is_piece⟩
theorem ca_only_empty (X : K.In h) (G : h.Ns mainGlobals mg) (D : DefK K "only_empty" s_only_empty) (B : Bi mg) : Ca P w K mg base 1 "only_empty" ["many"] (spD K sp_only_empty) :=
  caD (k := 0) D X G sc_only_empty (fun _ _ _ _ _ _ us hl => match us, hl with | [_], _ => rfl) (fun ds Φ q => by first | (obtain ⟨rfl, _⟩ := q; rfl) | (obtain ⟨_, rfl, _⟩ := q; rfl) | (obtain ⟨_, _, rfl, _⟩ := q; rfl) | (obtain ⟨_, _, _, rfl, _⟩ := q; rfl) | (obtain ⟨_, _, _, _, rfl, _⟩ := q; rfl) | (obtain ⟨_, _, _, _, _, rfl, _⟩ := q; rfl) | (obtain ⟨_, _, _, _, _, _, rfl, _⟩ := q; rfl) | (obtain ⟨_, _, _, _, _, _, _, rfl, _⟩ := q; rfl) | (obtain ⟨_, _, _, _, _, _, _, _, rfl, _⟩ := q; rfl))
    fun f cdv A outer s H E g r => ⟨_, dv_only_empty B cdv A outer s H E g r, w_only_empty⟩
theorem ca_in_some (X : K.In h) (G : h.Ns mainGlobals mg) (D : DefK K "in_some" s_in_some) (B : Bi mg) : Ca P w K mg base 1 "in_some" ["several"] (spD K sp_in_some) :=
  caD (k := 0) D X G sc_in_some (fun _ _ _ _ _ _ us hl => match us, hl with | [_], _ => rfl) (fun ds Φ q => by first | (obtain ⟨rfl, _⟩ := q; rfl) | (obtain ⟨_, rfl, _⟩ := q; rfl) | (obtain ⟨_, _, rfl, _⟩ := q; rfl) | (obtain ⟨_, _, _, rfl, _⟩ := q; rfl) | (obtain ⟨_, _, _, _, rfl, _⟩ := q; rfl) | (obtain ⟨_, _, _, _, _, rfl, _⟩ := q; rfl) | (obtain ⟨_, _, _, _, _, _, rfl, _⟩ := q; rfl) | (obtain ⟨_, _, _, _, _, _, _, rfl, _⟩ := q; rfl) | (obtain ⟨_, _, _, _, _, _, _, _, rfl, _⟩ := q; rfl))
    fun f cdv A outer s H E g r => ⟨_, dv_in_some B cdv A outer s H E g r, w_in_some⟩
theorem ca_in_all (X : K.In h) (G : h.Ns mainGlobals mg) (D : DefK K "in_all" s_in_all) (B : Bi mg) : Ca P w K mg base 1 "in_all" ["several"] (spD K sp_in_all) :=
  caD (k := 0) D X G sc_in_all (fun _ _ _ _ _ _ us hl => match us, hl with | [_], _ => rfl) (fun ds Φ q => by first | (obtain ⟨rfl, _⟩ := q; rfl) | (obtain ⟨_, rfl, _⟩ := q; rfl) | (obtain ⟨_, _, rfl, _⟩ := q; rfl) | (obtain ⟨_, _, _, rfl, _⟩ := q; rfl) | (obtain ⟨_, _, _, _, rfl, _⟩ := q; rfl) | (obtain ⟨_, _, _, _, _, rfl, _⟩ := q; rfl) | (obtain ⟨_, _, _, _, _, _, rfl, _⟩ := q; rfl) | (obtain ⟨_, _, _, _, _, _, _, rfl, _⟩ := q; rfl) | (obtain ⟨_, _, _, _, _, _, _, _, rfl, _⟩ := q; rfl))
    fun f cdv A outer s H E g r => ⟨_, dv_in_all B cdv A outer s H E g r, w_in_all⟩
theorem ca_in_turn (X : K.In h) (G : h.Ns mainGlobals mg) (D : DefK K "in_turn" s_in_turn) (B : Bi mg) : Ca P w K mg base 1 "in_turn" ["first", "second"] (spL K sp_in_turn) :=
  caL (k := 0) D X G sc_in_turn (fun _ _ _ _ _ _ us hl => match us, hl with | [_, _], _ => rfl) (fun ds Φ q => by first | (obtain ⟨rfl, _⟩ := q; rfl) | (obtain ⟨_, rfl, _⟩ := q; rfl) | (obtain ⟨_, _, rfl, _⟩ := q; rfl) | (obtain ⟨_, _, _, rfl, _⟩ := q; rfl) | (obtain ⟨_, _, _, _, rfl, _⟩ := q; rfl) | (obtain ⟨_, _, _, _, _, rfl, _⟩ := q; rfl) | (obtain ⟨_, _, _, _, _, _, rfl, _⟩ := q; rfl) | (obtain ⟨_, _, _, _, _, _, _, rfl, _⟩ := q; rfl) | (obtain ⟨_, _, _, _, _, _, _, _, rfl, _⟩ := q; rfl))
    fun f cdv A outer s H E g r => ⟨_, dv_in_turn B cdv A outer s H E g r, w_in_turn⟩
theorem ca_all_in_turn (X : K.In h) (G : h.Ns mainGlobals mg) (D : DefK K "all_in_turn" s_all_in_turn) (c_in_turn : Ca P w K mg base 1 "in_turn" ["first", "second"] (spL K sp_in_turn)) : Ca P w K mg base 2 "all_in_turn" ["several"] (spD K sp_all_in_turn) :=
  caD (k := 1) D X G sc_all_in_turn (fun _ _ _ _ _ _ us hl => match us, hl with | [_], _ => rfl) (fun ds Φ q => by first | (obtain ⟨rfl, _⟩ := q; rfl) | (obtain ⟨_, rfl, _⟩ := q; rfl) | (obtain ⟨_, _, rfl, _⟩ := q; rfl) | (obtain ⟨_, _, _, rfl, _⟩ := q; rfl) | (obtain ⟨_, _, _, _, rfl, _⟩ := q; rfl) | (obtain ⟨_, _, _, _, _, rfl, _⟩ := q; rfl) | (obtain ⟨_, _, _, _, _, _, rfl, _⟩ := q; rfl) | (obtain ⟨_, _, _, _, _, _, _, rfl, _⟩ := q; rfl) | (obtain ⟨_, _, _, _, _, _, _, _, rfl, _⟩ := q; rfl))
    fun f cdv A outer s H E g r => ⟨_, dv_all_in_turn c_in_turn cdv A outer s H E g r, w_all_in_turn⟩
theorem ca_any_turns (X : K.In h) (G : h.Ns mainGlobals mg) (D : DefK K "any_turns" s_any_turns) (B : Bi mg) : Ca P w K mg base 1 "any_turns" ["pieces"] (spL K sp_any_turns) :=
  caL (k := 0) D X G sc_any_turns (fun _ _ _ _ _ _ us hl => match us, hl with | [_], _ => rfl) (fun ds Φ q => by first | (obtain ⟨rfl, _⟩ := q; rfl) | (obtain ⟨_, rfl, _⟩ := q; rfl) | (obtain ⟨_, _, rfl, _⟩ := q; rfl) | (obtain ⟨_, _, _, rfl, _⟩ := q; rfl) | (obtain ⟨_, _, _, _, rfl, _⟩ := q; rfl) | (obtain ⟨_, _, _, _, _, rfl, _⟩ := q; rfl) | (obtain ⟨_, _, _, _, _, _, rfl, _⟩ := q; rfl) | (obtain ⟨_, _, _, _, _, _, _, rfl, _⟩ := q; rfl) | (obtain ⟨_, _, _, _, _, _, _, _, rfl, _⟩ := q; rfl))
    fun f cdv A outer s H E g r => ⟨_, dv_any_turns B cdv A outer s H E g r, w_any_turns⟩
theorem ca_in_times (X : K.In h) (G : h.Ns mainGlobals mg) (D : DefK K "in_times" s_in_times) (B : Bi mg) (c_all_in_turn : Ca P w K mg base 2 "all_in_turn" ["several"] (spD K sp_all_in_turn)) (c_in_some : Ca P w K mg base 1 "in_some" ["several"] (spD K sp_in_some)) (c_only_empty : Ca P w K mg base 1 "only_empty" ["many"] (spD K sp_only_empty)) (c_in_turn : Ca P w K mg base 1 "in_turn" ["first", "second"] (spL K sp_in_turn)) (c_any_turns : Ca P w K mg base 1 "any_turns" ["pieces"] (spL K sp_any_turns)) : Ca P w K mg base 3 "in_times" ["pieces", "low", "high"] (spD K sp_in_times) :=
  caD (k := 2) D X G sc_in_times (fun _ _ _ _ _ _ us hl => match us, hl with | [_, _, _], _ => rfl) (fun ds Φ q => by first | (obtain ⟨rfl, _⟩ := q; rfl) | (obtain ⟨_, rfl, _⟩ := q; rfl) | (obtain ⟨_, _, rfl, _⟩ := q; rfl) | (obtain ⟨_, _, _, rfl, _⟩ := q; rfl) | (obtain ⟨_, _, _, _, rfl, _⟩ := q; rfl) | (obtain ⟨_, _, _, _, _, rfl, _⟩ := q; rfl) | (obtain ⟨_, _, _, _, _, _, rfl, _⟩ := q; rfl) | (obtain ⟨_, _, _, _, _, _, _, rfl, _⟩ := q; rfl) | (obtain ⟨_, _, _, _, _, _, _, _, rfl, _⟩ := q; rfl))
    fun f cdv A outer s H E g r => ⟨_, dv_in_times B c_all_in_turn c_in_some c_only_empty c_in_turn c_any_turns cdv A outer s H E g r, w_in_times⟩
theorem ca_pieces_of (X : K.In h) (G : h.Ns mainGlobals mg) (D : DefK K "pieces_of" s_pieces_of) (B : Bi mg) (c_in_times : Ca P w K mg base 3 "in_times" ["pieces", "low", "high"] (spD K sp_in_times)) (c_in_all : Ca P w K mg base 1 "in_all" ["several"] (spD K sp_in_all)) (c_in_some : Ca P w K mg base 1 "in_some" ["several"] (spD K sp_in_some)) (c_all_in_turn : Ca P w K mg base 2 "all_in_turn" ["several"] (spD K sp_all_in_turn)) (c_rules_in : Ca P w K mg base 1 "rules_in" ["rule"] (spD K sp_rules_in)) (c_only_empty : Ca P w K mg base 1 "only_empty" ["many"] (spD K sp_only_empty)) : Ca P w K mg base 10 "pieces_of" ["rule", "word"] (spD K sp_piecesU) :=
  caRecD (sp := sp_pieces_of) (n := 6) (k0 := 3) D X G sc_pieces_of (fun _ _ _ _ _ _ us hl => match us, hl with | [_, _], _ => rfl) (fun d ds Φ q => by first | (obtain ⟨rfl, _⟩ := q; rfl) | (obtain ⟨_, rfl, _⟩ := q; rfl) | (obtain ⟨_, _, rfl, _⟩ := q; rfl) | (obtain ⟨_, _, _, rfl, _⟩ := q; rfl) | (obtain ⟨_, _, _, _, rfl, _⟩ := q; rfl) | (obtain ⟨_, _, _, _, _, rfl, _⟩ := q; rfl) | (obtain ⟨_, _, _, _, _, _, rfl, _⟩ := q; rfl) | (obtain ⟨_, _, _, _, _, _, _, rfl, _⟩ := q; rfl) | (obtain ⟨_, _, _, _, _, _, _, _, rfl, _⟩ := q; rfl)) (fun ds Φ q => q)
    fun d rc hrc l hl cr f cdv A outer s H E g r => ⟨_, dv_pieces_of (rc := rc) (l := l) hl (by omega) B c_in_times c_in_all c_in_some c_all_in_turn c_rules_in cr c_only_empty cdv A outer s H E g r, w_pieces_of d rc hrc⟩
theorem ca_is_of (X : K.In h) (G : h.Ns mainGlobals mg) (D : DefK K "is_of" s_is_of) (B : Bi mg) (c_is_piece : Ca P w K mg base 1 "is_piece" ["pieces", "begin", "end"] (spD K sp_is_piece)) (c_pieces_of : Ca P w K mg base 10 "pieces_of" ["rule", "word"] (spD K sp_piecesU)) : Ca P w K mg base 11 "is_of" ["letters", "rule", "word"] (spD K sp_isU) :=
  caD (k := 10) D X G sc_is_of (fun _ _ _ _ _ _ us hl => match us, hl with | [_, _, _], _ => rfl) (fun ds Φ q => by obtain ⟨_, _, q⟩ := q; first | (obtain ⟨rfl, _⟩ := q; rfl) | (obtain ⟨_, rfl, _⟩ := q; rfl) | (obtain ⟨_, _, rfl, _⟩ := q; rfl) | (obtain ⟨_, _, _, rfl, _⟩ := q; rfl) | (obtain ⟨_, _, _, _, rfl, _⟩ := q; rfl) | (obtain ⟨_, _, _, _, _, rfl, _⟩ := q; rfl) | (obtain ⟨_, _, _, _, _, _, rfl, _⟩ := q; rfl))
    fun f cdv A outer s H E g r => ⟨_, dv_is_of B c_is_piece c_pieces_of cdv A outer s H E g r, w_is_of⟩
theorem ca__law_signs (X : K.In h) (G : h.Ns mainGlobals mg) (D : DefK K "_law_signs" s__law_signs) (B : Bi mg) (c__law_pick : Ca P w K mg base 1 "_law_pick" ["pool", "many"] (spP K sp_pick)) : Ca P w K mg base 2 "_law_signs" ["pool", "letters"] (spP K sp_signs) :=
  caP (k := 1) D X G sc__law_signs (fun _ _ _ _ _ _ us hl => match us, hl with | [_, _], _ => rfl) (fun ds p Φ q => by first | (obtain ⟨rfl, _⟩ := q; rfl) | (obtain ⟨_, rfl, _⟩ := q; rfl) | (obtain ⟨_, _, rfl, _⟩ := q; rfl) | (obtain ⟨_, _, _, rfl, _⟩ := q; rfl) | (obtain ⟨_, _, _, _, rfl, _⟩ := q; rfl) | (obtain ⟨_, _, _, _, _, rfl, _⟩ := q; rfl) | (obtain ⟨_, _, _, _, _, _, rfl, _⟩ := q; rfl) | (obtain ⟨_, _, _, _, _, _, _, rfl, _⟩ := q; rfl) | (obtain ⟨_, _, _, _, _, _, _, _, rfl, _⟩ := q; rfl))
    fun f cdv A outer s H E g r => ⟨_, dv__law_signs B c__law_pick cdv A outer s H E g r, w_signs⟩
theorem ca__law_words (X : K.In h) (G : h.Ns mainGlobals mg) (D : DefK K "_law_words" s__law_words) (B : Bi mg) : Ca P w K mg base 1 "_law_words" ["letters", "length"] (spD K sp_words) :=
  caD (k := 0) D X G sc__law_words (fun _ _ _ _ _ _ us hl => match us, hl with | [_, _], _ => rfl) (fun ds Φ q => by first | (obtain ⟨rfl, _⟩ := q; rfl) | (obtain ⟨_, rfl, _⟩ := q; rfl) | (obtain ⟨_, _, rfl, _⟩ := q; rfl) | (obtain ⟨_, _, _, rfl, _⟩ := q; rfl) | (obtain ⟨_, _, _, _, rfl, _⟩ := q; rfl) | (obtain ⟨_, _, _, _, _, rfl, _⟩ := q; rfl) | (obtain ⟨_, _, _, _, _, _, rfl, _⟩ := q; rfl) | (obtain ⟨_, _, _, _, _, _, _, rfl, _⟩ := q; rfl) | (obtain ⟨_, _, _, _, _, _, _, _, rfl, _⟩ := q; rfl))
    fun f cdv A outer s H E g r => ⟨_, dv__law_words B cdv A outer s H E g r, w_words⟩
theorem ca__law_is_so (X : K.In h) (G : h.Ns mainGlobals mg) (D : DefK K "_law_is_so" s__law_is_so) (B : Bi mg) : Ca P w K mg base 1 "_law_is_so" ["value", "due"] (spD K sp_is_so) :=
  caD (k := 0) D X G sc__law_is_so (fun _ _ _ _ _ _ us hl => match us, hl with | [_, _], _ => rfl) (fun ds Φ q => by first | (obtain ⟨rfl, _⟩ := q; rfl) | (obtain ⟨_, rfl, _⟩ := q; rfl) | (obtain ⟨_, _, rfl, _⟩ := q; rfl) | (obtain ⟨_, _, _, rfl, _⟩ := q; rfl) | (obtain ⟨_, _, _, _, rfl, _⟩ := q; rfl) | (obtain ⟨_, _, _, _, _, rfl, _⟩ := q; rfl) | (obtain ⟨_, _, _, _, _, _, rfl, _⟩ := q; rfl) | (obtain ⟨_, _, _, _, _, _, _, rfl, _⟩ := q; rfl) | (obtain ⟨_, _, _, _, _, _, _, _, rfl, _⟩ := q; rfl))
    fun f cdv A outer s H E g r => ⟨_, dv__law_is_so B cdv A outer s H E g r, w_is_so⟩
theorem ca__law_leaf (X : K.In h) (G : h.Ns mainGlobals mg) (D : DefK K "_law_leaf" s__law_leaf) (B : Bi mg) (c__law_signs : Ca P w K mg base 2 "_law_signs" ["pool", "letters"] (spP K sp_signs)) (c__law_pick : Ca P w K mg base 1 "_law_pick" ["pool", "many"] (spP K sp_pick)) : Ca P w K mg base 3 "_law_leaf" ["pool", "letters"] (spP K sp_leaf) :=
  caP (k := 2) D X G sc__law_leaf (fun _ _ _ _ _ _ us hl => match us, hl with | [_, _], _ => rfl) (fun ds p Φ q => by first | (obtain ⟨rfl, _⟩ := q; rfl) | (obtain ⟨_, rfl, _⟩ := q; rfl) | (obtain ⟨_, _, rfl, _⟩ := q; rfl) | (obtain ⟨_, _, _, rfl, _⟩ := q; rfl) | (obtain ⟨_, _, _, _, rfl, _⟩ := q; rfl) | (obtain ⟨_, _, _, _, _, rfl, _⟩ := q; rfl) | (obtain ⟨_, _, _, _, _, _, rfl, _⟩ := q; rfl) | (obtain ⟨_, _, _, _, _, _, _, rfl, _⟩ := q; rfl) | (obtain ⟨_, _, _, _, _, _, _, _, rfl, _⟩ := q; rfl))
    fun f cdv A outer s H E g r => ⟨_, dv__law_leaf B c__law_signs c__law_pick cdv A outer s H E g r, w_leaf⟩
theorem ca__law_rule (X : K.In h) (G : h.Ns mainGlobals mg) (D : DefK K "_law_rule" s__law_rule) (B : Bi mg) (c__law_pick : Ca P w K mg base 1 "_law_pick" ["pool", "many"] (spP K sp_pick)) (c__law_leaf : Ca P w K mg base 3 "_law_leaf" ["pool", "letters"] (spP K sp_leaf)) : Ca P w K mg base 8 "_law_rule" ["pool", "letters", "room", "depth", "wide"] (spP K sp_ruleU) :=
  caRecP (sp := sp_rule) (n := 4) (k0 := 3) D X G sc__law_rule (fun _ _ _ _ _ _ us hl => match us, hl with | [_, _, _, _, _], _ => rfl) (fun d ds p Φ q => by first | (obtain ⟨rfl, _⟩ := q; rfl) | (obtain ⟨_, rfl, _⟩ := q; rfl) | (obtain ⟨_, _, rfl, _⟩ := q; rfl) | (obtain ⟨_, _, _, rfl, _⟩ := q; rfl) | (obtain ⟨_, _, _, _, rfl, _⟩ := q; rfl) | (obtain ⟨_, _, _, _, _, rfl, _⟩ := q; rfl) | (obtain ⟨_, _, _, _, _, _, rfl, _⟩ := q; rfl) | (obtain ⟨_, _, _, _, _, _, _, rfl, _⟩ := q; rfl) | (obtain ⟨_, _, _, _, _, _, _, _, rfl, _⟩ := q; rfl)) (fun ds p Φ q => q)
    fun d rc hrc l hl cr f cdv A outer s H E g r => ⟨_, dv__law_rule (rc := rc) (l := l) hl (by omega) B cr c__law_pick c__law_leaf cdv A outer s H E g r, w_rule d rc hrc⟩
theorem ca__law_any_rule (X : K.In h) (G : h.Ns mainGlobals mg) (D : DefK K "_law_any_rule" s__law_any_rule) (c__law_rule : Ca P w K mg base 8 "_law_rule" ["pool", "letters", "room", "depth", "wide"] (spP K sp_ruleU)) (c__law_pick : Ca P w K mg base 1 "_law_pick" ["pool", "many"] (spP K sp_pick)) : Ca P w K mg base 9 "_law_any_rule" ["pool", "letters", "wide"] (spP K sp_any_rule) :=
  caP (k := 8) D X G sc__law_any_rule (fun _ _ _ _ _ _ us hl => match us, hl with | [_, _, _], _ => rfl) (fun ds p Φ q => by first | (obtain ⟨rfl, _⟩ := q; rfl) | (obtain ⟨_, rfl, _⟩ := q; rfl) | (obtain ⟨_, _, rfl, _⟩ := q; rfl) | (obtain ⟨_, _, _, rfl, _⟩ := q; rfl) | (obtain ⟨_, _, _, _, rfl, _⟩ := q; rfl) | (obtain ⟨_, _, _, _, _, rfl, _⟩ := q; rfl) | (obtain ⟨_, _, _, _, _, _, rfl, _⟩ := q; rfl) | (obtain ⟨_, _, _, _, _, _, _, rfl, _⟩ := q; rfl) | (obtain ⟨_, _, _, _, _, _, _, _, rfl, _⟩ := q; rfl))
    fun f cdv A outer s H E g r => ⟨_, dv__law_any_rule c__law_rule c__law_pick cdv A outer s H E g r, w_any_rule⟩
theorem ca__law_joined (X : K.In h) (G : h.Ns mainGlobals mg) (D : DefK K "_law_joined" s__law_joined) (B : Bi mg) : Ca P w K mg base 1 "_law_joined" ["first", "second"] (spL K sp_joined) :=
  caL (k := 0) D X G sc__law_joined (fun _ _ _ _ _ _ us hl => match us, hl with | [_, _], _ => rfl) (fun ds Φ q => by first | (obtain ⟨rfl, _⟩ := q; rfl) | (obtain ⟨_, rfl, _⟩ := q; rfl) | (obtain ⟨_, _, rfl, _⟩ := q; rfl) | (obtain ⟨_, _, _, rfl, _⟩ := q; rfl) | (obtain ⟨_, _, _, _, rfl, _⟩ := q; rfl) | (obtain ⟨_, _, _, _, _, rfl, _⟩ := q; rfl) | (obtain ⟨_, _, _, _, _, _, rfl, _⟩ := q; rfl) | (obtain ⟨_, _, _, _, _, _, _, rfl, _⟩ := q; rfl) | (obtain ⟨_, _, _, _, _, _, _, _, rfl, _⟩ := q; rfl))
    fun f cdv A outer s H E g r => ⟨_, dv__law_joined B cdv A outer s H E g r, w_joined⟩
theorem ca__law_any (X : K.In h) (G : h.Ns mainGlobals mg) (D : DefK K "_law_any" s__law_any) (B : Bi mg) : Ca P w K mg base 1 "_law_any" ["inner"] (spL K sp_any) :=
  caL (k := 0) D X G sc__law_any (fun _ _ _ _ _ _ us hl => match us, hl with | [_], _ => rfl) (fun ds Φ q => by first | (obtain ⟨rfl, _⟩ := q; rfl) | (obtain ⟨_, rfl, _⟩ := q; rfl) | (obtain ⟨_, _, rfl, _⟩ := q; rfl) | (obtain ⟨_, _, _, rfl, _⟩ := q; rfl) | (obtain ⟨_, _, _, _, rfl, _⟩ := q; rfl) | (obtain ⟨_, _, _, _, _, rfl, _⟩ := q; rfl) | (obtain ⟨_, _, _, _, _, _, rfl, _⟩ := q; rfl) | (obtain ⟨_, _, _, _, _, _, _, rfl, _⟩ := q; rfl) | (obtain ⟨_, _, _, _, _, _, _, _, rfl, _⟩ := q; rfl))
    fun f cdv A outer s H E g r => ⟨_, dv__law_any B cdv A outer s H E g r, w_any⟩
theorem ca__law_rests (X : K.In h) (G : h.Ns mainGlobals mg) (D : DefK K "_law_rests" s__law_rests) (B : Bi mg) (c__law_joined : Ca P w K mg base 1 "_law_joined" ["first", "second"] (spL K sp_joined)) (c__law_any : Ca P w K mg base 1 "_law_any" ["inner"] (spL K sp_any)) : Ca P w K mg base 2 "_law_rests" ["rule", "inner", "same"] (spD K sp_rests) :=
  caD (k := 1) D X G sc__law_rests (fun _ _ _ _ _ _ us hl => match us, hl with | [_, _, _], _ => rfl) (fun ds Φ q => by rcases q with ⟨_, _, _, _, _, _, rfl, _⟩ | ⟨_, _, _, _, _, _, _, _, rfl, _⟩ <;> rfl)
    fun f cdv A outer s H E g r => ⟨_, dv__law_rests B c__law_joined c__law_any cdv A outer s H E g r, w_rests⟩
theorem ca__law_tree (X : K.In h) (G : h.Ns mainGlobals mg) (D : DefK K "_law_tree" s__law_tree) (B : Bi mg) (c__law_rests : Ca P w K mg base 2 "_law_rests" ["rule", "inner", "same"] (spD K sp_rests)) : Ca P w K mg base 7 "_law_tree" ["rule", "word"] (spD K sp_treeU) :=
  caRecD (sp := sp_tree) (n := 4) (k0 := 2) D X G sc__law_tree (fun _ _ _ _ _ _ us hl => match us, hl with | [_, _], _ => rfl) (fun d ds Φ q => by first | (obtain ⟨rfl, _⟩ := q; rfl) | (obtain ⟨_, rfl, _⟩ := q; rfl) | (obtain ⟨_, _, rfl, _⟩ := q; rfl) | (obtain ⟨_, _, _, rfl, _⟩ := q; rfl) | (obtain ⟨_, _, _, _, rfl, _⟩ := q; rfl) | (obtain ⟨_, _, _, _, _, rfl, _⟩ := q; rfl) | (obtain ⟨_, _, _, _, _, _, rfl, _⟩ := q; rfl) | (obtain ⟨_, _, _, _, _, _, _, rfl, _⟩ := q; rfl) | (obtain ⟨_, _, _, _, _, _, _, _, rfl, _⟩ := q; rfl)) (fun ds Φ q => q)
    fun d rc hrc l hl cr f cdv A outer s H E g r => ⟨_, dv__law_tree (rc := rc) (l := l) hl (by omega) B c__law_rests cr cdv A outer s H E g r, w_tree d rc hrc⟩
theorem ca__law_count (X : K.In h) (G : h.Ns mainGlobals mg) (D : DefK K "_law_count" s__law_count) (B : Bi mg) (c__law_tree : Ca P w K mg base 7 "_law_tree" ["rule", "word"] (spD K sp_treeU)) : Ca P w K mg base 8 "_law_count" ["rule", "word"] (spD K sp_countU) :=
  caD (k := 7) D X G sc__law_count (fun _ _ _ _ _ _ us hl => match us, hl with | [_, _], _ => rfl) (fun ds Φ q => by obtain ⟨_, _, q⟩ := q; first | (obtain ⟨rfl, _⟩ := q; rfl) | (obtain ⟨_, rfl, _⟩ := q; rfl) | (obtain ⟨_, _, rfl, _⟩ := q; rfl) | (obtain ⟨_, _, _, rfl, _⟩ := q; rfl) | (obtain ⟨_, _, _, _, rfl, _⟩ := q; rfl) | (obtain ⟨_, _, _, _, _, rfl, _⟩ := q; rfl) | (obtain ⟨_, _, _, _, _, _, rfl, _⟩ := q; rfl))
    fun f cdv A outer s H E g r => ⟨_, dv__law_count B c__law_tree cdv A outer s H E g r, w_count⟩
theorem ca__law_down (X : K.In h) (G : h.Ns mainGlobals mg) (D : DefK K "_law_down" s__law_down) (B : Bi mg) (c__law_pick : Ca P w K mg base 1 "_law_pick" ["pool", "many"] (spP K sp_pick)) : Ca P w K mg base 7 "_law_down" ["pool", "letters", "rule"] (spP K sp_downU) :=
  caRecP (sp := sp_down) (n := 4) (k0 := 2) D X G sc__law_down (fun _ _ _ _ _ _ us hl => match us, hl with | [_, _, _], _ => rfl) (fun d ds p Φ q => by first | (obtain ⟨rfl, _⟩ := q; rfl) | (obtain ⟨_, rfl, _⟩ := q; rfl) | (obtain ⟨_, _, rfl, _⟩ := q; rfl) | (obtain ⟨_, _, _, rfl, _⟩ := q; rfl) | (obtain ⟨_, _, _, _, rfl, _⟩ := q; rfl) | (obtain ⟨_, _, _, _, _, rfl, _⟩ := q; rfl) | (obtain ⟨_, _, _, _, _, _, rfl, _⟩ := q; rfl) | (obtain ⟨_, _, _, _, _, _, _, rfl, _⟩ := q; rfl) | (obtain ⟨_, _, _, _, _, _, _, _, rfl, _⟩ := q; rfl)) (fun ds p Φ q => q)
    fun d rc hrc l hl cr f cdv A outer s H E g r => ⟨_, dv__law_down (rc := rc) (l := l) hl (by omega) B c__law_pick cr cdv A outer s H E g r, w_down d rc hrc⟩
theorem ca__law_near (X : K.In h) (G : h.Ns mainGlobals mg) (D : DefK K "_law_near" s__law_near) (B : Bi mg) (c__law_pick : Ca P w K mg base 1 "_law_pick" ["pool", "many"] (spP K sp_pick)) : Ca P w K mg base 2 "_law_near" ["pool", "letters", "word"] (spP K sp_near) :=
  caP (k := 1) D X G sc__law_near (fun _ _ _ _ _ _ us hl => match us, hl with | [_, _, _], _ => rfl) (fun ds p Φ q => by first | (obtain ⟨rfl, _⟩ := q; rfl) | (obtain ⟨_, rfl, _⟩ := q; rfl) | (obtain ⟨_, _, rfl, _⟩ := q; rfl) | (obtain ⟨_, _, _, rfl, _⟩ := q; rfl) | (obtain ⟨_, _, _, _, rfl, _⟩ := q; rfl) | (obtain ⟨_, _, _, _, _, rfl, _⟩ := q; rfl) | (obtain ⟨_, _, _, _, _, _, rfl, _⟩ := q; rfl) | (obtain ⟨_, _, _, _, _, _, _, rfl, _⟩ := q; rfl) | (obtain ⟨_, _, _, _, _, _, _, _, rfl, _⟩ := q; rfl))
    fun f cdv A outer s H E g r => ⟨_, dv__law_near B c__law_pick cdv A outer s H E g r, w_near⟩
theorem ca__law_nested (X : K.In h) (G : h.Ns mainGlobals mg) (D : DefK K "_law_nested" s__law_nested) (B : Bi mg) (c__law_pick : Ca P w K mg base 1 "_law_pick" ["pool", "many"] (spP K sp_pick)) : Ca P w K mg base 2 "_law_nested" ["pool", "letters"] (spP K sp_nested) :=
  caP (k := 1) D X G sc__law_nested (fun _ _ _ _ _ _ us hl => match us, hl with | [_, _], _ => rfl) (fun ds p Φ q => by first | (obtain ⟨rfl, _⟩ := q; rfl) | (obtain ⟨_, rfl, _⟩ := q; rfl) | (obtain ⟨_, _, rfl, _⟩ := q; rfl) | (obtain ⟨_, _, _, rfl, _⟩ := q; rfl) | (obtain ⟨_, _, _, _, rfl, _⟩ := q; rfl) | (obtain ⟨_, _, _, _, _, rfl, _⟩ := q; rfl) | (obtain ⟨_, _, _, _, _, _, rfl, _⟩ := q; rfl) | (obtain ⟨_, _, _, _, _, _, _, rfl, _⟩ := q; rfl) | (obtain ⟨_, _, _, _, _, _, _, _, rfl, _⟩ := q; rfl))
    fun f cdv A outer s H E g r => ⟨_, dv__law_nested B c__law_pick cdv A outer s H E g r, w_nested⟩
theorem ca__law_deep (X : K.In h) (G : h.Ns mainGlobals mg) (D : DefK K "_law_deep" s__law_deep) (B : Bi mg) (c__law_pick : Ca P w K mg base 1 "_law_pick" ["pool", "many"] (spP K sp_pick)) (c__law_is_so : Ca P w K mg base 1 "_law_is_so" ["value", "due"] (spD K sp_is_so)) (c_is_of : Ca P w K mg base 11 "is_of" ["letters", "rule", "word"] (spD K sp_isU)) (c__law_nested : Ca P w K mg base 2 "_law_nested" ["pool", "letters"] (spP K sp_nested)) : Ca P w K mg base 12 "_law_deep" ["pool", "letters"] (spP K sp_deep) :=
  caP (k := 11) D X G sc__law_deep (fun _ _ _ _ _ _ us hl => match us, hl with | [_, _], _ => rfl) (fun ds p Φ q => by first | (obtain ⟨rfl, _⟩ := q; rfl) | (obtain ⟨_, rfl, _⟩ := q; rfl) | (obtain ⟨_, _, rfl, _⟩ := q; rfl) | (obtain ⟨_, _, _, rfl, _⟩ := q; rfl) | (obtain ⟨_, _, _, _, rfl, _⟩ := q; rfl) | (obtain ⟨_, _, _, _, _, rfl, _⟩ := q; rfl) | (obtain ⟨_, _, _, _, _, _, rfl, _⟩ := q; rfl) | (obtain ⟨_, _, _, _, _, _, _, rfl, _⟩ := q; rfl) | (obtain ⟨_, _, _, _, _, _, _, _, rfl, _⟩ := q; rfl))
    fun f cdv A outer s H E g r => ⟨_, dv__law_deep B c__law_pick c__law_is_so c_is_of c__law_nested cdv A outer s H E g r, w_deep⟩
theorem all_mk {fa : Addr} (X : K.In h) (G : h.Ns mainGlobals mg) (hfa : mg "law" = some (.ref fa)) (B : Bi mg) (g_LISTED : Gc K mg "LISTED" d_LISTED) (D__law_pool : DefK K "_law_pool" s__law_pool) (D__law_stream : DefK K "_law_stream" s__law_stream) (D__law_pick : DefK K "_law_pick" s__law_pick) (D__law_letters : DefK K "_law_letters" s__law_letters) (D_rules_in : DefK K "rules_in" s_rules_in) (D_is_piece : DefK K "is_piece" s_is_piece) (D_only_empty : DefK K "only_empty" s_only_empty) (D_in_some : DefK K "in_some" s_in_some) (D_in_all : DefK K "in_all" s_in_all) (D_in_turn : DefK K "in_turn" s_in_turn) (D_all_in_turn : DefK K "all_in_turn" s_all_in_turn) (D_any_turns : DefK K "any_turns" s_any_turns) (D_in_times : DefK K "in_times" s_in_times) (D_pieces_of : DefK K "pieces_of" s_pieces_of) (D_is_of : DefK K "is_of" s_is_of) (D__law_signs : DefK K "_law_signs" s__law_signs) (D__law_words : DefK K "_law_words" s__law_words) (D__law_is_so : DefK K "_law_is_so" s__law_is_so) (D__law_leaf : DefK K "_law_leaf" s__law_leaf) (D__law_rule : DefK K "_law_rule" s__law_rule) (D__law_any_rule : DefK K "_law_any_rule" s__law_any_rule) (D__law_joined : DefK K "_law_joined" s__law_joined) (D__law_any : DefK K "_law_any" s__law_any) (D__law_rests : DefK K "_law_rests" s__law_rests) (D__law_tree : DefK K "_law_tree" s__law_tree) (D__law_count : DefK K "_law_count" s__law_count) (D__law_down : DefK K "_law_down" s__law_down) (D__law_near : DefK K "_law_near" s__law_near) (D__law_nested : DefK K "_law_nested" s__law_nested) (D__law_deep : DefK K "_law_deep" s__law_deep) (D_law : DefK K "law" s_law) :
    ∃ fd : FuncData, (∀ (s : Shared) (v : Value), BindsTo s fd ⟨[v], []⟩ [("script", v)]) ∧ ∀ base : Heap, FnG P w K mg base CX0 13 fa fd ["script"] (spLaw K) := by
  have c__law_pool := fun base : Heap => ca__law_pool (P := P) (w := w) (base := base) X G D__law_pool B
  have c__law_stream := fun base : Heap => ca__law_stream (P := P) (w := w) (base := base) X G D__law_stream (c__law_pool base)
  have c__law_pick := fun base : Heap => ca__law_pick (P := P) (w := w) (base := base) X G D__law_pick B
  have c__law_letters := fun base : Heap => ca__law_letters (P := P) (w := w) (base := base) X G D__law_letters B (c__law_pick base)
  have c_rules_in := fun base : Heap => ca_rules_in (P := P) (w := w) (base := base) X G D_rules_in B g_LISTED
  have c_is_piece := fun base : Heap => ca_is_piece (P := P) (w := w) (base := base) X G D_is_piece 
  have c_only_empty := fun base : Heap => ca_only_empty (P := P) (w := w) (base := base) X G D_only_empty B
  have c_in_some := fun base : Heap => ca_in_some (P := P) (w := w) (base := base) X G D_in_some B
  have c_in_all := fun base : Heap => ca_in_all (P := P) (w := w) (base := base) X G D_in_all B
  have c_in_turn := fun base : Heap => ca_in_turn (P := P) (w := w) (base := base) X G D_in_turn B
  have c_all_in_turn := fun base : Heap => ca_all_in_turn (P := P) (w := w) (base := base) X G D_all_in_turn (c_in_turn base)
  have c_any_turns := fun base : Heap => ca_any_turns (P := P) (w := w) (base := base) X G D_any_turns B
  have c_in_times := fun base : Heap => ca_in_times (P := P) (w := w) (base := base) X G D_in_times B (c_all_in_turn base) (c_in_some base) (c_only_empty base) (c_in_turn base) (c_any_turns base)
  have c_pieces_of := fun base : Heap => ca_pieces_of (P := P) (w := w) (base := base) X G D_pieces_of B (c_in_times base) (c_in_all base) (c_in_some base) (c_all_in_turn base) (c_rules_in base) (c_only_empty base)
  have c_is_of := fun base : Heap => ca_is_of (P := P) (w := w) (base := base) X G D_is_of B (c_is_piece base) (c_pieces_of base)
  have c__law_signs := fun base : Heap => ca__law_signs (P := P) (w := w) (base := base) X G D__law_signs B (c__law_pick base)
  have c__law_words := fun base : Heap => ca__law_words (P := P) (w := w) (base := base) X G D__law_words B
  have c__law_is_so := fun base : Heap => ca__law_is_so (P := P) (w := w) (base := base) X G D__law_is_so B
  have c__law_leaf := fun base : Heap => ca__law_leaf (P := P) (w := w) (base := base) X G D__law_leaf B (c__law_signs base) (c__law_pick base)
  have c__law_rule := fun base : Heap => ca__law_rule (P := P) (w := w) (base := base) X G D__law_rule B (c__law_pick base) (c__law_leaf base)
  have c__law_any_rule := fun base : Heap => ca__law_any_rule (P := P) (w := w) (base := base) X G D__law_any_rule (c__law_rule base) (c__law_pick base)
  have c__law_joined := fun base : Heap => ca__law_joined (P := P) (w := w) (base := base) X G D__law_joined B
  have c__law_any := fun base : Heap => ca__law_any (P := P) (w := w) (base := base) X G D__law_any B
  have c__law_rests := fun base : Heap => ca__law_rests (P := P) (w := w) (base := base) X G D__law_rests B (c__law_joined base) (c__law_any base)
  have c__law_tree := fun base : Heap => ca__law_tree (P := P) (w := w) (base := base) X G D__law_tree B (c__law_rests base)
  have c__law_count := fun base : Heap => ca__law_count (P := P) (w := w) (base := base) X G D__law_count B (c__law_tree base)
  have c__law_down := fun base : Heap => ca__law_down (P := P) (w := w) (base := base) X G D__law_down B (c__law_pick base)
  have c__law_near := fun base : Heap => ca__law_near (P := P) (w := w) (base := base) X G D__law_near B (c__law_pick base)
  have c__law_nested := fun base : Heap => ca__law_nested (P := P) (w := w) (base := base) X G D__law_nested B (c__law_pick base)
  have c__law_deep := fun base : Heap => ca__law_deep (P := P) (w := w) (base := base) X G D__law_deep B (c__law_pick base) (c__law_is_so base) (c_is_of base) (c__law_nested base)
  refine caLaw (k := 12) (kS := 2) (sx := "_law_stream") D_law X G hfa sc_law (by decide) rfl (by decide) (fun s v kV dc pm an cd ct => .of_eq rfl) c__law_stream (fun base f cdv A outer s H E fS fdS FS gS kS bS g r => ?_) fun base f cdv A outer s H E g r => ⟨_, dv_law B (c__law_is_so base) (c__law_count base) (c_is_of base) (c__law_near base) (c__law_down base) (c__law_pick base) (c__law_words base) (c__law_rule base) (c__law_any_rule base) (c__law_deep base) (c__law_letters base) cdv A outer s H E g r, w_law⟩
  exact ps_set (i := 1) sc_law.nd rfl (Or.inr rfl) (pe_callG FS g (r.mono (by decide)) rfl gS kS bS .nil pass0 (pa_cons (pv 0) pa_nil))
end
end L17
namespace L17
open PySem PySem.Spec PyProof.Rows L2 DL
section
variable {K : PySem.W.Frag} {mg : Str → Option Value} {h : Heap}
theorem bi_mk (X : K.In h) (G : h.Ns mainGlobals mg) (z_len : PySem.W.nsIn K mainGlobals "len" = some none) (z_int : PySem.W.nsIn K mainGlobals "int" = some none) (z_str : PySem.W.nsIn K mainGlobals "str" = some none) (z_bool : PySem.W.nsIn K mainGlobals "bool" = some none) (z_list : PySem.W.nsIn K mainGlobals "list" = some none) (z_tuple : PySem.W.nsIn K mainGlobals "tuple" = some none) (z_max : PySem.W.nsIn K mainGlobals "max" = some none) (z_min : PySem.W.nsIn K mainGlobals "min" = some none) (z_sum : PySem.W.nsIn K mainGlobals "sum" = some none) (z_any : PySem.W.nsIn K mainGlobals "any" = some none) (z_all : PySem.W.nsIn K mainGlobals "all" = some none) (z_repr : PySem.W.nsIn K mainGlobals "repr" = some none) (z_range : PySem.W.nsIn K mainGlobals "range" = some none) (z_enumerate : PySem.W.nsIn K mainGlobals "enumerate" = some none) (z_zip : PySem.W.nsIn K mainGlobals "zip" = some none) (z_isinstance : PySem.W.nsIn K mainGlobals "isinstance" = some none) : Bi mg :=
  ⟨PySem.W.mg_none_of X G z_len, PySem.W.mg_none_of X G z_int, PySem.W.mg_none_of X G z_str, PySem.W.mg_none_of X G z_bool, PySem.W.mg_none_of X G z_list, PySem.W.mg_none_of X G z_tuple, PySem.W.mg_none_of X G z_max, PySem.W.mg_none_of X G z_min, PySem.W.mg_none_of X G z_sum, PySem.W.mg_none_of X G z_any, PySem.W.mg_none_of X G z_all, PySem.W.mg_none_of X G z_repr, PySem.W.mg_none_of X G z_range, PySem.W.mg_none_of X G z_enumerate, PySem.W.mg_none_of X G z_zip, PySem.W.mg_none_of X G z_isinstance⟩
def gc_listed (X : K.In h) (G : h.Ns mainGlobals mg) {t : Addr} {od : Option Addr} {t1 t2 t3 : Tok} {n : Nat} {sl : Array (Option Value)} (a : PySem.W.nsIn K mainGlobals "LISTED" = some (some (.ref t)))
    (l : K.lookup t = some ⟨.type "tuple", od, .seq #[.str "row" t1, .str "either" t2, .str "both" t3] n, sl⟩) : Gc K mg "LISTED" d_LISTED where
  v := .ref t
  u := .ref t
  mg := PySem.W.mg_of X G a
  rel := rfl
  dq := fun F => .tup (.inr ⟨_, _, _, l, rfl, rfl, by rw [sizeLine_eq]; exact (show 3 ≤ 16777216 by decide), (show Vals [V.str "row", V.str "either", V.str "both"] [Value.str "row" t1, Value.str "either" t2, Value.str "both" t3] from .cons ⟨t1, rfl⟩ (.cons ⟨t2, rfl⟩ (.cons ⟨t3, rfl⟩ .nil)))⟩) (.cons (.str _) (.cons (.str _) (.cons (.str _) .nil)))
end
end L17
open PySem PySem.W PyProof.Rows
set_option maxHeartbeats 0 in
theorem PySem.Challenge.cw_hallofwords_k17_whole_words_of_a_rule_holds : PySem.Challenge.rw_hallofwords_k17_whole_words_of_a_rule.Holds := by
  w_on; o_law; k_head; (case hw => w_witness2)
  k_fill
  refine DL.walk_ofG (l := PySem.Challenge.rw_hallofwords_k17_whole_words_of_a_rule) (k := 13) (x := "script") rfl rfl ⟨rfl, by decide, by decide⟩ (fun w h Y => PySem.W.kIn_of Y) ?F
  case F =>
    intro w mg fa h KX G hmg
    refine' L17.all_mk KX G hmg (L17.bi_mk KX G ?z_len ?z_int ?z_str ?z_bool ?z_list ?z_tuple ?z_max ?z_min ?z_sum ?z_any ?z_all ?z_repr ?z_range ?z_enumerate ?z_zip ?z_isinstance) (L17.gc_listed KX G ?gla ?gll) (DL.DefK.mk4 ?a__law_pool ?l__law_pool ?c__law_pool ?k__law_pool) (DL.DefK.mk4 ?a__law_stream ?l__law_stream ?c__law_stream ?k__law_stream) (DL.DefK.mk4 ?a__law_pick ?l__law_pick ?c__law_pick ?k__law_pick) (DL.DefK.mk4 ?a__law_letters ?l__law_letters ?c__law_letters ?k__law_letters) (DL.DefK.mk4 ?a_rules_in ?l_rules_in ?c_rules_in ?k_rules_in) (DL.DefK.mk4 ?a_is_piece ?l_is_piece ?c_is_piece ?k_is_piece) (DL.DefK.mk4 ?a_only_empty ?l_only_empty ?c_only_empty ?k_only_empty) (DL.DefK.mk4 ?a_in_some ?l_in_some ?c_in_some ?k_in_some) (DL.DefK.mk4 ?a_in_all ?l_in_all ?c_in_all ?k_in_all) (DL.DefK.mk4 ?a_in_turn ?l_in_turn ?c_in_turn ?k_in_turn) (DL.DefK.mk4 ?a_all_in_turn ?l_all_in_turn ?c_all_in_turn ?k_all_in_turn) (DL.DefK.mk4 ?a_any_turns ?l_any_turns ?c_any_turns ?k_any_turns) (DL.DefK.mk4 ?a_in_times ?l_in_times ?c_in_times ?k_in_times) (DL.DefK.mk4 ?a_pieces_of ?l_pieces_of ?c_pieces_of ?k_pieces_of) (DL.DefK.mk4 ?a_is_of ?l_is_of ?c_is_of ?k_is_of) (DL.DefK.mk4 ?a__law_signs ?l__law_signs ?c__law_signs ?k__law_signs) (DL.DefK.mk4 ?a__law_words ?l__law_words ?c__law_words ?k__law_words) (DL.DefK.mk4 ?a__law_is_so ?l__law_is_so ?c__law_is_so ?k__law_is_so) (DL.DefK.mk4 ?a__law_leaf ?l__law_leaf ?c__law_leaf ?k__law_leaf) (DL.DefK.mk4 ?a__law_rule ?l__law_rule ?c__law_rule ?k__law_rule) (DL.DefK.mk4 ?a__law_any_rule ?l__law_any_rule ?c__law_any_rule ?k__law_any_rule) (DL.DefK.mk4 ?a__law_joined ?l__law_joined ?c__law_joined ?k__law_joined) (DL.DefK.mk4 ?a__law_any ?l__law_any ?c__law_any ?k__law_any) (DL.DefK.mk4 ?a__law_rests ?l__law_rests ?c__law_rests ?k__law_rests) (DL.DefK.mk4 ?a__law_tree ?l__law_tree ?c__law_tree ?k__law_tree) (DL.DefK.mk4 ?a__law_count ?l__law_count ?c__law_count ?k__law_count) (DL.DefK.mk4 ?a__law_down ?l__law_down ?c__law_down ?k__law_down) (DL.DefK.mk4 ?a__law_near ?l__law_near ?c__law_near ?k__law_near) (DL.DefK.mk4 ?a__law_nested ?l__law_nested ?c__law_nested ?k__law_nested) (DL.DefK.mk4 ?a__law_deep ?l__law_deep ?c__law_deep ?k__law_deep) (DL.DefK.mk4 ?a_law ?l_law ?c_law ?k_law)
    (case z_len => k_is)
    (case z_int => k_is)
    (case z_str => k_is)
    (case z_bool => k_is)
    (case z_list => k_is)
    (case z_tuple => k_is)
    (case z_max => k_is)
    (case z_min => k_is)
    (case z_sum => k_is)
    (case z_any => k_is)
    (case z_all => k_is)
    (case z_repr => k_is)
    (case z_range => k_is)
    (case z_enumerate => k_is)
    (case z_zip => k_is)
    (case z_isinstance => k_is)
    (case gla => k_is); (case gll => k_is)
    (case a__law_pool => k_is); (case l__law_pool => k_is); (case c__law_pool => k_is); (case k__law_pool => k_is)
    (case a__law_stream => k_is); (case l__law_stream => k_is); (case c__law_stream => k_is); (case k__law_stream => k_is)
    (case a__law_pick => k_is); (case l__law_pick => k_is); (case c__law_pick => k_is); (case k__law_pick => k_is)
    (case a__law_letters => k_is); (case l__law_letters => k_is); (case c__law_letters => k_is); (case k__law_letters => k_is)
    (case a_rules_in => k_is); (case l_rules_in => k_is); (case c_rules_in => k_is); (case k_rules_in => k_is)
    (case a_is_piece => k_is); (case l_is_piece => k_is); (case c_is_piece => k_is); (case k_is_piece => k_is)
    (case a_only_empty => k_is); (case l_only_empty => k_is); (case c_only_empty => k_is); (case k_only_empty => k_is)
    (case a_in_some => k_is); (case l_in_some => k_is); (case c_in_some => k_is); (case k_in_some => k_is)
    (case a_in_all => k_is); (case l_in_all => k_is); (case c_in_all => k_is); (case k_in_all => k_is)
    (case a_in_turn => k_is); (case l_in_turn => k_is); (case c_in_turn => k_is); (case k_in_turn => k_is)
    (case a_all_in_turn => k_is); (case l_all_in_turn => k_is); (case c_all_in_turn => k_is); (case k_all_in_turn => k_is)
    (case a_any_turns => k_is); (case l_any_turns => k_is); (case c_any_turns => k_is); (case k_any_turns => k_is)
    (case a_in_times => k_is); (case l_in_times => k_is); (case c_in_times => k_is); (case k_in_times => k_is)
    (case a_pieces_of => k_is); (case l_pieces_of => k_is); (case c_pieces_of => k_is); (case k_pieces_of => k_is)
    (case a_is_of => k_is); (case l_is_of => k_is); (case c_is_of => k_is); (case k_is_of => k_is)
    (case a__law_signs => k_is); (case l__law_signs => k_is); (case c__law_signs => k_is); (case k__law_signs => k_is)
    (case a__law_words => k_is); (case l__law_words => k_is); (case c__law_words => k_is); (case k__law_words => k_is)
    (case a__law_is_so => k_is); (case l__law_is_so => k_is); (case c__law_is_so => k_is); (case k__law_is_so => k_is)
    (case a__law_leaf => k_is); (case l__law_leaf => k_is); (case c__law_leaf => k_is); (case k__law_leaf => k_is)
    (case a__law_rule => k_is); (case l__law_rule => k_is); (case c__law_rule => k_is); (case k__law_rule => k_is)
    (case a__law_any_rule => k_is); (case l__law_any_rule => k_is); (case c__law_any_rule => k_is); (case k__law_any_rule => k_is)
    (case a__law_joined => k_is); (case l__law_joined => k_is); (case c__law_joined => k_is); (case k__law_joined => k_is)
    (case a__law_any => k_is); (case l__law_any => k_is); (case c__law_any => k_is); (case k__law_any => k_is)
    (case a__law_rests => k_is); (case l__law_rests => k_is); (case c__law_rests => k_is); (case k__law_rests => k_is)
    (case a__law_tree => k_is); (case l__law_tree => k_is); (case c__law_tree => k_is); (case k__law_tree => k_is)
    (case a__law_count => k_is); (case l__law_count => k_is); (case c__law_count => k_is); (case k__law_count => k_is)
    (case a__law_down => k_is); (case l__law_down => k_is); (case c__law_down => k_is); (case k__law_down => k_is)
    (case a__law_near => k_is); (case l__law_near => k_is); (case c__law_near => k_is); (case k__law_near => k_is)
    (case a__law_nested => k_is); (case l__law_nested => k_is); (case c__law_nested => k_is); (case k__law_nested => k_is)
    (case a__law_deep => k_is); (case l__law_deep => k_is); (case c__law_deep => k_is); (case k__law_deep => k_is)
    (case a_law => k_is); (case l_law => k_is); (case c_law => k_is); (case k_law => k_is)
