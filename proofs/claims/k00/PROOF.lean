import PyProof.Rows.All
import Wide.All
import OpenK.AllK
import Wide.FinOn
import HandS.ForMost
import HandS.ExcInit
import HandS.Exc
import HandS.IsInst
import HandS.Wide
import HandS.Replace
import HandS.SortRule
import HandS.TupLe
import HandS.ExcOwn
import HandS.TryOnly
import HandS.ExcIs
import HandS.HotCalls
import HandS.FStr
import HandS.ExcField
import HandS.ExcValue
import KE.KExcIs
import HandS.Style
import PySem.Challenge.RW_hallofwords_k00_errors_stand_apart
set_option Elab.async false
set_option linter.all false
set_option maxRecDepth 100000
set_option maxHeartbeats 4000000
set_option autoImplicit false
/-! DL: a layer of plain data over the hand layer: what stands in the slots is data (frozen), a list of one's own, or the pool. -/
namespace DL
open PySem PySem.Spec L2

/-! ### data in a frozen heap -/
/-- an error's own fields: numbers and texts -/
inductive FldF : List (Str × V) → List PyData → Prop
  | nil : FldF [] []
  | int {f : Str} {i : Int} {fs : List (Str × V)} {xs : List PyData} : FldF fs xs → FldF ((f, .int i) :: fs) (.tuple [.str f, .int i] :: xs)
  | str {f x : Str} {fs : List (Str × V)} {xs : List PyData} : FldF fs xs → FldF ((f, .str x) :: fs) (.tuple [.str f, .str x] :: xs)
/-- an error that is held as a value: its fields as they stand -/
def XoAt (F : Hp) (d : Option Addr) (fs : List (Str × V)) : Prop := (d = none ∧ fs = []) ∨ ∃ dd, d = some dd ∧ F dd = some (exd dd fs)
theorem XoAt.up {F F' : Hp} {d : Option Addr} {fs : List (Str × V)} (e : Same F F') (h : XoAt F d fs) : XoAt F' d fs := by
  rcases h with h | ⟨dd, h1, h2⟩
  · exact .inl h
  · exact .inr ⟨dd, h1, e _ _ h2⟩
mutual
inductive Dq (K : PySem.W.Frag) (F : Hp) : V → PyData → Prop
  | non : Dq K F .non .none
  | bl (b : Bool) : Dq K F (.bl b) (.bool b)
  | int (i : Int) : Dq K F (.int i) (.int i)
  | str (x : Str) : Dq K F (.str x) (.str x)
  | lst {a : Addr} {xs : List V} {ds : List PyData} : F a = some (.lst xs) → DqA K F xs ds → Dq K F (.ref a) (.list ds)
  | tup {a : Addr} {xs : List V} {ds : List PyData} : SqT K F a xs → DqA K F xs ds → Dq K F (.ref a) (.tuple ds)
  | rng {a : Addr} {lo hi : Int} : F a = some (.rng lo hi) → Dq K F (.ref a) (.dict [(.int lo, .int hi)])
  | er (a : Addr) : Dq K F (.ref a) (.dict [(.none, .int (a : Nat))])
  | xo {a C : Addr} {d : Option Addr} {fs : List (Str × V)} {xs : List PyData} {n : Str} : PySem.W.nsIn K mainGlobals n = some (some (.ref C)) → F a = some (exo a C d) → XoAt F d fs → FldF fs xs → Dq K F (.ref a) (.dict [(.str n, .list xs)])
inductive DqA (K : PySem.W.Frag) (F : Hp) : List V → List PyData → Prop
  | nil : DqA K F [] []
  | cons {v : V} {vs : List V} {d : PyData} {ds : List PyData} : Dq K F v d → DqA K F vs ds → DqA K F (v :: vs) (d :: ds)
end
section
variable {K : PySem.W.Frag} {F F' H H' G : Hp}
theorem same_sqt {a : Addr} {xs : List V} (e : Same F F') (h : SqT K F a xs) : SqT K F' a xs := by
  rcases h with (h | ⟨o, h⟩) | h
  · exact .inl (.inl (e _ _ h))
  · exact .inl (.inr ⟨o, e _ _ h⟩)
  · exact .inr h
mutual
theorem Dq.up (e : Same F F') : ∀ (d : PyData) (v : V), Dq K F v d → Dq K F' v d
  | .none, _, h => by cases h; exact .non
  | .bool b, _, h => by cases h; exact .bl b
  | .int i, _, h => by cases h; exact .int i
  | .str x, _, h => by cases h; exact .str x
  | .list ds, _, h => by
    cases h with
    | lst h1 h2 => exact .lst (e _ _ h1) (DqA.up e ds _ h2)
  | .tuple ds, _, h => by
    cases h with
    | tup h1 h2 => exact .tup (same_sqt e h1) (DqA.up e ds _ h2)
  | .dict _, _, h => by
    cases h with
    | rng h1 => exact .rng (e _ _ h1)
    | er a => exact .er a
    | xo h1 h2 h3 h4 => exact .xo h1 (e _ _ h2) (h3.up e) h4
theorem DqA.up (e : Same F F') : ∀ (ds : List PyData) (vs : List V), DqA K F vs ds → DqA K F' vs ds
  | [], _, h => by cases h; exact .nil
  | d :: ds, _, h => by
    cases h with
    | cons h1 h2 => exact .cons (Dq.up e d _ h1) (DqA.up e ds _ h2)
end
theorem Dq.mono {v : V} {d : PyData} (h : Dq K F v d) (e : Same F F') : Dq K F' v d := Dq.up e d v h
theorem DqA.mono {vs : List V} {ds : List PyData} (h : DqA K F vs ds) (e : Same F F') : DqA K F' vs ds := DqA.up e ds vs h
mutual
theorem Dq.dpUp : ∀ (d : PyData) (v : V), Dq K F v d → d.hasDict = false → Dp K F v d
  | .none, _, h, _ => by cases h; exact .non
  | .bool b, _, h, _ => by cases h; exact .bl b
  | .int i, _, h, _ => by cases h; exact .int i
  | .str x, _, h, _ => by cases h; exact .str x
  | .list ds, _, h, n => by
    cases h with
    | lst h1 h2 => exact .lst (SqL.of h1) (DqA.dpUp ds _ h2 (by simpa [PyData.hasDict] using n))
  | .tuple ds, _, h, n => by
    cases h with
    | tup h1 h2 => exact .tup h1 (DqA.dpUp ds _ h2 (by simpa [PyData.hasDict] using n))
  | .dict _, _, h, n => by simp [PyData.hasDict] at n
theorem DqA.dpUp : ∀ (ds : List PyData) (vs : List V), DqA K F vs ds → PyData.hasDictAll ds = false → DpAll K F vs ds
  | [], _, h, _ => by cases h; exact .nil
  | d :: ds, _, h, n => by
    cases h with
    | cons h1 h2 =>
      simp only [PyData.hasDictAll, Bool.or_eq_false_iff] at n
      exact .cons (Dq.dpUp d _ h1 n.1) (DqA.dpUp ds _ h2 n.2)
end
theorem Dq.dp {v : V} {d : PyData} (h : Dq K F v d) (n : d.hasDict = false) : Dp K F v d := Dq.dpUp d v h n
theorem DqA.length : ∀ {vs : List V} {ds : List PyData}, DqA K F vs ds → vs.length = ds.length
  | [], [], _ => rfl
  | _ :: vs, _ :: ds, h => by
    cases h with
    | cons h1 h2 => rw [List.length_cons, List.length_cons, DqA.length h2]
  | [], _ :: _, h => by cases h
  | _ :: _, [], h => by cases h
theorem DqA.get : ∀ {vs : List V} {ds : List PyData} {i : Nat} {d : PyData}, DqA K F vs ds → ds[i]? = some d → ∃ v, vs[i]? = some v ∧ Dq K F v d
  | _, [], i, d, _, h => by simp at h
  | _, d0 :: ds, 0, d, h, e => by
    cases h with
    | cons h1 h2 =>
      simp at e
      subst e
      exact ⟨_, rfl, h1⟩
  | _, d0 :: ds, i + 1, d, h, e => by
    cases h with
    | cons h1 h2 =>
      obtain ⟨v, a, b⟩ := DqA.get (i := i) h2 (by simpa using e)
      exact ⟨v, by simpa using a, b⟩
theorem DqA.getv : ∀ {vs : List V} {ds : List PyData} {i : Nat} {v : V}, DqA K F vs ds → vs[i]? = some v → ∃ d, ds[i]? = some d ∧ Dq K F v d := fun {vs ds i v} h e => by
  have hl := h.length
  have hi : i < ds.length := by rw [← hl]; exact (List.getElem?_eq_some_iff.mp e).1
  obtain ⟨u, a, b⟩ := h.get (List.getElem?_eq_getElem hi)
  rw [e] at a
  cases a
  exact ⟨_, List.getElem?_eq_getElem hi, b⟩
theorem DqA.append : ∀ {vs ws : List V} {ds es : List PyData}, DqA K F vs ds → DqA K F ws es → DqA K F (vs ++ ws) (ds ++ es)
  | [], _, [], _, _, h => h
  | _ :: _, _, _ :: _, _, h, g => by
    cases h with
    | cons h1 h2 => exact .cons h1 (DqA.append h2 g)
  | [], _, _ :: _, _, h, _ => by cases h
  | _ :: _, _, [], _, h, _ => by cases h
theorem DqA.take : ∀ {vs : List V} {ds : List PyData} (n : Nat), DqA K F vs ds → DqA K F (vs.take n) (ds.take n)
  | _, _, 0, _ => .nil
  | [], [], _ + 1, _ => .nil
  | _ :: _, _ :: _, n + 1, h => by
    cases h with
    | cons h1 h2 => exact .cons h1 (DqA.take n h2)
  | [], _ :: _, _ + 1, h => by cases h
  | _ :: _, [], _ + 1, h => by cases h
theorem DqA.drop : ∀ {vs : List V} {ds : List PyData} (n : Nat), DqA K F vs ds → DqA K F (vs.drop n) (ds.drop n)
  | _, _, 0, h => h
  | [], [], _ + 1, _ => .nil
  | _ :: _, _ :: _, n + 1, h => by
    cases h with
    | cons h1 h2 => exact DqA.drop n h2
  | [], _ :: _, _ + 1, h => by cases h
  | _ :: _, [], _ + 1, h => by cases h
theorem DqA.set : ∀ {vs : List V} {ds : List PyData} {v : V} {d : PyData} (n : Nat), DqA K F vs ds → Dq K F v d → DqA K F (vs.set n v) (ds.set n d)
  | [], [], _, _, _, _, _ => .nil
  | _ :: _, _ :: _, _, _, 0, h, g => by
    cases h with
    | cons h1 h2 => exact .cons g h2
  | _ :: _, _ :: _, _, _, n + 1, h, g => by
    cases h with
    | cons h1 h2 => exact .cons h1 (DqA.set n h2 g)
  | [], _ :: _, _, _, _, h, _ => by cases h
  | _ :: _, [], _, _, _, h, _ => by cases h
theorem DqA.ints {vs : List V} {ns : List Int} (h : DqA K F vs (ns.map PyData.int)) : vs = ns.map V.int := by
  induction ns generalizing vs with
  | nil => cases h; rfl
  | cons n ns ih =>
    cases h with
    | cons h1 h2 =>
      cases h1
      rw [ih h2]
      rfl
theorem DqA.of_ints (ns : List Int) : DqA K F (ns.map V.int) (ns.map PyData.int) := by
  induction ns with
  | nil => exact .nil
  | cons n ns ih => exact .cons (.int n) ih
theorem DqA.bls {vs : List V} {ns : List Bool} (h : DqA K F vs (ns.map PyData.bool)) : vs = ns.map V.bl := by
  induction ns generalizing vs with
  | nil => cases h; rfl
  | cons n ns ih =>
    cases h with
    | cons h1 h2 =>
      cases h1
      rw [ih h2]
      rfl
theorem DqA.strs {vs : List V} {ns : List Str} (h : DqA K F vs (ns.map PyData.str)) : vs = ns.map V.str := by
  induction ns generalizing vs with
  | nil => cases h; rfl
  | cons n ns ih =>
    cases h with
    | cons h1 h2 =>
      cases h1
      rw [ih h2]
      rfl
theorem DqA.of_strs (ns : List Str) : DqA K F (ns.map V.str) (ns.map PyData.str) := by
  induction ns with
  | nil => exact .nil
  | cons n ns ih => exact .cons (.str n) ih

/-! ### what a step may do to the heaps -/
structure Fresh (F H F' H' : Hp) : Prop where
  ff : Same F F'
  fh : Same F' H'
  hh : Same H H'
  fr : ∀ b o, H b = some o → F b = none → F' b = none
theorem Fresh.refl (e : Same F H) : Fresh F H F H := ⟨Same.refl F, e, Same.refl H, fun _ _ _ h => h⟩
theorem Fresh.trans {F2 H2 : Hp} (a : Fresh F H F' H') (b : Fresh F' H' F2 H2) : Fresh F H F2 H2 :=
  ⟨a.ff.trans b.ff, b.fh, a.hh.trans b.hh, fun c o h n => b.fr c o (a.hh c o h) (a.fr c o h n)⟩
theorem same_new {p : Addr} {o : HO} (h : H p = none) : Same H (upd H p o) := fun b u e => by
  rw [upd_ne (ne_of_none e h)]
  exact e
theorem Fresh.new {p : Addr} {o : HO} (e : Same F H) (h : H p = none) : Fresh F H (upd F p o) (upd H p o) := by
  refine ⟨same_new (e.free h), fun b u q => ?_, same_new h, fun b u q n => ?_⟩
  · by_cases hb : b = p
    · rw [hb, upd_same] at q ⊢
      exact q
    · rw [upd_ne hb] at q ⊢
      exact e b u q
  · rw [upd_ne (ne_of_none q h)]
    exact n
/-- a new object that is not frozen -/
theorem Fresh.newH {p : Addr} {o : HO} (e : Same F H) (h : H p = none) : Fresh F H F (upd H p o) :=
  ⟨Same.refl F, e.trans (same_new h), same_new h, fun _ _ _ n => n⟩
end

/-! ### what stands in the slots -/
inductive Sl where
  | un
  | d (x : PyData)
  | o (xs : List PyData)
  | pl
  | sc (ns : List Int)
  | tb (p : Addr) (qs : List Addr) (xss : List (List PyData))
@[simp] def tads : Sl → List Addr
  | .tb p qs _ => p :: qs
  | _ => []
/-- a table's rows: lists of one's own -/
inductive RowsOk (K : PySem.W.Frag) (G : Hp) (P : Option Addr) (F H : Hp) : List Addr → List (List PyData) → Prop
  | nil : RowsOk K G P F H [] []
  | cons {q : Addr} {vs : List V} {xs : List PyData} {qs : List Addr} {xss : List (List PyData)} : F q = none → G q = none → P ≠ some q → H q = some (.lst vs) → DqA K F vs xs → RowsOk K G P F H qs xss → RowsOk K G P F H (q :: qs) (xs :: xss)
structure S where
  e : List Sl
  q : List Int
@[simp] def S.put (s : S) (i : Nat) (x : Sl) : S := ⟨s.e.set i x, s.q⟩
def SlOk (K : PySem.W.Frag) (G : Hp) (P : Option Addr) (F H : Hp) (σ : St) (i : Nat) : Sl → Prop
  | .un => True
  | .d x => ∃ v, σ[i]? = some (some v) ∧ Dq K F v x
  | .o xs => ∃ p vs, σ[i]? = some (some (.ref p)) ∧ F p = none ∧ G p = none ∧ P ≠ some p ∧ H p = some (.lst vs) ∧ DqA K F vs xs
  | .pl => ∃ a, P = some a ∧ σ[i]? = some (some (.ref a))
  | .sc ns => ∃ a, σ[i]? = some (some (.ref a)) ∧ SqL K F a (ns.map V.int)
  | .tb p qs xss => σ[i]? = some (some (.ref p)) ∧ F p = none ∧ G p = none ∧ P ≠ some p ∧ H p = some (.lst (qs.map V.ref)) ∧ (p :: qs).Nodup ∧ RowsOk K G P F H qs xss
/-- r is held by slot j -/
def Occ (σ : St) (j : Nat) (y : Sl) (r : Addr) : Prop := r ∈ tads y ∨ ((∃ ys, y = .o ys) ∧ σ[j]? = some (some (.ref r)))
structure Rep (K : PySem.W.Frag) (G : Hp) (P : Option Addr) (F H : Hp) (σ : St) (s : S) : Prop where
  same : Same F H
  keep : Same G H
  apart : ∀ b o, G b = some o → F b = none
  sl : ∀ (i : Nat) (x : Sl), s.e[i]? = some x → SlOk K G P F H σ i x
  sep : ∀ (i j : Nat) (xs ys : List PyData) (p : Addr), s.e[i]? = some (.o xs) → s.e[j]? = some (.o ys) → σ[i]? = some (some (.ref p)) → σ[j]? = some (some (.ref p)) → i = j
  pool : ∀ a, P = some a → F a = none ∧ G a = none ∧ H a = some (.lst (s.q.map V.int))
  len : σ.length = s.e.length
  tbs : ∀ (i j : Nat) (x y : Sl) (r : Addr), s.e[i]? = some x → s.e[j]? = some y → r ∈ tads x → i ≠ j → ¬ Occ σ j y r
section
variable {K : PySem.W.Frag} {G F F' G' H H' : Hp} {P P' : Option Addr} {σ σ' : St} {s : S}
theorem RowsOk.up (e : Same F F') : ∀ {qs : List Addr} {xss : List (List PyData)}, RowsOk K G P F H qs xss → (∀ r o, r ∈ qs → F r = none → G r = none → P ≠ some r → H r = some o → F' r = none ∧ G' r = none ∧ P' ≠ some r ∧ H' r = some o) → RowsOk K G' P' F' H' qs xss
  | [], _, h, _ => by cases h; exact .nil
  | q :: qs, _, h, f => by
    cases h with
    | cons h1 h2 h3 h4 h5 h6 =>
      obtain ⟨a, b, c, d⟩ := f q _ List.mem_cons_self h1 h2 h3 h4
      exact .cons a b c d (h5.mono e) (RowsOk.up e h6 fun r o hr => f r o (List.mem_cons_of_mem _ hr))
theorem RowsOk.at' : ∀ {qs : List Addr} {xss : List (List PyData)}, RowsOk K G P F H qs xss → ∀ r, r ∈ qs → F r = none ∧ G r = none ∧ P ≠ some r ∧ ∃ o, H r = some o
  | [], _, _, r, hr => by cases hr
  | q :: qs, _, h, r, hr => by
    cases h with
    | cons h1 h2 h3 h4 h5 h6 =>
      rcases List.mem_cons.mp hr with rfl | hr
      · exact ⟨h1, h2, h3, _, h4⟩
      · exact RowsOk.at' h6 r hr
theorem SlOk.tbUp {i : Nat} {p : Addr} {qs : List Addr} {xss : List (List PyData)} (h : SlOk K G P F H σ i (.tb p qs xss)) (hσ : σ'[i]? = σ[i]?) (e : Same F F')
    (f : ∀ r o, r ∈ p :: qs → F r = none → G r = none → P ≠ some r → H r = some o → F' r = none ∧ G' r = none ∧ P' ≠ some r ∧ H' r = some o) : SlOk K G' P' F' H' σ' i (.tb p qs xss) := by
  obtain ⟨h1, h2, h3, h4, h5, h6, h7⟩ := h
  obtain ⟨a, b, c, d⟩ := f p _ List.mem_cons_self h2 h3 h4 h5
  exact ⟨by rw [hσ]; exact h1, a, b, c, d, h6, h7.up e fun r o hr => f r o (List.mem_cons_of_mem _ hr)⟩
theorem tad_at {i : Nat} {x : Sl} {r : Addr} (h : SlOk K G P F H σ i x) (hr : r ∈ tads x) : F r = none ∧ G r = none ∧ P ≠ some r ∧ ∃ o, H r = some o := by
  cases x with
  | tb p qs xss =>
    obtain ⟨h1, h2, h3, h4, h5, h6, h7⟩ := h
    rcases List.mem_cons.mp hr with rfl | hr
    · exact ⟨h2, h3, h4, _, h5⟩
    · exact h7.at' r hr
  | _ => cases hr
theorem occ_o {j : Nat} {y : Sl} {r : Addr} {ys : List PyData} (hy : y = .o ys) (h : σ[j]? = some (some (.ref r))) : Occ σ j y r := .inr ⟨⟨ys, hy⟩, h⟩
theorem Rep.fresh (R : Rep K G P F H σ s) (f : Fresh F H F' H') : Rep K G P F' H' σ s where
  same := f.fh
  keep := R.keep.trans f.hh
  apart := fun b o g => f.fr b o (R.keep b o g) (R.apart b o g)
  sl := fun i x hx => by
    have h := R.sl i x hx
    cases x with
    | un => exact True.intro
    | d x =>
      obtain ⟨v, a, b⟩ := h
      exact ⟨v, a, b.mono f.ff⟩
    | o xs =>
      obtain ⟨p, vs, h1, h2, h3, h4, h5, h6⟩ := h
      exact ⟨p, vs, h1, f.fr p _ h5 h2, h3, h4, f.hh p _ h5, h6.mono f.ff⟩
    | pl => exact h
    | sc ns =>
      obtain ⟨a, h1, h2⟩ := h
      exact ⟨a, h1, f.ff.seq h2⟩
    | tb p qs xss => exact h.tbUp rfl f.ff fun r o _ h1 h2 h3 h4 => ⟨f.fr r o h4 h1, h2, h3, f.hh r o h4⟩
  sep := R.sep
  pool := fun a ha => by
    obtain ⟨h1, h2, h3⟩ := R.pool a ha
    exact ⟨f.fr a _ h3 h1, h2, f.hh a _ h3⟩
  len := R.len
  tbs := R.tbs
theorem set_get {α : Type} {l : List α} {i j : Nat} {x y : α} (h : (l.set i x)[j]? = some y) : (j = i ∧ y = x) ∨ (j ≠ i ∧ l[j]? = some y) := by
  by_cases e : i = j
  · subst e
    by_cases hl : i < l.length
    · rw [List.getElem?_set_self hl] at h
      cases h
      exact .inl ⟨rfl, rfl⟩
    · rw [List.getElem?_eq_none (by rw [List.length_set]; omega)] at h
      cases h
  · rw [List.getElem?_set_ne e] at h
    exact .inr ⟨fun z => e z.symm, h⟩
/-- a slot's list is frozen -/
theorem Rep.freeze {i : Nat} {xs : List PyData} (R : Rep K G P F H σ s) (h : s.e[i]? = some (.o xs)) : ∃ p vs, σ[i]? = some (some (.ref p)) ∧ H p = some (.lst vs) ∧ F p = none ∧
    Rep K G P (upd F p (.lst vs)) H σ (s.put i (.d (.list xs))) ∧ Dq K (upd F p (.lst vs)) (.ref p) (.list xs) := by
  obtain ⟨p, vs, h1, h2, h3, h4, h5, h6⟩ := R.sl i _ h
  have sF : Same F (upd F p (.lst vs)) := same_new h2
  have dq : Dq K (upd F p (.lst vs)) (.ref p) (.list xs) := .lst upd_same (h6.mono sF)
  refine ⟨p, vs, h1, h5, h2, ⟨fun b o q => ?_, R.keep, fun b o g => ?_, fun j x hx => ?_, fun j k ys zs r hj hk e1 e2 => ?_, fun a ha => ?_, by rw [R.len]; exact (List.length_set).symm, fun j k x y r hj hk hr jk oc => ?_⟩, dq⟩
  · by_cases hb : b = p
    · rw [hb, upd_same] at q
      cases q
      rw [hb]
      exact h5
    · rw [upd_ne hb] at q
      exact R.same b o q
  · rw [upd_ne (fun z => by rw [z, h3] at g; cases g)]
    exact R.apart b o g
  · rcases set_get hx with ⟨rfl, rfl⟩ | ⟨ne, hx⟩
    · exact ⟨_, h1, dq⟩
    · have q := R.sl j x hx
      cases x with
      | un => exact True.intro
      | d x =>
        obtain ⟨v, a, b⟩ := q
        exact ⟨v, a, b.mono sF⟩
      | o ys =>
        obtain ⟨p', vs', g1, g2, g3, g4, g5, g6⟩ := q
        have np : p' ≠ p := fun z => ne (R.sep j i ys xs p hx h (by rw [← z]; exact g1) h1)
        exact ⟨p', vs', g1, by rw [upd_ne np]; exact g2, g3, g4, g5, g6.mono sF⟩
      | pl => exact q
      | sc ns =>
        obtain ⟨a, g1, g2⟩ := q
        exact ⟨a, g1, sF.seq g2⟩
      | tb p' qs xss => exact q.tbUp rfl sF fun r o hr g1 g2 g3 g4 => ⟨by rw [upd_ne (fun z => R.tbs j i _ _ r hx h hr ne (occ_o rfl (by rw [z]; exact h1)))]; exact g1, g2, g3, g4⟩
  · rcases set_get hj with ⟨_, z⟩ | ⟨_, hj⟩
    · cases z
    · rcases set_get hk with ⟨_, z⟩ | ⟨_, hk⟩
      · cases z
      · exact R.sep j k ys zs r hj hk e1 e2
  · obtain ⟨g1, g2, g3⟩ := R.pool a ha
    exact ⟨by rw [upd_ne (fun z => h4 (by rw [← z]; exact ha))]; exact g1, g2, g3⟩
  · rcases set_get hj with ⟨_, rfl⟩ | ⟨_, hj⟩
    · cases hr
    · rcases set_get hk with ⟨_, rfl⟩ | ⟨_, hk⟩
      · rcases oc with z | ⟨⟨_, z⟩, _⟩
        · cases z
        · cases z
      · exact R.tbs j k x y r hj hk hr jk oc
/-- what is new at p -/
structure Nu (G : Hp) (P : Option Addr) (F : Hp) (σ : St) (s : S) (p : Addr) : Prop where
  f : F p = none
  g : G p = none
  np : P ≠ some p
  sl : ∀ (i : Nat) (xs : List PyData), s.e[i]? = some (.o xs) → σ[i]? ≠ some (some (.ref p))
  tb : ∀ (i : Nat) (x : Sl), s.e[i]? = some x → p ∉ tads x
theorem Rep.nu {p : Addr} (R : Rep K G P F H σ s) (h : H p = none) : Nu G P F σ s p where
  f := R.same.free h
  g := R.keep.free h
  np := fun z => by
    rw [(R.pool p z).2.2] at h
    cases h
  sl := fun i xs hx e => by
    obtain ⟨q, vs, h1, h2, h3, h4, h5, h6⟩ := R.sl i _ hx
    rw [e] at h1
    cases h1
    rw [h5] at h
    cases h
  tb := fun i x hx z => by
    obtain ⟨_, _, _, o, q⟩ := tad_at (R.sl i x hx) z
    rw [h] at q
    cases q
/-- a new list is frozen -/
theorem Rep.take {p : Addr} {vs : List V} {xs : List PyData} (R : Rep K G P F H σ s) (n : Nu G P F σ s p) (h : H p = some (.lst vs)) (d : DqA K F vs xs) :
    Rep K G P (upd F p (.lst vs)) H σ s ∧ Dq K (upd F p (.lst vs)) (.ref p) (.list xs) := by
  have sF : Same F (upd F p (.lst vs)) := same_new n.f
  refine ⟨⟨fun b o q => ?_, R.keep, fun b o g => ?_, fun j x hx => ?_, R.sep, fun a ha => ?_, R.len, R.tbs⟩, .lst upd_same (d.mono sF)⟩
  · by_cases hb : b = p
    · rw [hb, upd_same] at q
      cases q
      rw [hb]
      exact h
    · rw [upd_ne hb] at q
      exact R.same b o q
  · rw [upd_ne (fun z => by rw [z, n.g] at g; cases g)]
    exact R.apart b o g
  · have q := R.sl j x hx
    cases x with
    | un => exact True.intro
    | d x =>
      obtain ⟨v, a, b⟩ := q
      exact ⟨v, a, b.mono sF⟩
    | o ys =>
      obtain ⟨p', vs', g1, g2, g3, g4, g5, g6⟩ := q
      have np : p' ≠ p := fun z => n.sl j ys hx (by rw [← z]; exact g1)
      exact ⟨p', vs', g1, by rw [upd_ne np]; exact g2, g3, g4, g5, g6.mono sF⟩
    | pl => exact q
    | sc ns =>
      obtain ⟨a, g1, g2⟩ := q
      exact ⟨a, g1, sF.seq g2⟩
    | tb p' qs xss => exact q.tbUp rfl sF fun r o hr g1 g2 g3 g4 => ⟨by rw [upd_ne (fun z => n.tb j _ hx (by rw [← z]; exact hr))]; exact g1, g2, g3, g4⟩
  · obtain ⟨g1, g2, g3⟩ := R.pool a ha
    exact ⟨by rw [upd_ne (fun z => n.np (by rw [← z]; exact ha))]; exact g1, g2, g3⟩
theorem set_self {σ : St} {i : Nat} {v : V} (h : i < σ.length) : (σ.set i (some v))[i]? = some (some v) := List.getElem?_set_self h
/-- data stored -/
theorem put_len {σ : St} {s : S} {i : Nat} {v : Option V} {x : Sl} (h : σ.length = s.e.length) : (σ.set i v).length = (s.put i x).e.length := by
  show (σ.set i v).length = (s.e.set i x).length
  rw [List.length_set, List.length_set, h]
theorem put_lt {s : S} {i : Nat} {x y : Sl} (h : (s.put i x).e[i]? = some y) : i < s.e.length := by
  have h2 := (List.getElem?_eq_some_iff.mp h).1
  have e : (s.put i x).e.length = s.e.length := List.length_set
  omega
theorem Rep.setD {i : Nat} {v : V} {x : PyData} (R : Rep K G P F H σ s) (d : Dq K F v x) : Rep K G P F H (σ.set i (some v)) (s.put i (.d x)) := by
  refine ⟨R.same, R.keep, R.apart, fun j y hy => ?_, fun j k ys zs r hj hk e1 e2 => ?_, R.pool, put_len R.len, fun j k y z r hj hk hr jk oc => ?_⟩
  · have hy0 := hy
    rcases set_get hy with ⟨rfl, rfl⟩ | ⟨ne, hy⟩
    · exact ⟨v, set_self (by rw [R.len]; exact put_lt hy0), d⟩
    · have q := R.sl j y hy
      cases y with
      | un => exact True.intro
      | d y =>
        obtain ⟨u, a, b⟩ := q
        exact ⟨u, by rw [List.getElem?_set_ne (Ne.symm ne)]; exact a, b⟩
      | o ys =>
        obtain ⟨p', vs', g1, g2⟩ := q
        exact ⟨p', vs', by rw [List.getElem?_set_ne (Ne.symm ne)]; exact g1, g2⟩
      | pl =>
        obtain ⟨a, h1, h2⟩ := q
        exact ⟨a, h1, by rw [List.getElem?_set_ne (Ne.symm ne)]; exact h2⟩
      | sc ns =>
        obtain ⟨a, h1, h2⟩ := q
        exact ⟨a, by rw [List.getElem?_set_ne (Ne.symm ne)]; exact h1, h2⟩
      | tb p' qs xss => exact q.tbUp (List.getElem?_set_ne (Ne.symm ne)) (Same.refl F) fun r o hr g1 g2 g3 g4 => ⟨g1, g2, g3, g4⟩
  · rcases set_get hj with ⟨_, z⟩ | ⟨nj, hj⟩
    · cases z
    · rcases set_get hk with ⟨_, z⟩ | ⟨nk, hk⟩
      · cases z
      · rw [List.getElem?_set_ne (Ne.symm nj)] at e1
        rw [List.getElem?_set_ne (Ne.symm nk)] at e2
        exact R.sep j k ys zs r hj hk e1 e2
  · rcases set_get hj with ⟨_, rfl⟩ | ⟨_, hj⟩
    · cases hr
    · rcases set_get hk with ⟨_, rfl⟩ | ⟨nk, hk⟩
      · rcases oc with z | ⟨⟨_, z⟩, _⟩
        · cases z
        · cases z
      · refine R.tbs j k y z r hj hk hr jk ?_
        rcases oc with q | ⟨q, q2⟩
        · exact .inl q
        · rw [List.getElem?_set_ne (Ne.symm nk)] at q2
          exact .inr ⟨q, q2⟩
/-- a new list stored, one's own -/
theorem Rep.setO {i : Nat} {p : Addr} {vs : List V} {xs : List PyData} (R : Rep K G P F H σ s) (n : Nu G P F σ s p) (h : H p = some (.lst vs)) (d : DqA K F vs xs) : Rep K G P F H (σ.set i (some (.ref p))) (s.put i (.o xs)) := by
  refine ⟨R.same, R.keep, R.apart, fun j y hy => ?_, fun j k ys zs r hj hk e1 e2 => ?_, R.pool, put_len R.len, fun j k y z r hj hk hr jk oc => ?_⟩
  · have hy0 := hy
    rcases set_get hy with ⟨rfl, rfl⟩ | ⟨ne, hy⟩
    · exact ⟨p, vs, set_self (by rw [R.len]; exact put_lt hy0), n.f, n.g, n.np, h, d⟩
    · have q := R.sl j y hy
      cases y with
      | un => exact True.intro
      | d y =>
        obtain ⟨u, a, b⟩ := q
        exact ⟨u, by rw [List.getElem?_set_ne (Ne.symm ne)]; exact a, b⟩
      | o ys =>
        obtain ⟨p', vs', g1, g2⟩ := q
        exact ⟨p', vs', by rw [List.getElem?_set_ne (Ne.symm ne)]; exact g1, g2⟩
      | pl =>
        obtain ⟨a, h1, h2⟩ := q
        exact ⟨a, h1, by rw [List.getElem?_set_ne (Ne.symm ne)]; exact h2⟩
      | sc ns =>
        obtain ⟨a, h1, h2⟩ := q
        exact ⟨a, by rw [List.getElem?_set_ne (Ne.symm ne)]; exact h1, h2⟩
      | tb p' qs xss => exact q.tbUp (List.getElem?_set_ne (Ne.symm ne)) (Same.refl F) fun r o hr g1 g2 g3 g4 => ⟨g1, g2, g3, g4⟩
  · have hj0 := hj
    have hk0 := hk
    rcases set_get hj with ⟨rfl, z⟩ | ⟨nj, hj2⟩
    · rcases set_get hk with ⟨rfl, z2⟩ | ⟨nk, hk2⟩
      · rfl
      · rw [List.getElem?_set_ne (Ne.symm nk)] at e2
        rw [set_self (by rw [R.len]; exact put_lt hj0)] at e1
        cases e1
        exact absurd e2 (n.sl k zs hk2)
    · rw [List.getElem?_set_ne (Ne.symm nj)] at e1
      rcases set_get hk with ⟨rfl, z2⟩ | ⟨nk, hk2⟩
      · rw [set_self (by rw [R.len]; exact put_lt hk0)] at e2
        cases e2
        exact absurd e1 (n.sl j ys hj2)
      · rw [List.getElem?_set_ne (Ne.symm nk)] at e2
        exact R.sep j k ys zs r hj2 hk2 e1 e2
  · rcases set_get hj with ⟨_, rfl⟩ | ⟨_, hj2⟩
    · cases hr
    · have hk0 := hk
      rcases set_get hk with ⟨rfl, rfl⟩ | ⟨nk, hk⟩
      · rcases oc with z | ⟨_, z⟩
        · cases z
        · rw [set_self (by rw [R.len]; exact put_lt hk0)] at z
          cases z
          exact n.tb j y hj2 hr
      · refine R.tbs j k y z r hj2 hk hr jk ?_
        rcases oc with q | ⟨q, q2⟩
        · exact .inl q
        · rw [List.getElem?_set_ne (Ne.symm nk)] at q2
          exact .inr ⟨q, q2⟩
/-- a slot's own list changed -/
theorem Rep.wrO {i : Nat} {p : Addr} {ws : List V} {xs ys : List PyData} (R : Rep K G P F H σ s) (h : s.e[i]? = some (.o xs)) (e : σ[i]? = some (some (.ref p))) (d : DqA K F ws ys) :
    Rep K G P F (upd H p (.lst ws)) σ (s.put i (.o ys)) := by
  obtain ⟨p0, vs0, h1, h2, h3, h4, h5, h6⟩ := R.sl i _ h
  rw [e] at h1
  cases h1
  refine ⟨fun b o q => ?_, fun b o q => ?_, R.apart, fun j y hy => ?_, fun j k us zs r hj hk e1 e2 => ?_, fun a ha => ?_, by rw [R.len]; exact (List.length_set).symm, fun j k y z r hj hk hr jk oc => ?_⟩
  · rw [upd_ne (fun z => by rw [z, h2] at q; cases q)]
    exact R.same b o q
  · rw [upd_ne (fun z => by rw [z, h3] at q; cases q)]
    exact R.keep b o q
  · rcases set_get hy with ⟨rfl, rfl⟩ | ⟨ne, hy⟩
    · exact ⟨p, ws, e, h2, h3, h4, upd_same, d⟩
    · have q := R.sl j y hy
      cases y with
      | un => exact True.intro
      | d y => exact q
      | o us =>
        obtain ⟨p', vs', g1, g2, g3, g4, g5, g6⟩ := q
        have np : p' ≠ p := fun z => ne (R.sep j i us xs p hy h (by rw [← z]; exact g1) e)
        exact ⟨p', vs', g1, g2, g3, g4, by rw [upd_ne np]; exact g5, g6⟩
      | pl => exact q
      | sc ns => exact q
      | tb p' qs xss => exact SlOk.tbUp (F := F) (F' := F) q rfl (Same.refl F) fun r o hr g1 g2 g3 g4 => ⟨g1, g2, g3, by rw [upd_ne (fun z => R.tbs j i _ _ r hy h hr ne (occ_o rfl (by rw [z]; exact e)))]; exact g4⟩
  · have hj' : ∃ us', s.e[j]? = some (.o us') := by
      rcases set_get hj with ⟨rfl, _⟩ | ⟨_, hj⟩
      · exact ⟨_, h⟩
      · exact ⟨_, hj⟩
    have hk' : ∃ us', s.e[k]? = some (.o us') := by
      rcases set_get hk with ⟨rfl, _⟩ | ⟨_, hk⟩
      · exact ⟨_, h⟩
      · exact ⟨_, hk⟩
    obtain ⟨a, ha⟩ := hj'
    obtain ⟨b, hb⟩ := hk'
    exact R.sep j k a b r ha hb e1 e2
  · obtain ⟨g1, g2, g3⟩ := R.pool a ha
    exact ⟨g1, g2, by rw [upd_ne (fun z => h4 (by rw [← z]; exact ha))]; exact g3⟩
  · rcases set_get hj with ⟨_, rfl⟩ | ⟨_, hj⟩
    · cases hr
    · rcases set_get hk with ⟨e4, e5⟩ | ⟨nk, hk⟩
      · rcases oc with z | ⟨_, z⟩
        · rw [e5] at z
          cases z
        · exact R.tbs j i y _ r hj h hr (by rw [← e4]; exact jk) (occ_o rfl (by rw [← e4]; exact z))
      · exact R.tbs j k y z r hj hk hr jk oc
/-- a table's rows as frozen data -/
theorem Rep.rowsD : ∀ {qs : List Addr} {xss : List (List PyData)} {F1 : Hp}, RowsOk K G P F H qs xss → Same F F1 → qs.Nodup → (∀ q, q ∈ qs → F1 q = none) → (∀ b o, F1 b = some o → H b = some o) →
    ∃ F2, Same F1 F2 ∧ (∀ b o, F2 b = some o → H b = some o) ∧ DqA K F2 (qs.map V.ref) (xss.map .list) ∧ ∀ b, b ∉ qs → F2 b = F1 b
  | [], _, F1, h, e, nd, hn, hs => by
    cases h
    exact ⟨F1, Same.refl F1, hs, .nil, fun _ _ => rfl⟩
  | q :: qs, _, F1, h, e, nd, hn, hs => by
    cases h with
    | @cons _ vs xs _ xss h1 h2 h3 h4 h5 h6 =>
      have nq : q ∉ qs := (List.nodup_cons.mp nd).1
      have e1 : Same F1 (upd F1 q (.lst vs)) := same_new (hn q List.mem_cons_self)
      obtain ⟨F2, a, b, c, d⟩ := Rep.rowsD (F1 := upd F1 q (.lst vs)) h6 (e.trans e1) (List.nodup_cons.mp nd).2 (fun r hr => by
        rw [upd_ne (fun z => nq (by rw [← z]; exact hr))]
        exact hn r (List.mem_cons_of_mem _ hr)) (fun b o z => by
        by_cases hb : b = q
        · rw [hb, upd_same] at z
          cases z
          rw [hb]
          exact h4
        · rw [upd_ne hb] at z
          exact hs b o z)
      exact ⟨F2, e1.trans a, b, .cons (.lst (a _ _ upd_same) (h5.mono ((e.trans e1).trans a))) c, fun r hr => by
        rw [d r (fun z => hr (List.mem_cons_of_mem _ z)), upd_ne (fun z => hr (by rw [z]; exact List.mem_cons_self))]⟩
/-- a slot's table is frozen -/
theorem Rep.freezeT {i : Nat} {p : Addr} {qs : List Addr} {xss : List (List PyData)} (R : Rep K G P F H σ s) (h : s.e[i]? = some (.tb p qs xss)) : σ[i]? = some (some (.ref p)) ∧
    ∃ F', Same F F' ∧ Rep K G P F' H σ (s.put i (.d (.list (xss.map .list)))) ∧ Dq K F' (.ref p) (.list (xss.map .list)) := by
  have q0 := R.sl i _ h
  obtain ⟨h1, h2, h3, h4, h5, h6, h7⟩ := q0
  refine ⟨h1, ?_⟩
  have np : p ∉ qs := (List.nodup_cons.mp h6).1
  obtain ⟨F2, a, b, c, d⟩ := Rep.rowsD (F1 := F) h7 (Same.refl F) (List.nodup_cons.mp h6).2 (fun q hq => (h7.at' q hq).1) R.same
  have pF2 : F2 p = none := by rw [d p np]; exact h2
  have e3 : Same F2 (upd F2 p (.lst (qs.map V.ref))) := same_new pF2
  have e : Same F (upd F2 p (.lst (qs.map V.ref))) := a.trans e3
  have out : ∀ r, r ∉ p :: qs → (upd F2 p (.lst (qs.map V.ref))) r = F r := fun r hr => by
    rw [upd_ne (fun z => hr (by rw [z]; exact List.mem_cons_self)), d r (fun z => hr (List.mem_cons_of_mem _ z))]
  have dq : Dq K (upd F2 p (.lst (qs.map V.ref))) (.ref p) (.list (xss.map .list)) := .lst upd_same (c.mono e3)
  refine ⟨_, e, ⟨fun b' o q => ?_, R.keep, fun b' o g => ?_, fun j x hx => ?_, fun j k ys zs r hj hk e1 e2 => ?_, fun a' ha => ?_, by rw [R.len]; exact (List.length_set).symm, fun j k x y r hj hk hr jk oc => ?_⟩, dq⟩
  · by_cases hb : b' = p
    · rw [hb, upd_same] at q
      cases q
      rw [hb]
      exact h5
    · rw [upd_ne hb] at q
      exact b b' o q
  · rw [out b' (fun z => by
      obtain ⟨_, q2, _⟩ := tad_at (R.sl i _ h) z
      rw [q2] at g
      cases g)]
    exact R.apart b' o g
  · rcases set_get hx with ⟨rfl, rfl⟩ | ⟨ne, hx⟩
    · exact ⟨_, h1, dq⟩
    · have q := R.sl j x hx
      cases x with
      | un => exact True.intro
      | d x =>
        obtain ⟨v, a, b⟩ := q
        exact ⟨v, a, b.mono e⟩
      | o ys =>
        obtain ⟨p', vs', g1, g2, g3, g4, g5, g6⟩ := q
        exact ⟨p', vs', g1, by rw [out p' (fun z => R.tbs i j _ _ p' h hx z (Ne.symm ne) (occ_o rfl g1))]; exact g2, g3, g4, g5, g6.mono e⟩
      | pl => exact q
      | sc ns =>
        obtain ⟨a, g1, g2⟩ := q
        exact ⟨a, g1, e.seq g2⟩
      | tb p' qs' xss' => exact q.tbUp rfl e fun r o hr g1 g2 g3 g4 => ⟨by rw [out r (fun z => R.tbs i j _ _ r h hx z (Ne.symm ne) (.inl hr))]; exact g1, g2, g3, g4⟩
  · rcases set_get hj with ⟨_, z⟩ | ⟨_, hj⟩
    · cases z
    · rcases set_get hk with ⟨_, z⟩ | ⟨_, hk⟩
      · cases z
      · exact R.sep j k ys zs r hj hk e1 e2
  · obtain ⟨g1, g2, g3⟩ := R.pool a' ha
    exact ⟨by rw [out a' (fun z => (tad_at (R.sl i _ h) z).2.2.1 (by rw [ha]))]; exact g1, g2, g3⟩
  · rcases set_get hj with ⟨_, rfl⟩ | ⟨_, hj⟩
    · cases hr
    · rcases set_get hk with ⟨_, rfl⟩ | ⟨_, hk⟩
      · rcases oc with z | ⟨⟨_, z⟩, _⟩
        · cases z
        · cases z
      · exact R.tbs j k x y r hj hk hr jk oc
end

/-! ### readings by data -/
abbrev DE := S → (PyData → S → Prop) → Prop
abbrev DA := S → (List PyData → S → Prop) → Prop
abbrev DT := S → (Bool → S → Prop) → Prop
def tE (K : PySem.W.Frag) (w : DE) : TE := fun σ H Q => ∃ G P F s Φ, Rep K G P F H σ s ∧ w s Φ ∧ ∀ v F' H' s' x, Rep K G P F' H' σ s' → Same F F' → Dq K F' v x → Φ x s' → Q v H'
def tA (K : PySem.W.Frag) (w : DA) : TA := fun σ H Q => ∃ G P F s Φ, Rep K G P F H σ s ∧ w s Φ ∧ ∀ vs F' H' s' xs, Rep K G P F' H' σ s' → Same F F' → DqA K F' vs xs → Φ xs s' → Q vs H'
def tT (K : PySem.W.Frag) (w : DT) : TT := fun σ H Q => ∃ G P F s Φ, Rep K G P F H σ s ∧ w s Φ ∧ ∀ b F' H' s', Rep K G P F' H' σ s' → Same F F' → Φ b s' → Q b H'
/-- a new list -/
def tL (K : PySem.W.Frag) (w : DA) : TE := fun σ H Q => ∃ G P F s Φ, Rep K G P F H σ s ∧ w s Φ ∧
  ∀ p vs F' H' s' xs, Rep K G P F' H' σ s' → Same F F' → Nu G P F' σ s' p → H' p = some (.lst vs) → DqA K F' vs xs → Φ xs s' → Q (.ref p) H'
abbrev XE (X : Cx) (e : Expr) (w : DE) : Prop := PE X e (tE X.K w)
abbrev XA (X : Cx) (es : List Expr) (w : DA) : Prop := PA X es (tA X.K w)
abbrev XT (X : Cx) (e : Expr) (w : DT) : Prop := PT X e (tT X.K w)
abbrev XW (X : Cx) (e : Expr) (w : DT) : Prop := PW X e (tT X.K w)
abbrev XL (X : Cx) (e : Expr) (w : DA) : Prop := PE X e (tL X.K w)
section
variable {X : Cx} {e a b c : Expr} {es rest : List Expr}
theorem pe_imp {t t' : TE} (h : PE X e t) (i : ∀ σ H Q, t' σ H Q → t σ H Q) : PE X e t' := ⟨fun pins s σ H Q I q => h.run pins s σ H Q I (i _ _ _ q)⟩
theorem pa_imp {t t' : TA} (h : PA X es t) (i : ∀ σ H Q, t' σ H Q → t σ H Q) : PA X es t' := ⟨fun pos pins s σ H Q I q => h.run pos pins s σ H Q I (i _ _ _ q)⟩
theorem pt_imp {t t' : TT} (h : PT X e t) (i : ∀ σ H Q, t' σ H Q → t σ H Q) : PT X e t' := ⟨fun pins s σ H Q I q => h.run pins s σ H Q I (i _ _ _ q)⟩
theorem pw_imp {t t' : TT} (h : PW X e t) (i : ∀ σ H Q, t' σ H Q → t σ H Q) : PW X e t' := ⟨fun wh pins s σ H Q I q => h.run wh pins s σ H Q I (i _ _ _ q)⟩

/-! names, constants -/
@[simp] def wC (x : PyData) : DE := fun s Φ => Φ x s
@[simp] def wVar (i : Nat) : DE := fun s Φ => match s.e[i]? with
  | some (.d x) => Φ x s
  | some (.o xs) => Φ (.list xs) (s.put i (.d (.list xs)))
  | some (.tb _ _ xss) => Φ (.list (xss.map .list)) (s.put i (.d (.list (xss.map .list))))
  | _ => False
theorem c_of {K : PySem.W.Frag} {v : V} {x : PyData} (d : ∀ F, Dq K F v x) (σ : St) (H : Hp) (Q : VK) (h : tE K (wC x) σ H Q) : Q v H := by
  obtain ⟨G, P, F, s, Φ, R, h, k⟩ := h
  exact k v F H s x R (Same.refl F) (d F) h
theorem xe_int {i j pos} : XE X (.Constant (.int i) j pos) (wC (.int i)) := pe_imp pe_int (c_of fun _ => .int i)
theorem xe_bl {i j pos} : XE X (.Constant (.bool i) j pos) (wC (.bool i)) := pe_imp pe_bl (c_of fun _ => .bl i)
theorem xe_non {j pos} : XE X (.Constant .none j pos) (wC .none) := pe_imp pe_non (c_of fun _ => .non)
theorem xe_str {x j pos} : XE X (.Constant (.str x) j pos) (wC (.str x)) := pe_imp pe_str (c_of fun _ => .str x)
theorem xe_var (i : Nat) {x : Str} {pos : Pos} (hN : X.N[i]? = some x := by rfl) (hv : Vis X.env.scope x := by first | exact Or.inl rfl | exact Or.inr (Or.inl rfl) | exact Or.inr (Or.inr rfl)) (hd : (x == ("__debug__" : Str)) = false := by decide)
    (hcd : (x == ("__classdict__" : Str)) = false := by decide) : XE X (.Name x pos) (wVar i) := by
  refine pe_imp (pe_var hN hv hd hcd) fun σ H Q h => ?_
  obtain ⟨G, P, F, s, Φ, R, h, k⟩ := h
  unfold wVar at h
  cases hs : s.e[i]? with
  | none =>
    rw [hs] at h
    exact h.elim
  | some x =>
    rw [hs] at h
    cases x with
    | un => exact h.elim
    | pl => exact h.elim
    | sc ns => exact h.elim
    | d x =>
      obtain ⟨v, a, b⟩ := R.sl i _ hs
      exact ⟨v, a, k v F H s x R (Same.refl F) b h⟩
    | o xs =>
      obtain ⟨p, vs, h1, h2, h3, R', d⟩ := R.freeze hs
      exact ⟨_, h1, k _ _ H _ _ R' (same_new h3) d h⟩
    | tb p qs xss =>
      obtain ⟨h1, F', e, R', d⟩ := R.freezeT hs
      exact ⟨_, h1, k _ _ H _ _ R' e d h⟩
/-- a constant of the module -/
theorem xe_glob {x : Str} {v : V} {u : Value} {d : PyData} {pos : Pos} (hg : Gl X x) (hm : X.mg x = some u) (r : RelV v u) (hd : ∀ F, Dq X.K F v d) (hdb : (x == ("__debug__" : Str)) = false := by decide) : XE X (.Name x pos) (wC d) :=
  pe_imp (pe_glob hg hm r hdb) (c_of hd)

/-! operations -/
abbrev W2 := PyData → PyData → (PyData → Prop) → Prop
structure Op2 (K : PySem.W.Frag) (r : R2) (w : W2) : Prop where
  run : ∀ {F H : Hp} {x y : V} {dx dy : PyData} (Q : VK) (Φ : PyData → Prop), Same F H → Dq K F x dx → Dq K F y dy → w dx dy Φ → (∀ v F' H' d, Fresh F H F' H' → Dq K F' v d → Φ d → Q v H') → r x y H Q
def rOr (r r' : R2) : R2 := fun x y H Q => r x y H Q ∨ r' x y H Q
theorem opr_or {f : Value → Value → Sem Value} {r r' : R2} (h : OpR X f r) (h' : OpR X f r') : OpR X f (rOr r r') := fun pins s σ H x y v u Q I rx ry q => by
  rcases q with q | q
  · exact h pins s σ H x y v u Q I rx ry q
  · exact h' pins s σ H x y v u Q I rx ry q
theorem Op2.inl {K : PySem.W.Frag} {r r' : R2} {w : W2} (h : Op2 K r w) : Op2 K (rOr r r') w := ⟨fun Q Φ a b c d e => .inl (h.run Q Φ a b c d e)⟩
theorem Op2.inr {K : PySem.W.Frag} {r r' : R2} {w : W2} (h : Op2 K r' w) : Op2 K (rOr r r') w := ⟨fun Q Φ a b c d e => .inr (h.run Q Φ a b c d e)⟩
theorem Op2.or {K : PySem.W.Frag} {r r' : R2} {w w' v : W2} (h : Op2 K r w) (h' : Op2 K r' w') (i : ∀ x y Φ, v x y Φ → w x y Φ ∨ w' x y Φ) : Op2 K (rOr r r') v := ⟨fun Q Φ a b c d e => by
  rcases i _ _ _ d with d | d
  · exact .inl (h.run Q Φ a b c d e)
  · exact .inr (h'.run Q Φ a b c d e)⟩
@[simp] def wBin (w : W2) (wa wb : DE) : DE := fun s Φ => wa s fun x s1 => wb s1 fun y s2 => w x y fun z => Φ z s2
theorem bin_of {K : PySem.W.Frag} {r : R2} {w : W2} {wa wb : DE} (O : Op2 K r w) (σ : St) (H : Hp) (Q : VK) (h : tE K (wBin w wa wb) σ H Q) : tOp r (tE K wa) (tE K wb) σ H Q := by
  obtain ⟨G, P, F, s, Φ, R, h, k⟩ := h
  refine ⟨G, P, F, s, _, R, h, fun x F1 H1 s1 dx R1 e1 d1 h1 => ⟨G, P, F1, s1, _, R1, h1, fun y F2 H2 s2 dy R2 e2 d2 h2 => ?_⟩⟩
  exact O.run Q _ R2.same (d1.mono e2) d2 h2 fun v F3 H3 d f dq q => k v F3 H3 s2 d (R2.fresh f) ((e1.trans e2).trans f.ff) dq q
theorem xe_op {op : Operator} {r : R2} {w : W2} {wa wb : DE} {pos : Pos} (ho : OpR X (binaryOp op) r) (O : Op2 X.K r w) (ha : XE X a wa) (hb : XE X b wb) : XE X (.BinOp a op b pos) (wBin w wa wb) :=
  pe_imp (pe_op ho ha hb) (bin_of O)
theorem xe_cmp {op : CmpOp} {r : R2} {w : W2} {wa wb : DE} {pos : Pos} (ho : OpR X (compareOp op) r) (O : Op2 X.K r w) (ha : XE X a wa) (hb : XE X b wb) (hm : behindInMarks op b = false := by first | exact nobehind _ (by decide) (by decide) | rfl) :
    XE X (.Compare a [op] [b] pos) (wBin w wa wb) := pe_imp (pe_cmpR ho ha hb hm) (bin_of O)
theorem xe_ixR {r : R2} {w : W2} {wa wb : DE} {pos : Pos} (ho : IxR X r) (O : Op2 X.K r w) (ha : XE X a wa) (hb : XE X b wb) (hs : PlainIx b := by exact fun _ _ => rfl) : XE X (.Subscript a b pos) (wBin w wa wb) :=
  pe_imp (pe_ix ho ha hb hs) (bin_of O)
abbrev W1 := PyData → (PyData → Prop) → Prop
structure Op1 (K : PySem.W.Frag) (r : V → Hp → VK → Prop) (w : W1) : Prop where
  run : ∀ {F H : Hp} {x : V} {dx : PyData} (Q : VK) (Φ : PyData → Prop), Same F H → Dq K F x dx → w dx Φ → (∀ v F' H' d, Fresh F H F' H' → Dq K F' v d → Φ d → Q v H') → r x H Q
@[simp] def wUn (w : W1) (wa : DE) : DE := fun s Φ => wa s fun x s1 => w x fun z => Φ z s1
theorem xe_un {op : UnaryOp} {r : V → Hp → VK → Prop} {w : W1} {wa : DE} {pos : Pos} (ho : UnR X (unaryOp op) r) (O : Op1 X.K r w) (ha : XE X a wa) : XE X (.UnaryOp op a pos) (wUn w wa) :=
  pe_imp (pe_un ho ha) fun σ H Q h => by
    obtain ⟨G, P, F, s, Φ, R, h, k⟩ := h
    refine ⟨G, P, F, s, _, R, h, fun x F1 H1 s1 dx R1 e1 d1 h1 => ?_⟩
    exact O.run Q _ R1.same d1 h1 fun v F3 H3 d f dq q => k v F3 H3 s1 d (R1.fresh f) (e1.trans f.ff) dq q

/-! argument lists, displays -/
@[simp] def wNil : DA := fun s Φ => Φ [] s
@[simp] def wCons (wa : DE) (wr : DA) : DA := fun s Φ => wa s fun x s1 => wr s1 fun xs s2 => Φ (x :: xs) s2
theorem xa_nil : XA X [] wNil := pa_imp pa_nil fun σ H Q h => by
  obtain ⟨G, P, F, s, Φ, R, h, k⟩ := h
  exact k [] F H s [] R (Same.refl F) .nil h
theorem xa_cons {wa : DE} {wr : DA} (ha : XE X e wa) (hr : XA X es wr) (hs : starEach (e :: es) X.env = (false, eval e X.env) :: starEach es X.env := by rfl) : XA X (e :: es) (wCons wa wr) :=
  pa_imp (pa_cons ha hr hs) fun σ H Q h => by
    obtain ⟨G, P, F, s, Φ, R, h, k⟩ := h
    refine ⟨G, P, F, s, _, R, h, fun x F1 H1 s1 dx R1 e1 d1 h1 => ⟨G, P, F1, s1, _, R1, h1, fun xs F2 H2 s2 ds R2 e2 d2 h2 => ?_⟩⟩
    exact k _ F2 H2 s2 _ R2 (e1.trans e2) (.cons (d1.mono e2) d2) h2
@[simp] def wTup (w : DA) : DE := fun s Φ => w s fun xs s1 => xs.length ≤ sizeLine ∧ Φ (.tuple xs) s1
theorem xe_tup {x1 pos} {w : DA} (h : XA X es w) : XE X (.Tuple es x1 pos) (wTup w) := pe_imp (pe_tup h) fun σ H Q h => by
  obtain ⟨G, P, F, s, Φ, R, h, k⟩ := h
  refine ⟨G, P, F, s, _, R, h, fun xs F1 H1 s1 ds R1 e1 d1 h1 => ⟨by rw [d1.length]; exact h1.1, fun p hp => ?_⟩⟩
  have f := Fresh.new (o := .tup xs) R1.same hp
  exact k _ _ _ s1 _ (R1.fresh f) (e1.trans f.ff) (.tup (SqT.of upd_same) (d1.mono f.ff)) h1.2
@[simp] def wLst (w : DA) : DA := fun s Φ => w s fun xs s1 => xs.length ≤ sizeLine ∧ Φ xs s1
theorem nu_new {K : PySem.W.Frag} {G F H : Hp} {P : Option Addr} {σ : St} {s : S} {p : Addr} {o : HO} (R : Rep K G P F H σ s) (hp : H p = none) : Rep K G P F (upd H p o) σ s ∧ Nu G P F σ s p :=
  ⟨R.fresh (Fresh.newH R.same hp), R.nu hp⟩
theorem xl_lst {pos} {w : DA} (h : XA X es w) : XL X (.List es pos) (wLst w) := pe_imp (pe_lst h) fun σ H Q h => by
  obtain ⟨G, P, F, s, Φ, R, h, k⟩ := h
  refine ⟨G, P, F, s, _, R, h, fun xs F1 H1 s1 ds R1 e1 d1 h1 => ⟨by rw [d1.length]; exact h1.1, fun p hp => ?_⟩⟩
  obtain ⟨R2, n⟩ := nu_new (o := .lst xs) R1 hp
  exact k _ _ _ _ s1 _ R2 e1 n upd_same d1 h1.2
/-- a new list as data -/
@[simp] def wFz (w : DA) : DE := fun s Φ => w s fun xs s1 => Φ (.list xs) s1
theorem fz_of {K : PySem.W.Frag} {w : DA} (σ : St) (H : Hp) (Q : VK) (h : tE K (wFz w) σ H Q) : tL K w σ H Q := by
  obtain ⟨G, P, F, s, Φ, R, h, k⟩ := h
  refine ⟨G, P, F, s, _, R, h, fun p vs F1 H1 s1 xs R1 e1 n hp d1 h1 => ?_⟩
  obtain ⟨R2, dq⟩ := R1.take n hp d1
  exact k _ _ _ s1 _ R2 (e1.trans (same_new n.f)) dq h1
theorem xl_fz {w : DA} (h : XL X e w) : XE X e (wFz w) := pe_imp h fz_of

/-! operations that make a list -/
abbrev W2L := PyData → PyData → (List PyData → Prop) → Prop
structure Op2L (K : PySem.W.Frag) (r : R2) (w : W2L) : Prop where
  run : ∀ {F H : Hp} {x y : V} {dx dy : PyData} (Q : VK) (Φ : List PyData → Prop), Same F H → Dq K F x dx → Dq K F y dy → w dx dy Φ → (∀ p vs ds, H p = none → DqA K F vs ds → Φ ds → Q (.ref p) (upd H p (.lst vs))) → r x y H Q
@[simp] def wBinL (w : W2L) (wa wb : DE) : DA := fun s Φ => wa s fun x s1 => wb s1 fun y s2 => w x y fun z => Φ z s2
theorem binL_of {K : PySem.W.Frag} {r : R2} {w : W2L} {wa wb : DE} (O : Op2L K r w) (σ : St) (H : Hp) (Q : VK) (h : tL K (wBinL w wa wb) σ H Q) : tOp r (tE K wa) (tE K wb) σ H Q := by
  obtain ⟨G, P, F, s, Φ, R, h, k⟩ := h
  refine ⟨G, P, F, s, _, R, h, fun x F1 H1 s1 dx R1 e1 d1 h1 => ⟨G, P, F1, s1, _, R1, h1, fun y F2 H2 s2 dy R2 e2 d2 h2 => ?_⟩⟩
  refine O.run Q _ R2.same (d1.mono e2) d2 h2 fun p vs ds hp dq q => ?_
  obtain ⟨R3, n⟩ := nu_new (o := .lst vs) R2 hp
  exact k p vs F2 _ s2 ds R3 (e1.trans e2) n upd_same dq q
theorem xl_op {op : Operator} {r : R2} {w : W2L} {wa wb : DE} {pos : Pos} (ho : OpR X (binaryOp op) r) (O : Op2L X.K r w) (ha : XE X a wa) (hb : XE X b wb) : XL X (.BinOp a op b pos) (wBinL w wa wb) :=
  pe_imp (pe_op ho ha hb) (binL_of O)
/-- one that makes a list, as one that gives data -/
theorem Op2L.op2 {K : PySem.W.Frag} {r : R2} {w : W2L} (O : Op2L K r w) : Op2 K r (fun x y Φ => w x y fun xs => Φ (.list xs)) := ⟨fun {F H x y dx dy} Q Φ e d1 d2 h k => O.run Q _ e d1 d2 h fun p vs ds hp dq q => by
  have f := Fresh.new (o := .lst vs) e hp
  exact k _ _ _ _ f (.lst upd_same (dq.mono f.ff)) q⟩

/-! tests -/
@[simp] def wTst (w : DE) : DT := fun s Φ => w s fun x s1 => match x with
  | .bool b => Φ b s1
  | _ => False
theorem tst_of {K : PySem.W.Frag} {w : DE} (σ : St) (H : Hp) (Q : Bool → Hp → Prop) (h : tT K (wTst w) σ H Q) : tE K w σ H fun x H1 => ∃ k, x = .bl k ∧ Q k H1 := by
  obtain ⟨G, P, F, s, Φ, R, h, k⟩ := h
  refine ⟨G, P, F, s, _, R, h, fun x F1 H1 s1 dx R1 e1 d1 h1 => ?_⟩
  cases dx with
  | bool b =>
    cases d1
    exact ⟨b, rfl, k b F1 H1 s1 R1 e1 h1⟩
  | _ => exact h1.elim
theorem xt_val {w : DE} (h : XE X e w) (he : ∀ whole, isTrue e X.env whole = (do let v ← whole; standAt e.pos; holding [v] (truthy v)) := by intro _; rfl) : XT X e (wTst w) := pt_imp (pt_val h he) tst_of
theorem xt_cmp {op : CmpOp} {r : R2} {w : W2} {wa wb : DE} {pos : Pos} (ho : OpR X (compareOp op) r) (O : Op2 X.K r w) (ha : XE X a wa) (hb : XE X b wb) (hm : behindInMarks op b = false := by first | exact nobehind _ (by decide) (by decide) | rfl) :
    XT X (.Compare a [op] [b] pos) (wTst (wBin w wa wb)) := pt_imp (pt_cmpR ho ha hb hm) fun σ H Q h => by
  obtain ⟨G, P, F, s, Φ, R, h, k⟩ := tst_of σ H Q h
  exact bin_of O σ H _ ⟨G, P, F, s, Φ, R, h, k⟩
@[simp] def wNot (w : DT) : DT := fun s Φ => w s fun b s1 => Φ (!b) s1
theorem xt_not {w : DT} {pos : Pos} (h : XT X a w) : XT X (.UnaryOp .Not a pos) (wNot w) := pt_imp (pt_not h) fun σ H Q h => by
  obtain ⟨G, P, F, s, Φ, R, h, k⟩ := h
  exact ⟨G, P, F, s, _, R, h, fun b F1 H1 s1 R1 e1 h1 => k (!b) F1 H1 s1 R1 e1 h1⟩
@[simp] def wAnd (w u : DT) : DT := fun s Φ => w s fun b s1 => if b = true then u s1 Φ else Φ false s1
@[simp] def wOr (w u : DT) : DT := fun s Φ => w s fun b s1 => if b = true then Φ true s1 else u s1 Φ
theorem and_of {K : PySem.W.Frag} {w u : DT} (σ : St) (H : Hp) (Q : Bool → Hp → Prop) (h : tT K (wAnd w u) σ H Q) : tAnd (tT K w) (tT K u) σ H Q := by
  obtain ⟨G, P, F, s, Φ, R, h, k⟩ := h
  refine ⟨G, P, F, s, _, R, h, fun b F1 H1 s1 R1 e1 h1 => ?_⟩
  cases b with
  | true =>
    rw [if_pos rfl] at h1 ⊢
    exact ⟨G, P, F1, s1, _, R1, h1, fun b F2 H2 s2 R2 e2 h2 => k b F2 H2 s2 R2 (e1.trans e2) h2⟩
  | false =>
    rw [if_neg Bool.false_ne_true] at h1 ⊢
    exact k false F1 H1 s1 R1 e1 h1
theorem or_of {K : PySem.W.Frag} {w u : DT} (σ : St) (H : Hp) (Q : Bool → Hp → Prop) (h : tT K (wOr w u) σ H Q) : tOr (tT K w) (tT K u) σ H Q := by
  obtain ⟨G, P, F, s, Φ, R, h, k⟩ := h
  refine ⟨G, P, F, s, _, R, h, fun b F1 H1 s1 R1 e1 h1 => ?_⟩
  cases b with
  | false =>
    rw [if_neg Bool.false_ne_true] at h1 ⊢
    exact ⟨G, P, F1, s1, _, R1, h1, fun b F2 H2 s2 R2 e2 h2 => k b F2 H2 s2 R2 (e1.trans e2) h2⟩
  | true =>
    rw [if_pos rfl] at h1 ⊢
    exact k true F1 H1 s1 R1 e1 h1
theorem xw_and1 {w : DT} {pos : Pos} (h : XT X a w) : XW X (.BoolOp .And [a] pos) w := pw_and1 h
theorem xw_or1 {w : DT} {pos : Pos} (h : XT X a w) : XW X (.BoolOp .Or [a] pos) w := pw_or1 h
theorem xw_and {w u : DT} {pos : Pos} (ha : XT X a w) (hb : XW X (.BoolOp .And (b :: rest) pos) u) : XW X (.BoolOp .And (a :: b :: rest) pos) (wAnd w u) := pw_imp (pw_and ha hb) and_of
theorem xw_or {w u : DT} {pos : Pos} (ha : XT X a w) (hb : XW X (.BoolOp .Or (b :: rest) pos) u) : XW X (.BoolOp .Or (a :: b :: rest) pos) (wOr w u) := pw_imp (pw_or ha hb) or_of
theorem xw_t {w : DT} (h : XW X e w) : XT X e w := PW.pt h
/-! the same as values: True and False -/
@[simp] def wAndV (w u : DE) : DE := fun s Φ => w s fun x s1 => match x with
  | .bool b => if b = true then u s1 Φ else Φ (.bool false) s1
  | _ => False
@[simp] def wOrV (w u : DE) : DE := fun s Φ => w s fun x s1 => match x with
  | .bool b => if b = true then Φ (.bool true) s1 else u s1 Φ
  | _ => False
@[simp] def wNotV (w : DE) : DE := fun s Φ => w s fun x s1 => match x with
  | .bool b => Φ (.bool (!b)) s1
  | _ => False
theorem xe_one {op} {w : DE} {pos : Pos} (h : XE X a w) : XE X (.BoolOp op [a] pos) w := pe_one h
theorem xe_and {w u : DE} {pos : Pos} (ha : XE X a w) (hb : XE X (.BoolOp .And (b :: rest) pos) u) : XE X (.BoolOp .And (a :: b :: rest) pos) (wAndV w u) := pe_imp (pe_and ha hb) fun σ H Q h => by
  obtain ⟨G, P, F, s, Φ, R, h, k⟩ := h
  refine ⟨G, P, F, s, _, R, h, fun x F1 H1 s1 dx R1 e1 d1 h1 => ?_⟩
  cases dx with
  | bool b =>
    cases d1
    refine ⟨b, rfl, ?_⟩
    cases b with
    | true =>
      rw [if_pos rfl]
      exact ⟨G, P, F1, s1, _, R1, h1, fun y F2 H2 s2 dy R2 e2 d2 h2 => k y F2 H2 s2 dy R2 (e1.trans e2) d2 h2⟩
    | false =>
      rw [if_neg Bool.false_ne_true]
      exact k _ F1 H1 s1 _ R1 e1 (.bl false) h1
  | _ => exact h1.elim
theorem xe_or {w u : DE} {pos : Pos} (ha : XE X a w) (hb : XE X (.BoolOp .Or (b :: rest) pos) u) : XE X (.BoolOp .Or (a :: b :: rest) pos) (wOrV w u) := pe_imp (pe_or ha hb) fun σ H Q h => by
  obtain ⟨G, P, F, s, Φ, R, h, k⟩ := h
  refine ⟨G, P, F, s, _, R, h, fun x F1 H1 s1 dx R1 e1 d1 h1 => ?_⟩
  cases dx with
  | bool b =>
    cases d1
    refine ⟨b, rfl, ?_⟩
    cases b with
    | false =>
      rw [if_neg Bool.false_ne_true]
      exact ⟨G, P, F1, s1, _, R1, h1, fun y F2 H2 s2 dy R2 e2 d2 h2 => k y F2 H2 s2 dy R2 (e1.trans e2) d2 h2⟩
    | true =>
      rw [if_pos rfl]
      exact k _ F1 H1 s1 _ R1 e1 (.bl true) h1
  | _ => exact h1.elim
theorem xe_not {w : DE} {pos : Pos} (ha : XE X a w) : XE X (.UnaryOp .Not a pos) (wNotV w) := pe_imp (pe_not ha) fun σ H Q h => by
  obtain ⟨G, P, F, s, Φ, R, h, k⟩ := h
  refine ⟨G, P, F, s, _, R, h, fun x F1 H1 s1 dx R1 e1 d1 h1 => ?_⟩
  cases dx with
  | bool b =>
    cases d1
    exact ⟨b, rfl, k _ F1 H1 s1 _ R1 e1 (.bl _) h1⟩
  | _ => exact h1.elim
@[simp] def wIfE (t : DT) (w u : DE) : DE := fun s Φ => t s fun b s1 => if b = true then w s1 Φ else u s1 Φ
theorem xe_if {t : DT} {w u : DE} {pos : Pos} (hc : XT X c t) (ha : XE X a w) (hb : XE X b u) : XE X (.IfExp c a b pos) (wIfE t w u) := pe_imp (pe_ifExp hc ha hb) fun σ H Q h => by
  obtain ⟨G, P, F, s, Φ, R, h, k⟩ := h
  refine ⟨G, P, F, s, _, R, h, fun b F1 H1 s1 R1 e1 h1 => ?_⟩
  cases b with
  | true =>
    rw [if_pos rfl] at h1 ⊢
    exact ⟨G, P, F1, s1, _, R1, h1, fun y F2 H2 s2 dy R2 e2 d2 h2 => k y F2 H2 s2 dy R2 (e1.trans e2) d2 h2⟩
  | false =>
    rw [if_neg Bool.false_ne_true] at h1 ⊢
    exact ⟨G, P, F1, s1, _, R1, h1, fun y F2 H2 s2 dy R2 e2 d2 h2 => k y F2 H2 s2 dy R2 (e1.trans e2) d2 h2⟩

/-! calls of built-in functions and types -/
abbrev WN := List PyData → (PyData → Prop) → Prop
structure OpN (K : PySem.W.Frag) (r : List V → Hp → VK → Prop) (w : WN) : Prop where
  run : ∀ {F H : Hp} {xs : List V} {ds : List PyData} (Q : VK) (Φ : PyData → Prop), Same F H → DqA K F xs ds → w ds Φ → (∀ v F' H' d, Fresh F H F' H' → Dq K F' v d → Φ d → Q v H') → r xs H Q
@[simp] def wCB (w : WN) (wa : DA) : DE := fun s Φ => wa s fun xs s1 => w xs fun z => Φ z s1
theorem cb_of {K : PySem.W.Frag} {r : List V → Hp → VK → Prop} {w : WN} {wa : DA} (O : OpN K r w) (σ : St) (H : Hp) (Q : VK) (h : tE K (wCB w wa) σ H Q) : tCB r (tA K wa) σ H Q := by
  obtain ⟨G, P, F, s, Φ, R, h, k⟩ := h
  refine ⟨G, P, F, s, _, R, h, fun xs F1 H1 s1 ds R1 e1 d1 h1 => ?_⟩
  exact O.run Q _ R1.same d1 h1 fun v F3 H3 d f dq q => k v F3 H3 s1 d (R1.fresh f) (e1.trans f.ff) dq q
theorem xe_callB {x : Str} {p pos : Pos} {id : String} {r : List V → Hp → VK → Prop} {w : WN} {wa : DA} (hc : CallR X (.builtin id) r) (O : OpN X.K r w) (hg : Gl X x) (hm : X.mg x = none) (hv : bootBuiltins x = some (.builtin id)) (ha : XA X (e :: es) wa)
    (hn : x ≠ "__name__" := by decide) (hdb : (x == ("__debug__" : Str)) = false := by decide) (he : starEach (e :: es) X.env = (false, eval e X.env) :: starEach es X.env := by rfl) (hpl : (backTo pos (starEach es X.env)).any (·.1) = false := by rfl) :
    XE X (.Call (.Name x p) (e :: es) [] pos) (wCB w wa) := pe_imp (pe_callB hc hg hm hv ha hn hdb he hpl) (cb_of O)
theorem xe_callTy {x : Str} {p pos : Pos} {T : String} {r : List V → Hp → VK → Prop} {w : WN} {wa : DA} (hc : CallR X (.type T) r) (O : OpN X.K r w) (hg : Gl X x) (hm : X.mg x = none) (hv : bootBuiltins x = some (.type T)) (ha : XA X (e :: es) wa)
    (hn : x ≠ "__name__" := by decide) (hdb : (x == ("__debug__" : Str)) = false := by decide) (he : starEach (e :: es) X.env = (false, eval e X.env) :: starEach es X.env := by rfl) (hpl : (backTo pos (starEach es X.env)).any (·.1) = false := by rfl) :
    XE X (.Call (.Name x p) (e :: es) [] pos) (wCB w wa) := pe_imp (pe_callTy hc hg hm hv ha hn hdb he hpl) (cb_of O)
end
end DL
/-! DL, second part: statements, loops, comprehensions, defs. -/
namespace DL
open PySem PySem.Spec L2

structure EN where
  nx : S → Prop
  rt : PyData → S → Prop
  bk : S → Prop := fun _ => False
  ct : S → Prop := fun _ => False
  rl : List PyData → S → Prop := fun _ _ => False
  ex : Str → List PyData → S → Prop := fun _ _ _ => False
/-- a wish about what is raised: the class's name, the error's own data -/
abbrev XWish := Str → List PyData → Hp → L2.St → Hp → Prop
/-- what X takes -/
def wishOf (X : Cx) : WX := fun cls d σ H => ∀ u s', L2.XE X (fun c e σ' H' => c = cls ∧ e = d ∧ σ' = σ ∧ H' = H) u s' → X.xe u s'
theorem takes_wish (X : Cx) : Takes X (wishOf X) := fun u s' ⟨a, B, sI, pins, σ, H, cls, d, e, I, nb, up, sky, na, os, ag, w⟩ => w u s' ⟨a, B, sI, pins, σ, H, cls, d, e, I, nb, up, sky, na, os, ag, rfl, rfl, rfl, rfl⟩
theorem wish_of {X : Cx} {W : WX} (t : Takes X W) {cls : Value} {d : Option Addr} {σ : L2.St} {H : Hp} (w : W cls d σ H) : wishOf X cls d σ H := fun u s' ⟨a, B, sI, pins, σ1, H1, cls1, d1, e, I, nb, up, sky, na, os, ag, e1, e2, e3, e4⟩ => by
  subst e1
  subst e2
  subst e3
  subst e4
  exact t u s' ⟨a, B, sI, pins, _, _, _, _, e, I, nb, up, sky, na, os, ag, w⟩
/-- the same over data: an error without data, or with one thing told by its own dict -/
def wX (X : Cx) : XWish := fun c xs F σ H => ∀ C, X.mg c = some (.ref C) → match xs with
  | [] => wishOf X (.ref C) none σ H
  | [x] => ∀ d v f, H d = some (.xd [(f, v)]) → Dq X.K F v x → wishOf X (.ref C) (some d) σ H
  | _ => False
abbrev DS := EN → S → Prop
/-- what is known of the ends -/
structure Beh (K : PySem.W.Frag) (G : Hp) (P : Option Addr) (F : Hp) (Φ : EN) (D : Ends) (W : XWish) : Prop where
  nx : ∀ σ' F' H' s', Rep K G P F' H' σ' s' → Same F F' → Φ.nx s' → D.nx σ' H'
  rt : ∀ v σ' F' H' s' x, Rep K G P F' H' σ' s' → Same F F' → Dq K F' v x → Φ.rt x s' → D.rt v H'
  bk : ∀ σ' F' H' s', Rep K G P F' H' σ' s' → Same F F' → Φ.bk s' → D.bk σ' H'
  ct : ∀ σ' F' H' s', Rep K G P F' H' σ' s' → Same F F' → Φ.ct s' → D.ct σ' H'
  rl : ∀ p vs σ' F' H' s' xs, Rep K G P F' H' σ' s' → Same F F' → Nu G P F' σ' s' p → H' p = some (.lst vs) → DqA K F' vs xs → Φ.rl xs s' → D.rt (.ref p) H'
  ex : ∀ c xs σ' F' H' s', Rep K G P F' H' σ' s' → Same F F' → Φ.ex c xs s' → W c xs F' σ' H'
theorem Beh.up {K : PySem.W.Frag} {G F F' : Hp} {P : Option Addr} {Φ : EN} {D : Ends} {W : XWish} (b : Beh K G P F Φ D W) (e : Same F F') : Beh K G P F' Φ D W :=
  ⟨fun σ' F2 H' s' R e2 => b.nx σ' F2 H' s' R (e.trans e2), fun v σ' F2 H' s' x R e2 => b.rt v σ' F2 H' s' x R (e.trans e2), fun σ' F2 H' s' R e2 => b.bk σ' F2 H' s' R (e.trans e2), fun σ' F2 H' s' R e2 => b.ct σ' F2 H' s' R (e.trans e2),
    fun p vs σ' F2 H' s' xs R e2 => b.rl p vs σ' F2 H' s' xs R (e.trans e2), fun c xs σ' F2 H' s' R e2 => b.ex c xs σ' F2 H' s' R (e.trans e2)⟩
def tS (K : PySem.W.Frag) (W : XWish) (w : DS) : TS := fun D σ H => ∃ G P F s Φ, Rep K G P F H σ s ∧ w Φ s ∧ Beh K G P F Φ D W
abbrev XS (X : Cx) (st : Stmt) (w : DS) : Prop := PS X st (tS X.K (wX X) w)
abbrev XSs (X : Cx) (st : List Stmt) (w : DS) : Prop := PSs X st (tS X.K (wX X) w)
section
variable {X : Cx} {st : Stmt} {sts rest : List Stmt} {e : Expr} {pos : Pos}
theorem ps_imp {t t' : TS} (h : PS X st t) (i : ∀ D σ H, t' D σ H → t D σ H) : PS X st t' := ⟨fun pins s σ H D I q => h.run pins s σ H D I (i _ _ _ q)⟩
theorem pss_imp {t t' : TS} (h : PSs X sts t) (i : ∀ D σ H, t' D σ H → t D σ H) : PSs X sts t' := ⟨fun pins s σ H D I q => h.run pins s σ H D I (i _ _ _ q)⟩
@[simp] def wNext : DS := fun Φ s => Φ.nx s
@[simp] def wSeq (w u : DS) : DS := fun Φ s => w { Φ with nx := u Φ } s
theorem xs_nil : XSs X [] wNext := pss_imp pss_nil fun D σ H h => by
  obtain ⟨G, P, F, s, Φ, R, h, b⟩ := h
  exact b.nx σ F H s R (Same.refl F) h
theorem xs_one {w : DS} (h : XS X st w) : XSs X [st] w := pss_one h
theorem xs_cons {w u : DS} (h : XS X st w) (hr : XSs X rest u) : XSs X (st :: rest) (wSeq w u) := pss_imp (pss_cons h hr) fun D σ H h => by
  obtain ⟨G, P, F, s, Φ, R, h, b⟩ := h
  exact ⟨G, P, F, s, _, R, h, ⟨fun σ' F' H' s' R' e q => ⟨G, P, F', s', Φ, R', q, b.up e⟩, b.rt, b.bk, b.ct, b.rl, b.ex⟩⟩
theorem xs_pass : XS X (.Pass pos) wNext := ps_imp ps_pass fun D σ H h => by
  obtain ⟨G, P, F, s, Φ, R, h, b⟩ := h
  exact b.nx σ F H s R (Same.refl F) h
@[simp] def wBk : DS := fun Φ s => Φ.bk s
@[simp] def wCt : DS := fun Φ s => Φ.ct s
theorem xs_break : XS X (.Break pos) wBk := ps_imp ps_break fun D σ H h => by
  obtain ⟨G, P, F, s, Φ, R, h, b⟩ := h
  exact b.bk σ F H s R (Same.refl F) h
theorem xs_continue : XS X (.Continue pos) wCt := ps_imp ps_continue fun D σ H h => by
  obtain ⟨G, P, F, s, Φ, R, h, b⟩ := h
  exact b.ct σ F H s R (Same.refl F) h
@[simp] def wExp (w : DE) : DS := fun Φ s => w s fun _ s1 => Φ.nx s1
theorem xs_expr {w : DE} (h : XE X e w) (hs : swapsWith e none pos.line X.env = pure false := by rfl) : XS X (.Expr e pos) (wExp w) := ps_imp (ps_expr h hs) fun D σ H h => by
  obtain ⟨G, P, F, s, Φ, R, h, b⟩ := h
  exact ⟨G, P, F, s, _, R, h, fun v F' H' s' x R' e _ q => b.nx σ F' H' s' R' e q⟩
@[simp] def wRet (w : DE) : DS := fun Φ s => w s Φ.rt
theorem xs_ret {w : DE} (h : XE X e w) : XS X (.Return (some e) pos) (wRet w) := ps_imp (ps_ret h) fun D σ H h => by
  obtain ⟨G, P, F, s, Φ, R, h, b⟩ := h
  exact ⟨G, P, F, s, _, R, h, fun v F' H' s' x R' e d q => b.rt v σ F' H' s' x R' e d q⟩
/-- return of a new list -/
@[simp] def wRetL (w : DA) : DS := fun Φ s => w s Φ.rl
theorem xs_retL {w : DA} (h : XL X e w) : XS X (.Return (some e) pos) (wRetL w) := ps_imp (ps_ret h) fun D σ H h => by
  obtain ⟨G, P, F, s, Φ, R, h, b⟩ := h
  exact ⟨G, P, F, s, _, R, h, fun p vs F' H' s' xs R' e n hp d q => b.rl p vs σ F' H' s' xs R' e n hp d q⟩
@[simp] def wRetN : DS := fun Φ s => Φ.rt .none s
theorem xs_retN : XS X (.Return none pos) wRetN := ps_imp ps_retN fun D σ H h => by
  obtain ⟨G, P, F, s, Φ, R, h, b⟩ := h
  exact b.rt _ σ F H s _ R (Same.refl F) .non h
@[simp] def wIfS (t : DT) (w u : DS) : DS := fun Φ s => t s fun b s1 => if b = true then w Φ s1 else u Φ s1
theorem xs_if {c : Expr} {a b : List Stmt} {t : DT} {w u : DS} (hc : XT X c t) (ha : XSs X a w) (hb : XSs X b u) : XS X (.If c a b pos) (wIfS t w u) := ps_imp (ps_if hc ha hb) fun D σ H h => by
  obtain ⟨G, P, F, s, Φ, R, h, b⟩ := h
  refine ⟨G, P, F, s, _, R, h, fun k F' H' s' R' e q => ?_⟩
  cases k with
  | true =>
    rw [if_pos rfl] at q ⊢
    exact ⟨G, P, F', s', Φ, R', q, b.up e⟩
  | false =>
    rw [if_neg Bool.false_ne_true] at q ⊢
    exact ⟨G, P, F', s', Φ, R', q, b.up e⟩

/-! assignments -/
@[simp] def wSet (i : Nat) (w : DE) : DS := fun Φ s => w s fun x s1 => Φ.nx (s1.put i (.d x))
theorem set_of {K : PySem.W.Frag} {W : XWish} {i : Nat} {w : DE} (D : Ends) (σ : L2.St) (H : Hp) (h : tS K W (wSet i w) D σ H) : tAsg (tE K w) (gName i) D σ H := by
  obtain ⟨G, P, F, s, Φ, R, h, b⟩ := h
  exact ⟨G, P, F, s, _, R, h, fun v F' H' s' x R' e d q => b.nx _ F' H' _ (R'.setD d) e q⟩
theorem xs_set {i : Nat} {x : Str} {w : DE} {pos' : Pos} (hN : X.N.Nodup) (hi : X.N[i]? = some x) (hx : Loc X.env.scope x) (h : XE X e w) (hs : swapsWith e (some (.Name x pos')) pos.line X.env = pure false := by rfl)
    (hf : X.fn x = true ∨ X.env.scope.names.lookup x = some .local := by first | exact .inl rfl | exact .inr rfl | assumption) : XS X (.Assign [.Name x pos'] e pos) (wSet i w) := ps_imp (ps_set hN hi hx h hs hf) set_of
@[simp] def wSetO (i : Nat) (w : DA) : DS := fun Φ s => w s fun x s1 => Φ.nx (s1.put i (.o x))
theorem setO_of {K : PySem.W.Frag} {W : XWish} {i : Nat} {w : DA} (D : Ends) (σ : L2.St) (H : Hp) (h : tS K W (wSetO i w) D σ H) : tAsg (tL K w) (gName i) D σ H := by
  obtain ⟨G, P, F, s, Φ, R, h, b⟩ := h
  exact ⟨G, P, F, s, _, R, h, fun p vs F' H' s' x R' e n hp d q => b.nx _ F' H' _ (R'.setO n hp d) e q⟩
theorem xs_setO {i : Nat} {x : Str} {w : DA} {pos' : Pos} (hN : X.N.Nodup) (hi : X.N[i]? = some x) (hx : Loc X.env.scope x) (h : XL X e w) (hs : swapsWith e (some (.Name x pos')) pos.line X.env = pure false := by rfl)
    (hf : X.fn x = true ∨ X.env.scope.names.lookup x = some .local := by first | exact .inl rfl | exact .inr rfl | assumption) : XS X (.Assign [.Name x pos'] e pos) (wSetO i w) := ps_imp (ps_set hN hi hx h hs hf) setO_of
/-- name += e -/
@[simp] def wAug (i : Nat) (f : Int → Int → Int) (w : DE) : DS := fun Φ s => match s.e[i]? with
  | some (.d (.int a)) => w s fun x s1 => match x with
    | .int b => Φ.nx (s1.put i (.d (.int (f a b))))
    | _ => False
  | _ => False
theorem xs_aug {i : Nat} {x : Str} {w : DE} {op : Operator} {f : Int → Int → Int} {pos' : Pos} (hN : X.N.Nodup) (hi : X.N[i]? = some x) (hx : Loc X.env.scope x) (h : XE X e w) (ho : PIp X op (ipI f))
    (hf : X.fn x = true ∨ X.env.scope.names.lookup x = some .local := by first | exact .inl rfl | exact .inr rfl | assumption) : XS X (.AugAssign (.Name x pos') op e pos) (wAug i f w) := ps_imp (ps_aug hN hi hx h ho hf) fun D σ H h => by
  obtain ⟨G, P, F, s, Φ, R, h, b⟩ := h
  unfold wAug at h
  cases hs : s.e[i]? with
  | none =>
    rw [hs] at h
    exact h.elim
  | some z =>
    rw [hs] at h
    cases z with
    | d z =>
      cases z with
      | int a =>
        obtain ⟨v, e1, e2⟩ := R.sl i _ hs
        cases e2
        refine ⟨_, e1, G, P, F, s, _, R, h, fun y F' H' s' y' R' e d q => ?_⟩
        cases y' with
        | int c =>
          cases d
          exact ⟨a, c, rfl, rfl, b.nx _ F' H' _ (R'.setD (.int _)) e q⟩
        | _ => exact q.elim
      | _ => exact h.elim
    | _ => exact h.elim

/-! one's own lists -/
@[simp] def ownAt (s : S) (i : Nat) (k : List PyData → Prop) : Prop := match s.e[i]? with
  | some (.o xs) => k xs
  | _ => False
theorem ownAt_of {s : S} {i : Nat} {k : List PyData → Prop} (h : ownAt s i k) : ∃ xs, s.e[i]? = some (.o xs) ∧ k xs := by
  unfold ownAt at h
  cases hs : s.e[i]? with
  | none =>
    rw [hs] at h
    exact h.elim
  | some z =>
    rw [hs] at h
    cases z with
    | o xs => exact ⟨xs, rfl, h⟩
    | _ => exact h.elim
/-- return of one's own list -/
@[simp] def wRetO (i : Nat) : DS := fun Φ s => ownAt s i fun xs => Φ.rl xs (s.put i .un)
theorem Rep.out {K : PySem.W.Frag} {G F H : Hp} {P : Option Addr} {σ : L2.St} {s : S} {i : Nat} {xs : List PyData} (R : Rep K G P F H σ s) (h : s.e[i]? = some (.o xs)) :
    ∃ p vs, σ[i]? = some (some (.ref p)) ∧ H p = some (.lst vs) ∧ DqA K F vs xs ∧ Rep K G P F H σ (s.put i .un) ∧ Nu G P F σ (s.put i .un) p := by
  obtain ⟨p, vs, h1, h2, h3, h4, h5, h6⟩ := R.sl i _ h
  refine ⟨p, vs, h1, h5, h6, ⟨R.same, R.keep, R.apart, fun j x hx => ?_, fun j k ys zs r hj hk e1 e2 => ?_, R.pool, by rw [R.len]; exact (List.length_set).symm, fun j k x y r hj hk hr jk oc => ?_⟩, ⟨h2, h3, h4, fun j ys hj e => ?_, fun j x hj hr => ?_⟩⟩
  · rcases set_get hx with ⟨_, rfl⟩ | ⟨_, hx⟩
    · exact True.intro
    · exact R.sl j x hx
  · rcases set_get hj with ⟨_, z⟩ | ⟨_, hj⟩
    · cases z
    · rcases set_get hk with ⟨_, z⟩ | ⟨_, hk⟩
      · cases z
      · exact R.sep j k ys zs r hj hk e1 e2
  · rcases set_get hj with ⟨_, rfl⟩ | ⟨_, hj⟩
    · cases hr
    · rcases set_get hk with ⟨_, rfl⟩ | ⟨_, hk⟩
      · rcases oc with z | ⟨⟨_, z⟩, _⟩
        · cases z
        · cases z
      · exact R.tbs j k x y r hj hk hr jk oc
  · rcases set_get hj with ⟨_, z⟩ | ⟨ne, hj⟩
    · cases z
    · exact ne (R.sep j i ys xs p hj h e h1)
  · rcases set_get hj with ⟨_, rfl⟩ | ⟨ne, hj⟩
    · cases hr
    · exact R.tbs j i x _ p hj h hr ne (occ_o rfl h1)
theorem xs_retO {i : Nat} {x : Str} {xp : Pos} (hv : PE X (.Name x xp) (tVar i)) : XS X (.Return (some (.Name x xp)) pos) (wRetO i) := ps_imp (ps_ret hv) fun D σ H h => by
  obtain ⟨G, P, F, s, Φ, R, h, b⟩ := h
  obtain ⟨xs, h0, h⟩ := ownAt_of h
  obtain ⟨p, vs, e1, e2, e3, R2, n⟩ := R.out h0
  exact ⟨_, e1, b.rl p vs σ F H _ xs R2 (Same.refl F) n e2 e3 h⟩
/-- the script's items and length -/
@[simp] def scAt (s : S) (i : Nat) (k : List Int → Prop) : Prop := match s.e[i]? with
  | some (.sc ns) => k ns
  | _ => False
theorem scAt_of {s : S} {i : Nat} {k : List Int → Prop} (h : scAt s i k) : ∃ ns, s.e[i]? = some (.sc ns) ∧ k ns := by
  unfold scAt at h
  cases hs : s.e[i]? with
  | none =>
    rw [hs] at h
    exact h.elim
  | some z =>
    rw [hs] at h
    cases z with
    | sc ns => exact ⟨ns, rfl, h⟩
    | _ => exact h.elim
@[simp] def wScLen (i : Nat) : DE := fun s Φ => scAt s i fun ns => Φ (.int ns.length) s
theorem xe_scLen {i : Nat} {x : Str} {xp p1 : Pos} (hg : Gl X "len") (hm : X.mg "len" = none) (hv : PE X (.Name x xp) (tVar i)) (he : starEach [.Name x xp] X.env = (false, eval (.Name x xp) X.env) :: starEach [] X.env := by rfl)
    (hpl : (backTo pos (starEach [] X.env)).any (·.1) = false := by rfl) : XE X (.Call (.Name "len" p1) [.Name x xp] [] pos) (wScLen i) :=
  pe_imp (pe_callB call_len_seq hg hm (by decide +kernel) (pa_cons hv pa_nil he) (by decide) (by decide) he hpl) fun σ H Q h => by
    obtain ⟨G, P, F, s, Φ, R, h, kk⟩ := h
    obtain ⟨ns, h0, h⟩ := scAt_of h
    obtain ⟨a, g1, g2⟩ := R.sl i _ h0
    refine ⟨_, g1, a, _, rfl, .inl (R.same.seq g2), ?_⟩
    rw [List.length_map]
    exact kk _ F H s _ R (Same.refl F) (.int _) h
@[simp] def wScIx (i : Nat) (wb : DE) : DE := fun s Φ => wb s fun k s1 => scAt s1 i fun ns => match k with
  | .int k => 0 ≤ k ∧ k < ns.length ∧ Φ (.int (ns.getD k.toNat 0)) s1
  | _ => False
/-- x.append(e) -/
@[simp] def wApp (i : Nat) (w : DE) : DS := fun Φ s => ownAt s i fun _ => w s fun x s1 => ownAt s1 i fun xs => xs.length < sizeLine ∧ Φ.nx (s1.put i (.o (xs ++ [x])))
theorem app_of {K : PySem.W.Frag} {W : XWish} {i : Nat} {w : DE} (D : Ends) (σ : L2.St) (H : Hp) (h : tS K W (wApp i w) D σ H) : tDrop (tBM K "list" rAppend (tVar i) (tCons (tE K w) tNil)) D σ H := by
  obtain ⟨G, P, F, s, Φ, R, h, b⟩ := h
  obtain ⟨xs0, h0, h⟩ := ownAt_of h
  obtain ⟨p, vs, e1, _, _, _, e5, _⟩ := R.sl i _ h0
  refine ⟨_, e1, .inl ⟨rfl, _, SqL.of e5⟩, G, P, F, s, _, R, h, fun y F' H' s' x R' e d q => ?_⟩
  obtain ⟨xs, h1, hl, q⟩ := ownAt_of q
  obtain ⟨p', vs', g1, _, _, _, g5, g6⟩ := R'.sl i _ h1
  rw [e1] at g1
  cases g1
  exact ⟨_, vs', y, rfl, rfl, g5, by rw [g6.length]; exact hl, b.nx _ F' _ _ (R'.wrO h1 e1 (g6.append (.cons d .nil))) e q⟩
theorem xs_append {i : Nat} {x : Str} {xp p1 p2 : Pos} {a : Expr} {w : DE} (hv : PE X (.Name x xp) (tVar i)) (h : XE X a w)
    (hbase : attributeBase (.Name x xp) "append" X.env (eval (.Name x xp) X.env) = eval (.Name x xp) X.env := by rfl)
    (hfew : ((backTo p2 (starEach [a] X.env)).all (fun x => !x.1) && (backToKw p2 (keywordEach [] X.env)).all (fun x => x.1.isSome) && decide ([a].length + ([] : List Keyword).length + (if ([] : List Keyword).isEmpty then 0 else 1) < 30)) = true := by rfl)
    (hline : (p1.endLine == p2.line) = true := by rfl) (hs : starEach [a] X.env = (false, eval a X.env) :: starEach [] X.env := by rfl) (hplain : (backTo p2 (starEach [] X.env)).any (·.1) = false := by rfl)
    (hsw : swapsWith (.Call (.Attribute (.Name x xp) "append" p1) [a] [] p2) none pos.line X.env = pure false := by rfl) : XS X (.Expr (.Call (.Attribute (.Name x xp) "append" p1) [a] [] p2) pos) (wApp i w) :=
  ps_imp (ps_expr (pe_bm PySem.F.plainAttrs_list PySem.F.slot_list_append PySem.F.type_list_append mt_append hv (pa_cons h pa_nil hs) hbase hfew hline hs hplain) hsw) app_of
/-- x[k] = e -/
@[simp] def wItem (i : Nat) (wi we : DE) : DS := fun Φ s => we s fun x s1 => ownAt s1 i fun _ => wi s1 fun k s2 => ownAt s2 i fun xs => match k with
  | .int k => match ixN xs.length k with
    | some j => Φ.nx (s2.put i (.o (xs.set j x)))
    | none => False
  | _ => False
theorem xs_item {i : Nat} {x : Str} {xp p1 : Pos} {a k : Expr} {wi we : DE} (hv : PE X (.Name x xp) (tVar i)) (hk : XE X k wi) (h : XE X a we)
    (hs : swapsWithSole [.Subscript (.Name x xp) k p1] a pos.line X.env = pure false := by rfl) (hw : swappedStores [.Subscript (.Name x xp) k p1] a X.env = pure none := by rfl)
    (hasg : ∀ u, assign (.Subscript (.Name x xp) k p1) X.env u = (do let ov ← holding [u] (eval (.Name x xp) X.env); let iv ← holding [u, ov] (eval k X.env); standAt p1; holding [u, ov, iv] (setItem ov iv u); release [u, ov, iv] []) := by intro _; rfl) : XS X (.Assign [.Subscript (.Name x xp) k p1] a pos) (wItem i wi we) :=
  ps_imp (ps_asg h (pg_sub hv hk set_list hasg) hs hw) fun D σ H h => by
    obtain ⟨G, P, F, s, Φ, R, h, b⟩ := h
    refine ⟨G, P, F, s, _, R, h, fun v F1 H1 s1 x R1 e1 d1 q1 => ?_⟩
    obtain ⟨xs0, h0, q1⟩ := ownAt_of q1
    obtain ⟨p, vs, g1, _, _, _, g5, _⟩ := R1.sl i _ h0
    refine ⟨_, g1, G, P, F1, s1, _, R1, q1, fun u F2 H2 s2 y R2 e2 d2 q2 => ?_⟩
    obtain ⟨xs, h1, q2⟩ := ownAt_of q2
    obtain ⟨p', vs', k1, _, _, _, k5, k6⟩ := R2.sl i _ h1
    rw [g1] at k1
    cases k1
    cases y with
    | int k =>
      cases d2
      dsimp only at q2
      cases hj : ixN xs.length k with
      | none =>
        rw [hj] at q2
        exact q2.elim
      | some j =>
        rw [hj] at q2
        exact ⟨_, vs', k, j, rfl, rfl, k5, by rw [k6.length]; exact hj, b.nx _ F2 _ _ (R2.wrO h1 g1 (k6.set j (d1.mono e2))) (e1.trans e2) q2⟩
    | _ => exact q2.elim
/-- x[k], x one's own -/
@[simp] def wOwnIx (i : Nat) (wb : DE) : DE := fun s Φ => ownAt s i fun _ => wb s fun k s1 => ownAt s1 i fun xs => match k with
  | .int k => match atI xs k with
    | some d => Φ d s1
    | none => False
  | _ => False
theorem atI_get {α : Type} {xs : List α} {k : Int} {d : α} (h : atI xs k = some d) : ∃ j, ixN xs.length k = some j ∧ xs[j]? = some d := by
  unfold atI at h
  cases e : ixN xs.length k with
  | none =>
    rw [e] at h
    cases h
  | some j =>
    rw [e] at h
    exact ⟨j, rfl, h⟩
theorem atI_up {K : PySem.W.Frag} {F : Hp} {vs : List V} {xs : List PyData} {k : Int} {d : PyData} (h : DqA K F vs xs) (e : atI xs k = some d) : ∃ v, atI vs k = some v ∧ Dq K F v d := by
  obtain ⟨j, e1, e2⟩ := atI_get e
  obtain ⟨v, a, b⟩ := h.get e2
  refine ⟨v, ?_, b⟩
  unfold atI
  rw [h.length, e1]
  exact a
theorem xe_ownIx {i : Nat} {x : Str} {xp : Pos} {k : Expr} {wb : DE} (hv : PE X (.Name x xp) (tVar i)) (hk : XE X k wb) (hs : PlainIx k := by exact fun _ _ => rfl) : XE X (.Subscript (.Name x xp) k pos) (wOwnIx i wb) :=
  pe_imp (pe_ix ix_list hv hk hs) fun σ H Q h => by
    obtain ⟨G, P, F, s, Φ, R, h, kk⟩ := h
    obtain ⟨xs0, h0, h⟩ := ownAt_of h
    obtain ⟨p, vs, g1, _⟩ := R.sl i _ h0
    refine ⟨_, g1, G, P, F, s, _, R, h, fun u F2 H2 s2 y R2 e2 d2 q2 => ?_⟩
    obtain ⟨xs, h1, q2⟩ := ownAt_of q2
    obtain ⟨p', vs', k1, _, _, _, k5, k6⟩ := R2.sl i _ h1
    rw [g1] at k1
    cases k1
    cases y with
    | int k =>
      cases d2
      dsimp only at q2
      cases hj : atI xs k with
      | none =>
        rw [hj] at q2
        exact q2.elim
      | some d =>
        rw [hj] at q2
        obtain ⟨v, a, b⟩ := atI_up k6 hj
        exact ⟨_, vs', k, v, rfl, rfl, SqL.of k5, a, kk v F2 H2 s2 d R2 e2 b q2⟩
    | _ => exact q2.elim
/-- len(x), x one's own -/
@[simp] def wOwnLen (i : Nat) : DE := fun s Φ => ownAt s i fun xs => Φ (.int xs.length) s
theorem xe_ownLen {i : Nat} {x : Str} {xp p1 : Pos} (hg : Gl X "len") (hm : X.mg "len" = none) (hv : PE X (.Name x xp) (tVar i)) (he : starEach [.Name x xp] X.env = (false, eval (.Name x xp) X.env) :: starEach [] X.env := by rfl)
    (hpl : (backTo pos (starEach [] X.env)).any (·.1) = false := by rfl) : XE X (.Call (.Name "len" p1) [.Name x xp] [] pos) (wOwnLen i) :=
  pe_imp (pe_callB call_len_seq hg hm (by decide +kernel) (pa_cons hv pa_nil he) (by decide) (by decide) he hpl) fun σ H Q h => by
    obtain ⟨G, P, F, s, Φ, R, h, kk⟩ := h
    obtain ⟨xs, h0, h⟩ := ownAt_of h
    obtain ⟨p, vs, g1, _, _, _, g5, g6⟩ := R.sl i _ h0
    refine ⟨_, g1, p, vs, rfl, .inl (SqL.of g5), ?_⟩
    rw [g6.length]
    exact kk _ F H s _ R (Same.refl F) (.int _) h
end

/-! ### what is walked -/
/-- J yields xs -/
def Yl (K : PySem.W.Frag) (F : Hp) (J : It) (xs : List PyData) : Prop := ∀ F1 H1, Same F F1 → Same F1 H1 → ∀ i : Nat,
  (∀ x, xs[i]? = some x → J.go i H1 ∧ ∀ v H2, J.yld i H1 v H2 → ∃ F2, Fresh F1 H1 F2 H2 ∧ Dq K F2 v x) ∧ (xs.length ≤ i → J.stop i H1)
theorem Yl.up {K : PySem.W.Frag} {F F' : Hp} {J : It} {xs : List PyData} (h : Yl K F J xs) (e : Same F F') : Yl K F' J xs := fun F1 H1 a b i => h F1 H1 (e.trans a) b i
abbrev DI := S → (List PyData → S → Prop) → Prop
def tI (K : PySem.W.Frag) (w : DI) : TI := fun σ H R => ∃ G P F s Φ, Rep K G P F H σ s ∧ w s Φ ∧ ∀ J F' H' s' xs, Rep K G P F' H' σ s' → Same F F' → Yl K F' J xs → Φ xs s' → R J H'
abbrev XI (X : Cx) (tg iter : Expr) (w : DI) : Prop := PI X tg iter (tI X.K w)
theorem pi_imp {X : Cx} {tg iter : Expr} {t t' : TI} (h : PI X tg iter t) (i : ∀ σ H R, t' σ H R → t σ H R) : PI X tg iter t' := ⟨fun pins s σ H R I q => h.run pins s σ H R I (i _ _ _ q)⟩
section
variable {K : PySem.W.Frag} {F : Hp}
theorem sql_det {H : Hp} {a : Addr} {xs ys : List V} (h : H a = some (.lst xs)) (g : Rd H a (.lst ys)) : xs = ys := by
  rcases g with g | ⟨o, g⟩
  · rw [h] at g
    cases g
    rfl
  · rw [h] at g
    cases g
end
end DL
/-! DL, third part: what is walked, targets, loops, comprehensions. -/
namespace DL
open PySem PySem.Spec L2

section
variable {X : Cx} {tg : Expr} {e e2 : Expr} {pos : Pos}
theorem yl_list {K : PySem.W.Frag} {F : Hp} {a : Addr} {vs : List V} {xs : List PyData} (h : F a = some (.lst vs)) (d : DqA K F vs xs) : Yl K F (Itl K a) xs := fun F1 H1 e1 e2 i => by
  have hH : SqL K H1 a vs := SqL.of (e2 _ _ (e1 _ _ h))
  refine ⟨fun x hx => ?_, fun hl => ⟨vs, hH, by rw [d.length]; exact hl⟩⟩
  obtain ⟨v, a1, a2⟩ := d.get hx
  refine ⟨⟨vs, v, hH, a1⟩, fun u H2 q => ?_⟩
  obtain ⟨rfl, q⟩ := q
  have q2 := q vs hH
  rw [a1] at q2
  cases q2
  exact ⟨F1, Fresh.refl e2, a2.mono e1⟩
theorem yl_tup {K : PySem.W.Frag} {F : Hp} {a : Addr} {vs : List V} {xs : List PyData} (h : SqT K F a vs) (d : DqA K F vs xs) : Yl K F (Itt K a) xs := fun F1 H1 e1 e2 i => by
  have hH : SqT K H1 a vs := same_sqt e2 (same_sqt e1 h)
  refine ⟨fun x hx => ?_, fun hl => ⟨vs, hH, by rw [d.length]; exact hl⟩⟩
  obtain ⟨v, a1, a2⟩ := d.get hx
  refine ⟨⟨vs, v, hH, a1⟩, fun u H2 q => ?_⟩
  obtain ⟨rfl, q⟩ := q
  have q2 := q vs hH
  rw [a1] at q2
  cases q2
  exact ⟨F1, Fresh.refl e2, a2.mono e1⟩
/-- the signs of a text, each a text -/
def signsOf (z : Str) : List PyData := z.cps.toList.map fun c => .str ⟨#[c]⟩
theorem signsOf_len (z : Str) : (signsOf z).length = z.cps.size := by
  unfold signsOf
  rw [List.length_map, Array.length_toList]
theorem yl_str {K : PySem.W.Frag} {F : Hp} {z : Str} : Yl K F (Its z) (signsOf z) := fun F1 H1 e1 e2 i => by
  refine ⟨fun x hx => ?_, fun hl => by rw [signsOf_len] at hl; exact hl⟩
  have hi : i < z.cps.size := by rw [← signsOf_len]; exact (List.getElem?_eq_some_iff.mp hx).1
  refine ⟨hi, fun u H2 q => ?_⟩
  obtain ⟨rfl, c, hc, rfl⟩ := q
  have hx' : x = .str ⟨#[c]⟩ := by
    unfold signsOf at hx
    rw [List.getElem?_map, Array.getElem?_toList, hc] at hx
    cases hx
    rfl
  rw [hx']
  exact ⟨F1, Fresh.refl e2, .str _⟩
/-- ints from lo on -/
def rangeD (lo : Int) (n : Nat) : List PyData := (List.range n).map fun (i : Nat) => PyData.int (lo + (i : Int))
theorem rangeD_len (lo : Int) (n : Nat) : (rangeD lo n).length = n := by
  unfold rangeD
  rw [List.length_map, List.length_range]
theorem rangeD_get {lo : Int} {n i : Nat} {x : PyData} (h : (rangeD lo n)[i]? = some x) : i < n ∧ x = .int (lo + (i : Int)) := by
  have hi : i < n := by rw [← rangeD_len lo n]; exact (List.getElem?_eq_some_iff.mp h).1
  unfold rangeD at h
  rw [List.getElem?_map, List.getElem?_range hi] at h
  cases h
  exact ⟨hi, rfl⟩
theorem yl_range {K : PySem.W.Frag} {F : Hp} {lo : Int} {n : Nat} : Yl K F (Itr lo n) (rangeD lo n) := fun F1 H1 e1 e2 i => by
  refine ⟨fun x hx => ?_, fun hl => by rw [rangeD_len] at hl; exact hl⟩
  obtain ⟨hi, rfl⟩ := rangeD_get hx
  refine ⟨hi, fun u H2 q => ?_⟩
  obtain ⟨rfl, rfl⟩ := q
  exact ⟨F1, Fresh.refl e2, .int _⟩
def small62 (i : Int) : Prop := -(2 ^ 62) ≤ i ∧ i < 2 ^ 62
/-- a list, a tuple, a text, a range -/
def iAny (K : PySem.W.Frag) (tl : TE) : TI := fun σ H R => tl σ H fun x H1 => (∃ a, x = .ref a ∧ (∃ xs, SqL K H1 a xs) ∧ R (Itl K a) H1) ∨ (∃ a, x = .ref a ∧ (∃ xs, SqT K H1 a xs) ∧ R (Itt K a) H1) ∨ (∃ z, x = .str z ∧ R (Its z) H1) ∨ ∃ a lo hi, x = .ref a ∧ H1 a = some (.rng lo hi) ∧ (small62 lo ∧ small62 hi) ∧ R (Itr lo (hi - lo).toNat) H1
theorem pi_any {tl : TE} (hl : PE X e tl) : PI X tg e (iAny X.K tl) := by
  refine ⟨fun pins s σ H R I h => thn (hl.run pins s σ H _ I h) fun v s1 ⟨x, H1, J1, r1, q1⟩ => ?_⟩
  have fp1 : ∀ {b : Addr}, b ∈ [s1.heap.objs.size] → FpOk X pins H1 b := fun {b} hb => by
    rw [show b = s1.heap.objs.size by simpa using hb]
    exact J1.fpOk (Nat.le_refl _) (J1.hok.fresh (Nat.le_refl _))
  rcases q1 with ⟨a, rfl, ⟨xs, hq⟩, q⟩ | ⟨a, rfl, ⟨xs, hq⟩, q⟩ | ⟨z, rfl, q⟩ | ⟨a, lo, hi, rfl, ha, ⟨⟨h1, h2⟩, h3, h4⟩, q⟩
  · cases r1
    obtain ⟨its, rv, pl, hz⟩ := J1.list hq
    exact wpAny_pyIter_list pl.isList ⟨s1.heap.objs.size, [s1.heap.objs.size], _, Itl X.K a, H1, rfl, J1.kept (t' := s1.toks) (fun b o z => Heap.get?_push_of_some _ z), turn_list a s1.heap.objs.size, ⟨_, Heap.get?_push_size _ rfl, rfl, rfl⟩, fun b hb => fp1 hb, q⟩
  · cases r1
    obtain ⟨its, rv, pl, hz⟩ := J1.tuple hq
    exact wpAny_pyIter_tuple (show s1.heap.IsTuple a its.toArray from pl) ⟨s1.heap.objs.size, [s1.heap.objs.size], _, Itt X.K a, H1, rfl, J1.kept (t' := s1.toks) (fun b o z => Heap.get?_push_of_some _ z), turn_tuple a s1.heap.objs.size, ⟨_, Heap.get?_push_size _ rfl, rfl, rfl⟩, fun b hb => fp1 hb, q⟩
  · obtain ⟨t, rfl⟩ := r1
    cases hall : z.cps.all (· < 128)
    · exact wpAny_pyIter_wide hall (pi_one (tk := s1.toks) J1 _ (turn_str _ z t "str_iterator" (.inr rfl)) ⟨_, Heap.get?_push_size _ rfl, rfl, rfl⟩ q)
    · exact wpAny_pyIter_ascii hall (pi_one (tk := s1.toks) J1 _ (turn_str _ z t "str_ascii_iterator" (.inl rfl)) ⟨_, Heap.get?_push_size _ rfl, rfl, rfl⟩ q)
  · cases r1
    obtain ⟨t1, t2, t3, ho⟩ := J1.hok a _ ha
    refine wpAny_pyIter_range ho (small_one h1 h2 h3 h4) ⟨s1.heap.objs.size, [s1.heap.objs.size], _, Itr lo (hi - lo).toNat, H1, rfl, J1.kept (t' := s1.toks) (fun b o z => Heap.get?_push_of_some _ z), turn_range _ lo (hi - lo).toNat, ?_, fun b hb => fp1 hb, q⟩
    have e1 : lo + ((0 : Nat) : Int) * 1 = lo := by simp
    have e2 : (((hi - lo).toNat : Nat) : Int) - ((0 : Nat) : Int) = Builtin.Range.rangeSize lo hi 1 := by rw [rangeSize_one]; split <;> omega
    show IsRangeIter _ _ (lo + ((0 : Nat) : Int) * 1) ((((hi - lo).toNat : Nat) : Int) - ((0 : Nat) : Int)) 1
    rw [e1, e2]
    exact Heap.get?_push_size _ rfl
/-- the items of data -/
@[simp] def itP : PyData → (List PyData → Prop) → Prop
  | .list xs, k => k xs
  | .tuple xs, k => k xs
  | .str z, k => k (signsOf z)
  | .dict [(.int lo, .int hi)], k => (small62 lo ∧ small62 hi) ∧ k (rangeD lo (hi - lo).toNat)
  | _, _ => False
@[simp] def optP {α : Type} (o : Option α) (k : α → Prop) : Prop := match o with
  | some a => k a
  | none => False
@[simp] def wIt (w : DE) : DI := fun s Φ => w s fun x s1 => itP x fun xs => Φ xs s1
theorem xi_any {w : DE} (h : XE X e w) : XI X tg e (wIt w) := pi_imp (pi_any h) fun σ H R h => by
  obtain ⟨G, P, F, s, Φ, RR, h, k⟩ := h
  refine ⟨G, P, F, s, _, RR, h, fun v F1 H1 s1 x R1 e1 d1 q => ?_⟩
  match x, d1, q with
  | .list xs, .lst h1 h2, q => exact .inl ⟨_, rfl, ⟨_, SqL.of (R1.same _ _ h1)⟩, k _ F1 H1 s1 xs R1 e1 (yl_list h1 h2) q⟩
  | .tuple xs, .tup h1 h2, q => exact .inr (.inl ⟨_, rfl, ⟨_, same_sqt R1.same h1⟩, k _ F1 H1 s1 xs R1 e1 (yl_tup h1 h2) q⟩)
  | .str z, .str _, q => exact .inr (.inr (.inl ⟨_, rfl, k _ F1 H1 s1 (signsOf z) R1 e1 yl_str q⟩))
  | .dict [(.int lo, .int hi)], .rng h1, q => exact .inr (.inr (.inr ⟨_, lo, hi, rfl, R1.same _ _ h1, q.1, k _ F1 H1 s1 _ R1 e1 yl_range q.2⟩))
  | .dict [(.none, .int _)], .er a, q => exact q.elim
  | .dict [(.str _, .list _)], .xo _ _ _ _, q => exact q.elim
def rangeC (lo c : Int) (n : Nat) : List PyData := (List.range n).map fun (i : Nat) => PyData.int (lo + (i : Int) * c)
theorem rangeC_len (lo c : Int) (n : Nat) : (rangeC lo c n).length = n := by
  unfold rangeC
  rw [List.length_map, List.length_range]
theorem yl_rangeC {K : PySem.W.Frag} {F : Hp} {lo c : Int} {n : Nat} : Yl K F (Itc lo c n) (rangeC lo c n) := fun F1 H1 e1 e2 i => by
  refine ⟨fun x hx => ?_, fun hl => by rw [rangeC_len] at hl; exact hl⟩
  have hi : i < n := by rw [← rangeC_len lo c n]; exact (List.getElem?_eq_some_iff.mp hx).1
  have hx' : x = .int (lo + (i : Int) * c) := by
    unfold rangeC at hx
    rw [List.getElem?_map, List.getElem?_range hi] at hx
    cases hx
    rfl
  refine ⟨hi, fun u H2 q => ?_⟩
  obtain ⟨rfl, rfl⟩ := q
  rw [hx']
  exact ⟨F1, Fresh.refl e2, .int _⟩
@[simp] def wRng1 (w : DA) : DI := fun s Φ => w s fun xs s1 => match xs with
  | [.int n] => small62 n ∧ Φ (rangeD 0 n.toNat) s1
  | _ => False
@[simp] def wRng2 (w : DA) : DI := fun s Φ => w s fun xs s1 => match xs with
  | [.int i, .int j] => (small62 i ∧ small62 j) ∧ Φ (rangeD i (j - i).toNat) s1
  | _ => False
/-- range(i, j, -1) -/
@[simp] def wRngDn (w : DA) : DI := fun s Φ => w s fun xs s1 => match xs with
  | [.int i, .int j, .int c] => c = -1 ∧ (small62 i ∧ small62 j) ∧ Φ (rangeC i (-1) (i - j).toNat) s1
  | _ => False
theorem xi_range1 {w : DA} {p : Pos} (hg : Gl X "range") (hm : X.mg "range" = none) (ha : XA X [e] w) (hs : starEach [e] X.env = [(false, eval e X.env)] := by rfl) : XI X tg (.Call (.Name "range" p) [e] [] pos) (wRng1 w) := pi_imp (pi_range1 hg hm ha hs) fun σ H R h => by
  obtain ⟨G, P, F, s, Φ, RR, h, k⟩ := h
  refine ⟨G, P, F, s, _, RR, h, fun vs F1 H1 s1 xs R1 e1 d1 q => ?_⟩
  match xs, d1, q with
  | [.int n], .cons (.int _) .nil, q => exact ⟨n, rfl, q.1.1, q.1.2, k _ F1 H1 s1 _ R1 e1 yl_range q.2⟩
theorem xi_range2 {w : DA} {p : Pos} (hg : Gl X "range") (hm : X.mg "range" = none) (ha : XA X [e, e2] w) (hs : starEach [e, e2] X.env = [(false, eval e X.env), (false, eval e2 X.env)] := by rfl) (hs2 : starEach [e2] X.env = [(false, eval e2 X.env)] := by rfl) :
    XI X tg (.Call (.Name "range" p) [e, e2] [] pos) (wRng2 w) := pi_imp (pi_range2 hg hm ha hs hs2) fun σ H R h => by
  obtain ⟨G, P, F, s, Φ, RR, h, k⟩ := h
  refine ⟨G, P, F, s, _, RR, h, fun vs F1 H1 s1 xs R1 e1 d1 q => ?_⟩
  match xs, d1, q with
  | [.int i, .int j], .cons (.int _) (.cons (.int _) .nil), q => exact ⟨i, j, rfl, ⟨q.1.1.1, q.1.1.2, q.1.2.1, q.1.2.2⟩, k _ F1 H1 s1 _ R1 e1 yl_range q.2⟩
theorem xi_rangeDn {e3 : Expr} {w : DA} {p : Pos} (hg : Gl X "range") (hm : X.mg "range" = none) (ha : XA X [e, e2, e3] w) (hs : starEach [e, e2, e3] X.env = (false, eval e X.env) :: starEach [e2, e3] X.env := by rfl) (hpl : (backTo pos (starEach [e2, e3] X.env)).any (·.1) = false := by rfl) :
    XI X tg (.Call (.Name "range" p) [e, e2, e3] [] pos) (wRngDn w) := pi_imp (pi_range3 hg hm ha hs hpl) fun σ H R h => by
  obtain ⟨G, P, F, s, Φ, RR, h, k⟩ := h
  refine ⟨G, P, F, s, _, RR, h, fun vs F1 H1 s1 xs R1 e1 d1 q => ?_⟩
  match xs, d1, q with
  | [.int i, .int j, .int c], .cons (.int _) (.cons (.int _) (.cons (.int _) .nil)), q =>
    obtain ⟨rfl, q⟩ := q
    exact ⟨i, j, -1, (i - j).toNat, rfl, RgC.neg q.1.1.1 q.1.1.2 q.1.2.1 q.1.2.2, k _ F1 H1 s1 _ R1 e1 yl_rangeC q.2⟩
/-- pairs with their places -/
def enumD (xs : List PyData) : List PyData := (List.range xs.length).map fun (i : Nat) => PyData.tuple [.int (i : Int), xs.getD i .none]
def zipD (xs ys : List PyData) : List PyData := (xs.zip ys).map fun p => .tuple [p.1, p.2]
theorem enumD_len (xs : List PyData) : (enumD xs).length = xs.length := by
  unfold enumD
  rw [List.length_map, List.length_range]
theorem enumD_get {xs : List PyData} {i : Nat} {x : PyData} (h : (enumD xs)[i]? = some x) : ∃ y, xs[i]? = some y ∧ x = .tuple [.int (i : Int), y] := by
  have hi : i < xs.length := by rw [← enumD_len xs]; exact (List.getElem?_eq_some_iff.mp h).1
  unfold enumD at h
  rw [List.getElem?_map, List.getElem?_range hi] at h
  refine ⟨xs[i], List.getElem?_eq_getElem hi, ?_⟩
  have e : xs.getD i .none = xs[i] := by
    rw [List.getD_eq_getElem?_getD, List.getElem?_eq_getElem hi]
    rfl
  rw [Option.map_some, e] at h
  exact (Option.some.inj h).symm
theorem yl_enum {K : PySem.W.Frag} {F : Hp} {a : Addr} {vs : List V} {xs : List PyData} (h : F a = some (.lst vs)) (d : DqA K F vs xs) : Yl K F (Ite K a) (enumD xs) := fun F1 H1 e1 e2 i => by
  have hH : SqL K H1 a vs := SqL.of (e2 _ _ (e1 _ _ h))
  refine ⟨fun x hx => ?_, fun hl => ⟨vs, hH, by rw [d.length]; rw [enumD_len] at hl; exact hl⟩⟩
  obtain ⟨y, hy, rfl⟩ := enumD_get hx
  obtain ⟨v, a1, a2⟩ := d.get hy
  refine ⟨⟨vs, v, hH, a1⟩, fun u H2 q => ?_⟩
  obtain ⟨T, x, rfl, nT, rfl, q⟩ := q
  have q2 := q vs hH
  rw [a1] at q2
  cases q2
  have f := Fresh.new (o := .tup [.int (i : Nat), v]) e2 nT
  exact ⟨_, f, .tup (SqT.of upd_same) (.cons (.int _) (.cons ((a2.mono e1).mono f.ff) .nil))⟩
theorem zipD_get {xs ys : List PyData} {i : Nat} {x : PyData} (h : (zipD xs ys)[i]? = some x) : ∃ y z, xs[i]? = some y ∧ ys[i]? = some z ∧ x = .tuple [y, z] := by
  unfold zipD at h
  rw [List.getElem?_map] at h
  cases e : (xs.zip ys)[i]? with
  | none =>
    rw [e] at h
    cases h
  | some p =>
    rw [e] at h
    cases h
    obtain ⟨y, z⟩ := p
    obtain ⟨h1, h2⟩ := List.getElem?_zip_eq_some.mp e
    exact ⟨y, z, h1, h2, rfl⟩
theorem yl_zip {K : PySem.W.Frag} {F : Hp} {a b : Addr} {vs us : List V} {xs ys : List PyData} (h : F a = some (.lst vs)) (d : DqA K F vs xs) (g : F b = some (.lst us)) (d' : DqA K F us ys) : Yl K F (Itz K a b) (zipD xs ys) := fun F1 H1 e1 e2 i => by
  have hH : SqL K H1 a vs := SqL.of (e2 _ _ (e1 _ _ h))
  have gH : SqL K H1 b us := SqL.of (e2 _ _ (e1 _ _ g))
  refine ⟨fun x hx => ?_, fun hl => ⟨vs, us, hH, gH, ?_⟩⟩
  · obtain ⟨y, z, hy, hz, rfl⟩ := zipD_get hx
    obtain ⟨v, a1, a2⟩ := d.get hy
    obtain ⟨u, b1, b2⟩ := d'.get hz
    refine ⟨⟨vs, us, v, u, hH, gH, a1, b1⟩, fun w H2 q => ?_⟩
    obtain ⟨T, x, y', rfl, nT, rfl, q, q'⟩ := q
    have q2 := q vs hH
    rw [a1] at q2
    cases q2
    have q3 := q' us gH
    rw [b1] at q3
    cases q3
    have f := Fresh.new (o := .tup [v, u]) e2 nT
    exact ⟨_, f, .tup (SqT.of upd_same) (.cons ((a2.mono e1).mono f.ff) (.cons ((b2.mono e1).mono f.ff) .nil))⟩
  · unfold zipD at hl
    rw [List.length_map, List.length_zip] at hl
    rw [d.length, d'.length]
    omega
@[simp] def wEnum (w : DA) : DI := fun s Φ => w s fun xs s1 => match xs with
  | [.list xs] => Φ (enumD xs) s1
  | _ => False
@[simp] def wZip (w : DA) : DI := fun s Φ => w s fun xs s1 => match xs with
  | [.list xs, .list ys] => Φ (zipD xs ys) s1
  | _ => False
theorem xi_enum {elts : List Expr} {kk : Nat} {w : DA} {p tpos : Pos} (hg : Gl X "enumerate") (hm : X.mg "enumerate" = none) (ha : XA X [e] w) (hs : starEach [e] X.env = [(false, eval e X.env)] := by rfl) :
    XI X (.Tuple elts kk tpos) (.Call (.Name "enumerate" p) [e] [] pos) (wEnum w) := pi_imp (pi_enum hg hm ha hs) fun σ H R h => by
  obtain ⟨G, P, F, s, Φ, RR, h, k⟩ := h
  refine ⟨G, P, F, s, _, RR, h, fun vs F1 H1 s1 xs R1 e1 d1 q => ?_⟩
  match xs, d1, q with
  | [.list xs], .cons (.lst h1 h2) .nil, q => exact ⟨_, _, rfl, SqL.of (R1.same _ _ h1), k _ F1 H1 s1 _ R1 e1 (yl_enum h1 h2) q⟩
theorem xi_zip {elts : List Expr} {kk : Nat} {w : DA} {p tpos : Pos} (hg : Gl X "zip") (hm : X.mg "zip" = none) (ha : XA X [e, e2] w) (hs : starEach [e, e2] X.env = (false, eval e X.env) :: starEach [e2] X.env := by rfl) (hpl : (backTo pos (starEach [e2] X.env)).any (·.1) = false := by rfl) :
    XI X (.Tuple elts kk tpos) (.Call (.Name "zip" p) [e, e2] [] pos) (wZip w) := pi_imp (pi_zip hg hm ha hs hpl) fun σ H R h => by
  obtain ⟨G, P, F, s, Φ, RR, h, k⟩ := h
  refine ⟨G, P, F, s, _, RR, h, fun vs F1 H1 s1 xs R1 e1 d1 q => ?_⟩
  match xs, d1, q with
  | [.list xs, .list ys], .cons (.lst h1 h2) (.cons (.lst h3 h4) .nil), q => exact ⟨_, _, _, _, rfl, SqL.of (R1.same _ _ h1), SqL.of (R1.same _ _ h3), k _ F1 H1 s1 _ R1 e1 (yl_zip h1 h2 h3 h4) q⟩
end

/-! ### targets -/
abbrev DG := PyData → S → (S → Prop) → Prop
/-- is: the slots that are stored -/
def tG (K : PySem.W.Frag) (is : List Nat) (w : DG) : TG := fun v σ H Q => ∃ G P F s x Φ, Rep K G P F H σ s ∧ Dq K F v x ∧ w x s Φ ∧
  ∀ σ' s', Rep K G P F H σ' s' → (∀ i, i ∉ is → σ'[i]? = σ[i]?) → σ'.length = σ.length → Φ s' → Q σ' H
def tGs (K : PySem.W.Frag) (is : List Nat) (w : List PyData → S → (S → Prop) → Prop) : TGs := fun vs σ H Q => ∃ G P F s xs Φ, Rep K G P F H σ s ∧ DqA K F vs xs ∧ w xs s Φ ∧
  ∀ σ' s', Rep K G P F H σ' s' → (∀ i, i ∉ is → σ'[i]? = σ[i]?) → σ'.length = σ.length → Φ s' → Q σ' H
abbrev XG (X : Cx) (tg : Expr) (is : List Nat) (w : DG) : Prop := PG X tg (tG X.K is w)
abbrev XGs (X : Cx) (tgs : List Expr) (is : List Nat) (w : List PyData → S → (S → Prop) → Prop) : Prop := PGs X tgs (tGs X.K is w)
section
variable {X : Cx} {pos : Pos}
theorem pg_imp {tg : Expr} {t t' : TG} (h : PG X tg t) (i : ∀ v σ H Q, t' v σ H Q → t v σ H Q) : PG X tg t' := ⟨fun pins s σ H v u Q I r q => h.run pins s σ H v u Q I r (i _ _ _ _ q)⟩
theorem pgs_imp {tg : List Expr} {t t' : TGs} (h : PGs X tg t) (i : ∀ v σ H Q, t' v σ H Q → t v σ H Q) : PGs X tg t' := ⟨fun pins s σ H v u Q I r q => h.run pins s σ H v u Q I r (i _ _ _ _ q)⟩
@[simp] def gNm (i : Nat) : DG := fun x s Φ => Φ (s.put i (.d x))
theorem xg_name {i : Nat} {x : Str} (hN : X.N.Nodup) (hi : X.N[i]? = some x) (hx : Loc X.env.scope x) (hf : X.fn x = true ∨ X.env.scope.names.lookup x = some .local := by first | exact .inl rfl | exact .inr rfl | assumption) : XG X (.Name x pos) [i] (gNm i) :=
  pg_imp (pg_name hN hi hx hf) fun v σ H Q h => by
    obtain ⟨G, P, F, s, x, Φ, R, d, h, k⟩ := h
    refine k _ _ (R.setD d) (fun j hj => ?_) List.length_set h
    rw [List.getElem?_set_ne]
    exact fun z => hj (by simp [z])
@[simp] def gNl : List PyData → S → (S → Prop) → Prop := fun xs s Φ => xs = [] ∧ Φ s
@[simp] def gCs (w : DG) (u : List PyData → S → (S → Prop) → Prop) : List PyData → S → (S → Prop) → Prop := fun xs s Φ => match xs with
  | x :: r => w x s fun s1 => u r s1 Φ
  | [] => False
theorem xgs_nil : XGs X [] [] gNl := pgs_imp pgs_nil fun vs σ H Q h => by
  obtain ⟨G, P, F, s, xs, Φ, R, d, ⟨rfl, h⟩, k⟩ := h
  cases d
  exact ⟨rfl, k σ s R (fun _ _ => rfl) rfl h⟩
theorem xgs_cons {e : Expr} {es : List Expr} {is js : List Nat} {w : DG} {u : List PyData → S → (S → Prop) → Prop} (h1 : XG X e is w) (h2 : XGs X es js u)
    (hs : (assignEach (e :: es) X.env).map (·.2) = assign e X.env :: (assignEach es X.env).map (·.2) := by rfl) : XGs X (e :: es) (is ++ js) (gCs w u) := pgs_imp (pgs_cons h1 h2 hs) fun vs σ H Q h => by
  obtain ⟨G, P, F, s, xs, Φ, R, d, h, k⟩ := h
  cases xs with
  | nil => exact h.elim
  | cons x r =>
    cases d with
    | cons d1 d2 =>
      refine ⟨_, _, rfl, G, P, F, s, x, _, R, d1, h, fun σ1 s1 R1 q1 l1 h1 => ⟨G, P, F, s1, r, Φ, R1, d2, h1, fun σ2 s2 R2 q2 l2 h2 => k σ2 s2 R2 (fun i hi => ?_) (l2.trans l1) h2⟩⟩
      rw [q2 i (fun z => hi (List.mem_append_right _ z)), q1 i (fun z => hi (List.mem_append_left _ z))]
end
end DL
/-! DL, fourth part: targets of tuples, loops, comprehensions. -/
namespace DL
open PySem PySem.Spec L2

section
variable {X : Cx} {pos : Pos}
@[simp] def gTp (n : Nat) (w : List PyData → S → (S → Prop) → Prop) : DG := fun x s Φ => match x with
  | .tuple xs => xs.length = n ∧ w xs s Φ
  | _ => False
theorem xg_tup {es : List Expr} {k n : Nat} {is : List Nat} {w : List PyData → S → (S → Prop) → Prop} (hc : X.calm = true) (h : XGs X es is w) (hn : (assignEach es X.env).length = n := by rfl) (hst : (assignEach es X.env).findIdx? (·.1) = none := by rfl) :
    XG X (.Tuple es k pos) is (gTp n w) := pg_imp (pg_tup hc h hn hst) fun v σ H Q h => by
  obtain ⟨G, P, F, s, x, Φ, R, d, h, k⟩ := h
  cases x with
  | tuple xs =>
    cases d with
    | tup h1 h2 => exact ⟨_, _, rfl, same_sqt R.same h1, by rw [h2.length]; exact h.1, G, P, F, s, xs, Φ, R, h2, h.2, k⟩
  | _ => exact h.elim
/-- a, b = e -/
@[simp] def wAsgT (w : DE) (wg : DG) : DS := fun Φ s => w s fun x s1 => wg x s1 Φ.nx
theorem xs_asgT {tg e : Expr} {is : List Nat} {w : DE} {wg : DG} (he : XE X e w) (hg : XG X tg is wg) (hs : swapsWithSole [tg] e pos.line X.env = pure false := by rfl) (hw : swappedStores [tg] e X.env = pure none := by rfl)
    (h1 : (assignEach [tg] X.env).map (·.2) = [assign tg X.env] := by rfl) : XS X (.Assign [tg] e pos) (wAsgT w wg) :=
  ps_imp (ps_asg he hg hs hw h1) fun D σ H h => by
    obtain ⟨G, P, F, s, Φ, R, h, b⟩ := h
    exact ⟨G, P, F, s, _, R, h, fun v F' H' s' x R' e d q => ⟨G, P, F', s', x, _, R', d, q, fun σ2 s2 R2 _ _ q2 => b.nx σ2 F' H' s2 R2 e q2⟩⟩
/-- a, b = e1, e2, both plain names -/
@[simp] def wPar (i j : Nat) (w : DA) : DS := fun Φ s => w s fun xs s1 => match xs with
  | [x, y] => Φ.nx ((s1.put i (.d x)).put j (.d y))
  | _ => False
theorem xs_par {i j : Nat} {x y : Str} {a b : Expr} {w : DA} {px py pt : Pos} {kt k2 : Nat} {pt2 : Pos} (hc : X.calm = true) (hN : X.N.Nodup) (hi : X.N[i]? = some x) (hj : X.N[j]? = some y) (hij : i ≠ j)
    (hx : X.env.scope.names.lookup x = some .local) (hy : X.env.scope.names.lookup y = some .local) (ha : XA X [a, b] w)
    (hw : swappedStores [.Tuple [.Name x px, .Name y py] kt pt] (.Tuple [a, b] k2 pt2) X.env = pure (some [x, y]))
    (hsole : swapsWithSole [.Tuple [.Name x px, .Name y py] kt pt] (.Tuple [a, b] k2 pt2) pos.line X.env = pure false := by rfl) : XS X (.Assign [.Tuple [.Name x px, .Name y py] kt pt] (.Tuple [a, b] k2 pt2) pos) (wPar i j w) :=
  ps_imp (ps_par hc hN hi hj hij hx hy ha hw hsole) fun D σ H h => by
    obtain ⟨G, P, F, s, Φ, R, h, b⟩ := h
    refine ⟨G, P, F, s, _, R, h, fun vs F' H' s' xs R' e d q => ?_⟩
    match xs, d, q with
    | [x, y], .cons d1 (.cons d2 .nil), q => exact ⟨_, _, rfl, b.nx _ F' H' _ ((R'.setD d1).setD d2) e q⟩

/-! loops -/
def loopW (wg : DG) (wb : DS) (Φ : EN) : List PyData → S → Prop
  | [], s => Φ.nx s
  | x :: xs, s => wg x s fun s1 => wb { nx := loopW wg wb Φ xs, rt := Φ.rt, bk := Φ.nx, ct := loopW wg wb Φ xs, rl := Φ.rl, ex := Φ.ex } s1
@[simp] def wFor (wi : DI) (wg : DG) (wb : DS) : DS := fun Φ s => wi s fun xs s1 => loopW wg wb Φ xs s1
theorem xs_for {tg iter : Expr} {body : List Stmt} {is : List Nat} {wi : DI} {wg : DG} {wb : DS} (hp : PassesOwn (model X.prog X.w) X.A X.env X.xe) (hc : X.calm = true) (hi : XI X tg iter wi) (hg : XG X tg is wg) (hb : XSs X body wb)
    (hs : ∀ x, foldedSetIterable iter X.env x = pure x := by intro _; rfl) : XS X (.For tg iter body [] pos) (wFor wi wg wb) := ps_imp (ps_for hp hc hi hg hb hs) fun D σ H h => by
  obtain ⟨G, P, F, s, Φ, R, h, b⟩ := h
  refine ⟨G, P, F, s, _, R, h, fun J F1 H1 s1 xs R1 e1 Y q => ?_⟩
  refine ⟨fun i m σ2 H2 => m = xs.length - i ∧ i ≤ xs.length ∧ ∃ F2 s2, Rep X.K G P F2 H2 σ2 s2 ∧ Same F1 F2 ∧ loopW wg wb Φ (xs.drop i) s2, ⟨_, rfl, Nat.zero_le _, F1, s1, R1, Same.refl F1, by simpa using q⟩, ?_⟩
  rintro i m σ2 H2 ⟨rfl, hi, F2, s2, R2, e2, q2⟩
  by_cases hl : i < xs.length
  · obtain ⟨go, yl⟩ := (Y F2 H2 e2 R2.same i).1 xs[i] (List.getElem?_eq_getElem hl)
    refine .inr ⟨go, fun σ3 H3 => ∃ F3 s3, Rep X.K G P F3 H3 σ3 s3 ∧ Same F1 F3 ∧ loopW wg wb Φ (xs.drop (i + 1)) s3, fun σ3 H3 ⟨F3, s3, R3, e3, q3⟩ => ⟨xs.length - (i + 1), by omega, rfl, hl, F3, s3, R3, e3, q3⟩, fun v H3 hy => ?_⟩
    obtain ⟨F3, f, dx⟩ := yl v H3 hy
    rw [List.drop_eq_getElem_cons hl] at q2
    refine ⟨G, P, F3, s2, xs[i], _, R2.fresh f, dx, q2, fun σ4 s4 R4 _ _ q4 => ?_⟩
    have e13 : Same F1 F3 := e2.trans f.ff
    exact ⟨G, P, F3, s4, _, R4, q4, ⟨fun σ5 F5 H5 s5 R5 e5 q5 => ⟨F5, s5, R5, e13.trans e5, q5⟩, fun v5 σ5 F5 H5 s5 x5 R5 e5 d5 q5 => b.rt v5 σ5 F5 H5 s5 x5 R5 ((e1.trans e13).trans e5) d5 q5,
      fun σ5 F5 H5 s5 R5 e5 q5 => b.nx σ5 F5 H5 s5 R5 ((e1.trans e13).trans e5) q5, fun σ5 F5 H5 s5 R5 e5 q5 => ⟨F5, s5, R5, e13.trans e5, q5⟩, fun p5 vs5 σ5 F5 H5 s5 xs5 R5 e5 n5 h5 d5 q5 => b.rl p5 vs5 σ5 F5 H5 s5 xs5 R5 ((e1.trans e13).trans e5) n5 h5 d5 q5, fun c5 x5 σ5 F5 H5 s5 R5 e5 q5 => b.ex c5 x5 σ5 F5 H5 s5 R5 ((e1.trans e13).trans e5) q5⟩⟩
  · refine .inl ⟨(Y F2 H2 e2 R2.same i).2 (by omega), ?_⟩
    rw [List.drop_eq_nil_of_le (by omega)] at q2
    exact b.nx σ2 F2 H2 s2 R2 (e1.trans e2) q2
def whN (wt : DT) (wb : DS) (Φ : EN) : Nat → S → Prop
  | 0, _ => False
  | n + 1, s => wt s fun b s1 => if b = true then wb { nx := whN wt wb Φ n, rt := Φ.rt, bk := Φ.nx, ct := whN wt wb Φ n, rl := Φ.rl, ex := Φ.ex } s1 else Φ.nx s1
def wWhile (wt : DT) (wb : DS) : DS := fun Φ s => ∃ n, whN wt wb Φ n s
theorem xs_while {c : Expr} {body : List Stmt} {wt : DT} {wb : DS} (hp : PassesOwn (model X.prog X.w) X.A X.env X.xe) (hc : XT X c wt) (hb : XSs X body wb) : XS X (.While c body [] pos) (wWhile wt wb) := ps_imp (ps_while hp hc hb) fun D σ H h => by
  obtain ⟨G, P, F, s, Φ, R, ⟨n, h⟩, b⟩ := h
  refine ⟨fun m σ2 H2 => ∃ F2 s2, Rep X.K G P F2 H2 σ2 s2 ∧ Same F F2 ∧ whN wt wb Φ m s2, ⟨n, F, s, R, Same.refl F, h⟩, ?_⟩
  rintro m σ2 H2 ⟨F2, s2, R2, e2, q2⟩
  cases m with
  | zero => exact q2.elim
  | succ m =>
    refine ⟨G, P, F2, s2, _, R2, q2, fun k F3 H3 s3 R3 e3 q3 => ?_⟩
    cases k with
    | true =>
      rw [if_pos rfl] at q3 ⊢
      refine ⟨fun σ4 H4 => ∃ F4 s4, Rep X.K G P F4 H4 σ4 s4 ∧ Same F F4 ∧ whN wt wb Φ m s4, fun σ4 H4 z => ⟨m, Nat.lt_succ_self m, z⟩, G, P, F3, s3, _, R3, q3, ?_⟩
      have e13 : Same F F3 := e2.trans e3
      exact ⟨fun σ5 F5 H5 s5 R5 e5 q5 => ⟨F5, s5, R5, e13.trans e5, q5⟩, fun v5 σ5 F5 H5 s5 x5 R5 e5 d5 q5 => b.rt v5 σ5 F5 H5 s5 x5 R5 (e13.trans e5) d5 q5, fun σ5 F5 H5 s5 R5 e5 q5 => b.nx σ5 F5 H5 s5 R5 (e13.trans e5) q5,
        fun σ5 F5 H5 s5 R5 e5 q5 => ⟨F5, s5, R5, e13.trans e5, q5⟩, fun p5 vs5 σ5 F5 H5 s5 xs5 R5 e5 n5 h5 d5 q5 => b.rl p5 vs5 σ5 F5 H5 s5 xs5 R5 (e13.trans e5) n5 h5 d5 q5, fun c5 x5 σ5 F5 H5 s5 R5 e5 q5 => b.ex c5 x5 σ5 F5 H5 s5 R5 (e13.trans e5) q5⟩
    | false =>
      rw [if_neg Bool.false_ne_true] at q3 ⊢
      exact b.nx σ2 F3 H3 s3 R3 (e2.trans e3) q3
end

/-! ### comprehensions -/
@[simp] def noOwn (vs : List Nat) (e : List Sl) : Bool := vs.all fun i => match e[i]? with
  | some (.o _) => false
  | some (.tb _ _ _) => false
  | _ => true
theorem noOwn_tb {vs : List Nat} {e : List Sl} (h : (vs.all fun i => match e[i]? with
  | some (.o _) => false
  | some (.tb _ _ _) => false
  | _ => true) = true) {i : Nat} (hi : i ∈ vs) {p : Addr} {qs : List Addr} {xs : List (List PyData)} (q : e[i]? = some (.tb p qs xs)) : False := by
  have z := List.all_eq_true.mp h i hi
  rw [q] at z
  cases z
theorem noOwn_at {vs : List Nat} {e : List Sl} (h : noOwn vs e = true) {i : Nat} (hi : i ∈ vs) {xs : List PyData} (q : e[i]? = some (.o xs)) : False := by
  have z := List.all_eq_true.mp h i hi
  rw [q] at z
  cases z
@[simp] def wipeE (e : List Sl) : List Nat → List Sl
  | [] => e
  | v :: vs => (wipeE e vs).set v .un
theorem wipeE_len (e : List Sl) : ∀ vs, (wipeE e vs).length = e.length
  | [] => rfl
  | v :: vs => by
    show ((wipeE e vs).set v .un).length = e.length
    rw [List.length_set, wipeE_len e vs]
theorem wipeE_out {e : List Sl} {i : Nat} : ∀ {vs : List Nat}, i ∉ vs → (wipeE e vs)[i]? = e[i]?
  | [], _ => rfl
  | v :: vs, h => by
    show ((wipeE e vs).set v .un)[i]? = e[i]?
    rw [List.getElem?_set_ne (fun z => h (by simp [z])), wipeE_out (fun z => h (List.mem_cons_of_mem _ z))]
theorem wipeE_in {e : List Sl} {i : Nat} {x : Sl} : ∀ {vs : List Nat}, i ∈ vs → (wipeE e vs)[i]? = some x → x = .un
  | [], h, _ => by cases h
  | v :: vs, h, q => by
    have q' : ((wipeE e vs).set v .un)[i]? = some x := q
    rcases set_get q' with ⟨_, z⟩ | ⟨ne, z⟩
    · exact z
    · rcases List.mem_cons.mp h with z2 | z2
      · exact absurd z2 ne
      · exact wipeE_in z2 z
theorem wipe_in {σ : L2.St} {i : Nat} : ∀ {vs : List Nat}, i ∈ vs → i < σ.length → (wipe σ vs)[i]? = some none
  | [], h, _ => by cases h
  | v :: vs, h, hl => by
    show ((wipe σ vs).set v none)[i]? = some none
    by_cases e : v = i
    · rw [e, List.getElem?_set_self (by rw [wipe_length]; exact hl)]
    · rw [List.getElem?_set_ne e]
      rcases List.mem_cons.mp h with z | z
      · exact absurd z.symm e
      · exact wipe_in z hl
theorem wipe_off {σ : L2.St} {i : Nat} : ∀ {vs : List Nat}, i ∉ vs → (wipe σ vs)[i]? = σ[i]?
  | [], _ => rfl
  | v :: vs, h => by
    show ((wipe σ vs).set v none)[i]? = σ[i]?
    rw [List.getElem?_set_ne (fun z => h (by simp [z])), wipe_off (fun z => h (List.mem_cons_of_mem _ z))]
theorem wipe_same {σ τ : L2.St} {vs : List Nat} (hl : τ.length = σ.length) (h : ∀ i, i ∉ vs → τ[i]? = σ[i]?) : wipe τ vs = wipe σ vs := by
  refine List.ext_getElem? fun i => ?_
  by_cases hi : i ∈ vs
  · by_cases hb : i < σ.length
    · rw [wipe_in hi hb, wipe_in hi (by rw [hl]; exact hb)]
    · rw [List.getElem?_eq_none (by rw [wipe_length, hl]; omega), List.getElem?_eq_none (by rw [wipe_length]; omega)]
  · rw [wipe_off hi, wipe_off hi, h i hi]
def lcW (vs : List Nat) (e0 : List Sl) (wg : DG) (wt : DT) (we : DE) (Φ : List PyData → List Int → Prop) : List PyData → List PyData → List Int → Prop
  | [], acc, q => Φ acc q
  | x :: xs, acc, q => wg x ⟨wipeE e0 vs, q⟩ fun s1 => wipeE s1.e vs = wipeE e0 vs ∧ wt s1 fun b s2 => s2.e = s1.e ∧
    (if b = true then we s2 fun y s3 => s3.e = s1.e ∧ acc.length < sizeLine ∧ lcW vs e0 wg wt we Φ xs (acc ++ [y]) s3.q else lcW vs e0 wg wt we Φ xs acc s2.q)
@[simp] def wLc (vs : List Nat) (wi : DI) (wg : DG) (wt : DT) (we : DE) : DA := fun s Φ => wi s fun xs s1 => noOwn vs s1.e = true ∧ lcW vs s1.e wg wt we (fun ys q => Φ ys ⟨s1.e, q⟩) xs [] s1.q
/-- tests of a comprehension -/
abbrev XTs (X : Cx) (ifs : List Expr) (w : DT) : Prop := PTs X ifs (tT X.K w)
@[simp] def wYes : DT := fun s Φ => Φ true s
section
variable {X : Cx} {pos : Pos}
theorem pts_imp {ifs : List Expr} {t t' : TT} (h : PTs X ifs t) (i : ∀ σ H Q, t' σ H Q → t σ H Q) : PTs X ifs t' := ⟨fun pins s σ H Q I q => h.run pins s σ H Q I (i _ _ _ q)⟩
theorem xts_nil : XTs X [] wYes := pts_imp pts_nil fun σ H Q h => by
  obtain ⟨G, P, F, s, Φ, R, h, k⟩ := h
  exact k true F H s R (Same.refl F) h
theorem xts_one {c : Expr} {w : DT} (h : XT X c w) : XTs X [c] w := pts_one h
section
variable {K : PySem.W.Frag} {G F H F' H' : Hp} {P : Option Addr} {σ τ : L2.St} {s : S} {vs : List Nat} {D : Addr} {acc : List V}
/-- into the block -/
theorem Rep.block (R : Rep K G P F H σ s) (n : Nu G P F σ s D) (hD : H D = some (.lst acc)) : Rep K (upd G D (.lst acc)) P F H (wipe σ vs) ⟨wipeE s.e vs, s.q⟩ := by
  refine ⟨R.same, fun b o q => ?_, fun b o q => ?_, fun i x hx => ?_, fun i j xs ys p hi hj e1 e2 => ?_, fun a ha => ?_, ?_, fun i j x y r hi hj hr ij oc => ?_⟩
  · by_cases hb : b = D
    · rw [hb, upd_same] at q
      cases q
      rw [hb]
      exact hD
    · rw [upd_ne hb] at q
      exact R.keep b o q
  · by_cases hb : b = D
    · rw [hb]
      exact n.f
    · rw [upd_ne hb] at q
      exact R.apart b o q
  · have hx : (wipeE s.e vs)[i]? = some x := hx
    by_cases hi : i ∈ vs
    · rw [wipeE_in hi hx]
      exact True.intro
    · rw [wipeE_out hi] at hx
      have q := R.sl i x hx
      cases x with
      | un => exact True.intro
      | d x =>
        obtain ⟨v, a, b⟩ := q
        exact ⟨v, by rw [wipe_off hi]; exact a, b⟩
      | o xs =>
        obtain ⟨p, us, h1, h2, h3, h4, h5, h6⟩ := q
        have np : p ≠ D := fun z => n.sl i xs hx (by rw [← z]; exact h1)
        exact ⟨p, us, by rw [wipe_off hi]; exact h1, h2, by rw [upd_ne np]; exact h3, h4, h5, h6⟩
      | pl =>
        obtain ⟨a, h1, h2⟩ := q
        exact ⟨a, h1, by rw [wipe_off hi]; exact h2⟩
      | sc ns =>
        obtain ⟨a, h1, h2⟩ := q
        exact ⟨a, by rw [wipe_off hi]; exact h1, h2⟩
      | tb p qs xss => exact q.tbUp (wipe_off hi) (Same.refl F) fun r o hr g1 g2 g3 g4 => ⟨g1, by rw [upd_ne (fun z => n.tb i _ hx (by rw [← z]; exact hr))]; exact g2, g3, g4⟩
  · have hi' : (wipeE s.e vs)[i]? = some (.o xs) := hi
    have hj' : (wipeE s.e vs)[j]? = some (.o ys) := hj
    have ni : i ∉ vs := fun z => by
      have := wipeE_in z hi'
      cases this
    have nj : j ∉ vs := fun z => by
      have := wipeE_in z hj'
      cases this
    rw [wipeE_out ni] at hi'
    rw [wipeE_out nj] at hj'
    rw [wipe_off ni] at e1
    rw [wipe_off nj] at e2
    exact R.sep i j xs ys p hi' hj' e1 e2
  · obtain ⟨g1, g2, g3⟩ := R.pool a ha
    exact ⟨g1, by rw [upd_ne (fun z => n.np (by rw [← z]; exact ha))]; exact g2, g3⟩
  · show (wipe σ vs).length = (wipeE s.e vs).length
    rw [wipe_length, wipeE_len, R.len]
  · have hi : (wipeE s.e vs)[i]? = some x := hi
    have hj : (wipeE s.e vs)[j]? = some y := hj
    have ni : i ∉ vs := fun z => by
      have := wipeE_in z hi
      subst this
      cases hr
    rw [wipeE_out ni] at hi
    by_cases nj : j ∈ vs
    · have := wipeE_in nj hj
      subst this
      rcases oc with z | ⟨⟨_, z⟩, _⟩
      · cases z
      · cases z
    · rw [wipeE_out nj] at hj
      refine R.tbs i j x y r hi hj hr ij ?_
      rcases oc with z | ⟨z, z2⟩
      · exact .inl z
      · rw [wipe_off nj] at z2
        exact .inr ⟨z, z2⟩
/-- out of the block, the new list longer (or not) -/
theorem Rep.unblock {s2 : S} {acc' : List V} (R : Rep K G P F H σ s) (n : Nu G P F σ s D) (hno : noOwn vs s.e = true) (e : Same F F') (R2 : Rep K (upd G D (.lst acc)) P F' H' τ s2) (he : wipeE s2.e vs = wipeE s.e vs) (hτ : ∀ i, i ∉ vs → τ[i]? = σ[i]?) :
    Rep K G P F' (upd H' D (.lst acc')) σ ⟨s.e, s2.q⟩ ∧ Nu G P F' σ ⟨s.e, s2.q⟩ D ∧ H' D = some (.lst acc) := by
  have hD : H' D = some (.lst acc) := R2.keep D _ upd_same
  have fD : F' D = none := R2.apart D _ upd_same
  refine ⟨⟨fun b o q => ?_, fun b o q => ?_, fun b o q => ?_, fun i x hx => ?_, R.sep, fun a ha => ?_, R.len, R.tbs⟩, ⟨fD, n.g, n.np, n.sl, n.tb⟩, hD⟩
  · rw [upd_ne (fun z => by rw [z, fD] at q; cases q)]
    exact R2.same b o q
  · have nb : b ≠ D := fun z => by
      rw [z, n.g] at q
      cases q
    rw [upd_ne nb]
    exact R2.keep b o (by rw [upd_ne nb]; exact q)
  · have nb : b ≠ D := fun z => by
      rw [z, n.g] at q
      cases q
    exact R2.apart b o (by rw [upd_ne nb]; exact q)
  · have hx : s.e[i]? = some x := hx
    by_cases hi : i ∈ vs
    · have q := R.sl i x hx
      cases x with
      | un => exact True.intro
      | d x =>
        obtain ⟨v, a, b⟩ := q
        exact ⟨v, a, b.mono e⟩
      | o xs => exact (noOwn_at hno hi hx).elim
      | pl => exact q
      | sc ns =>
        obtain ⟨a, h1, h2⟩ := q
        exact ⟨a, h1, e.seq h2⟩
      | tb p qs xss => exact (noOwn_tb hno hi hx).elim
    · have hx2 : s2.e[i]? = some x := by rw [← wipeE_out hi, he, wipeE_out hi]; exact hx
      have q := R2.sl i x hx2
      cases x with
      | un => exact True.intro
      | d x =>
        obtain ⟨v, a, b⟩ := q
        exact ⟨v, by rw [← hτ i hi]; exact a, b⟩
      | o xs =>
        obtain ⟨p, us, h1, h2, h3, h4, h5, h6⟩ := q
        have np : p ≠ D := fun z => by
          rw [z, upd_same] at h3
          cases h3
        exact ⟨p, us, by rw [← hτ i hi]; exact h1, h2, by rw [upd_ne np] at h3; exact h3, h4, by rw [upd_ne np]; exact h5, h6⟩
      | pl =>
        obtain ⟨a, h1, h2⟩ := q
        exact ⟨a, h1, by rw [← hτ i hi]; exact h2⟩
      | sc ns =>
        obtain ⟨a, h1, h2⟩ := q
        exact ⟨a, by rw [← hτ i hi]; exact h1, h2⟩
      | tb p qs xss =>
        refine q.tbUp (by rw [hτ i hi]) (Same.refl F') fun r o hr g1 g2 g3 g4 => ?_
        have nr : r ≠ D := fun z => n.tb i _ hx (by rw [← z]; exact hr)
        exact ⟨g1, by rw [upd_ne nr] at g2; exact g2, g3, by rw [upd_ne nr]; exact g4⟩
  · obtain ⟨g1, g2, g3⟩ := R2.pool a ha
    have na : a ≠ D := fun z => n.np (by rw [← z]; exact ha)
    exact ⟨g1, by rw [upd_ne na] at g2; exact g2, by rw [upd_ne na]; exact g3⟩
end
theorem lc_of {K : PySem.W.Frag} {vs is : List Nat} {wi : DI} {wg : DG} {wt : DT} {we : DE} (hsub : ∀ i ∈ is, i ∈ vs) (σ : L2.St) (H : Hp) (Q : VK) (h : tL K (wLc vs wi wg wt we) σ H Q) : tLc (tI K wi) (tG K is wg) (tT K wt) (tE K we) vs σ H Q := by
  obtain ⟨G, P, F, s, Φ, R, h, k⟩ := h
  refine ⟨G, P, F, s, _, R, h, fun J F1 H1 s1 xs R1 e1 Y q D hD => ?_⟩
  obtain ⟨hno, q⟩ := q
  obtain ⟨R1', n1⟩ := nu_new (o := .lst []) R1 hD
  refine ⟨fun i m H2 => m = xs.length - i ∧ i ≤ xs.length ∧ ∃ F2 vacc acc q2, Same F1 F2 ∧ H2 D = some (.lst vacc) ∧ DqA K F2 vacc acc ∧ Rep K G P F2 H2 σ ⟨s1.e, q2⟩ ∧ Nu G P F2 σ ⟨s1.e, q2⟩ D ∧
    lcW vs s1.e wg wt we (fun ys q => Φ ys ⟨s1.e, q⟩) (xs.drop i) acc q2, ⟨_, rfl, Nat.zero_le _, F1, [], [], s1.q, Same.refl F1, upd_same, .nil, R1', n1, by simpa using q⟩, ?_⟩
  rintro i m H2 ⟨rfl, hi, F2, vacc, acc, q2, e2, hD2, dacc, R2, n2, w2⟩
  by_cases hl : i < xs.length
  · obtain ⟨go, yl⟩ := (Y F2 H2 e2 R2.same i).1 xs[i] (List.getElem?_eq_getElem hl)
    rw [List.drop_eq_getElem_cons hl] at w2
    refine .inr ⟨go, fun H3 => ∃ F2 vacc acc q2, Same F1 F2 ∧ H3 D = some (.lst vacc) ∧ DqA K F2 vacc acc ∧ Rep K G P F2 H3 σ ⟨s1.e, q2⟩ ∧ Nu G P F2 σ ⟨s1.e, q2⟩ D ∧
      lcW vs s1.e wg wt we (fun ys q => Φ ys ⟨s1.e, q⟩) (xs.drop (i + 1)) acc q2, fun H3 z => ⟨xs.length - (i + 1), by omega, rfl, hl, z⟩, fun v H3 hy => ?_⟩
    obtain ⟨F3, f, dx⟩ := yl v H3 hy
    have RB : Rep K (upd G D (.lst vacc)) P F3 H3 (wipe σ vs) ⟨wipeE s1.e vs, q2⟩ := (R2.block (vs := vs) n2 hD2).fresh f
    refine ⟨_, P, F3, _, xs[i], _, RB, dx, w2, fun σ4 s4 R4 ag l4 q4 => ?_⟩
    obtain ⟨we4, q4⟩ := q4
    have ag' : ∀ i, i ∉ vs → σ4[i]? = σ[i]? := fun j hj => by
      rw [ag j (fun z => hj (hsub j z)), wipe_off hj]
    refine ⟨wipe_same (by rw [l4, wipe_length]) ag', ?_⟩
    refine ⟨_, P, F3, s4, _, R4, q4, fun b F5 H5 s5 R5 e5 q5 => ?_⟩
    obtain ⟨es5, q5⟩ := q5
    have e25 : Same F2 F5 := f.ff.trans e5
    cases b with
    | true =>
      rw [if_pos rfl] at q5 ⊢
      refine ⟨_, P, F5, s5, _, R5, q5, fun y F6 H6 s6 dy R6 e6 d6 q6 => ?_⟩
      obtain ⟨es6, hz, q6⟩ := q6
      obtain ⟨R7, n7, hD7⟩ := R2.unblock (vs := vs) (acc' := vacc ++ [y]) n2 hno (e25.trans e6) R6 (by rw [es6]; exact we4) ag'
      exact ⟨vacc, hD7, by rw [dacc.length]; exact hz, F6, vacc ++ [y], acc ++ [dy], s6.q, e2.trans (e25.trans e6), upd_same, (dacc.mono (e25.trans e6)).append (.cons d6 .nil), R7, n7, q6⟩
    | false =>
      rw [if_neg Bool.false_ne_true] at q5 ⊢
      obtain ⟨R7, n7, hD7⟩ := R2.unblock (vs := vs) (acc' := vacc) n2 hno e25 R5 (by rw [es5]; exact we4) ag'
      have eu : upd H5 D (.lst vacc) = H5 := by
        funext b
        by_cases hb : b = D
        · rw [hb, upd_same, hD7]
        · rw [upd_ne hb]
      rw [eu] at R7
      exact ⟨F5, vacc, acc, s5.q, e2.trans e25, hD7, dacc.mono e25, R7, n7, q5⟩
  · refine .inl ⟨(Y F2 H2 e2 R2.same i).2 (by omega), ?_⟩
    rw [List.drop_eq_nil_of_le (by omega)] at w2
    exact k D vacc F2 H2 ⟨s1.e, q2⟩ acc R2 (e1.trans e2) n2 hD2 dacc w2
theorem xl_lc {elt tg iter : Expr} {ifs : List Expr} {scope : Scope} {own : List (Str × Nat)} {is : List Nat} {wi : DI} {wg : DG} {wt : DT} {we : DE} (hc : X.calm = true) (hN : X.N.Nodup) (hi : XI X tg iter wi) (ok : BlkOk X.N X.env.scope scope own) (hsub : ∀ i ∈ is, i ∈ own.map (·.2))
    (hg : ∀ (s : Shared) (H : Hp) (C : Addr) (cl : List (Str × Addr)) (fp : List Addr), XG (X.blk s H scope (compEnvC scope cl C X.env) fp) tg is wg) (ht : ∀ (s : Shared) (H : Hp) (C : Addr) (cl : List (Str × Addr)) (fp : List Addr), XTs (X.blk s H scope (compEnvC scope cl C X.env) fp) ifs wt)
    (he : ∀ (s : Shared) (H : Hp) (C : Addr) (cl : List (Str × Addr)) (fp : List Addr), XE (X.blk s H scope (compEnvC scope cl C X.env) fp) elt we) (hs : ∀ x, foldedSetIterable iter X.env x = pure x := by intro _; rfl) :
    XL X (.ListComp elt [⟨tg, iter, ifs, 0⟩] scope pos) (wLc (own.map (·.2)) wi wg wt we) := pe_imp (pe_lc hc hN hi ok hg ht he hs) (lc_of hsub)
/-- y = [..] on one line, y a plain name: one's own -/
theorem xs_setLcO {i : Nat} {y : Str} {py : Pos} {elt tg iter : Expr} {ifs : List Expr} {scope : Scope} {own : List (Str × Nat)} {spos : Pos} {is : List Nat} {wi : DI} {wg : DG} {wt : DT} {we : DE} (hc : X.calm = true) (hN : X.N.Nodup) (hy : X.N[i]? = some y) (hyl : X.env.scope.names.lookup y = some .local)
    (hsw : swapsWith (.ListComp elt [⟨tg, iter, ifs, 0⟩] scope pos) (some (.Name y py)) spos.line X.env = pure true) (hi : XI X tg iter wi) (ok : BlkOk X.N X.env.scope scope own) (hsub : ∀ i ∈ is, i ∈ own.map (·.2))
    (hg : ∀ (s : Shared) (H : Hp) (C : Addr) (cl : List (Str × Addr)) (fp : List Addr), XG (X.blk s H scope (compEnvC scope cl C X.env) fp) tg is wg) (ht : ∀ (s : Shared) (H : Hp) (C : Addr) (cl : List (Str × Addr)) (fp : List Addr), XTs (X.blk s H scope (compEnvC scope cl C X.env) fp) ifs wt)
    (he : ∀ (s : Shared) (H : Hp) (C : Addr) (cl : List (Str × Addr)) (fp : List Addr), XE (X.blk s H scope (compEnvC scope cl C X.env) fp) elt we) (hs : ∀ x, foldedSetIterable iter X.env x = pure x := by intro _; rfl) :
    XS X (.Assign [.Name y py] (.ListComp elt [⟨tg, iter, ifs, 0⟩] scope pos) spos) (wSetO i (wLc (own.map (·.2)) wi wg wt we)) := ps_imp (ps_setLc hc hN hy hyl hsw hi ok hg ht he hs) fun D σ H h => by
  obtain ⟨G, P, F, s, Φ, R, h, b⟩ := h
  exact lc_of hsub σ H _ ⟨G, P, F, s, _, R, h, fun p vs F' H' s' x R' e n hp d q => b.nx _ F' H' _ (R'.setO n hp d) e q⟩
/-- .. as data -/
theorem xs_setLc {i : Nat} {y : Str} {py : Pos} {elt tg iter : Expr} {ifs : List Expr} {scope : Scope} {own : List (Str × Nat)} {spos : Pos} {is : List Nat} {wi : DI} {wg : DG} {wt : DT} {we : DE} (hc : X.calm = true) (hN : X.N.Nodup) (hy : X.N[i]? = some y) (hyl : X.env.scope.names.lookup y = some .local)
    (hsw : swapsWith (.ListComp elt [⟨tg, iter, ifs, 0⟩] scope pos) (some (.Name y py)) spos.line X.env = pure true) (hi : XI X tg iter wi) (ok : BlkOk X.N X.env.scope scope own) (hsub : ∀ i ∈ is, i ∈ own.map (·.2))
    (hg : ∀ (s : Shared) (H : Hp) (C : Addr) (cl : List (Str × Addr)) (fp : List Addr), XG (X.blk s H scope (compEnvC scope cl C X.env) fp) tg is wg) (ht : ∀ (s : Shared) (H : Hp) (C : Addr) (cl : List (Str × Addr)) (fp : List Addr), XTs (X.blk s H scope (compEnvC scope cl C X.env) fp) ifs wt)
    (he : ∀ (s : Shared) (H : Hp) (C : Addr) (cl : List (Str × Addr)) (fp : List Addr), XE (X.blk s H scope (compEnvC scope cl C X.env) fp) elt we) (hs : ∀ x, foldedSetIterable iter X.env x = pure x := by intro _; rfl) :
    XS X (.Assign [.Name y py] (.ListComp elt [⟨tg, iter, ifs, 0⟩] scope pos) spos) (wSet i (wFz (wLc (own.map (·.2)) wi wg wt we))) := ps_imp (ps_setLc hc hN hy hyl hsw hi ok hg ht he hs) fun D σ H h => by
  obtain ⟨G, P, F, s, Φ, R, h, b⟩ := h
  refine lc_of hsub σ H _ ⟨G, P, F, s, _, R, h, fun p vs F' H' s' x R' e n hp d q => ?_⟩
  obtain ⟨R2, dq⟩ := R'.take n hp d
  exact b.nx _ _ H' _ (R2.setD dq) (e.trans (same_new n.f)) q
end
end DL
/-! DL, fifth part: defs, their promises (nothing under repr around), calls. -/
namespace DL
open PySem PySem.Spec PyProof.Rows L2

/-- a def's promise where no repr is under way -/
structure FnG (P : Program) (w : World) (K : PySem.W.Frag) (mg : Str → Option Value) (base : Heap) (CX : CXT) (k : Nat) (f : Addr) (fd : FuncData) (ps : List Str) (sp : Sp) : Prop where
  len : ∀ vs H Q E, sp vs H Q E → vs.length = ps.length
  go : ∀ (A : Around) (outer : List Env) (s : Shared) (H : Hp) (args : Args) (us : List Value) (vs : List V) (Q : VK) (E : XK), A.guards = some [] → Room k A → Env0 P w K mg base A outer s H → BindsTo s fd args (ps.zip us) →
    Vals vs us → sp vs H Q E → codeAny (model P w) A (.call (.ref f) args) (CR CX outer P w H s Q E) s
section
variable {P : Program} {w : World} {K : PySem.W.Frag} {mg : Str → Option Value} {base : Heap} {CX : CXT} {k : Nat} {f : Addr} {fd : FuncData} {ps : List Str} {sp : Sp}
theorem FnG.of (F : FnOk P w K mg base CX k f fd ps sp) : FnG P w K mg base CX k f fd ps sp := ⟨F.len, fun A outer s H args us vs Q E _ => F.run A outer s H args us vs Q E⟩
theorem FnG.mono {j : Nat} (F : FnG P w K mg base CX j f fd ps sp) (h : j ≤ k) : FnG P w K mg base CX k f fd ps sp := ⟨F.len, fun A outer s H args us vs Q E g hr => F.go A outer s H args us vs Q E g (hr.mono h)⟩
theorem FnG.imp {sp' : Sp} (F : FnG P w K mg base CX k f fd ps sp) (h : ∀ vs H Q E, sp' vs H Q E → sp vs H Q E) : FnG P w K mg base CX k f fd ps sp' :=
  ⟨fun vs H Q E q => F.len vs H Q E (h _ _ _ _ q), fun A outer s H args us vs Q E g hr he hb hv hs => F.go A outer s H args us vs Q E g hr he hb hv (h _ _ _ _ hs)⟩
/-- a def of the text by its body -/
theorem fng_of {qual x : Str} {st : Stmt} {N : List Str} (F : Fun K x qual st f fd) (Sc : FnScope N ps (defScope st)) (len : ∀ vs H Q E, sp vs H Q E → vs.length = ps.length)
    (hbody : ∀ (cdv : Value) (A : Around) (outer : List Env) (s : Shared) (H : Hp) (vs : List V) (Q : VK) (E : XK), (A.deeper (envOfC qual (defScope st) s.heap.objs.size f cdv)).guards = some [] → Room k (A.deeper (envOfC qual (defScope st) s.heap.objs.size f cdv)) → sp vs H Q E →
      ∃ t, PSs (cxOf CX P w K mg base N qual (defScope st) f cdv A outer s H E) (defBody st) t ∧ t { nx := fun _ H' => Q .non H', rt := Q } (L2.start N vs) H) : FnG P w K mg base CX (k + 1) f fd ps sp := by
  obtain ⟨oc, od, kV, doc, pm, an, cdv, ct, osl, rfl, lk, hcd⟩ := F.ex
  refine ⟨len, fun A outer s H args us vs Q E g hr z hb r hsp => ?_⟩
  have names : ∀ y ∈ ps.zip us, (defScope st).names.lookup y.1 = some .local ∨ ((defScope st).names.lookup y.1 = some .cell ∧ ((cellsFrom (s.heap.objs.size + 1) (defScope st).names []).lookup y.1).isSome = true) := by
    rintro ⟨n, v⟩ hy
    rcases Sc.par n (List.of_mem_zip hy).1 with q | q
    · exact Or.inl q
    · exact Or.inr ⟨q, PySem.W.cellsFrom_some _ _ _ (Or.inl q)⟩
  have kin : K.In s.heap := z.mod.kin.keeps fun b o e => (z.bs b o e).1
  have nolim : s.heap.NoLimit := z.mod.nolimit.keeps fun b o e => (z.bs b o e).1
  refine codeAny_call_function hr.depth (kin _ _ lk) rfl Sc.co Sc.gen rfl (PySem.W.codeRec_of kin hcd) (hb _ _ _ _ (wpAny_newFunctionEnv_cells Sc.kind names fun env he s1 y => ?_))
  subst he
  obtain ⟨t, ht, hq⟩ := hbody cdv A outer s H vs Q E (by show A.guards = some []; exact g) (hr.deeper _) hsp
  refine ⟨nolim.keeps y.toInCall.keep, codeAny_func (wpAny_mono (ht.run [] s1 (L2.start N vs) H _ (inv_start Sc hr.hd z (len _ _ _ _ hsp) r y) hq) (fun fl s' hs => ?_) fun e s' hs => hs)⟩
  cases fl with
  | ret u =>
    obtain ⟨v, σ', H', J, rv, q⟩ := hs
    exact (⟨v, H', J.os, J.bare, J.base, J.hok, rv, q⟩ : CE outer P w H s Q u s')
  | next =>
    obtain ⟨σ', H', J, q⟩ := hs
    exact (⟨V.non, H', J.os, J.bare, J.base, J.hok, rfl, q⟩ : CE outer P w H s Q .none s')
  | brk => exact hs.elim fun _ h => h.elim fun _ h => False.elim h.2
  | cont => exact hs.elim fun _ h => h.elim fun _ h => False.elim h.2
end
section
variable {X : Cx} {CX : CXT} {k : Nat} {f : Addr} {fd : FuncData} {ps : List Str} {sp : Sp} {dvs : List V} {ds : List Value} {E : XK} {x : Str} {p pos : Pos} {e : Expr} {es : List Expr} {t : TA}
/-- the call of such a def -/
theorem pe_callG (F : FnG X.prog X.w X.K X.mg X.base CX k f fd ps sp) (hgd : X.A.guards = some []) (hr : Room k X.A) (hg : Gl X x) (hm : X.mg x = some (.ref f)) (hk : PySem.W.keepIn X.K (.ref f) = true) (hb : Binds X.K fd ps ds) (hd : Vals dvs ds) (hx : Passes CX X E)
    (ha : PA X (e :: es) t) (hdb : (x == ("__debug__" : Str)) = false := by decide) (he : starEach (e :: es) X.env = (false, eval e X.env) :: starEach es X.env := by rfl) (hpl : (backTo pos (starEach es X.env)).any (·.1) = false := by rfl) :
    PE X (.Call (.Name x p) (e :: es) [] pos) (tCall sp dvs E t) := by
  refine ⟨fun pins s σ H Q I h => wpAny_Call_Name_kw (ld_glob I hg hm (PySem.W.callWith_K (h₀ := X.base) I.ok.mod.kin hk (thn (ha.run pos pins s σ H _ I h) fun us s1 ⟨vs, H1, J, r, q⟩ => ⟨J.kIn, ?_⟩) he hpl) hdb)⟩
  have rr : Vals (vs ++ dvs) (us ++ ds) := r.append hd
  refine wpAny_call (codeAny_mono (F.go X.A X.stack s1 H1 ⟨us, []⟩ (us ++ ds) (vs ++ dvs) Q E hgd hr J.env0 (hb s1 us J.kIn (by rw [← rr.length]; exact F.len _ _ _ _ q)) rr q) fun r s' hq => ?_)
  match r, hq with
  | .error e, hq => exact hx pins σ H1 s1 e s' J hq
  | .ok (.ret u), hq => exact J.after hq
  | .ok .next, hq => exact hq.elim
  | .ok .brk, hq => exact hq.elim
  | .ok .cont, hq => exact hq.elim
end

/-! ### promises over data -/
/-- a def of data: what it is handed stays, what it hands back is new or handed in -/
abbrev DSp := List PyData → (PyData → Prop) → Prop
def spD (K : PySem.W.Frag) (f : DSp) : Sp := fun vs H Q _ => ∃ F ds Φ, Same F H ∧ DqA K F vs ds ∧ f ds Φ ∧ ∀ v F' H' x, Fresh F H F' H' → Dq K F' v x → Φ x → Q v H'
/-- .. whose first argument is the pool at a -/
structure FreshP (a : Addr) (F H F' H' : Hp) : Prop where
  ff : Same F F'
  fh : Same F' H'
  hh : ∀ b o, b ≠ a → H b = some o → H' b = some o
  fr : ∀ b o, H b = some o → F b = none → F' b = none
abbrev DSpP := List PyData → List Int → (PyData → List Int → Prop) → Prop
def spP (K : PySem.W.Frag) (f : DSpP) : Sp := fun vs H Q _ => ∃ a us F ds q Φ, vs = .ref a :: us ∧ Same F H ∧ F a = none ∧ H a = some (.lst (q.map V.int)) ∧ DqA K F us ds ∧ f ds q Φ ∧
  ∀ v F' H' x q', FreshP a F H F' H' → H' a = some (.lst (q'.map V.int)) → Dq K F' v x → Φ x q' → Q v H'
/-- the part of H that is not frozen, nor at a -/
def partH (F H : Hp) (P : Option Addr) : Hp := fun b => if F b = none ∧ P ≠ some b then H b else none
section
variable {K : PySem.W.Frag} {F H : Hp} {P : Option Addr}
theorem partH_some {b : Addr} {o : HO} (h : partH F H P b = some o) : F b = none ∧ P ≠ some b ∧ H b = some o := by
  unfold partH at h
  by_cases c : F b = none ∧ P ≠ some b
  · rw [if_pos c] at h
    exact ⟨c.1, c.2, h⟩
  · rw [if_neg c] at h
    cases h
theorem partH_at {b : Addr} {o : HO} (h1 : F b = none) (h2 : P ≠ some b) (h : H b = some o) : partH F H P b = some o := by
  unfold partH
  rw [if_pos ⟨h1, h2⟩]
  exact h
theorem partH_none {b : Addr} (h : ¬ (F b = none ∧ P ≠ some b)) : partH F H P b = none := by
  unfold partH
  rw [if_neg h]
/-- the slots at the entry -/
@[simp] def startE (N : List Str) (ds : List Sl) : List Sl := ds ++ List.replicate (N.length - ds.length) .un
theorem start_get {N : List Str} {vs : List V} {i : Nat} {v : V} (h : vs[i]? = some v) : (L2.start N vs)[i]? = some (some v) := by
  unfold L2.start
  rw [List.getElem?_append_left (by rw [List.length_map]; exact (List.getElem?_eq_some_iff.mp h).1), List.getElem?_map, h]
  rfl
theorem startE_get {N : List Str} {ds : List Sl} {i : Nat} {x : Sl} (h : (startE N ds)[i]? = some x) : ds[i]? = some x ∨ x = .un := by
  unfold startE at h
  by_cases hi : i < ds.length
  · rw [List.getElem?_append_left hi] at h
    exact .inl h
  · rw [List.getElem?_append_right (by omega), List.getElem?_replicate] at h
    split at h
    · exact .inr (Option.some.inj h).symm
    · cases h
theorem rep_startD {N : List Str} {vs : List V} {ds : List PyData} (e : Same F H) (d : DqA K F vs ds) (q : List Int) : Rep K (partH F H none) none F H (L2.start N vs) ⟨startE N (ds.map .d), q⟩ := by
  refine ⟨e, fun b o h => (partH_some h).2.2, fun b o h => (partH_some h).1, fun i x hx => ?_, fun i j xs ys p hi hj _ _ => ?_, fun a ha => (by cases ha), ?_, fun i j x y r hi hj hr _ _ => ?_⟩
  · rcases startE_get hx with h | rfl
    · rw [List.getElem?_map] at h
      cases hd : ds[i]? with
      | none =>
        rw [hd] at h
        cases h
      | some y =>
        rw [hd] at h
        cases h
        obtain ⟨v, a, b⟩ := d.get hd
        exact ⟨v, start_get a, b⟩
    · exact True.intro
  · rcases startE_get hi with h | h
    · rw [List.getElem?_map] at h
      cases hd : ds[i]? with
      | none =>
        rw [hd] at h
        cases h
      | some y =>
        rw [hd] at h
        cases h
    · cases h
  · show (L2.start N vs).length = (startE N (ds.map .d)).length
    unfold L2.start startE
    rw [List.length_append, List.length_append, List.length_map, List.length_map, List.length_replicate, List.length_replicate, d.length]
  · rcases startE_get hi with h | rfl
    · rw [List.getElem?_map] at h
      cases hd : ds[i]? with
      | none =>
        rw [hd] at h
        cases h
      | some y =>
        rw [hd] at h
        cases h
        cases hr
    · cases hr
theorem rep_startP {N : List Str} {vs : List V} {ds : List PyData} {a : Addr} {q : List Int} (e : Same F H) (d : DqA K F vs ds) (fa : F a = none) (ha : H a = some (.lst (q.map V.int))) :
    Rep K (partH F H (some a)) (some a) F H (L2.start N (.ref a :: vs)) ⟨startE N (.pl :: ds.map .d), q⟩ := by
  have look : ∀ {i : Nat} {x : Sl}, (.pl :: ds.map Sl.d : List Sl)[i]? = some x → (i = 0 ∧ x = .pl) ∨ ∃ j y, i = j + 1 ∧ x = .d y ∧ ds[j]? = some y := fun {i x} h => by
    cases i with
    | zero => exact .inl ⟨rfl, (Option.some.inj (by simpa using h)).symm⟩
    | succ j =>
      have h' : (ds.map Sl.d)[j]? = some x := by simpa using h
      rw [List.getElem?_map] at h'
      cases hd : ds[j]? with
      | none =>
        rw [hd] at h'
        cases h'
      | some y =>
        rw [hd] at h'
        cases h'
        exact .inr ⟨j, y, rfl, rfl, hd⟩
  refine ⟨e, fun b o h => (partH_some h).2.2, fun b o h => (partH_some h).1, fun i x hx => ?_, fun i j xs ys p hi hj _ _ => ?_, fun b hb => ?_, ?_, fun i j x y r hi hj hr _ _ => ?_⟩
  · rcases startE_get hx with h | rfl
    · rcases look h with ⟨rfl, rfl⟩ | ⟨j, y, rfl, rfl, hd⟩
      · exact ⟨a, rfl, start_get rfl⟩
      · obtain ⟨v, g, b⟩ := d.get hd
        exact ⟨v, start_get (by simpa using g), b⟩
    · exact True.intro
  · rcases startE_get hi with h | h
    · rcases look h with ⟨_, z⟩ | ⟨_, _, _, z, _⟩
      · cases z
      · cases z
    · cases h
  · cases hb
    exact ⟨fa, partH_none (fun z => z.2 rfl), ha⟩
  · show (L2.start N (.ref a :: vs)).length = (startE N (.pl :: ds.map .d)).length
    unfold L2.start startE
    rw [List.length_append, List.length_append, List.length_map, List.length_replicate, List.length_replicate, List.length_cons, List.length_cons, List.length_map, d.length]
  · rcases startE_get hi with h | rfl
    · rcases look h with ⟨rfl, rfl⟩ | ⟨j, y, rfl, rfl, hd⟩
      · cases hr
      · cases hr
    · cases hr
end
/-- the ends of a def of data -/
@[simp] def endD (Φ : PyData → Prop) : EN := { nx := fun _ => Φ .none, rt := fun x _ => Φ x }
@[simp] def endP (Φ : PyData → List Int → Prop) : EN := { nx := fun s => Φ .none s.q, rt := fun x s => Φ x s.q }
section
variable {P : Program} {w : World} {K : PySem.W.Frag} {mg : Str → Option Value} {base : Heap} {k : Nat} {f : Addr} {fd : FuncData} {ps : List Str} {qual x : Str} {st : Stmt} {N : List Str}
/-- a def over data by its body -/
theorem fn_D {sp : DSp} (F : Fun K x qual st f fd) (Sc : FnScope N ps (defScope st)) (len : ∀ ds Φ, sp ds Φ → ds.length = ps.length)
    (hbody : ∀ (cdv : Value) (A : Around) (outer : List Env) (s : Shared) (H : Hp) (E : XK), (A.deeper (envOfC qual (defScope st) s.heap.objs.size f cdv)).guards = some [] → Room k (A.deeper (envOfC qual (defScope st) s.heap.objs.size f cdv)) →
      ∃ wd, XSs (cxOf CX0 P w K mg base N qual (defScope st) f cdv A outer s H E).nox (defBody st) wd ∧ ∀ ds Φ, sp ds Φ → wd (endD Φ) ⟨startE N (ds.map .d), []⟩) : FnG P w K mg base CX0 (k + 1) f fd ps (spD K sp) := by
  refine fng_of F Sc (fun vs H Q E h => ?_) (fun cdv A outer s H vs Q E g hr h => ?_)
  · obtain ⟨F, ds, Φ, _, d, hs, _⟩ := h
    rw [d.length]
    exact len ds Φ hs
  · obtain ⟨wd, hX, hw⟩ := hbody cdv A outer s H E g hr
    refine ⟨_, hX.nox, ?_⟩
    obtain ⟨F, ds, Φ, e, d, hs, kk⟩ := h
    have fr : ∀ {σ' : L2.St} {F' H' : Hp} {s' : S}, Rep K (partH F H none) none F' H' σ' s' → Same F F' → Fresh F H F' H' := fun {σ' F' H' s'} R ee =>
      ⟨ee, R.same, fun b o hb => by
        cases hF : F b with
        | none => exact R.keep b o (partH_at hF (fun z => by cases z) hb)
        | some u =>
          have q := e b u hF
          rw [hb] at q
          cases q
          exact R.same b o (ee b o hF), fun b o hb hF => R.apart b o (partH_at hF (fun z => by cases z) hb)⟩
    exact ⟨_, none, F, _, _, rep_startD e d [], hw ds Φ hs, fun σ' F' H' s' R ee q => kk _ F' H' .none (fr R ee) .non q, fun v σ' F' H' s' x R ee dx q => kk v F' H' x (fr R ee) dx q, fun _ _ _ _ _ _ q => q.elim, fun _ _ _ _ _ _ q => q.elim, fun _ _ _ _ _ _ _ _ _ _ _ _ q => q.elim, fun _ _ _ _ _ _ _ _ q => q.elim⟩
theorem fn_P {sp : DSpP} (F : Fun K x qual st f fd) (Sc : FnScope N ps (defScope st)) (len : ∀ ds q Φ, sp ds q Φ → ds.length + 1 = ps.length)
    (hbody : ∀ (cdv : Value) (A : Around) (outer : List Env) (s : Shared) (H : Hp) (E : XK), (A.deeper (envOfC qual (defScope st) s.heap.objs.size f cdv)).guards = some [] → Room k (A.deeper (envOfC qual (defScope st) s.heap.objs.size f cdv)) →
      ∃ wd, XSs (cxOf CX0 P w K mg base N qual (defScope st) f cdv A outer s H E).nox (defBody st) wd ∧ ∀ ds q Φ, sp ds q Φ → wd (endP Φ) ⟨startE N (.pl :: ds.map .d), q⟩) : FnG P w K mg base CX0 (k + 1) f fd ps (spP K sp) := by
  refine fng_of F Sc (fun vs H Q E h => ?_) (fun cdv A outer s H vs Q E g hr h => ?_)
  · obtain ⟨a, us, F, ds, q, Φ, rfl, _, _, _, d, hs, _⟩ := h
    rw [List.length_cons, d.length]
    exact len ds q Φ hs
  · obtain ⟨wd, hX, hw⟩ := hbody cdv A outer s H E g hr
    refine ⟨_, hX.nox, ?_⟩
    obtain ⟨a, us, F, ds, q, Φ, rfl, e, fa, ha, d, hs, kk⟩ := h
    have fr : ∀ {σ' : L2.St} {F' H' : Hp} {s' : S}, Rep K (partH F H (some a)) (some a) F' H' σ' s' → Same F F' → FreshP a F H F' H' := fun {σ' F' H' s'} R ee => by
      refine ⟨ee, R.same, fun b o nb hb => ?_, fun b o hb hF => ?_⟩
      · cases hF : F b with
        | none => exact R.keep b o (partH_at hF (fun z => nb (Option.some.inj z).symm) hb)
        | some u =>
          have q := e b u hF
          rw [hb] at q
          cases q
          exact R.same b o (ee b o hF)
      · by_cases nb : b = a
        · rw [nb]
          exact (R.pool a rfl).1
        · exact R.apart b o (partH_at hF (fun z => nb (Option.some.inj z).symm) hb)
    exact ⟨_, some a, F, _, _, rep_startP e d fa ha, hw ds q Φ hs, fun σ' F' H' s' R ee q => kk _ F' H' .none s'.q (fr R ee) (R.pool a rfl).2.2 .non q, fun v σ' F' H' s' x R ee dx q => kk v F' H' x s'.q (fr R ee) (R.pool a rfl).2.2 dx q, fun _ _ _ _ _ _ q => q.elim, fun _ _ _ _ _ _ q => q.elim, fun _ _ _ _ _ _ _ _ _ _ _ _ q => q.elim, fun _ _ _ _ _ _ _ _ q => q.elim⟩
end
/-! ### calls -/
section
variable {X : Cx} {k : Nat} {f : Addr} {fd : FuncData} {ps : List Str} {x : Str} {p pos : Pos} {e : Expr} {es : List Expr}
@[simp] def wCall (sp : DSp) (wa : DA) : DE := fun s Φ => wa s fun ds s1 => sp ds fun r => Φ r s1
theorem xe_call {sp : DSp} {wa : DA} (F : FnG X.prog X.w X.K X.mg X.base CX0 k f fd ps (spD X.K sp)) (hgd : X.A.guards = some []) (hr : Room k X.A) (hg : Gl X x) (hm : X.mg x = some (.ref f)) (hk : PySem.W.keepIn X.K (.ref f) = true) (hb : Binds X.K fd ps [])
    (ha : XA X (e :: es) wa) (hdb : (x == ("__debug__" : Str)) = false := by decide) (he : starEach (e :: es) X.env = (false, eval e X.env) :: starEach es X.env := by rfl) (hpl : (backTo pos (starEach es X.env)).any (·.1) = false := by rfl) :
    XE X (.Call (.Name x p) (e :: es) [] pos) (wCall sp wa) := pe_imp (pe_callG F hgd hr hg hm hk hb .nil pass0 ha hdb he hpl) fun σ H Q h => by
  obtain ⟨G, P, F, s, Φ, R, h, kk⟩ := h
  refine ⟨G, P, F, s, _, R, h, fun vs F1 H1 s1 ds R1 e1 d1 q => ?_⟩
  show spD X.K sp (vs ++ []) H1 Q E0
  rw [List.append_nil]
  exact ⟨F1, ds, _, R1.same, d1, q, fun v F' H' x fr dx qx => kk v F' H' s1 x (R1.fresh fr) (e1.trans fr.ff) dx qx⟩
theorem Rep.freshP {K : PySem.W.Frag} {G F F' H H' : Hp} {a : Addr} {σ : L2.St} {s : S} {q' : List Int} (R : Rep K G (some a) F H σ s) (f : FreshP a F H F' H') (hq : H' a = some (.lst (q'.map V.int))) : Rep K G (some a) F' H' σ ⟨s.e, q'⟩ := by
  obtain ⟨p1, p2, p3⟩ := R.pool a rfl
  refine ⟨f.fh, fun b o g => f.hh b o (fun z => by rw [z, p2] at g; cases g) (R.keep b o g), fun b o g => f.fr b o (R.keep b o g) (R.apart b o g), fun i x hx => ?_, R.sep, fun b hb => ?_, R.len, R.tbs⟩
  · have q := R.sl i x hx
    cases x with
    | un => exact True.intro
    | d x =>
      obtain ⟨v, a1, a2⟩ := q
      exact ⟨v, a1, a2.mono f.ff⟩
    | o xs =>
      obtain ⟨p, vs, h1, h2, h3, h4, h5, h6⟩ := q
      exact ⟨p, vs, h1, f.fr p _ h5 h2, h3, h4, f.hh p _ (fun z => h4 (by rw [z])) h5, h6.mono f.ff⟩
    | pl => exact q
    | sc ns =>
      obtain ⟨b, a1, a2⟩ := q
      exact ⟨b, a1, f.ff.seq a2⟩
    | tb p qs xss => exact q.tbUp rfl f.ff fun r o _ g1 g2 g3 g4 => ⟨f.fr r o g4 g1, g2, g3, f.hh r o (fun z => g3 (by rw [z])) g4⟩
  · cases hb
    exact ⟨f.fr a _ p3 p1, p2, hq⟩
@[simp] def poolAt (s : S) (i : Nat) (k : Prop) : Prop := match s.e[i]? with
  | some .pl => k
  | _ => False
theorem poolAt_of {s : S} {i : Nat} {k : Prop} (h : poolAt s i k) : s.e[i]? = some .pl ∧ k := by
  unfold poolAt at h
  cases hs : s.e[i]? with
  | none =>
    rw [hs] at h
    exact h.elim
  | some z =>
    rw [hs] at h
    cases z with
    | pl => exact ⟨rfl, h⟩
    | _ => exact h.elim
/-- f(pool, ..) -/
@[simp] def wCallP (i : Nat) (sp : DSpP) (wa : DA) : DE := fun s Φ => poolAt s i (wa s fun ds s1 => sp ds s1.q fun r q' => Φ r ⟨s1.e, q'⟩)
theorem xe_callP {i : Nat} {y : Str} {yp : Pos} {sp : DSpP} {wa : DA} (F : FnG X.prog X.w X.K X.mg X.base CX0 k f fd ps (spP X.K sp)) (hgd : X.A.guards = some []) (hr : Room k X.A) (hg : Gl X x) (hm : X.mg x = some (.ref f)) (hk : PySem.W.keepIn X.K (.ref f) = true) (hb : Binds X.K fd ps [])
    (hv : PE X (.Name y yp) (tVar i)) (ha : XA X es wa) (hdb : (x == ("__debug__" : Str)) = false := by decide) (he : starEach (.Name y yp :: es) X.env = (false, eval (.Name y yp) X.env) :: starEach es X.env := by rfl) (hpl : (backTo pos (starEach es X.env)).any (·.1) = false := by rfl) :
    XE X (.Call (.Name x p) (.Name y yp :: es) [] pos) (wCallP i sp wa) := pe_imp (pe_callG F hgd hr hg hm hk hb .nil pass0 (pa_cons hv ha he) hdb he hpl) fun σ H Q h => by
  obtain ⟨G, P, F, s, Φ, R, h, kk⟩ := h
  obtain ⟨hs, h⟩ := poolAt_of h
  obtain ⟨a, rfl, ha⟩ := R.sl i _ hs
  refine ⟨_, ha, G, some a, F, s, _, R, h, fun vs F1 H1 s1 ds R1 e1 d1 q => ?_⟩
  show spP X.K sp ((.ref a :: vs) ++ []) H1 Q E0
  rw [List.append_nil]
  obtain ⟨p1, p2, p3⟩ := R1.pool a rfl
  exact ⟨a, vs, F1, ds, s1.q, _, rfl, R1.same, p1, p3, d1, q, fun v F' H' x q' fr hq dx qx => kk v F' H' ⟨s1.e, q'⟩ x (R1.freshP fr hq) (e1.trans fr.ff) dx qx⟩
end
end DL
/-! DL, sixth part: operations by data. -/
namespace DL
open PySem PySem.Spec PyProof.Rows L2

section
variable {K : PySem.W.Frag}
/-- ints in, a plain value out -/
@[simp] def wII (C : Int → Int → Prop) (g : Int → Int → PyData) : W2 := fun x y Φ => match x, y with
  | .int a, .int b => C a b ∧ Φ (g a b)
  | _, _ => False
@[simp] def wI2 (g : Int → Int → PyData) : W2 := fun x y Φ => match x, y with
  | .int a, .int b => Φ (g a b)
  | _, _ => False
theorem op2_I {C : Int → Int → Prop} {g : Int → Int → V} {h : Int → Int → PyData} (e : ∀ F i j, Dq K F (g i j) (h i j)) : Op2 K (rI C g) (wII C h) := ⟨fun {F H x y dx dy} Q Φ s d1 d2 w k => by
  cases dx with
  | int a =>
    cases dy with
    | int b =>
      cases d1
      cases d2
      exact ⟨a, b, rfl, rfl, w.1, k _ F H _ (Fresh.refl s) (e F a b) w.2⟩
    | _ => exact w.elim
  | _ => exact w.elim⟩
theorem op2_I0 {g : Int → Int → V} {h : Int → Int → PyData} (e : ∀ F i j, Dq K F (g i j) (h i j)) : Op2 K (rI0 g) (wI2 h) := ⟨fun {F H x y dx dy} Q Φ s d1 d2 w k => by
  cases dx with
  | int a =>
    cases dy with
    | int b =>
      cases d1
      cases d2
      exact ⟨a, b, rfl, rfl, k _ F H _ (Fresh.refl s) (e F a b) w⟩
    | _ => exact w.elim
  | _ => exact w.elim⟩
/-! + -/
def rAddS : R2 := fun x y H Q => ∃ i j, x = .str i ∧ y = .str j ∧ i.length + j.length ≤ sizeLine ∧ Q (.str (i ++ j)) H
def rPlus (K : PySem.W.Frag) : R2 := rOr (rI0 fun i j => .int (i + j)) (rOr rAddS (rOr rCat (rCatT K)))
@[simp] def wAdd : W2 := fun x y Φ => match x, y with
  | .int a, .int b => Φ (.int (a + b))
  | .str a, .str b => a.length + b.length ≤ sizeLine ∧ Φ (.str (a ++ b))
  | .list a, .list b => a.length + b.length ≤ sizeLine ∧ Φ (.list (a ++ b))
  | .tuple a, .tuple b => a ≠ [] ∧ a.length + b.length ≤ sizeLine ∧ Φ (.tuple (a ++ b))
  | _, _ => False
theorem opr_plus {X : Cx} : OpR X (binaryOp .Add) (rPlus X.K) := opr_or op_add (opr_or op_add_str (opr_or op_cat op_catT))
theorem cat_run {F H : Hp} {x y : V} {a b : List PyData} (Q : VK) (Φ : List PyData → Prop) (s : Same F H) (d1 : Dq K F x (.list a)) (d2 : Dq K F y (.list b)) (w : a.length + b.length ≤ sizeLine ∧ Φ (a ++ b))
    (k : ∀ p vs ds, H p = none → DqA K F vs ds → Φ ds → Q (.ref p) (upd H p (.lst vs))) : rCat x y H Q := by
  cases d1 with
  | lst h1 h2 =>
    cases d2 with
    | lst g1 g2 => exact ⟨_, _, _, _, rfl, rfl, s _ _ h1, s _ _ g1, by rw [h2.length, g2.length]; exact w.1, fun p hp => k p _ _ hp (h2.append g2) w.2⟩
theorem op2_plus : Op2 K (rPlus K) wAdd := ⟨fun {F H x y dx dy} Q Φ s d1 d2 w k => by
  cases dx with
  | int a =>
    cases dy with
    | int b =>
      cases d1
      cases d2
      exact .inl ⟨a, b, rfl, rfl, k _ F H _ (Fresh.refl s) (.int _) w⟩
    | _ => exact w.elim
  | str a =>
    cases dy with
    | str b =>
      cases d1
      cases d2
      exact .inr (.inl ⟨a, b, rfl, rfl, w.1, k _ F H _ (Fresh.refl s) (.str _) w.2⟩)
    | _ => exact w.elim
  | list a =>
    cases dy with
    | list b =>
      refine .inr (.inr (.inl (cat_run Q (fun z => Φ (.list z)) s d1 d2 w fun p vs ds hp dq q => ?_)))
      have f := Fresh.new (o := .lst vs) s hp
      exact k _ _ _ _ f (.lst upd_same (dq.mono f.ff)) q
    | _ => exact w.elim
  | tuple a =>
    cases dy with
    | tuple b =>
      cases d1 with
      | tup h1 h2 =>
        cases d2 with
        | tup g1 g2 =>
          rename_i xs p2 ys
          obtain ⟨w1, w2, w3⟩ := w
          have l1 := h2.length
          have l2 := g2.length
          refine .inr (.inr (.inr ⟨_, _, _, _, rfl, rfl, same_sqt s h1, same_sqt s g1, fun z => w1 (by cases a with | nil => rfl | cons _ _ => rw [z] at l1; simp at l1), by omega, fun z => ?_, fun z p hp => ?_⟩))
          · have hb : b = [] := by
              cases b with
              | nil => rfl
              | cons _ _ => rw [z] at l2; simp at l2
            rw [hb, List.append_nil] at w3
            exact k _ F H _ (Fresh.refl s) (.tup h1 h2) w3
          · have f := Fresh.new (o := .tup (xs ++ ys)) s hp
            exact k _ _ _ _ f (.tup (SqT.of upd_same) ((h2.append g2).mono f.ff)) w3
    | _ => exact w.elim
  | _ => exact w.elim⟩
@[simp] def wCat : W2L := fun x y Φ => match x, y with
  | .list a, .list b => a.length + b.length ≤ sizeLine ∧ Φ (a ++ b)
  | _, _ => False
theorem op2L_cat : Op2L K rCat wCat := ⟨fun {F H x y dx dy} Q Φ s d1 d2 w k => by
  cases dx with
  | list a =>
    cases dy with
    | list b => exact cat_run Q Φ s d1 d2 w k
    | _ => exact w.elim
  | _ => exact w.elim⟩
/-! * -/
@[simp] def wRepL : W2L := fun x y Φ => match x, y with
  | .list a, .int k => (-(2 ^ 63) ≤ k ∧ k < 2 ^ 63 ∧ a.length * k.toNat ≤ sizeLine) ∧ Φ (List.replicate k.toNat a).flatten
  | _, _ => False
/-! comparisons -/
def eqD (x y : PyData) : Prop := SeqAt.shaped x = true ∧ SeqAt.shaped y = true
@[simp] def wEq (neg : Bool) : W2 := fun x y Φ => match x, y with
  | .int a, .int b => Φ (.bool (if neg then !decide (a = b) else decide (a = b)))
  | .str a, .str b => Φ (.bool (if neg then !decide (a = b) else decide (a = b)))
  | x, y => eqD x y ∧ Φ (.bool (if neg then !PyData.eqv x y else PyData.eqv x y))
def rEqA (K : PySem.W.Frag) : R2 := rOr rEq (rEqD K)
def rNeA (K : PySem.W.Frag) : R2 := rOr rNe (rNeD K)
theorem dec_inj {α β : Type} [DecidableEq α] [DecidableEq β] {f : α → β} (hf : ∀ a b, f a = f b → a = b) (a b : α) : decide (f a = f b) = decide (a = b) := by
  by_cases h : a = b
  · rw [h, decide_eq_true rfl, decide_eq_true rfl]
  · rw [decide_eq_false h, decide_eq_false (fun z => h (hf a b z))]
theorem op2_eq : Op2 K (rEqA K) (wEq false) := ⟨fun {F H x y dx dy} Q Φ s d1 d2 w k => by
  have gen : ∀ b, eqD dx dy → b = PyData.eqv dx dy → Φ (.bool b) → rEqA K x y H Q := fun b e hb q => by
    subst hb
    exact .inr ⟨dx, dy, (d1.mono s).dp (PyData.hasDict_of_canLay _ (SeqAt.canLay_of_shaped e.1)), (d2.mono s).dp (PyData.hasDict_of_canLay _ (SeqAt.canLay_of_shaped e.2)), e.1, e.2, k _ F H _ (Fresh.refl s) (.bl _) q⟩
  cases dx <;> cases dy <;> first
    | (cases d1; cases d2; exact .inl ⟨rfl, by rw [dec_inj (fun a b z => by injection z)]; exact k _ F H _ (Fresh.refl s) (.bl _) w⟩)
    | exact gen _ w.1 rfl w.2⟩
theorem op2_ne : Op2 K (rNeA K) (wEq true) := ⟨fun {F H x y dx dy} Q Φ s d1 d2 w k => by
  have gen : ∀ b, eqD dx dy → b = (!PyData.eqv dx dy) → Φ (.bool b) → rNeA K x y H Q := fun b e hb q => by
    subst hb
    exact .inr ⟨dx, dy, (d1.mono s).dp (PyData.hasDict_of_canLay _ (SeqAt.canLay_of_shaped e.1)), (d2.mono s).dp (PyData.hasDict_of_canLay _ (SeqAt.canLay_of_shaped e.2)), e.1, e.2, k _ F H _ (Fresh.refl s) (.bl _) q⟩
  cases dx <;> cases dy <;> first
    | (cases d1; cases d2; exact .inl ⟨rfl, by rw [dec_inj (fun a b z => by injection z)]; exact k _ F H _ (Fresh.refl s) (.bl _) w⟩)
    | exact gen _ w.1 rfl w.2⟩
theorem opr_eq {X : Cx} (hu : X.A.units + 64 < cLine) : OpR X (compareOp .Eq) (rEqA X.K) := opr_or op_eq (op_eqD hu)
theorem opr_ne {X : Cx} (hu : X.A.units + 64 < cLine) : OpR X (compareOp .NotEq) (rNeA X.K) := opr_or op_ne (op_neD hu)
/-! is None -/
@[simp] def isNon : PyData → Bool
  | .none => true
  | _ => false
theorem isNon_v {F : Hp} {v : V} {d : PyData} (h : Dq K F v d) : decide (v = .non) = isNon d := by
  cases h <;> simp [isNon]
@[simp] def wIsN (neg : Bool) : W2 := fun x y Φ => match y with
  | .none => Φ (.bool (if neg then !isNon x else isNon x))
  | _ => False
theorem op2_isN : Op2 K (fun x y H Q => y = .non ∧ Q (.bl (decide (x = .non))) H) (wIsN false) := ⟨fun {F H x y dx dy} Q Φ s d1 d2 w k => by
  cases dy with
  | none =>
    cases d2
    exact ⟨rfl, by rw [isNon_v d1]; exact k _ F H _ (Fresh.refl s) (.bl _) w⟩
  | _ => exact w.elim⟩
theorem op2_notN : Op2 K (fun x y H Q => y = .non ∧ Q (.bl (!decide (x = .non))) H) (wIsN true) := ⟨fun {F H x y dx dy} Q Φ s d1 d2 w k => by
  cases dy with
  | none =>
    cases d2
    exact ⟨rfl, by rw [isNon_v d1]; exact k _ F H _ (Fresh.refl s) (.bl _) w⟩
  | _ => exact w.elim⟩
/-! in, not in -/
def flatD : PyData → Bool
  | .none => true
  | .bool _ => true
  | .int _ => true
  | .str _ => true
  | _ => false
def eqF : PyData → PyData → Bool
  | .none, .none => true
  | .bool a, .bool b => a == b
  | .bool a, .int b => (if a then 1 else 0) == b
  | .int a, .bool b => a == (if b then 1 else 0)
  | .int a, .int b => a == b
  | .str a, .str b => a == b
  | _, _ => false
def inF (x : PyData) (xs : List PyData) : Bool := xs.any fun y => eqF y x
theorem flat_v {F : Hp} {v : V} {d : PyData} (h : Dq K F v d) (f : flatD d = true) : flatV v = true := by
  cases h <;> first | rfl | cases f
theorem flat_vs {F : Hp} : ∀ {vs : List V} {ds : List PyData}, DqA K F vs ds → ds.all flatD = true → vs.all flatV = true
  | [], [], _, _ => rfl
  | v :: vs, d :: ds, h, f => by
    cases h with
    | cons h1 h2 =>
      rw [List.all_cons, Bool.and_eq_true] at f ⊢
      exact ⟨flat_v h1 f.1, flat_vs h2 f.2⟩
  | [], _ :: _, h, _ => by cases h
  | _ :: _, [], h, _ => by cases h
theorem eqF_v {F : Hp} {v u : V} {d e : PyData} (h : Dq K F v d) (g : Dq K F u e) (f : flatD d = true) (f' : flatD e = true) : eqV v u = eqF d e := by
  cases h <;> cases g <;> first | rfl | cases f | cases f'
theorem inF_v {F : Hp} {v : V} {d : PyData} (h : Dq K F v d) (f : flatD d = true) : ∀ {vs : List V} {ds : List PyData}, DqA K F vs ds → ds.all flatD = true → inV v vs = inF d ds
  | [], [], _, _ => rfl
  | u :: vs, e :: ds, g, a => by
    cases g with
    | cons g1 g2 =>
      rw [List.all_cons, Bool.and_eq_true] at a
      have ih := inF_v h f g2 a.2
      unfold inV inF at ih ⊢
      rw [List.any_cons, List.any_cons, eqF_v g1 h a.1 f, ih]
  | [], _ :: _, g, _ => by cases g
  | _ :: _, [], g, _ => by cases g
def rSign : R2 := fun x y H Q => ∃ (c : Nat) (z : Str), x = .str ⟨#[c]⟩ ∧ y = .str z ∧ Q (.bl (decide (c ∈ z.cps.toList))) H
def rNSign : R2 := fun x y H Q => ∃ (c : Nat) (z : Str), x = .str ⟨#[c]⟩ ∧ y = .str z ∧ Q (.bl (!decide (c ∈ z.cps.toList))) H
@[simp] def wIn (neg : Bool) : W2 := fun x y Φ => match y with
  | .list xs => (flatD x = true ∧ xs.all flatD = true) ∧ Φ (.bool (if neg then !inF x xs else inF x xs))
  | .tuple xs => (flatD x = true ∧ xs.all flatD = true) ∧ Φ (.bool (if neg then !inF x xs else inF x xs))
  | .str z => match x with
    | .str s => ∃ c, s = ⟨#[c]⟩ ∧ Φ (.bool (if neg then !decide (c ∈ z.cps.toList) else decide (c ∈ z.cps.toList)))
    | _ => False
  | _ => False
theorem op2_in : Op2 K (rOr (rIn K false) rSign) (wIn false) := ⟨fun {F H x y dx dy} Q Φ s d1 d2 w k => by
  cases dy with
  | list xs =>
    cases d2 with
    | lst h1 h2 => exact .inl ⟨_, _, rfl, .inl (SqL.of (s _ _ h1)), flat_v d1 w.1.1, flat_vs h2 w.1.2, by rw [inF_v d1 w.1.1 h2 w.1.2]; exact k _ F H _ (Fresh.refl s) (.bl _) w.2⟩
  | tuple xs =>
    cases d2 with
    | tup h1 h2 => exact .inl ⟨_, _, rfl, .inr (same_sqt s h1), flat_v d1 w.1.1, flat_vs h2 w.1.2, by rw [inF_v d1 w.1.1 h2 w.1.2]; exact k _ F H _ (Fresh.refl s) (.bl _) w.2⟩
  | str z =>
    cases dx with
    | str t =>
      cases d1
      cases d2
      obtain ⟨c, rfl, w⟩ := w
      exact .inr ⟨c, z, rfl, rfl, k _ F H _ (Fresh.refl s) (.bl _) w⟩
    | _ => exact w.elim
  | _ => exact w.elim⟩
theorem op2_notIn : Op2 K (rOr (rIn K true) rNSign) (wIn true) := ⟨fun {F H x y dx dy} Q Φ s d1 d2 w k => by
  cases dy with
  | list xs =>
    cases d2 with
    | lst h1 h2 => exact .inl ⟨_, _, rfl, .inl (SqL.of (s _ _ h1)), flat_v d1 w.1.1, flat_vs h2 w.1.2, by rw [inF_v d1 w.1.1 h2 w.1.2]; exact k _ F H _ (Fresh.refl s) (.bl _) w.2⟩
  | tuple xs =>
    cases d2 with
    | tup h1 h2 => exact .inl ⟨_, _, rfl, .inr (same_sqt s h1), flat_v d1 w.1.1, flat_vs h2 w.1.2, by rw [inF_v d1 w.1.1 h2 w.1.2]; exact k _ F H _ (Fresh.refl s) (.bl _) w.2⟩
  | str z =>
    cases dx with
    | str t =>
      cases d1
      cases d2
      obtain ⟨c, rfl, w⟩ := w
      exact .inr ⟨c, z, rfl, rfl, k _ F H _ (Fresh.refl s) (.bl _) w⟩
    | _ => exact w.elim
  | _ => exact w.elim⟩
theorem opr_in {X : Cx} : OpR X (compareOp .In) (rOr (rIn X.K false) rSign) := opr_or op_in_seq op_in_sign
theorem opr_notIn {X : Cx} : OpR X (compareOp .NotIn) (rOr (rIn X.K true) rNSign) := opr_or op_notIn_seq op_notIn_sign
/-! places -/
@[simp] def wIx : W2 := fun x y Φ => match x, y with
  | .list xs, .int k => optP (atI xs k) Φ
  | .tuple xs, .int k => optP (atI xs k) Φ
  | .str z, .int k => z.length ≤ sizeLine ∧ optP (atI z.cps.toList k) fun c => Φ (.str ⟨#[c]⟩)
  | _, _ => False
theorem optP_of {α : Type} {o : Option α} {k : α → Prop} (h : optP o k) : ∃ a, o = some a ∧ k a := by
  cases o with
  | none => exact h.elim
  | some a => exact ⟨a, rfl, h⟩
theorem op2_ix : Op2 K (rIx K) wIx := ⟨fun {F H x y dx dy} Q Φ s d1 d2 w k => by
  cases dy with
  | int i =>
    cases d2
    cases dx with
    | list xs =>
      cases d1 with
      | lst h1 h2 =>
        obtain ⟨d, e, w⟩ := optP_of w
        obtain ⟨v, a, b⟩ := atI_up h2 e
        exact .inl ⟨_, _, i, v, rfl, rfl, SqL.of (s _ _ h1), a, k v F H d (Fresh.refl s) b w⟩
    | tuple xs =>
      cases d1 with
      | tup h1 h2 =>
        obtain ⟨d, e, w⟩ := optP_of w
        obtain ⟨v, a, b⟩ := atI_up h2 e
        exact .inr (.inl ⟨_, _, i, v, rfl, rfl, same_sqt s h1, a, k v F H d (Fresh.refl s) b w⟩)
    | str z =>
      cases d1
      obtain ⟨c, e, w2⟩ := optP_of w.2
      exact .inr (.inr ⟨z, i, c, rfl, rfl, w.1, e, k _ F H _ (Fresh.refl s) (.str _) w2⟩)
    | _ => exact w.elim
  | _ =>
    cases dx <;> exact w.elim⟩
end
/-! slices -/
section
variable {X : Cx} {e : Expr} {lo hi : Option Expr} {pos p2 : Pos}
abbrev DO := S → (Option Int → S → Prop) → Prop
def tO (K : PySem.W.Frag) (w : DO) : TO := fun σ H Q => ∃ G P F s Φ, Rep K G P F H σ s ∧ w s Φ ∧ ∀ o F' H' s', Rep K G P F' H' σ s' → Same F F' → Φ o s' → Q o H'
abbrev XO (X : Cx) (e : Option Expr) (w : DO) : Prop := PO X e (tO X.K w)
theorem po_imp {o : Option Expr} {t t' : TO} (h : PO X o t) (i : ∀ σ H Q, t' σ H Q → t σ H Q) : PO X o t' := ⟨fun pins s σ H Q I q => h.run pins s σ H Q I (i _ _ _ q)⟩
@[simp] def wNoP : DO := fun s Φ => Φ none s
@[simp] def wPart (w : DE) : DO := fun s Φ => w s fun x s1 => match x with
  | .int i => Φ (some i) s1
  | _ => False
theorem xo_none : XO X none wNoP := po_imp po_none fun σ H Q h => by
  obtain ⟨G, P, F, s, Φ, R, h, k⟩ := h
  exact k none F H s R (Same.refl F) h
theorem xo_some {w : DE} (h : XE X e w) : XO X (some e) (wPart w) := po_imp (po_some h) fun σ H Q h => by
  obtain ⟨G, P, F, s, Φ, R, h, k⟩ := h
  refine ⟨G, P, F, s, _, R, h, fun v F1 H1 s1 x R1 e1 d1 q => ?_⟩
  cases x with
  | int i =>
    cases d1
    exact ⟨i, rfl, k (some i) F1 H1 s1 R1 e1 q⟩
  | _ => exact q.elim
def cutD (xs : List PyData) (lo hi : Option Int) : List PyData := (xs.drop (HT.sIx xs.length 0 lo)).take (HT.sIx xs.length xs.length hi - HT.sIx xs.length 0 lo)
theorem cutD_up {K : PySem.W.Frag} {F : Hp} {vs : List V} {xs : List PyData} (h : DqA K F vs xs) (lo hi : Option Int) : DqA K F (cutV vs lo hi) (cutD xs lo hi) := by
  unfold cutV cutD
  rw [h.length]
  exact (h.drop _).take _
/-- a list's slice: a new list -/
@[simp] def wSlL (w : DE) (wl wh : DO) : DA := fun s Φ => w s fun x s1 => wl s1 fun l s2 => wh s2 fun u s3 => match x with
  | .list xs => Φ (cutD xs l u) s3
  | _ => False
theorem xl_slice {w : DE} {wl wh : DO} (he : XE X e w) (hl : XO X lo wl) (hh : XO X hi wh) : XL X (.Subscript e (.Slice lo hi none p2) pos) (wSlL w wl wh) := pe_imp (pe_slice sl_list he hl hh) fun σ H Q h => by
  obtain ⟨G, P, F, s, Φ, R, h, k⟩ := h
  refine ⟨G, P, F, s, _, R, h, fun v F1 H1 s1 x R1 e1 d1 q => ⟨G, P, F1, s1, _, R1, q, fun l F2 H2 s2 R2 e2 q2 => ⟨G, P, F2, s2, _, R2, q2, fun u F3 H3 s3 R3 e3 q3 => ?_⟩⟩⟩
  cases x with
  | list xs =>
    cases d1.mono (e2.trans e3) with
    | lst h1 h2 =>
      refine ⟨_, _, rfl, SqL.of (R3.same _ _ h1), fun p hp => ?_⟩
      obtain ⟨R4, n⟩ := nu_new (o := .lst (cutV _ l u)) R3 hp
      exact k p _ F3 _ s3 _ R4 ((e1.trans e2).trans e3) n upd_same (cutD_up h2 l u) q3
  | _ => exact q3.elim
/-- a text's slice, or a list's -/
@[simp] def wSl (w : DE) (wl wh : DO) : DE := fun s Φ => w s fun x s1 => wl s1 fun l s2 => wh s2 fun u s3 => match x with
  | .list xs => Φ (.list (cutD xs l u)) s3
  | .str z => z.length ≤ sizeLine ∧ Φ (.str (cutS z l u)) s3
  | _ => False
theorem xe_slice {w : DE} {wl wh : DO} (he : XE X e w) (hl : XO X lo wl) (hh : XO X hi wh) : XE X (.Subscript e (.Slice lo hi none p2) pos) (wSl w wl wh) := pe_imp (pe_slice (SlR.or sl_list sl_str) he hl hh) fun σ H Q h => by
  obtain ⟨G, P, F, s, Φ, R, h, k⟩ := h
  refine ⟨G, P, F, s, _, R, h, fun v F1 H1 s1 x R1 e1 d1 q => ⟨G, P, F1, s1, _, R1, q, fun l F2 H2 s2 R2 e2 q2 => ⟨G, P, F2, s2, _, R2, q2, fun u F3 H3 s3 R3 e3 q3 => ?_⟩⟩⟩
  cases x with
  | list xs =>
    cases d1.mono (e2.trans e3) with
    | @lst a0 vs0 _ h1 h2 =>
      refine .inl ⟨_, _, rfl, SqL.of (R3.same _ _ h1), fun p hp => ?_⟩
      have f := Fresh.new (o := .lst (cutV vs0 l u)) R3.same hp
      exact k _ _ _ s3 _ (R3.fresh f) (((e1.trans e2).trans e3).trans f.ff) (.lst upd_same ((cutD_up h2 l u).mono f.ff)) q3
  | str z =>
    cases d1
    exact .inr ⟨z, rfl, q3.1, k _ F3 H3 s3 _ R3 ((e1.trans e2).trans e3) (.str _) q3.2⟩
  | _ => exact q3.elim
end
/-! calls of built-ins -/
section
variable {K : PySem.W.Frag}
@[simp] def wN1 (g : PyData → (PyData → Prop) → Prop) : WN := fun ds Φ => match ds with
  | [x] => g x Φ
  | _ => False
@[simp] def wN2 (g : PyData → PyData → (PyData → Prop) → Prop) : WN := fun ds Φ => match ds with
  | [x, y] => g x y Φ
  | _ => False
theorem dqa1 {F : Hp} {vs : List V} {x : PyData} (h : DqA K F vs [x]) : ∃ v, vs = [v] ∧ Dq K F v x := by
  cases h with
  | cons h1 h2 =>
    cases h2
    exact ⟨_, rfl, h1⟩
theorem dqa2 {F : Hp} {vs : List V} {x y : PyData} (h : DqA K F vs [x, y]) : ∃ v u, vs = [v, u] ∧ Dq K F v x ∧ Dq K F u y := by
  cases h with
  | cons h1 h2 =>
    obtain ⟨u, rfl, h3⟩ := dqa1 h2
    exact ⟨_, _, rfl, h1, h3⟩
theorem opN1 {r : List V → Hp → VK → Prop} {g : PyData → (PyData → Prop) → Prop} (h : ∀ (F H : Hp) (v : V) (x : PyData) (Q : VK) (Φ : PyData → Prop), Same F H → Dq K F v x → g x Φ → (∀ v F' H' d, Fresh F H F' H' → Dq K F' v d → Φ d → Q v H') → r [v] H Q) : OpN K r (wN1 g) :=
  ⟨fun {F H xs ds} Q Φ s d w k => by
    match ds, d, w with
    | [x], d, w =>
      obtain ⟨v, rfl, d1⟩ := dqa1 d
      exact h F H v x Q Φ s d1 w k⟩
theorem opN2 {r : List V → Hp → VK → Prop} {g : PyData → PyData → (PyData → Prop) → Prop} (h : ∀ (F H : Hp) (v u : V) (x y : PyData) (Q : VK) (Φ : PyData → Prop), Same F H → Dq K F v x → Dq K F u y → g x y Φ → (∀ v F' H' d, Fresh F H F' H' → Dq K F' v d → Φ d → Q v H') → r [v, u] H Q) : OpN K r (wN2 g) :=
  ⟨fun {F H xs ds} Q Φ s d w k => by
    match ds, d, w with
    | [x, y], d, w =>
      obtain ⟨v, u, rfl, d1, d2⟩ := dqa2 d
      exact h F H v u x y Q Φ s d1 d2 w k⟩
@[simp] def gLen : PyData → (PyData → Prop) → Prop
  | .list xs, Φ => Φ (.int xs.length)
  | .tuple xs, Φ => Φ (.int xs.length)
  | .str z, Φ => z.length ≤ sizeLine ∧ Φ (.int z.length)
  | .dict [(.int lo, .int hi)], Φ => (small62 lo ∧ small62 hi) ∧ Φ (.int ((hi - lo).toNat : Nat))
  | _, _ => False
theorem call_lenA {X : Cx} : CallR X (.builtin "len") (fun xs H Q => (∃ x n, xs = [x] ∧ LenV X.K x H n ∧ Q (.int n) H) ∨ ∃ a lo hi, xs = [.ref a] ∧ H a = some (.rng lo hi) ∧ (small62 lo ∧ small62 hi) ∧ Q (.int ((hi - lo).toNat : Nat)) H) := by
  intro pins s σ H xs us Q I r h
  rcases h with h | ⟨a, lo, hi, rfl, ha, ⟨⟨h1, h2⟩, h3, h4⟩, q⟩
  · exact call_len pins s σ H xs us Q I r h
  · obtain ⟨u, rfl, rx⟩ := vals1 r
    obtain rfl : u = Value.ref a := rx
    obtain ⟨t1, t2, t3, ho⟩ := I.hok a _ ha
    refine call_len_range (n := (hi - lo).toNat) ho ?_ (by omega) ⟨.int ((hi - lo).toNat : Nat), H, I.tok _, ⟨_, rfl⟩, q⟩
    rw [rangeSize_one]
    split <;> omega
theorem opn_len : OpN K (fun xs H Q => (∃ x n, xs = [x] ∧ LenV K x H n ∧ Q (.int n) H) ∨ ∃ a lo hi, xs = [.ref a] ∧ H a = some (.rng lo hi) ∧ (small62 lo ∧ small62 hi) ∧ Q (.int ((hi - lo).toNat : Nat)) H) (wN1 gLen) := opN1 fun F H v x Q Φ s d w k => by
  match x, d, w with
  | .list xs, .lst h1 h2, w => exact .inl ⟨_, xs.length, rfl, .inl ⟨_, SqL.of (s _ _ h1), h2.length.symm⟩, k _ F H _ (Fresh.refl s) (.int _) w⟩
  | .tuple xs, .tup h1 h2, w => exact .inl ⟨_, xs.length, rfl, .inr ⟨_, same_sqt s h1, h2.length.symm⟩, k _ F H _ (Fresh.refl s) (.int _) w⟩
  | .str z, .str _, w => exact .inl ⟨_, z.length, rfl, ⟨w.1, rfl⟩, k _ F H _ (Fresh.refl s) (.int _) w.2⟩
  | .dict [(.int lo, .int hi)], .rng h1, w => exact .inr ⟨_, lo, hi, rfl, s _ _ h1, w.1, k _ F H _ (Fresh.refl s) (.int _) w.2⟩
  | .dict [(.none, .int _)], .er a, w => exact w.elim
  | .dict [(.str _, .list _)], .xo _ _ _ _, w => exact w.elim
/-- range(n), kept -/
@[simp] def gRng : PyData → (PyData → Prop) → Prop := fun x Φ => match x with
  | .int i => Φ (.dict [(.int 0, .int i)])
  | _ => False
theorem cr_range1 {X : Cx} : CallR X (.type "range") (fun vs H Q => ∃ j, vs = [V.int j] ∧ ∀ p, H p = none → Q (.ref p) (upd H p (.rng 0 j))) := by
  intro pins s σ H vs us Q I r h
  obtain ⟨j, rfl, q⟩ := h
  obtain ⟨u1, rfl, rj⟩ := vals1 r
  obtain ⟨t, rfl⟩ := rj
  refine call_range_1 ⟨.ref s.heap.objs.size, upd H s.heap.objs.size (.rng 0 j), I.laid (fun b o e => Heap.get?_push_of_some _ e) (Nat.le_refl _) ?_, rfl, q _ (I.hok.fresh (Nat.le_refl _))⟩
  exact ⟨_, _, _, Heap.get?_push_size _ rfl⟩
theorem opn_rng : OpN K (fun vs H Q => ∃ j, vs = [V.int j] ∧ ∀ p, H p = none → Q (.ref p) (upd H p (.rng 0 j))) (wN1 gRng) := opN1 fun F H v x Q Φ s d w k => by
  cases x with
  | int i =>
    cases d
    refine ⟨i, rfl, fun p hp => ?_⟩
    exact k _ _ _ _ (Fresh.new (o := .rng 0 i) s hp) (.rng upd_same) w
  | _ => exact w.elim
/-- a test by truth -/
@[simp] def wTru (w : DE) : DT := fun s Φ => w s fun x s1 => match x with
  | .bool b => Φ b s1
  | .none => Φ false s1
  | .int i => Φ (i != 0) s1
  | .str y => y.length ≤ sizeLine ∧ Φ ((y.length : Int) != 0) s1
  | .list xs => Φ (!xs.isEmpty) s1
  | .tuple xs => Φ (!xs.isEmpty) s1
  | _ => False
theorem dqa_empty {F : Hp} {vs : List V} {xs : List PyData} (d : DqA K F vs xs) : vs.isEmpty = xs.isEmpty := by
  cases d <;> rfl
theorem tru_of {w : DE} (σ : L2.St) (H : Hp) (Q : Bool → Hp → Prop) (h : tT K (wTru w) σ H Q) : tE K w σ H fun x H1 => ∃ k, TruV K x H1 k ∧ Q k H1 := by
  obtain ⟨G, P, F, s, Φ, R, h, k⟩ := h
  refine ⟨G, P, F, s, _, R, h, fun x F1 H1 s1 dx R1 e1 d1 h1 => ?_⟩
  match dx, d1, h1 with
  | .bool b, .bl _, h1 => exact ⟨b, rfl, k b F1 H1 s1 R1 e1 h1⟩
  | .none, .non, h1 => exact ⟨false, rfl, k _ F1 H1 s1 R1 e1 h1⟩
  | .int i, .int _, h1 => exact ⟨_, rfl, k _ F1 H1 s1 R1 e1 h1⟩
  | .str y, .str _, h1 => exact ⟨_, ⟨h1.1, rfl⟩, k _ F1 H1 s1 R1 e1 h1.2⟩
  | .list xs, .lst a b, h1 => exact ⟨_, .inl ⟨_, SqL.of (R1.same _ _ a), by rw [dqa_empty b]⟩, k _ F1 H1 s1 R1 e1 h1⟩
  | .tuple xs, .tup a b, h1 => exact ⟨_, .inr (.inl ⟨_, same_sqt R1.same a, by rw [dqa_empty b]⟩), k _ F1 H1 s1 R1 e1 h1⟩
theorem xt_tru {X : Cx} {e : Expr} {w : DE} (h : XE X e w) (he : ∀ whole, isTrue e X.env whole = (do let v ← whole; standAt e.pos; holding [v] (truthy v)) := by intro _; rfl) : XT X e (wTru w) := pt_imp (pt_truth h he) tru_of
@[simp] def gInt : PyData → (PyData → Prop) → Prop := fun x Φ => match x with
  | .int i => Φ (.int i)
  | .bool b => Φ (.int (if b then 1 else 0))
  | _ => False
theorem opn_int : OpN K (fun xs H Q => (∃ i, xs = [.int i] ∧ Q (.int i) H) ∨ ∃ k, xs = [.bl k] ∧ Q (.int (if k then 1 else 0)) H) (wN1 gInt) := opN1 fun F H v x Q Φ s d w k => by
  cases x with
  | int i =>
    cases d
    exact .inl ⟨i, rfl, k _ F H _ (Fresh.refl s) (.int _) w⟩
  | bool b =>
    cases d
    exact .inr ⟨b, rfl, k _ F H _ (Fresh.refl s) (.int _) w⟩
  | _ => exact w.elim
@[simp] def gStr : PyData → (PyData → Prop) → Prop := fun x Φ => match x with
  | .int i => i.natAbs.log2 < 1920 ∧ Φ (.str (toString i))
  | _ => False
theorem opn_str : OpN K (fun xs H Q => ∃ i, xs = [.int i] ∧ i.natAbs.log2 < 1920 ∧ Q (.str (toString i)) H) (wN1 gStr) := opN1 fun F H v x Q Φ s d w k => by
  cases x with
  | int i =>
    cases d
    exact ⟨i, rfl, w.1, k _ F H _ (Fresh.refl s) (.str _) w.2⟩
  | _ => exact w.elim
@[simp] def gMax : PyData → PyData → (PyData → Prop) → Prop := fun x y Φ => match x, y with
  | .int i, .int j => Φ (.int (if j > i then j else i))
  | _, _ => False
@[simp] def gMin : PyData → PyData → (PyData → Prop) → Prop := fun x y Φ => match x, y with
  | .int i, .int j => Φ (.int (if j < i then j else i))
  | _, _ => False
theorem opn_max2 : OpN K (fun xs H Q => ∃ i j, xs = [.int i, .int j] ∧ Q (.int (if j > i then j else i)) H) (wN2 gMax) := opN2 fun F H v u x y Q Φ s d1 d2 w k => by
  cases x with
  | int i =>
    cases y with
    | int j =>
      cases d1
      cases d2
      exact ⟨i, j, rfl, k _ F H _ (Fresh.refl s) (.int _) w⟩
    | _ => exact w.elim
  | _ => exact w.elim
theorem opn_min2 : OpN K (fun xs H Q => ∃ i j, xs = [.int i, .int j] ∧ Q (.int (if j < i then j else i)) H) (wN2 gMin) := opN2 fun F H v u x y Q Φ s d1 d2 w k => by
  cases x with
  | int i =>
    cases y with
    | int j =>
      cases d1
      cases d2
      exact ⟨i, j, rfl, k _ F H _ (Fresh.refl s) (.int _) w⟩
    | _ => exact w.elim
  | _ => exact w.elim
/-- list(x) as data -/
def signV (z : Str) : List V := z.cps.toList.map fun c => V.str ⟨#[c]⟩
theorem signV_vals : ∀ (cs : List Nat) (us : List Value), us.length = cs.length → (∀ (j c : Nat), cs[j]? = some c → ∃ t, us[j]? = some (Value.str ⟨#[c]⟩ t)) → Vals (cs.map fun c => V.str ⟨#[c]⟩) us
  | [], [], _, _ => .nil
  | c :: cs, u :: us, hl, h => by
    obtain ⟨t, ht⟩ := h 0 c rfl
    cases ht
    exact .cons ⟨t, rfl⟩ (signV_vals cs us (by simpa using hl) fun j c hj => by simpa using h (j + 1) c (by simpa using hj))
  | [], _ :: _, hl, _ => by simp at hl
  | _ :: _, [], hl, _ => by simp at hl
theorem signV_dq {K : PySem.W.Frag} {F : Hp} (z : Str) : DqA K F (signV z) (signsOf z) := by
  unfold signV signsOf
  induction z.cps.toList with
  | nil => exact .nil
  | cons c cs ih => exact .cons (.str _) ih
theorem cr_listA {X : Cx} {k : Nat} (hr : Room k X.A) : CallR X (.type "list") (fun xs H Q => (∃ p ys, xs = [.ref p] ∧ (SqL X.K H p ys ∨ SqT X.K H p ys) ∧ ∀ l, H l = none → Q (.ref l) (upd H l (.lst ys))) ∨ ∃ z, xs = [.str z] ∧ z.length ≤ sizeLine ∧ ∀ l, H l = none → Q (.ref l) (upd H l (.lst (signV z)))) := by
  intro pins s σ H xs us Q I r h
  rcases h with h | ⟨z, rfl, hz, q⟩
  · exact call_list_of pins s σ H xs us Q I r h
  · obtain ⟨u, rfl, rx⟩ := vals1 r
    obtain ⟨t, rfl⟩ := rx
    refine call_list_str hr.hd z t (fun h' tk acc' c' kp e hi => ?_) hz
    have hl : acc'.toList.length = z.cps.toList.length := by rw [Array.length_toList, Array.length_toList, hi.1]
    have hv : Vals (signV z) acc'.toList := signV_vals _ _ hl fun j c hj => by
      have hlt : j < acc'.size := by
        have := (List.getElem?_eq_some_iff.mp hj).1
        rw [← hl, Array.length_toList] at this
        exact this
      obtain ⟨c', u, h1, h2⟩ := hi.2 j acc'[j] (Array.getElem?_eq_getElem hlt)
      rw [Array.getElem?_toList] at hj ⊢
      rw [hj] at h1
      cases h1
      exact ⟨u, by rw [Array.getElem?_eq_getElem hlt, h2]⟩
    have hv2 : (signV z).length ≤ sizeLine := by
      unfold signV
      rw [List.length_map, Array.length_toList]
      exact hz
    refine ⟨.ref s.heap.objs.size, _, I.laid (t' := tk) kp (Nat.le_refl _) (show ObjOk X.prog X.w _ h' _ (.lst (signV z)) from ⟨hv2, acc'.toList, c', hv, by rw [Array.toArray_toList]; exact e⟩), rfl, q _ (I.hok.fresh (Nat.le_refl _))⟩
@[simp] def gList : PyData → (PyData → Prop) → Prop := fun x Φ => match x with
  | .list xs => Φ (.list xs)
  | .tuple xs => Φ (.list xs)
  | .str z => z.length ≤ sizeLine ∧ Φ (.list (signsOf z))
  | _ => False
theorem opn_list : OpN K (fun xs H Q => (∃ p ys, xs = [.ref p] ∧ (SqL K H p ys ∨ SqT K H p ys) ∧ ∀ l, H l = none → Q (.ref l) (upd H l (.lst ys))) ∨ ∃ z, xs = [.str z] ∧ z.length ≤ sizeLine ∧ ∀ l, H l = none → Q (.ref l) (upd H l (.lst (signV z)))) (wN1 gList) := opN1 fun F H v x Q Φ s d w k => by
  cases x with
  | list xs =>
    cases d with
    | @lst a0 vs0 _ h1 h2 =>
      refine .inl ⟨_, _, rfl, .inl (SqL.of (s _ _ h1)), fun l hl => ?_⟩
      have f := Fresh.new (o := .lst vs0) s hl
      exact k _ _ _ _ f (.lst upd_same (h2.mono f.ff)) w
  | tuple xs =>
    cases d with
    | @tup a0 vs0 _ h1 h2 =>
      refine .inl ⟨_, _, rfl, .inr (same_sqt s h1), fun l hl => ?_⟩
      have f := Fresh.new (o := .lst vs0) s hl
      exact k _ _ _ _ f (.lst upd_same (h2.mono f.ff)) w
  | str z =>
    cases d
    refine .inr ⟨_, rfl, w.1, fun l hl => ?_⟩
    have f := Fresh.new (o := .lst (signV z)) s hl
    exact k _ _ _ _ f (.lst upd_same (signV_dq z)) w.2
  | _ => exact w.elim
@[simp] def gTuple : PyData → (PyData → Prop) → Prop := fun x Φ => match x with
  | .list xs => Φ (.tuple xs)
  | .tuple xs => Φ (.tuple xs)
  | _ => False
theorem opn_tuple : OpN K (fun xs H Q => ∃ p ys, xs = [.ref p] ∧ ((SqL K H p ys ∧ ∀ l, H l = none → Q (.ref l) (upd H l (.tup ys))) ∨ (SqT K H p ys ∧ Q (.ref p) H))) (wN1 gTuple) := opN1 fun F H v x Q Φ s d w k => by
  cases x with
  | list xs =>
    cases d with
    | @lst a0 vs0 _ h1 h2 =>
      refine ⟨_, _, rfl, .inl ⟨SqL.of (s _ _ h1), fun l hl => ?_⟩⟩
      have f := Fresh.new (o := .tup vs0) s hl
      exact k _ _ _ _ f (.tup (SqT.of upd_same) (h2.mono f.ff)) w
  | tuple xs =>
    cases d with
    | tup h1 h2 => exact ⟨_, _, rfl, .inr ⟨same_sqt s h1, k _ F H _ (Fresh.refl s) (.tup h1 h2) w⟩⟩
  | _ => exact w.elim
/-- sums of ints, any, all: of lists of the kind -/
def gSum : PyData → (PyData → Prop) → Prop := fun x Φ => ∃ ns : List Int, x = .list (ns.map .int) ∧ Φ (.int ns.sum)
def gAny : PyData → (PyData → Prop) → Prop := fun x Φ => ∃ ns : List Bool, x = .list (ns.map .bool) ∧ Φ (.bool (ns.any id))
def gAll : PyData → (PyData → Prop) → Prop := fun x Φ => ∃ ns : List Bool, x = .list (ns.map .bool) ∧ Φ (.bool (ns.all id))
theorem opn_sum : OpN K (rSum K) (wN1 gSum) := opN1 fun F H v x Q Φ s d w k => by
  obtain ⟨ns, rfl, w⟩ := w
  cases d with
  | lst h1 h2 =>
    have e := h2.ints
    subst e
    exact ⟨_, ns, rfl, SqL.of (s _ _ h1), k _ F H _ (Fresh.refl s) (.int _) w⟩
theorem opn_any : OpN K (rAny K) (wN1 gAny) := opN1 fun F H v x Q Φ s d w k => by
  obtain ⟨ns, rfl, w⟩ := w
  cases d with
  | lst h1 h2 =>
    have e := h2.bls
    subst e
    exact ⟨_, ns, rfl, SqL.of (s _ _ h1), k _ F H _ (Fresh.refl s) (.bl _) w⟩
theorem opn_all : OpN K (rAll K) (wN1 gAll) := opN1 fun F H v x Q Φ s d w k => by
  obtain ⟨ns, rfl, w⟩ := w
  cases d with
  | lst h1 h2 =>
    have e := h2.bls
    subst e
    exact ⟨_, ns, rfl, SqL.of (s _ _ h1), k _ F H _ (Fresh.refl s) (.bl _) w⟩
/-- the greatest of a list of ints -/
def gMaxL : PyData → (PyData → Prop) → Prop := fun x Φ => ∃ ns : List Int, x = .list (ns.map .int) ∧ 0 < ns.length ∧ ∀ m, m ∈ ns → (∀ y, y ∈ ns → y ≤ m) → Φ (.int m)
theorem opn_maxL : OpN K (rMax K) (wN1 gMaxL) := opN1 fun F H v x Q Φ s d w k => by
  obtain ⟨ns, rfl, hl, w⟩ := w
  cases d with
  | lst h1 h2 =>
    have e := h2.ints
    subst e
    exact ⟨_, ns, rfl, SqL.of (s _ _ h1), hl, fun m hm hy => k _ F H _ (Fresh.refl s) (.int _) (w m hm hy)⟩
end
section
variable {X : Cx} {o e : Expr} {pos : Pos}
/-- sep.join(list of texts) -/
@[simp] def wJoin (wo we : DE) : DE := fun s Φ => wo s fun a s1 => match a with
  | .str a => we s1 fun y s2 => ∃ ys : List Str, y = .list (ys.map .str) ∧ (ys.map (·.length)).sum + ys.length * a.length ≤ 16777216 ∧ Φ (.str (Txt.join a ys)) s2
  | _ => False
theorem xe_join {apos : Pos} {wo we : DE} (ho : XE X o wo) (he : XE X e we) (hs : starEach [e] X.env = [(false, eval e X.env)] := by rfl) (hbase : attributeBase o "join" X.env (eval o X.env) = eval o X.env := by rfl) (hline : (apos.endLine == pos.line) = true := by rfl) :
    XE X (.Call (.Attribute o "join" apos) [e] [] pos) (wJoin wo we) := pe_imp (pe_join ho he hs hbase hline) fun σ H Q h => by
  obtain ⟨G, P, F, s, Φ, R, h, k⟩ := h
  refine ⟨G, P, F, s, _, R, h, fun v F1 H1 s1 x R1 e1 d1 q => ?_⟩
  cases x with
  | str a =>
    cases d1
    refine ⟨⟨a, rfl⟩, G, P, F1, s1, _, R1, q, fun u F2 H2 s2 y R2 e2 d2 q2 => ?_⟩
    obtain ⟨ys, rfl, hz, q2⟩ := q2
    cases d2 with
    | lst h1 h2 =>
      have e := h2.strs
      subst e
      exact ⟨a, _, ys, rfl, rfl, .inl (SqL.of (R2.same _ _ h1)), hz, k _ F2 H2 s2 _ R2 (e1.trans e2) (.str _) q2⟩
  | _ => exact q.elim
/-- isinstance(e, T) -/
@[simp] def kindD : PyData → String
  | .none => "NoneType"
  | .bool _ => "bool"
  | .int _ => "int"
  | .str _ => "str"
  | .list _ => "list"
  | .tuple _ => "tuple"
  | .dict _ => "range"
@[simp] def wIsI (T : String) (w : DE) : DE := fun s Φ => w s fun x s1 => match x with
  | .dict _ => False
  | x => optP (kitB (kindD x) T) fun b => Φ (.bool b) s1
theorem tyx_of {K : PySem.W.Frag} {F H : Hp} {v : V} {x : PyData} (s : Same F H) (d : Dq K F v x) (nr : ∀ kvs, x ≠ .dict kvs) : TyX K H v (.type (kindD x)) := by
  cases d with
  | non => exact .base .non
  | bl b => exact .base (.bl b)
  | int i => exact .base (.int i)
  | str z => exact .base (.str z)
  | lst h1 h2 => exact .base (.lst (s _ _ h1))
  | tup h1 h2 =>
    rcases h1 with (h | ⟨o, h⟩) | ⟨o, its, n, h, c, _⟩
    · exact .base (.tup (s _ _ h))
    · exact .fTuple (s _ _ h)
    · exact .kTuple h c
  | rng h => exact (nr _ rfl).elim
  | er a => exact (nr _ rfl).elim
  | xo _ _ _ _ => exact (nr _ rfl).elim
theorem xe_isI {T : Str} {n : String} {p p1 : Pos} {w : DE} (hg : Gl X "isinstance") (hm : X.mg "isinstance" = none) (hgT : Gl X T) (hmT : X.mg T = none) (hvT : bootBuiltins T = some (.type n)) (h : XE X e w) (hn : T ≠ "__name__" := by decide) (hd : (T == ("__debug__" : Str)) = false := by decide)
    (he : starEach [e, .Name T p1] X.env = (false, eval e X.env) :: starEach [.Name T p1] X.env := by rfl) (he2 : starEach [.Name T p1] X.env = (false, eval (.Name T p1) X.env) :: starEach [] X.env := by rfl) (hpl : (backTo pos (starEach [.Name T p1] X.env)).any (·.1) = false := by rfl) :
    XE X (.Call (.Name "isinstance" p) [e, .Name T p1] [] pos) (wIsI n w) :=
  pe_imp (pe_callB call_isi hg hm (by decide +kernel) (pa_cons h (pa_cons (pe_bltn (v := .ty n) hgT hmT hvT rfl hn hd) pa_nil he2) he) (by decide) (by decide) he hpl) fun σ H Q h => by
    obtain ⟨G, P, F, s, Φ, R, h, k⟩ := h
    refine ⟨G, P, F, s, _, R, h, fun v F1 H1 s1 x R1 e1 d1 q => ?_⟩
    have q2 : (∀ kvs, x ≠ .dict kvs) ∧ optP (kitB (kindD x) n) fun b => Φ (.bool b) s1 := by
      cases x with
      | dict _ => exact q.elim
      | _ => exact ⟨fun _ z => (by cases z), q⟩
    obtain ⟨b, hb, q⟩ := optP_of q2.2
    exact ⟨v, .ty n, _, _, b, rfl, .ty n, tyx_of R1.same d1 q2.1, kit_ty hb, k _ F1 H1 s1 _ R1 e1 (.bl b) q⟩
end
end DL
/-! DL, seventh part: the script, the pool, new lists handed back, repr, the law. -/
namespace DL
open PySem PySem.Spec PyProof.Rows L2

section
variable {X : Cx} {pos : Pos}
theorem xe_scIx {i : Nat} {x : Str} {xp : Pos} {k : Expr} {wb : DE} (hv : PE X (.Name x xp) (tVar i)) (hk : XE X k wb) (hs : PlainIx k := by exact fun _ _ => rfl) : XE X (.Subscript (.Name x xp) k pos) (fun s Φ => scAt s i fun _ => wScIx i wb s Φ) :=
  pe_imp (pe_ix ix_list hv hk hs) fun σ H Q h => by
    obtain ⟨G, P, F, s, Φ, R, h, kk⟩ := h
    obtain ⟨ns0, h0, h⟩ := scAt_of h
    obtain ⟨a, g1, g2⟩ := R.sl i _ h0
    refine ⟨_, g1, G, P, F, s, _, R, h, fun u F2 H2 s2 y R2 e2 d2 q2 => ?_⟩
    obtain ⟨ns, h1, q2⟩ := scAt_of q2
    obtain ⟨b, k1, k2⟩ := R2.sl i _ h1
    rw [g1] at k1
    cases k1
    cases y with
    | int k =>
      cases d2
      obtain ⟨z0, z1, q2⟩ := q2
      have hk : k.toNat < ns.length := by omega
      have ha : atI (ns.map V.int) k = some (V.int (ns.getD k.toNat 0)) := by
        refine at_of (j := k.toNat) (by omega) ?_
        rw [List.getElem?_map, List.getElem?_eq_getElem hk, List.getD_eq_getElem?_getD, List.getElem?_eq_getElem hk]
        rfl
      exact ⟨_, _, k, _, rfl, rfl, R2.same.seq k2, ha, kk _ F2 H2 s2 _ R2 e2 (.int _) q2⟩
    | _ => exact q2.elim
/-! the pool -/
theorem atI_map {α β : Type} {f : α → β} {xs : List α} {k : Int} {x : α} (h : atI xs k = some x) : atI (xs.map f) k = some (f x) := by
  obtain ⟨j, a, b⟩ := atI_get h
  unfold atI
  rw [List.length_map, a]
  show (xs.map f)[j]? = some (f x)
  rw [List.getElem?_map, b]
  rfl
@[simp] def wPlIx (i : Nat) (wb : DE) : DE := fun s Φ => poolAt s i (wb s fun k s1 => match k with
  | .int k => optP (atI s1.q k) fun n => Φ (.int n) s1
  | _ => False)
theorem xe_plIx {i : Nat} {x : Str} {xp : Pos} {k : Expr} {wb : DE} (hv : PE X (.Name x xp) (tVar i)) (hk : XE X k wb) (hs : PlainIx k := by exact fun _ _ => rfl) : XE X (.Subscript (.Name x xp) k pos) (wPlIx i wb) :=
  pe_imp (pe_ix ix_list hv hk hs) fun σ H Q h => by
    obtain ⟨G, P, F, s, Φ, R, h, kk⟩ := h
    obtain ⟨hs, h⟩ := poolAt_of h
    obtain ⟨a, rfl, g1⟩ := R.sl i _ hs
    refine ⟨_, g1, G, some a, F, s, _, R, h, fun u F2 H2 s2 y R2 e2 d2 q2 => ?_⟩
    cases y with
    | int k =>
      cases d2
      obtain ⟨n, hn, q2⟩ := optP_of q2
      exact ⟨_, _, k, _, rfl, rfl, SqL.of (R2.pool a rfl).2.2, atI_map hn, kk _ F2 H2 s2 _ R2 e2 (.int _) q2⟩
    | _ => exact q2.elim
@[simp] def wPlLen (i : Nat) : DE := fun s Φ => poolAt s i (Φ (.int s.q.length) s)
theorem xe_plLen {i : Nat} {x : Str} {xp p1 : Pos} (hg : Gl X "len") (hm : X.mg "len" = none) (hv : PE X (.Name x xp) (tVar i)) (he : starEach [.Name x xp] X.env = (false, eval (.Name x xp) X.env) :: starEach [] X.env := by rfl)
    (hpl : (backTo pos (starEach [] X.env)).any (·.1) = false := by rfl) : XE X (.Call (.Name "len" p1) [.Name x xp] [] pos) (wPlLen i) :=
  pe_imp (pe_callB call_len_seq hg hm (by decide +kernel) (pa_cons hv pa_nil he) (by decide) (by decide) he hpl) fun σ H Q h => by
    obtain ⟨G, P, F, s, Φ, R, h, kk⟩ := h
    obtain ⟨hs, h⟩ := poolAt_of h
    obtain ⟨a, rfl, g1⟩ := R.sl i _ hs
    refine ⟨_, g1, a, _, rfl, .inl (SqL.of (R.pool a rfl).2.2), ?_⟩
    rw [List.length_map]
    exact kk _ F H s _ R (Same.refl F) (.int _) h
/-- pool[k] = e -/
@[simp] def wPlSet (i : Nat) (wi we : DE) : DS := fun Φ s => we s fun x s1 => poolAt s1 i (wi s1 fun k s2 => match k, x with
  | .int k, .int n => optP (ixN s2.q.length k) fun j => Φ.nx ⟨s2.e, s2.q.set j n⟩
  | _, _ => False)
theorem xs_plSet {i : Nat} {x : Str} {xp p1 : Pos} {a k : Expr} {wi we : DE} (hv : PE X (.Name x xp) (tVar i)) (hk : XE X k wi) (h : XE X a we)
    (hs : swapsWithSole [.Subscript (.Name x xp) k p1] a pos.line X.env = pure false := by rfl) (hw : swappedStores [.Subscript (.Name x xp) k p1] a X.env = pure none := by rfl)
    (hasg : ∀ u, assign (.Subscript (.Name x xp) k p1) X.env u = (do let ov ← holding [u] (eval (.Name x xp) X.env); let iv ← holding [u, ov] (eval k X.env); standAt p1; holding [u, ov, iv] (setItem ov iv u); release [u, ov, iv] []) := by intro _; rfl) :
    XS X (.Assign [.Subscript (.Name x xp) k p1] a pos) (wPlSet i wi we) :=
  ps_imp (ps_asg h (pg_sub hv hk set_list hasg) hs hw) fun D σ H h => by
    obtain ⟨G, P, F, s, Φ, R, h, b⟩ := h
    refine ⟨G, P, F, s, _, R, h, fun v F1 H1 s1 x R1 e1 d1 q1 => ?_⟩
    obtain ⟨h0, q1⟩ := poolAt_of q1
    obtain ⟨a, rfl, g1⟩ := R1.sl i _ h0
    refine ⟨_, g1, G, some a, F1, s1, _, R1, q1, fun u F2 H2 s2 y R2 e2 d2 q2 => ?_⟩
    cases y with
    | int k =>
      cases x with
      | int n =>
        cases d1
        cases d2
        obtain ⟨j, hj, q2⟩ := optP_of q2
        obtain ⟨p1, p2, p3⟩ := R2.pool a rfl
        refine ⟨_, _, k, j, rfl, rfl, p3, by rw [List.length_map]; exact hj, b.nx _ F2 _ _ ?_ (e1.trans e2) q2⟩
        have f : FreshP a F2 H2 F2 (upd H2 a (.lst ((s2.q.map V.int).set j (.int n)))) := ⟨Same.refl F2, fun b o q => by rw [upd_ne (fun z => by rw [z, p1] at q; cases q)]; exact R2.same b o q, fun b o nb q => by rw [upd_ne nb]; exact q, fun b o _ q => q⟩
        exact R2.freshP f (by rw [upd_same, List.map_set])
      | _ => exact q2.elim
    | _ => exact q2.elim
end

/-! ### new lists handed back -/
structure FreshL (F H F' H' : Hp) (p : Addr) : Prop where
  fs : Fresh F H F' H'
  np : H p = none
  fp : F' p = none
abbrev DSpL := List PyData → (List PyData → Prop) → Prop
def spL (K : PySem.W.Frag) (f : DSpL) : Sp := fun vs H Q _ => ∃ F ds Φ, Same F H ∧ DqA K F vs ds ∧ f ds Φ ∧ ∀ p us F' H' xs, FreshL F H F' H' p → H' p = some (.lst us) → DqA K F' us xs → Φ xs → Q (.ref p) H'
/-- the same of the script -/
abbrev DSpS := List Int → (List PyData → Prop) → Prop
def spS (K : PySem.W.Frag) (f : DSpS) : Sp := fun vs H Q _ => ∃ a ns F Φ, vs = [.ref a] ∧ Same F H ∧ SqL K F a (ns.map V.int) ∧ f ns Φ ∧ ∀ p us F' H' xs, FreshL F H F' H' p → H' p = some (.lst us) → DqA K F' us xs → Φ xs → Q (.ref p) H'
@[simp] def endL (Φ : List PyData → Prop) : EN := { nx := fun _ => False, rt := fun _ _ => False, rl := fun xs _ => Φ xs }
section
variable {P : Program} {w : World} {K : PySem.W.Frag} {mg : Str → Option Value} {base : Heap} {k : Nat} {f : Addr} {fd : FuncData} {ps : List Str} {qual x : Str} {st : Stmt} {N : List Str}
theorem freshL_of {F H F' H' : Hp} {σ' : L2.St} {s' : S} {p : Addr} (e : Same F H) (R : Rep K (partH F H none) none F' H' σ' s') (ee : Same F F') (n : Nu (partH F H none) none F' σ' s' p) : FreshL F H F' H' p := by
  have fr : Fresh F H F' H' := ⟨ee, R.same, fun b o hb => by
      cases hF : F b with
      | none => exact R.keep b o (partH_at hF (fun z => by cases z) hb)
      | some u =>
        have q := e b u hF
        rw [hb] at q
        cases q
        exact R.same b o (ee b o hF), fun b o hb hF => R.apart b o (partH_at hF (fun z => by cases z) hb)⟩
  refine ⟨fr, ?_, n.f⟩
  cases hp : H p with
  | none => rfl
  | some o =>
    have hF : F p = none := by
      cases hF : F p with
      | none => rfl
      | some u =>
        have q := ee p u hF
        rw [n.f] at q
        cases q
    have q := n.g
    rw [partH_at hF (fun z => by cases z) hp] at q
    cases q
theorem fn_L {sp : DSpL} (F : Fun K x qual st f fd) (Sc : FnScope N ps (defScope st)) (len : ∀ ds Φ, sp ds Φ → ds.length = ps.length)
    (hbody : ∀ (cdv : Value) (A : Around) (outer : List Env) (s : Shared) (H : Hp) (E : XK), (A.deeper (envOfC qual (defScope st) s.heap.objs.size f cdv)).guards = some [] → Room k (A.deeper (envOfC qual (defScope st) s.heap.objs.size f cdv)) →
      ∃ wd, XSs (cxOf CX0 P w K mg base N qual (defScope st) f cdv A outer s H E).nox (defBody st) wd ∧ ∀ ds Φ, sp ds Φ → wd (endL Φ) ⟨startE N (ds.map .d), []⟩) : FnG P w K mg base CX0 (k + 1) f fd ps (spL K sp) := by
  refine fng_of F Sc (fun vs H Q E h => ?_) (fun cdv A outer s H vs Q E g hr h => ?_)
  · obtain ⟨F, ds, Φ, _, d, hs, _⟩ := h
    rw [d.length]
    exact len ds Φ hs
  · obtain ⟨wd, hX, hw⟩ := hbody cdv A outer s H E g hr
    refine ⟨_, hX.nox, ?_⟩
    obtain ⟨F, ds, Φ, e, d, hs, kk⟩ := h
    exact ⟨_, none, F, _, _, rep_startD e d [], hw ds Φ hs, fun _ _ _ _ _ _ q => q.elim, fun _ _ _ _ _ _ _ _ _ q => q.elim, fun _ _ _ _ _ _ q => q.elim, fun _ _ _ _ _ _ q => q.elim,
      fun p us σ' F' H' s' xs R ee n hp dx q => kk p us F' H' xs (freshL_of e R ee n) hp dx q, fun _ _ _ _ _ _ _ _ q => q.elim⟩
theorem rep_startS {F H : Hp} {ns : List Int} {a : Addr} {q : List Int} (e : Same F H) (h : SqL K F a (ns.map V.int)) : Rep K (partH F H none) none F H (L2.start N [.ref a]) ⟨startE N [.sc ns], q⟩ := by
  have look : ∀ {i : Nat} {x : Sl}, ([.sc ns] : List Sl)[i]? = some x → i = 0 ∧ x = .sc ns := fun {i x} h => by
    cases i with
    | zero => exact ⟨rfl, (Option.some.inj (by simpa using h)).symm⟩
    | succ j => simp at h
  refine ⟨e, fun b o h => (partH_some h).2.2, fun b o h => (partH_some h).1, fun i x hx => ?_, fun i j xs ys p hi hj _ _ => ?_, fun a ha => (by cases ha), ?_, fun i j x y r hi hj hr _ _ => ?_⟩
  · rcases startE_get hx with h2 | rfl
    · obtain ⟨rfl, rfl⟩ := look h2
      exact ⟨a, start_get rfl, h⟩
    · exact True.intro
  · rcases startE_get hi with h2 | h2
    · obtain ⟨_, z⟩ := look h2
      cases z
    · cases h2
  · show (L2.start N [.ref a]).length = (startE N [.sc ns]).length
    unfold L2.start startE
    simp
  · rcases startE_get hi with h2 | rfl
    · obtain ⟨rfl, rfl⟩ := look h2
      cases hr
    · cases hr
theorem fn_S {sp : DSpS} (F : Fun K x qual st f fd) (Sc : FnScope N ps (defScope st)) (len : ps.length = 1)
    (hbody : ∀ (cdv : Value) (A : Around) (outer : List Env) (s : Shared) (H : Hp) (E : XK), (A.deeper (envOfC qual (defScope st) s.heap.objs.size f cdv)).guards = some [] → Room k (A.deeper (envOfC qual (defScope st) s.heap.objs.size f cdv)) →
      ∃ wd, XSs (cxOf CX0 P w K mg base N qual (defScope st) f cdv A outer s H E).nox (defBody st) wd ∧ ∀ ns Φ, sp ns Φ → wd (endL Φ) ⟨startE N [.sc ns], []⟩) : FnG P w K mg base CX0 (k + 1) f fd ps (spS K sp) := by
  refine fng_of F Sc (fun vs H Q E h => ?_) (fun cdv A outer s H vs Q E g hr h => ?_)
  · obtain ⟨a, ns, F, Φ, rfl, _⟩ := h
    exact len.symm
  · obtain ⟨wd, hX, hw⟩ := hbody cdv A outer s H E g hr
    refine ⟨_, hX.nox, ?_⟩
    obtain ⟨a, ns, F, Φ, rfl, e, d, hs, kk⟩ := h
    exact ⟨_, none, F, _, _, rep_startS e d, hw ns Φ hs, fun _ _ _ _ _ _ q => q.elim, fun _ _ _ _ _ _ _ _ _ q => q.elim, fun _ _ _ _ _ _ q => q.elim, fun _ _ _ _ _ _ q => q.elim,
      fun p us σ' F' H' s' xs R ee n hp dx q => kk p us F' H' xs (freshL_of e R ee n) hp dx q, fun _ _ _ _ _ _ _ _ q => q.elim⟩
end
section
variable {X : Cx} {k : Nat} {f : Addr} {fd : FuncData} {ps : List Str} {x : Str} {p pos : Pos} {e : Expr} {es : List Expr}
theorem Rep.nuL {K : PySem.W.Frag} {G F F' H H' : Hp} {P : Option Addr} {σ : L2.St} {s : S} {p : Addr} (R : Rep K G P F H σ s) (f : FreshL F H F' H' p) : Nu G P F' σ s p :=
  let n := R.nu f.np
  ⟨f.fp, n.g, n.np, n.sl, n.tb⟩
@[simp] def wCallL (sp : DSpL) (wa : DA) : DA := fun s Φ => wa s fun ds s1 => sp ds fun r => Φ r s1
theorem xl_call {sp : DSpL} {wa : DA} (F : FnG X.prog X.w X.K X.mg X.base CX0 k f fd ps (spL X.K sp)) (hgd : X.A.guards = some []) (hr : Room k X.A) (hg : Gl X x) (hm : X.mg x = some (.ref f)) (hk : PySem.W.keepIn X.K (.ref f) = true) (hb : Binds X.K fd ps [])
    (ha : XA X (e :: es) wa) (hdb : (x == ("__debug__" : Str)) = false := by decide) (he : starEach (e :: es) X.env = (false, eval e X.env) :: starEach es X.env := by rfl) (hpl : (backTo pos (starEach es X.env)).any (·.1) = false := by rfl) :
    XL X (.Call (.Name x p) (e :: es) [] pos) (wCallL sp wa) := pe_imp (pe_callG F hgd hr hg hm hk hb .nil pass0 ha hdb he hpl) fun σ H Q h => by
  obtain ⟨G, P, F, s, Φ, R, h, kk⟩ := h
  refine ⟨G, P, F, s, _, R, h, fun vs F1 H1 s1 ds R1 e1 d1 q => ?_⟩
  show spL X.K sp (vs ++ []) H1 Q E0
  rw [List.append_nil]
  exact ⟨F1, ds, _, R1.same, d1, q, fun p us F' H' xs fr hp dx qx => kk p us F' H' s1 xs (R1.fresh fr.fs) (e1.trans fr.fs.ff) (R1.nuL fr) hp dx qx⟩
/-- f(script) -/
@[simp] def wCallS (i : Nat) (sp : DSpS) : DA := fun s Φ => scAt s i fun ns => sp ns fun r => Φ r s
theorem xl_callS {i : Nat} {y : Str} {yp : Pos} {sp : DSpS} (F : FnG X.prog X.w X.K X.mg X.base CX0 k f fd ps (spS X.K sp)) (hgd : X.A.guards = some []) (hr : Room k X.A) (hg : Gl X x) (hm : X.mg x = some (.ref f)) (hk : PySem.W.keepIn X.K (.ref f) = true) (hb : Binds X.K fd ps [])
    (hv : PE X (.Name y yp) (tVar i)) (hdb : (x == ("__debug__" : Str)) = false := by decide) (he : starEach [.Name y yp] X.env = (false, eval (.Name y yp) X.env) :: starEach [] X.env := by rfl) (hpl : (backTo pos (starEach [] X.env)).any (·.1) = false := by rfl) :
    XL X (.Call (.Name x p) [.Name y yp] [] pos) (wCallS i sp) := pe_imp (pe_callG F hgd hr hg hm hk hb .nil pass0 (pa_cons hv pa_nil he) hdb he hpl) fun σ H Q h => by
  obtain ⟨G, P, F, s, Φ, R, h, kk⟩ := h
  obtain ⟨ns, h0, h⟩ := scAt_of h
  obtain ⟨a, g1, g2⟩ := R.sl i _ h0
  refine ⟨_, g1, ?_⟩
  show spS X.K sp ([.ref a] ++ []) H Q E0
  rw [List.append_nil]
  exact ⟨a, ns, F, _, rfl, R.same, g2, h, fun p us F' H' xs fr hp dx qx => kk p us F' H' s xs (R.fresh fr.fs) fr.fs.ff (R.nuL fr) hp dx qx⟩
/-! repr -/
@[simp] def gRepr : PyData → (PyData → Prop) → Prop := fun x Φ => (match x with
  | .list _ => True
  | .tuple _ => True
  | _ => False) ∧ x.showable = true ∧ x.hasDict = false ∧ x.depth ≤ 60 ∧ x.shown.length ≤ sizeLine ∧ Φ (.str x.shown)
theorem call_repr {k : Nat} (hgd : X.A.guards = some []) (hr : Room k X.A) : CallR X (.builtin "repr") (fun xs H Q => ∃ a d, xs = [.ref a] ∧ Dp X.K H (.ref a) d ∧ d.showable = true ∧ d.hasDict = false ∧ d.depth ≤ 60 ∧ d.shown.length ≤ sizeLine ∧ Q (.str d.shown) H) := by
  intro pins s σ H xs us Q I r h
  obtain ⟨a, d, rfl, dp, h1, h2, h3, h4, q⟩ := h
  obtain ⟨u, rfl, ru⟩ := vals1 r
  obtain ⟨as, rd⟩ := Dp.reads I d (.ref a) u dp ru
  cases ru
  have hu := hr.units
  exact repr_of_reads' rd h1 (PyData.noDict_hsm h2) hgd (by omega) (fun _ _ z => z) (fun h' u tk kept => ⟨.str d.shown, H, I.kept (t' := tk) kept, ⟨u, rfl⟩, q⟩) h4
theorem opn_repr : OpN X.K (fun xs H Q => ∃ a d, xs = [.ref a] ∧ Dp X.K H (.ref a) d ∧ d.showable = true ∧ d.hasDict = false ∧ d.depth ≤ 60 ∧ d.shown.length ≤ sizeLine ∧ Q (.str d.shown) H) (wN1 gRepr) := opN1 fun F H v x Q Φ s d w k => by
  obtain ⟨w0, w1, w2, w3, w4, w5⟩ := w
  have d0 := (d.mono s).dp w2
  cases d with
  | lst h1 h2 => exact ⟨_, _, rfl, d0, w1, w2, w3, w4, k _ F H _ (Fresh.refl s) (.str _) w5⟩
  | tup h1 h2 => exact ⟨_, _, rfl, d0, w1, w2, w3, w4, k _ F H _ (Fresh.refl s) (.str _) w5⟩
  | _ => exact w0.elim
end
/-! ### the law: pool = _law_stream(script), then the rest over the pool -/
def spLaw (K : PySem.W.Frag) : Sp := fun vs H Q _ => ∃ (a : Addr) (ns : List Int), vs = [.ref a] ∧ SqL K H a (ns.map V.int) ∧ ns.length ≤ 63 ∧ ∀ H', Q (.bl true) H'
/-- a pool: at least 301 numbers from 0 on, all but the first one below 60 -/
structure PoolOk (q : List Int) : Prop where
  lo : 301 ≤ q.length
  hi : q.length ≤ 100000
  h0 : ∀ n ∈ q, 0 ≤ n
  nn : ∀ n ∈ q.drop 1, n < 60
def spStream : DSpS := fun ns Φ => ns.length ≤ 63 ∧ ∀ q, PoolOk q → Φ (q.map .int)
@[simp] def endTrue : EN := { nx := fun _ => False, rt := fun x _ => x = .bool true }
section
variable {P : Program} {w : World} {K : PySem.W.Frag} {mg : Str → Option Value} {base : Heap} {k kS : Nat} {f fS : Addr} {fd fdS : FuncData} {psS : List Str} {qual x : Str} {st : Stmt} {N : List Str}
theorem rep_law {F H F' H' : Hp} {a p : Addr} {ns q : List Int} (h : SqL K F a (ns.map V.int)) (fr : FreshL F H F' H' p) (hp : H' p = some (.lst (q.map V.int))) (hN : 2 ≤ N.length) :
    Rep K (fun _ => none) (some p) F' H' ((L2.start N [.ref a]).set 1 (some (.ref p))) ⟨(startE N [.sc ns]).set 1 .pl, q⟩ := by
  have hl : 1 < (L2.start N [.ref a]).length := by
    unfold L2.start
    simp
    omega
  have look : ∀ {i : Nat} {x : Sl}, ([.sc ns] : List Sl)[i]? = some x → i = 0 ∧ x = .sc ns := fun {i x} h => by
    cases i with
    | zero => exact ⟨rfl, (Option.some.inj (by simpa using h)).symm⟩
    | succ j => simp at h
  refine ⟨fr.fs.fh, fun b o z => (by cases z), fun b o z => (by cases z), fun i x hx => ?_, fun i j xs ys r hi hj _ _ => ?_, fun b hb => ?_, ?_, fun i j x y r hi hj hr _ _ => ?_⟩
  · rcases set_get hx with ⟨rfl, rfl⟩ | ⟨ne, hx⟩
    · exact ⟨p, rfl, set_self hl⟩
    · rcases startE_get hx with h2 | rfl
      · obtain ⟨rfl, rfl⟩ := look h2
        exact ⟨a, by rw [List.getElem?_set_ne (by decide)]; exact start_get rfl, fr.fs.ff.seq h⟩
      · exact True.intro
  · rcases set_get hi with ⟨_, z⟩ | ⟨_, hi⟩
    · cases z
    · rcases startE_get hi with h2 | h2
      · obtain ⟨_, z⟩ := look h2
        cases z
      · cases h2
  · cases hb
    exact ⟨fr.fp, rfl, hp⟩
  · show ((L2.start N [.ref a]).set 1 (some (.ref p))).length = ((startE N [.sc ns]).set 1 .pl).length
    rw [List.length_set, List.length_set]
    unfold L2.start startE
    simp
  · rcases set_get hi with ⟨rfl, rfl⟩ | ⟨ne, hi⟩
    · cases hr
    · rcases startE_get hi with h2 | rfl
      · obtain ⟨rfl, rfl⟩ := look h2
        cases hr
      · cases hr
/-- pool is the second name -/
theorem fn_law {y sx : Str} {yp p1 p2 cp pos : Pos} {rest : List Stmt} (F : Fun K x qual st f fd) (Sc : FnScope N ["script"] (defScope st)) (hN : 2 ≤ N.length)
    (hb0 : defBody st = .Assign [.Name y yp] (.Call (.Name sx p1) [.Name "script" p2] [] cp) pos :: rest)
    (GS : FnG P w K mg base CX0 kS fS fdS psS (spS K spStream)) (gS : mg sx = some (.ref fS)) (kpS : PySem.W.keepIn K (.ref fS) = true) (bS : Binds K fdS psS []) (hk : kS ≤ k)
    (hhead : ∀ (cdv : Value) (A : Around) (outer : List Env) (s : Shared) (H : Hp) (E : XK), (A.deeper (envOfC qual (defScope st) s.heap.objs.size f cdv)).guards = some [] → Room k (A.deeper (envOfC qual (defScope st) s.heap.objs.size f cdv)) →
      PS (cxOf CX0 P w K mg base N qual (defScope st) f cdv A outer s H E).nox (.Assign [.Name y yp] (.Call (.Name sx p1) [.Name "script" p2] [] cp) pos) (tAsg (tCall (spS K spStream) [] E0 (tCons (tVar 0) tNil)) (gName 1)))
    (hbody : ∀ (cdv : Value) (A : Around) (outer : List Env) (s : Shared) (H : Hp) (E : XK), (A.deeper (envOfC qual (defScope st) s.heap.objs.size f cdv)).guards = some [] → Room k (A.deeper (envOfC qual (defScope st) s.heap.objs.size f cdv)) →
      ∃ wd, XSs (cxOf CX0 P w K mg base N qual (defScope st) f cdv A outer s H E).nox rest wd ∧ ∀ ns q, PoolOk q → wd endTrue ⟨(startE N [.sc ns]).set 1 .pl, q⟩) : FnG P w K mg base CX0 (k + 1) f fd ["script"] (spLaw K) := by
  refine fng_of F Sc (fun vs H Q E h => ?_) (fun cdv A outer s H vs Q E g hr h => ?_)
  · obtain ⟨a, ns, rfl, _⟩ := h
    rfl
  · obtain ⟨wd, hX, hw⟩ := hbody cdv A outer s H E g hr
    have hs := hhead cdv A outer s H E g hr
    rw [hb0]
    refine ⟨_, (pss_cons hs hX).nox, ?_⟩
    obtain ⟨a, ns, rfl, hS, hl, kk⟩ := h
    have key : ∀ Q' : VK, (∀ p us F' H' q, FreshL H H F' H' p → H' p = some (.lst us) → DqA K F' us (q.map .int) → PoolOk q → Q' (.ref p) H') → spS K spStream ([V.ref a] ++ []) H Q' E0 := fun Q' z => by
      rw [List.append_nil]
      exact ⟨a, ns, H, fun xs => ∃ q : List Int, PoolOk q ∧ xs = q.map .int, rfl, Same.refl H, hS, ⟨hl, fun q hq => ⟨q, hq, rfl⟩⟩, fun p us F' H' xs fr hp dx ⟨q, hq, e⟩ => z p us F' H' q fr hp (by rw [← e]; exact dx) hq⟩
    refine ⟨.ref a, start_get rfl, ?_⟩
    dsimp only [tNil]
    refine key _ fun p us F' H' q fr hp dx hq => ?_
    have e := dx.ints
    subst e
    exact ⟨_, some p, F', _, endTrue, rep_law hS fr hp hN, hw ns q hq, fun _ _ _ _ _ _ z => z.elim, fun v σ' F2 H2 s' x R ee dv z => by
      have z' : x = .bool true := z
      subst z'
      cases dv
      exact kk H2, fun _ _ _ _ _ _ z => z.elim, fun _ _ _ _ _ _ z => z.elim, fun _ _ _ _ _ _ _ _ _ _ _ _ z => z.elim, fun _ _ _ _ _ _ _ _ z => z.elim⟩
end
end DL
/-! DL, eighth part: short words for the derivations. -/
namespace DL
open PySem PySem.Spec PyProof.Rows L2

section
variable {K : PySem.W.Frag}
@[simp] def wSub : W2 := wI2 fun i j => .int (i - j)
@[simp] def wMul : W2 := wII CMul fun i j => .int (i * j)
@[simp] def wMulW : W2 := wII CMulW fun i j => .int (i * j)
@[simp] def wDiv : W2 := wII CDiv fun i j => .int (i / j)
@[simp] def wMod : W2 := wII (fun _ j => 0 < j) fun i j => .int (i % j)
@[simp] def wPow : W2 := wII CPow fun i j => .int (i ^ j.toNat)
@[simp] def wShl : W2 := wII CPow fun i j => .int (i * 2 ^ j.toNat)
@[simp] def wShr : W2 := wII (fun _ j => 0 ≤ j) fun i j => .int (i / 2 ^ j.toNat)
@[simp] def wBand : W2 := wI2 fun i j => .int (Builtin.bitAnd i j)
@[simp] def wBor : W2 := wI2 fun i j => .int (Builtin.bitOr i j)
@[simp] def wBxor : W2 := wI2 fun i j => .int (Builtin.bitXor i j)
@[simp] def wLt : W2 := wI2 fun i j => .bool (decide (i < j))
@[simp] def wLe : W2 := wI2 fun i j => .bool (decide (i ≤ j))
@[simp] def wGt : W2 := wI2 fun i j => .bool (decide (j < i))
@[simp] def wGe : W2 := wI2 fun i j => .bool (decide (j ≤ i))
theorem o_sub : Op2 K (rI0 fun i j => .int (i - j)) wSub := op2_I0 fun _ _ _ => .int _
theorem o_mul : Op2 K (rI CMul fun i j => .int (i * j)) wMul := op2_I fun _ _ _ => .int _
theorem o_mulW : Op2 K (rI CMulW fun i j => .int (i * j)) wMulW := op2_I fun _ _ _ => .int _
theorem o_div : Op2 K (rI CDiv fun i j => .int (i / j)) wDiv := op2_I fun _ _ _ => .int _
theorem o_mod : Op2 K (rI (fun _ j => 0 < j) fun i j => .int (i % j)) wMod := op2_I fun _ _ _ => .int _
theorem o_pow : Op2 K (rI CPow fun i j => .int (i ^ j.toNat)) wPow := op2_I fun _ _ _ => .int _
theorem o_shl : Op2 K (rI CPow fun i j => .int (i * 2 ^ j.toNat)) wShl := op2_I fun _ _ _ => .int _
theorem o_shr : Op2 K (rI (fun _ j => 0 ≤ j) fun i j => .int (i / 2 ^ j.toNat)) wShr := op2_I fun _ _ _ => .int _
theorem o_band : Op2 K (rI0 fun i j => .int (Builtin.bitAnd i j)) wBand := op2_I0 fun _ _ _ => .int _
theorem o_bor : Op2 K (rI0 fun i j => .int (Builtin.bitOr i j)) wBor := op2_I0 fun _ _ _ => .int _
theorem o_bxor : Op2 K (rI0 fun i j => .int (Builtin.bitXor i j)) wBxor := op2_I0 fun _ _ _ => .int _
theorem o_lt : Op2 K (rI0 fun i j => .bl (decide (i < j))) wLt := op2_I0 fun _ _ _ => .bl _
theorem o_le : Op2 K (rI0 fun i j => .bl (decide (i ≤ j))) wLe := op2_I0 fun _ _ _ => .bl _
theorem o_gt : Op2 K (rI0 fun i j => .bl (decide (j < i))) wGt := op2_I0 fun _ _ _ => .bl _
theorem o_ge : Op2 K (rI0 fun i j => .bl (decide (j ≤ i))) wGe := op2_I0 fun _ _ _ => .bl _
@[simp] def wNeg : W1 := fun x Φ => match x with
  | .int i => Φ (.int (-i))
  | _ => False
theorem o_neg : Op1 K (rU fun i => .int (-i)) wNeg := ⟨fun {F H x dx} Q Φ s d w k => by
  cases dx with
  | int i =>
    cases d
    exact ⟨i, rfl, k _ F H _ (Fresh.refl s) (.int _) w⟩
  | _ => exact w.elim⟩
end
section
variable {X : Cx} {a b c e : Expr} {pos : Pos}
/-- a def that stands, with its promise -/
structure Ca (P : Program) (w : World) (K : PySem.W.Frag) (mg : Str → Option Value) (base : Heap) (k : Nat) (x : Str) (ps : List Str) (sp : Sp) : Prop where
  ex : ∃ f fd, FnG P w K mg base CX0 k f fd ps sp ∧ mg x = some (.ref f) ∧ PySem.W.keepIn K (.ref f) = true ∧ Binds K fd ps []
theorem c_call {k kX : Nat} {x : Str} {ps : List Str} {p : Pos} {es : List Expr} {sp : DSp} {wa : DA} (C : Ca X.prog X.w X.K X.mg X.base k x ps (spD X.K sp)) (hgd : X.A.guards = some []) (hr : Room kX X.A) (hk : k ≤ kX) (hg : Gl X x) (ha : XA X (e :: es) wa)
    (hdb : (x == ("__debug__" : Str)) = false := by decide) (he : starEach (e :: es) X.env = (false, eval e X.env) :: starEach es X.env := by rfl) (hpl : (backTo pos (starEach es X.env)).any (·.1) = false := by rfl) : XE X (.Call (.Name x p) (e :: es) [] pos) (wCall sp wa) := by
  obtain ⟨f, fd, F, gm, kp, b⟩ := C.ex
  exact xe_call F hgd (hr.mono hk) hg gm kp b ha hdb he hpl
theorem c_callP {k kX i : Nat} {x y : Str} {ps : List Str} {p yp : Pos} {es : List Expr} {sp : DSpP} {wa : DA} (C : Ca X.prog X.w X.K X.mg X.base k x ps (spP X.K sp)) (hgd : X.A.guards = some []) (hr : Room kX X.A) (hk : k ≤ kX) (hg : Gl X x) (hv : PE X (.Name y yp) (tVar i)) (ha : XA X es wa)
    (hdb : (x == ("__debug__" : Str)) = false := by decide) (he : starEach (.Name y yp :: es) X.env = (false, eval (.Name y yp) X.env) :: starEach es X.env := by rfl) (hpl : (backTo pos (starEach es X.env)).any (·.1) = false := by rfl) :
    XE X (.Call (.Name x p) (.Name y yp :: es) [] pos) (wCallP i sp wa) := by
  obtain ⟨f, fd, F, gm, kp, b⟩ := C.ex
  exact xe_callP F hgd (hr.mono hk) hg gm kp b hv ha hdb he hpl
theorem c_callL {k kX : Nat} {x : Str} {ps : List Str} {p : Pos} {es : List Expr} {sp : DSpL} {wa : DA} (C : Ca X.prog X.w X.K X.mg X.base k x ps (spL X.K sp)) (hgd : X.A.guards = some []) (hr : Room kX X.A) (hk : k ≤ kX) (hg : Gl X x) (ha : XA X (e :: es) wa)
    (hdb : (x == ("__debug__" : Str)) = false := by decide) (he : starEach (e :: es) X.env = (false, eval e X.env) :: starEach es X.env := by rfl) (hpl : (backTo pos (starEach es X.env)).any (·.1) = false := by rfl) : XL X (.Call (.Name x p) (e :: es) [] pos) (wCallL sp wa) := by
  obtain ⟨f, fd, F, gm, kp, b⟩ := C.ex
  exact xl_call F hgd (hr.mono hk) hg gm kp b ha hdb he hpl
theorem c_callS {k kX i : Nat} {x y : Str} {ps : List Str} {p yp : Pos} {sp : DSpS} (C : Ca X.prog X.w X.K X.mg X.base k x ps (spS X.K sp)) (hgd : X.A.guards = some []) (hr : Room kX X.A) (hk : k ≤ kX) (hg : Gl X x) (hv : PE X (.Name y yp) (tVar i))
    (hdb : (x == ("__debug__" : Str)) = false := by decide) (he : starEach [.Name y yp] X.env = (false, eval (.Name y yp) X.env) :: starEach [] X.env := by rfl) (hpl : (backTo pos (starEach [] X.env)).any (·.1) = false := by rfl) : XL X (.Call (.Name x p) [.Name y yp] [] pos) (wCallS i sp) := by
  obtain ⟨f, fd, F, gm, kp, b⟩ := C.ex
  exact xl_callS F hgd (hr.mono hk) hg gm kp b hv hdb he hpl
/-- list(x), a new list -/
@[simp] def wListN (wa : DE) : DA := fun s Φ => wa s fun x s1 => match x with
  | .list xs => Φ xs s1
  | .tuple xs => Φ xs s1
  | _ => False
theorem xl_list {p : Pos} {wa : DE} (hg : Gl X "list") (hm : X.mg "list" = none) (ha : XE X e wa) (he : starEach [e] X.env = (false, eval e X.env) :: starEach [] X.env := by rfl) (hpl : (backTo pos (starEach [] X.env)).any (·.1) = false := by rfl) :
    XL X (.Call (.Name "list" p) [e] [] pos) (wListN wa) := pe_imp (pe_callTy call_list_of hg hm (by decide +kernel) (pa_cons ha pa_nil he) (by decide) (by decide) he hpl) fun σ H Q h => by
  obtain ⟨G, P, F, s, Φ, R, h, k⟩ := h
  refine ⟨G, P, F, s, _, R, h, fun v F1 H1 s1 x R1 e1 d1 q => ?_⟩
  cases x with
  | list xs =>
    cases d1 with
    | @lst a0 vs0 _ h1 h2 =>
      refine ⟨a0, vs0, rfl, .inl (SqL.of (R1.same _ _ h1)), fun l hl => ?_⟩
      obtain ⟨R2, n⟩ := nu_new (o := .lst vs0) R1 hl
      exact k l vs0 F1 _ s1 xs R2 e1 n upd_same h2 q
  | tuple xs =>
    cases d1 with
    | @tup a0 vs0 _ h1 h2 =>
      refine ⟨a0, vs0, rfl, .inr (same_sqt R1.same h1), fun l hl => ?_⟩
      obtain ⟨R2, n⟩ := nu_new (o := .lst vs0) R1 hl
      exact k l vs0 F1 _ s1 xs R2 e1 n upd_same h2 q
  | _ => exact q.elim
/-- chains: a < b < c -/
@[simp] def wChain (w w' : W2) (wa wb wc : DE) : DE := fun s Φ => wa s fun x s1 => wb s1 fun y s2 => w x y fun z => match z with
  | .bool b => if b = true then wc s2 fun u s3 => w' y u fun z2 => Φ z2 s3 else Φ (.bool false) s2
  | _ => False
end
end DL
/-! DL, ninth part: built-in names, constants, chains, repeated lists. -/
namespace DL
open PySem PySem.Spec PyProof.Rows L2

structure Bi (mg : Str → Option Value) : Prop where
  len : mg "len" = none
  int : mg "int" = none
  str : mg "str" = none
  bool : mg "bool" = none
  list : mg "list" = none
  tuple : mg "tuple" = none
  max : mg "max" = none
  min : mg "min" = none
  sum : mg "sum" = none
  any : mg "any" = none
  all : mg "all" = none
  repr : mg "repr" = none
  range : mg "range" = none
  enumerate : mg "enumerate" = none
  zip : mg "zip" = none
  isinstance : mg "isinstance" = none
  sorted : mg "sorted" = none
theorem bb_len : bootBuiltins "len" = some (.builtin "len") := by decide +kernel
theorem bb_max : bootBuiltins "max" = some (.builtin "max") := by decide +kernel
theorem bb_min : bootBuiltins "min" = some (.builtin "min") := by decide +kernel
theorem bb_sum : bootBuiltins "sum" = some (.builtin "sum") := by decide +kernel
theorem bb_any : bootBuiltins "any" = some (.builtin "any") := by decide +kernel
theorem bb_all : bootBuiltins "all" = some (.builtin "all") := by decide +kernel
theorem bb_repr : bootBuiltins "repr" = some (.builtin "repr") := by decide +kernel
theorem bb_int : bootBuiltins "int" = some (.type "int") := by decide +kernel
theorem bb_str : bootBuiltins "str" = some (.type "str") := by decide +kernel
theorem bb_bool : bootBuiltins "bool" = some (.type "bool") := by decide +kernel
theorem bb_list : bootBuiltins "list" = some (.type "list") := by decide +kernel
theorem bb_tuple : bootBuiltins "tuple" = some (.type "tuple") := by decide +kernel
theorem bb_range : bootBuiltins "range" = some (.type "range") := by decide +kernel
/-- a constant of the module's top -/
structure Gc (K : PySem.W.Frag) (mg : Str → Option Value) (x : Str) (d : PyData) where
  v : V
  u : Value
  mg : mg x = some u
  rel : RelV v u
  dq : ∀ F, Dq K F v d
@[simp] def wScIxA (i : Nat) (wb : DE) : DE := fun s Φ => scAt s i fun _ => wScIx i wb s Φ
section
variable {K : PySem.W.Frag}
theorem op2L_rep : Op2L K rRep wRepL := ⟨fun {F H x y dx dy} Q Φ s d1 d2 w k => by
  cases dx with
  | list a =>
    cases dy with
    | int n =>
      cases d2
      cases d1 with
      | @lst a0 vs _ h1 h2 =>
        have rep : ∀ m : Nat, DqA K F (List.replicate m vs).flatten (List.replicate m a).flatten := fun m => by
          induction m with
          | zero => exact .nil
          | succ m ih =>
            rw [List.replicate_succ, List.replicate_succ, List.flatten_cons, List.flatten_cons]
            exact h2.append ih
        exact ⟨a0, n, vs, rfl, rfl, s _ _ h1, w.1.1, w.1.2.1, by rw [h2.length]; exact w.1.2.2, fun p hp => k p _ _ hp (rep n.toNat) w.2⟩
    | _ => exact w.elim
  | _ => exact w.elim⟩
end
section
variable {X : Cx} {a b c : Expr} {pos : Pos}
theorem xe_chain {op op' : CmpOp} {r r' : R2} {w w' : W2} {wa wb wc : DE} (ho : OpR X (compareOp op) r) (O : Op2 X.K r w) (ho' : OpR X (compareOp op') r') (O' : Op2 X.K r' w') (ha : XE X a wa) (hb : XE X b wb) (hc : XE X c wc)
    (hm : lastMarks [op, op'] [b, c] = false := by with_unfolding_all rfl) : XE X (.Compare a [op, op'] [b, c] pos) (wChain w w' wa wb wc) := pe_imp (pe_chain ho ho' ha hb hc hm) fun σ H Q h => by
  obtain ⟨G, P, F, s, Φ, R, h, k⟩ := h
  refine ⟨G, P, F, s, _, R, h, fun x F1 H1 s1 dx R1 e1 d1 q1 => ⟨G, P, F1, s1, _, R1, q1, fun y F2 H2 s2 dy R2 e2 d2 q2 => ?_⟩⟩
  refine O.run _ _ R2.same (d1.mono e2) d2 q2 fun z F3 H3 dz f dzz q3 => ?_
  have R3 := R2.fresh f
  cases dz with
  | bool t =>
    cases dzz
    refine ⟨t, rfl, ?_⟩
    cases t with
    | true =>
      dsimp only at q3
      rw [if_pos rfl] at q3 ⊢
      refine ⟨G, P, F3, s2, _, R3, q3, fun u F4 H4 s4 du R4 e4 d4 q4 => ?_⟩
      exact O'.run _ _ R4.same (d2.mono (f.ff.trans e4)) d4 q4 fun z2 F5 H5 d5 f5 dq5 q5 => k z2 F5 H5 s4 d5 (R4.fresh f5) ((((e1.trans e2).trans f.ff).trans e4).trans f5.ff) dq5 q5
    | false =>
      dsimp only at q3
      rw [if_neg Bool.false_ne_true] at q3 ⊢
      exact k _ F3 H3 s2 _ R3 ((e1.trans e2).trans f.ff) (.bl false) q3
  | _ => exact q3.elim
end
end DL
/-! promises of what all laws draw with -/
namespace DL
open PySem PySem.Spec L2
def sp_pool : DSpS := fun ns Φ => ns.length ≤ 63 ∧ ∀ q : List Int, 300 ≤ q.length → q.length ≤ 90000 → (∀ n ∈ q, 0 ≤ n ∧ n < 60) → Φ (q.map .int)
def sp_pick : DSpP := fun ds q Φ => ∃ m, ds = [.int m] ∧ 0 < m ∧ PoolOk q ∧ ∀ n q', PoolOk q' → 0 ≤ n → n < m → n < 60 → Φ (.int n) q'
/-- letters: up to m signs from a to z -/
structure Letters (m : Int) (z : Str) : Prop where
  lo : 1 ≤ z.length
  hi : (z.length : Int) ≤ m
  az : ∀ c ∈ z.cps.toList, 97 ≤ c ∧ c ≤ 122
def sp_letters : DSpP := fun ds q Φ => ∃ m, ds = [.int m] ∧ 1 ≤ m ∧ m ≤ 6 ∧ PoolOk q ∧ ∀ z q', PoolOk q' → Letters m z → Φ (.str z) q'
end DL
/-! DL, tenth part: lemmas for the reading. -/
namespace DL
open PySem PySem.Spec PyProof.Rows L2
theorem ixN_lt {n : Nat} {k : Int} (h0 : 0 ≤ k) (h1 : k < n) : ixN n k = some k.toNat := by
  unfold ixN
  rw [if_pos h0, if_pos h1]
theorem atI_lt {α : Type} {xs : List α} {k : Int} (h0 : 0 ≤ k) (h1 : k < xs.length) : atI xs k = some (xs[k.toNat]'(by omega)) := by
  unfold atI
  rw [ixN_lt h0 h1]
  exact List.getElem?_eq_getElem (by omega)
theorem atI_zero {α : Type} {x : α} {xs : List α} : atI (x :: xs) 0 = some x := by
  rw [atI_lt (by omega) (by simp)]
  rfl
@[simp] theorem atI_cons0 {α : Type} (x : α) (xs : List α) : atI (x :: xs) 0 = some x := atI_zero
theorem ixN_zero {n : Nat} : ixN (n + 1) 0 = some 0 := by
  rw [ixN_lt (by omega) (by omega)]
  rfl
theorem sz_le {n : Nat} (h : n ≤ 16777216) : n ≤ sizeLine := by rw [sizeLine_eq]; exact h
theorem sz_lt {n : Nat} (h : n < 16777216) : n < sizeLine := by rw [sizeLine_eq]; exact h
theorem PoolOk.head {q : List Int} (h : PoolOk q) : ∃ a t, q = a :: t ∧ 0 ≤ a ∧ 300 ≤ t.length ∧ t.length < 100000 ∧ ∀ n ∈ t, 0 ≤ n ∧ n < 60 := by
  cases q with
  | nil => have := h.lo; simp at this
  | cons a t =>
    have h1 := h.lo
    have h2 := h.hi
    rw [List.length_cons] at h1 h2
    exact ⟨a, t, rfl, h.h0 a List.mem_cons_self, by omega, by omega, fun n hn => ⟨h.h0 n (List.mem_cons_of_mem _ hn), h.nn n hn⟩⟩
theorem PoolOk.mk' {a : Int} {t : List Int} (h0 : 0 ≤ a) (h1 : 300 ≤ t.length) (h2 : t.length < 100000) (h3 : ∀ n ∈ t, 0 ≤ n ∧ n < 60) : PoolOk (a :: t) where
  lo := by rw [List.length_cons]; omega
  hi := by rw [List.length_cons]; omega
  h0 := fun n hn => by
    rcases List.mem_cons.mp hn with rfl | hn
    · exact h0
    · exact (h3 n hn).1
  nn := fun n hn => (h3 n hn).2
/-- a loop over any list, an invariant by the items gone through: each turn for every end -/
theorem loop_inv {wg : DG} {wb : DS} {Φ : EN} (xs : List PyData) (Inv : List PyData → S → Prop) {s : S} (h0 : Inv [] s)
    (hs : ∀ pre x post s, xs = pre ++ x :: post → Inv pre s → ∀ Ψ : EN, (∀ s, Inv (pre ++ [x]) s → Ψ.nx s) → (∀ s, Inv (pre ++ [x]) s → Ψ.ct s) → Ψ.rt = Φ.rt → Ψ.bk = Φ.nx → Ψ.rl = Φ.rl → wg x s fun s1 => wb Ψ s1)
    (hd : ∀ s, Inv xs s → Φ.nx s) : loopW wg wb Φ xs s := by
  have key : ∀ (post pre : List PyData) (s : S), xs = pre ++ post → Inv pre s → loopW wg wb Φ post s := by
    intro post
    induction post with
    | nil =>
      intro pre s e q
      rw [List.append_nil] at e
      subst e
      exact hd s q
    | cons x post ih =>
      intro pre s e q
      have e2 : xs = (pre ++ [x]) ++ post := by rw [e, List.append_assoc]; rfl
      exact hs pre x post s e q _ (fun s2 z => ih _ s2 e2 z) (fun s2 z => ih _ s2 e2 z) rfl rfl rfl
  exact key xs [] s rfl h0
/-- .. over a range: the turn's number -/
theorem loop_rng {wg : DG} {wb : DS} {Φ : EN} {lo : Int} {n : Nat} (Inv : Nat → S → Prop) {s : S} (h0 : Inv 0 s)
    (hs : ∀ i s, i < n → Inv i s → ∀ Ψ : EN, (∀ s, Inv (i + 1) s → Ψ.nx s) → (∀ s, Inv (i + 1) s → Ψ.ct s) → Ψ.rt = Φ.rt → Ψ.bk = Φ.nx → Ψ.rl = Φ.rl → wg (.int (lo + (i : Int))) s fun s1 => wb Ψ s1)
    (hd : ∀ s, Inv n s → Φ.nx s) : loopW wg wb Φ (rangeD lo n) s := by
  refine loop_inv (rangeD lo n) (fun pre s => Inv pre.length s) h0 (fun pre x post s e q Ψ h1 h2 h3 h4 h5 => ?_) (fun s q => hd s (by rw [rangeD_len] at q; exact q))
  have hx : (rangeD lo n)[pre.length]? = some x := by rw [e]; simp
  obtain ⟨hi, rfl⟩ := rangeD_get hx
  exact hs pre.length s hi q Ψ (fun s z => h1 s (by simpa using z)) (fun s z => h2 s (by simpa using z)) h3 h4 h5
/-- a comprehension, an invariant by the items gone through, what is made and the pool -/
theorem lc_inv {vs : List Nat} {e0 : List Sl} {wg : DG} {wt : DT} {we : DE} {Φ : List PyData → List Int → Prop} (xs : List PyData) (Inv : List PyData → List PyData → List Int → Prop) {q : List Int} (h0 : Inv [] [] q)
    (hs : ∀ pre x post acc q, xs = pre ++ x :: post → Inv pre acc q → ∀ Ψ : List PyData → List Int → Prop, (∀ acc q, Inv (pre ++ [x]) acc q → Ψ acc q) → wg x ⟨wipeE e0 vs, q⟩ fun s1 => wipeE s1.e vs = wipeE e0 vs ∧ wt s1 fun b s2 => s2.e = s1.e ∧
      (if b = true then we s2 fun y s3 => s3.e = s1.e ∧ acc.length < sizeLine ∧ Ψ (acc ++ [y]) s3.q else Ψ acc s2.q))
    (hd : ∀ acc q, Inv xs acc q → Φ acc q) : lcW vs e0 wg wt we Φ xs [] q := by
  have key : ∀ (post pre acc : List PyData) (q : List Int), xs = pre ++ post → Inv pre acc q → lcW vs e0 wg wt we Φ post acc q := by
    intro post
    induction post with
    | nil =>
      intro pre acc q e z
      rw [List.append_nil] at e
      subst e
      exact hd acc q z
    | cons x post ih =>
      intro pre acc q e z
      have e2 : xs = (pre ++ [x]) ++ post := by rw [e, List.append_assoc]; rfl
      exact hs pre x post acc q e z (fun acc q => lcW vs e0 wg wt we Φ post acc q) (fun acc q z2 => ih _ acc q e2 z2)
  exact key xs [] [] q rfl h0
/-- a comprehension that only maps -/
theorem lc_map {vs : List Nat} {e0 : List Sl} {wg : DG} {we : DE} {Φ : List PyData → List Int → Prop} (xs : List PyData) (f : PyData → PyData) {q : List Int} (hl : xs.length ≤ 16777216)
    (hs : ∀ x, x ∈ xs → ∀ Θ : S → PyData → S → Prop, (∀ s1 s3, s3.e = s1.e → s3.q = q → Θ s1 (f x) s3) → wg x ⟨wipeE e0 vs, q⟩ fun s1 => wipeE s1.e vs = wipeE e0 vs ∧ we s1 (Θ s1))
    (hd : Φ (xs.map f) q) : lcW vs e0 wg wYes we Φ xs [] q := by
  refine lc_inv xs (fun pre acc q' => acc = pre.map f ∧ q' = q) ⟨rfl, rfl⟩ (fun pre x post acc q' e h Ψ k => ?_) (fun acc q' h => by rw [h.1, h.2]; exact hd)
  obtain ⟨rfl, rfl⟩ := h
  have hx : x ∈ xs := by rw [e]; simp
  have hlen : (pre.map f).length < sizeLine := sz_lt (by
    rw [e] at hl
    simp at hl ⊢
    omega)
  have r := hs x hx (fun s1 y s3 => s3.e = s1.e ∧ (pre.map f).length < sizeLine ∧ Ψ (pre.map f ++ [y]) s3.q) (fun s1 s3 h1 h2 => ⟨h1, hlen, k _ _ ⟨by simp, h2⟩⟩)
  simp only [wYes, true_and, if_true]
  exact r
end DL
/-! rules, what words they have, and the promises of law k17's defs -/
namespace DL
open PySem PySem.Spec L2
inductive All2 {α β : Type} (R : α → β → Prop) : List α → List β → Prop
  | nil : All2 R [] []
  | cons {a : α} {b : β} {as : List α} {bs : List β} : R a b → All2 R as bs → All2 R (a :: as) (b :: bs)
abbrev Rel := Nat → Nat → Prop
def Tidy (n : Nat) (P : Rel) : Prop := ∀ b e, P b e → b ≤ e ∧ e ≤ n
def rno : Rel := fun _ _ => False
def rid (n : Nat) : Rel := fun b e => b = e ∧ e ≤ n
def rup (n : Nat) : Rel := fun b e => b ≤ e ∧ e ≤ n
def rcomp (P Q : Rel) : Rel := fun b e => ∃ m, P b m ∧ Q m e
def ror (P Q : Rel) : Rel := fun b e => P b e ∨ Q b e
def rand (P Q : Rel) : Rel := fun b e => P b e ∧ Q b e
def rnot (n : Nat) (P : Rel) : Rel := fun b e => (b ≤ e ∧ e ≤ n) ∧ ¬ P b e
def rrow (n : Nat) : List Rel → Rel
  | [] => rid n
  | P :: Ps => rcomp P (rrow n Ps)
def rany : List Rel → Rel
  | [] => rno
  | P :: Ps => ror P (rany Ps)
def rall (n : Nat) : List Rel → Rel
  | [] => rup n
  | P :: Ps => rand P (rall n Ps)
/-- P so often, then Q -/
def rpow (P Q : Rel) : Nat → Rel
  | 0 => Q
  | k + 1 => rcomp P (rpow P Q k)
inductive Rstar (n : Nat) (P : Rel) : Nat → Nat → Prop
  | refl {b : Nat} : b ≤ n → Rstar n P b b
  | step {b m e : Nat} : P b m → b < m → Rstar n P m e → Rstar n P b e
def rtimes (n : Nat) (P : Rel) (lo : Nat) : Option Nat → Rel
  | none => rpow P (Rstar n P) lo
  | some hi => rpow P (rpow (ror P (rid n)) (rid n) (hi - lo)) lo
abbrev Den := Str → Rel
def Az (z : Str) : Prop := ∀ c ∈ z.cps.toList, 97 ≤ c ∧ c ≤ 122
def dOne (z : Str) : Den := fun w b e => e = b + 1 ∧ ∃ c, w.cps.toList[b]? = some c ∧ c ∈ z.cps.toList
def hiD : Option Nat → PyData
  | none => .none
  | some h => .int (h : Nat)
inductive Leaf : PyData → Den → Prop
  | no : Leaf (.tuple [.str "none"]) fun _ => rno
  | em : Leaf (.tuple [.str "empty"]) fun w => rid w.length
  | one {z : Str} : 1 ≤ z.length → z.length ≤ 6 → Az z → Leaf (.tuple [.str "one", .str z]) (dOne z)
inductive Node (R : PyData → Den → Prop) : PyData → Den → Prop
  | leaf {x : PyData} {D : Den} : Leaf x D → Node R x D
  | row {xs : List PyData} {Ds : List Den} : 1 ≤ xs.length → xs.length ≤ 6 → All2 R xs Ds → Node R (.tuple [.str "row", .list xs]) fun w => rrow w.length (Ds.map (· w))
  | ei {xs : List PyData} {Ds : List Den} : 1 ≤ xs.length → xs.length ≤ 6 → All2 R xs Ds → Node R (.tuple [.str "either", .list xs]) fun w => rany (Ds.map (· w))
  | bo {xs : List PyData} {Ds : List Den} : 1 ≤ xs.length → xs.length ≤ 6 → All2 R xs Ds → Node R (.tuple [.str "both", .list xs]) fun w => rall w.length (Ds.map (· w))
  | no {x : PyData} {D : Den} : R x D → Node R (.tuple [.str "not", x]) fun w => rnot w.length (D w)
  | ti {x : PyData} {D : Den} {lo : Nat} {hi : Option Nat} : R x D → lo ≤ 8 → (∀ h, hi = some h → lo ≤ h ∧ h ≤ 8) → Node R (.tuple [.str "times", x, .int (lo : Nat), hiD hi]) fun w => rtimes w.length (D w) lo hi
def Rul : Nat → PyData → Den → Prop
  | 0 => Leaf
  | d + 1 => Node (Rul d)
/-- whole numbers from a rule of their places -/
def mkI (n : Nat) (f : Nat → Nat) : List PyData := (List.range n).map fun b => .int (f b : Nat)
def MaskL (n : Nat) (P : Rel) (xs : List PyData) : Prop := ∃ f : Nat → Nat, xs = mkI (n + 1) f ∧ ∀ b, b ≤ n → ∀ e, (f b).testBit e = true ↔ P b e
def MaskD (n : Nat) (P : Rel) (x : PyData) : Prop := ∃ xs, x = .list xs ∧ MaskL n P xs
def mkT (n : Nat) (g : Nat → Nat → Nat) : List PyData := (List.range n).map fun b => .list (mkI n (g b))
structure TabOk (γ n : Nat) (P : Rel) (g : Nat → Nat → Nat) : Prop where
  iff : ∀ b e, b ≤ n → e ≤ n → (g b e ≠ 0 ↔ P b e)
  le : ∃ α β, α + β + 1 ≤ γ ∧ ∀ b e, b ≤ e → e ≤ n → g b e ≤ 2 ^ (α + β * (e - b))
def TabL (γ n : Nat) (P : Rel) (xs : List PyData) : Prop := ∃ g, xs = mkT (n + 1) g ∧ TabOk γ n P g
def TabD (γ n : Nat) (P : Rel) (x : PyData) : Prop := ∃ xs, x = .list xs ∧ TabL γ n P xs
def TreeD (γ n : Nat) (P : Rel) (x : PyData) : Prop := ∃ r t i s, x = .tuple [r, t, i, s] ∧ TabD γ n P t
def gam : Nat → Nat
  | 0 => 1
  | d + 1 => 9 * gam d + 9
def lenD : Nat → Nat
  | 0 => 4
  | d + 1 => 11 * lenD d
-- the program
def sp_rules_in : DSp := fun ds Φ => (∃ s xs, ds = [.tuple [.str s, .list xs]] ∧ (s = "row" ∨ s = "either" ∨ s = "both") ∧ xs.length ≤ 1000 ∧ Φ (.list xs)) ∨ ∃ s x ys, ds = [.tuple (.str s :: x :: ys)] ∧ (s = "not" ∨ s = "times") ∧ Φ (.list [x])
def sp_only_empty : DSp := fun ds Φ => ∃ n : Nat, ds = [.int (n + 1 : Nat)] ∧ n ≤ 31 ∧ ∀ x, MaskD n (rid n) x → Φ x
def sp_in_some : DSp := fun ds Φ => ∃ n xs Ps, ds = [.list xs] ∧ n ≤ 31 ∧ xs ≠ [] ∧ xs.length ≤ 1000 ∧ All2 (MaskD n) (α := Rel) Ps xs ∧ ∀ x, MaskD n (rany Ps) x → Φ x
def sp_in_all : DSp := fun ds Φ => ∃ n xs Ps, ds = [.list xs] ∧ n ≤ 31 ∧ xs ≠ [] ∧ xs.length ≤ 1000 ∧ All2 (MaskD n) (α := Rel) Ps xs ∧ (∀ P, P ∈ Ps → Tidy n P) ∧ ∀ x, MaskD n (rall n Ps) x → Φ x
def sp_in_turn : DSpL := fun ds Φ => ∃ n x y P Q, ds = [x, y] ∧ n ≤ 31 ∧ Tidy n P ∧ Tidy n Q ∧ MaskD n P x ∧ MaskD n Q y ∧ ∀ xs, MaskL n (rcomp P Q) xs → Φ xs
def sp_all_in_turn : DSp := fun ds Φ => ∃ n xs Ps, ds = [.list xs] ∧ n ≤ 31 ∧ xs ≠ [] ∧ xs.length ≤ 1000 ∧ All2 (MaskD n) (α := Rel) Ps xs ∧ (∀ P, P ∈ Ps → Tidy n P) ∧ ∀ x, MaskD n (rrow n Ps) x → Φ x
def sp_any_turns : DSpL := fun ds Φ => ∃ n x P, ds = [x] ∧ n ≤ 31 ∧ Tidy n P ∧ MaskD n P x ∧ ∀ xs, MaskL n (Rstar n P) xs → Φ xs
def sp_in_times : DSp := fun ds Φ => ∃ (n : Nat) (x : PyData) (P : Rel) (lo : Nat) (hi : Option Nat), ds = [x, .int (lo : Nat), hiD hi] ∧ n ≤ 31 ∧ Tidy n P ∧ MaskD n P x ∧ lo ≤ 8 ∧ (∀ h, hi = some h → lo ≤ h ∧ h ≤ 8) ∧ ∀ x, MaskD n (rtimes n P lo hi) x → Φ x
def sp_pieces_of (d : Nat) : DSp := fun ds Φ => ∃ x D w, ds = [x, .str w] ∧ Rul d x D ∧ w.length ≤ 31 ∧ ∀ y, MaskD w.length (D w) y → Φ y
def sp_is_piece : DSp := fun ds Φ => ∃ (n : Nat) (x : PyData) (P : Rel) (b e : Nat), ds = [x, .int (b : Nat), .int (e : Nat)] ∧ n ≤ 31 ∧ MaskD n P x ∧ b ≤ n ∧ e ≤ 31 ∧ ∀ k, (k = true ↔ P b e) → Φ (.bool k)
def sp_is_of (d : Nat) : DSp := fun ds Φ => ∃ l x D w, ds = [l, x, .str w] ∧ Rul d x D ∧ w.length ≤ 31 ∧ ∀ k, (k = true ↔ D w 0 w.length) → Φ (.bool k)
-- the law
def sp_signs : DSpP := fun ds q Φ => ∃ z, ds = [.str z] ∧ 1 ≤ z.length ∧ z.length ≤ 6 ∧ Az z ∧ PoolOk q ∧ ∀ y q', PoolOk q' → 1 ≤ y.length → y.length ≤ 6 → Az y → Φ (.str y) q'
def sp_words : DSp := fun ds Φ => ∃ (z : Str) (k : Nat), ds = [.str z, .int (k : Nat)] ∧ z.length ≤ 6 ∧ k ≤ 4 ∧ (2 ≤ z.length → k ≤ 2) ∧ ∀ xs, xs.length ≤ 200 → (∀ x ∈ xs, ∃ w : Str, x = .str w ∧ w.length ≤ 4) → Φ (.list xs)
def sp_is_so : DSp := fun ds Φ => ∃ a b, ds = [.bool a, .bool b] ∧ Φ (.bool (a == b))
def sp_leaf : DSpP := fun ds q Φ => ∃ z, ds = [.str z] ∧ 1 ≤ z.length ∧ z.length ≤ 6 ∧ Az z ∧ PoolOk q ∧ ∀ x D q', PoolOk q' → Leaf x D → Φ x q'
def sp_rule (d : Nat) : DSpP := fun ds q Φ => ∃ (z : Str) (r : Nat), ds = [.str z, .int (r : Nat), .int (d : Nat), .bool true] ∧ 1 ≤ r ∧ r ≤ 100 ∧ 1 ≤ z.length ∧ z.length ≤ 6 ∧ Az z ∧ PoolOk q ∧ ∀ x D q', PoolOk q' → Rul d x D → Φ x q'
def sp_any_rule : DSpP := fun ds q Φ => ∃ (z : Str), ds = [.str z, .bool true] ∧ 1 ≤ z.length ∧ z.length ≤ 6 ∧ Az z ∧ PoolOk q ∧ ∀ d x D q', PoolOk q' → d ≤ 4 → Rul d x D → Φ x q'
def sp_joined : DSpL := fun ds Φ => ∃ γ δ n x y P Q, ds = [x, y] ∧ n ≤ 31 ∧ γ + δ ≤ 15000 ∧ Tidy n P ∧ Tidy n Q ∧ TabD γ n P x ∧ TabD δ n Q y ∧ ∀ xs, TabL (γ + δ) n (rcomp P Q) xs → Φ xs
def sp_any : DSpL := fun ds Φ => ∃ γ n x P, ds = [x] ∧ n ≤ 31 ∧ γ ≤ 15000 ∧ Tidy n P ∧ TabD γ n P x ∧ ∀ xs, TabL (γ + 1) n (Rstar n P) xs → Φ xs
def sp_rests : DSp := fun ds Φ => (∃ γ n xs ts Ps t, ds = [.tuple [.str "row", .list ts], .list xs, t] ∧ n ≤ 31 ∧ TabD 1 n (rid n) t ∧ xs.length ≤ 6 ∧ All2 (TreeD γ n) (α := Rel) Ps xs ∧ (∀ P, P ∈ Ps → Tidy n P) ∧ 9 * γ + 9 ≤ 15000 ∧ ∀ y ys, TabD (9 * γ + 9) n (rrow n Ps) y → Φ (.list (y :: ys))) ∨
  ∃ (γ n : Nat) (x u t : PyData) (P : Rel) (lo : Nat) (hi : Option Nat), ds = [.tuple [.str "times", x, .int (lo : Nat), hiD hi], .list [u], t] ∧ n ≤ 31 ∧ TabD 1 n (rid n) t ∧ TreeD γ n P u ∧ Tidy n P ∧ 9 * γ + 9 ≤ 15000 ∧ lo ≤ 8 ∧ (∀ h, hi = some h → lo ≤ h ∧ h ≤ 8) ∧ ∀ y ys, TabD (9 * γ + 9) n (rtimes n P lo hi) y → Φ (.list (y :: ys))
def sp_tree (d : Nat) : DSp := fun ds Φ => ∃ x D w, ds = [x, .str w] ∧ Rul d x D ∧ d ≤ 4 ∧ w.length ≤ 31 ∧ ∀ y, TreeD (gam d) w.length (D w) y → Φ y
def sp_count (d : Nat) : DSp := fun ds Φ => ∃ x D w, ds = [x, .str w] ∧ Rul d x D ∧ d ≤ 4 ∧ w.length ≤ 31 ∧ ∀ m : Nat, (m ≠ 0 ↔ D w 0 w.length) → Φ (.int (m : Nat))
def sp_down (d : Nat) : DSpP := fun ds q Φ => ∃ (z : Str) (x : PyData) (D : Den), ds = [.str z, x] ∧ Rul d x D ∧ d ≤ 4 ∧ 1 ≤ z.length ∧ z.length ≤ 6 ∧ PoolOk q ∧ ∀ (w : Str) q', PoolOk q' → w.length ≤ lenD d → Φ (.str w) q'
def sp_near : DSpP := fun ds q Φ => ∃ (z w : Str), ds = [.str z, .str w] ∧ 1 ≤ z.length ∧ z.length ≤ 6 ∧ w.length ≤ 30 ∧ PoolOk q ∧ ∀ (y : Str) q', PoolOk q' → y.length ≤ 31 → Φ (.str y) q'
def lenRel (m : Option Nat) : Den := fun w b e => (b ≤ e ∧ e ≤ w.length) ∧ ∀ k, m = some k → e - b ≤ k
def Over (z w : Str) : Prop := ∀ c ∈ w.cps.toList, c ∈ z.cps.toList
def sp_nested : DSpP := fun ds q Φ => ∃ (z : Str), ds = [.str z] ∧ 1 ≤ z.length ∧ z.length ≤ 6 ∧ Az z ∧ PoolOk q ∧ ∀ m x D q', PoolOk q' → Rul 5 x D → (∀ w, Over z w → ∀ b e, D w b e ↔ lenRel m w b e) → Φ (.tuple [hiD m, x]) q'
def sp_deep : DSpP := fun ds q Φ => ∃ (z : Str), ds = [.str z] ∧ 1 ≤ z.length ∧ z.length ≤ 6 ∧ Az z ∧ PoolOk q ∧ ∀ q', PoolOk q' → Φ (.bool true) q'
end DL
namespace DL
open PySem PySem.Spec L2
def sp_piecesU : DSp := fun ds Φ => ∃ d, d ≤ 6 ∧ sp_pieces_of d ds Φ
def sp_isU : DSp := fun ds Φ => ∃ d, d ≤ 6 ∧ sp_is_of d ds Φ
def sp_ruleU : DSpP := fun ds q Φ => ∃ d, d ≤ 4 ∧ sp_rule d ds q Φ
def sp_treeU : DSp := fun ds Φ => ∃ d, d ≤ 4 ∧ sp_tree d ds Φ
def sp_countU : DSp := fun ds Φ => ∃ d, d ≤ 4 ∧ sp_count d ds Φ
def sp_downU : DSpP := fun ds q Φ => ∃ d, d ≤ 4 ∧ sp_down d ds q Φ
end DL
/-! DL: lemmas for lists of numbers, bits, tables -/
namespace DL
open PySem PySem.Spec PyProof.Rows L2
@[simp] theorem flatD_str (s : Str) : flatD (.str s) = true := rfl
@[simp] theorem flatD_int (s : Int) : flatD (.int s) = true := rfl
@[simp] theorem flatD_none : flatD .none = true := rfl
@[simp] theorem atI_cons1 {α : Type} (x y : α) (xs : List α) : atI (x :: y :: xs) 1 = some y := by
  rw [atI_lt (by omega) (by simp; omega)]
  rfl
@[simp] theorem atI_cons2 {α : Type} (x y z : α) (xs : List α) : atI (x :: y :: z :: xs) 2 = some z := by
  rw [atI_lt (by omega) (by simp; omega)]
  rfl
@[simp] theorem atI_cons3 {α : Type} (x y z t : α) (xs : List α) : atI (x :: y :: z :: t :: xs) 3 = some t := by
  rw [atI_lt (by omega) (by simp; omega)]
  rfl
theorem mkI_len (n : Nat) (f : Nat → Nat) : (mkI n f).length = n := by
  unfold mkI
  rw [List.length_map, List.length_range]
theorem mkT_len (n : Nat) (g : Nat → Nat → Nat) : (mkT n g).length = n := by
  unfold mkT
  rw [List.length_map, List.length_range]
theorem mkI_get {n : Nat} {f : Nat → Nat} {i : Nat} (h : i < n) : (mkI n f)[i]? = some (.int (f i : Nat)) := by
  unfold mkI
  rw [List.getElem?_map, List.getElem?_range h]
  rfl
theorem mkT_get {n : Nat} {g : Nat → Nat → Nat} {i : Nat} (h : i < n) : (mkT n g)[i]? = some (.list (mkI n (g i))) := by
  unfold mkT
  rw [List.getElem?_map, List.getElem?_range h]
  rfl
theorem atI_nat {α : Type} {xs : List α} {i : Nat} (h : i < xs.length) : atI xs (i : Int) = xs[i]? := by
  rw [atI_lt (by omega) (by omega)]
  exact (List.getElem?_eq_getElem (by simpa using h)).symm
theorem atI_mkI {n : Nat} {f : Nat → Nat} {i : Nat} (h : i < n) : atI (mkI n f) (i : Int) = some (.int (f i : Nat)) := by
  rw [atI_nat (by rw [mkI_len]; exact h), mkI_get h]
theorem atI_mkT {n : Nat} {g : Nat → Nat → Nat} {i : Nat} (h : i < n) : atI (mkT n g) (i : Int) = some (.list (mkI n (g i))) := by
  rw [atI_nat (by rw [mkT_len]; exact h), mkT_get h]
theorem mkI_congr {n : Nat} {f g : Nat → Nat} (h : ∀ i, i < n → f i = g i) : mkI n f = mkI n g := by
  unfold mkI
  exact List.map_congr_left fun i hi => by rw [h i (List.mem_range.mp hi)]
theorem mkT_congr {n : Nat} {f g : Nat → Nat → Nat} (h : ∀ i j, i < n → j < n → f i j = g i j) : mkT n f = mkT n g := by
  unfold mkT
  exact List.map_congr_left fun i hi => by rw [mkI_congr fun j hj => h i j (List.mem_range.mp hi) hj]
theorem mkI_app (n : Nat) (f : Nat → Nat) : mkI n f ++ [.int (f n : Nat)] = mkI (n + 1) f := by
  unfold mkI
  rw [List.range_succ, List.map_append]
  rfl
/-- a map with one place put anew -/
def setF {α : Type} (r : Nat → α) (i : Nat) (v : α) : Nat → α := fun b => if b = i then v else r b
@[simp] theorem setF_same {α : Type} (r : Nat → α) (i : Nat) (v : α) : setF r i v i = v := if_pos rfl
theorem setF_ne {α : Type} {r : Nat → α} {i b : Nat} {v : α} (h : b ≠ i) : setF r i v b = r b := if_neg h
theorem mkI_snoc (n : Nat) (f : Nat → Nat) (v : Nat) : mkI n f ++ [.int (v : Nat)] = mkI (n + 1) (setF f n v) := by
  rw [← mkI_app, setF_same, mkI_congr fun b (hb : b < n) => setF_ne (r := f) (v := v) (Nat.ne_of_lt hb)]
theorem mkT_snoc (n m : Nat) (f : Nat → Nat → Nat) (v : Nat → Nat) : ((List.range n).map fun b => PyData.list (mkI m (f b))) ++ [.list (mkI m v)] = (List.range (n + 1)).map fun b => PyData.list (mkI m (setF f n v b)) := by
  rw [List.range_succ, List.map_append, List.map_singleton, setF_same]
  congr 1
  exact List.map_congr_left fun i hi => by rw [setF_ne (Nat.ne_of_lt (List.mem_range.mp hi))]
theorem mkI_set {n i : Nat} {f : Nat → Nat} {v : Nat} (h : i < n) : (mkI n f).set i (.int (v : Nat)) = mkI n (setF f i v) := by
  apply List.ext_getElem?
  intro j
  rw [List.getElem?_set]
  by_cases hj : j < n
  · by_cases hij : i = j
    · subst hij
      rw [if_pos rfl, mkI_len, if_pos h, mkI_get hj, setF_same]
    · rw [if_neg hij, mkI_get hj, mkI_get hj, setF_ne (Ne.symm hij)]
  · rw [List.getElem?_eq_none (l := mkI n (setF f i v)) (by rw [mkI_len]; omega), if_neg (by omega), List.getElem?_eq_none (by rw [mkI_len]; omega)]
theorem mkT_set {n i : Nat} {g : Nat → Nat → Nat} {v : Nat → Nat} (h : i < n) : (mkT n g).set i (.list (mkI n v)) = mkT n (setF g i v) := by
  apply List.ext_getElem?
  intro j
  rw [List.getElem?_set]
  by_cases hj : j < n
  · by_cases hij : i = j
    · subst hij
      rw [if_pos rfl, mkT_len, if_pos h, mkT_get hj, setF_same]
    · rw [if_neg hij, mkT_get hj, mkT_get hj, setF_ne (Ne.symm hij)]
  · rw [List.getElem?_eq_none (l := mkT n (setF g i v)) (by rw [mkT_len]; omega), if_neg (by omega), List.getElem?_eq_none (by rw [mkT_len]; omega)]
theorem ixN_nat {n i : Nat} (h : i < n) : ixN n (i : Int) = some i := by
  rw [ixN_lt (by omega) (by omega), Int.toNat_natCast]
/-! loops by the number of the turn -/
theorem loop_ix {wg : DG} {wb : DS} {Φ : EN} (xs : List PyData) (Inv : Nat → S → Prop) {s : S} (h0 : Inv 0 s)
    (hs : ∀ i x s, xs[i]? = some x → Inv i s → ∀ Ψ : EN, (∀ s, Inv (i + 1) s → Ψ.nx s) → (∀ s, Inv (i + 1) s → Ψ.ct s) → Ψ.rt = Φ.rt → Ψ.bk = Φ.nx → Ψ.rl = Φ.rl → wg x s fun s1 => wb Ψ s1)
    (hd : ∀ s, Inv xs.length s → Φ.nx s) : loopW wg wb Φ xs s := by
  refine loop_inv xs (fun pre s => Inv pre.length s) h0 (fun pre x post s e q Ψ h1 h2 h3 h4 h5 => ?_) (fun s q => hd s q)
  exact hs pre.length x s (by rw [e]; simp) q Ψ (fun s z => h1 s (by simpa using z)) (fun s z => h2 s (by simpa using z)) h3 h4 h5
theorem loop_enumI {wg : DG} {wb : DS} {Φ : EN} {n : Nat} {f : Nat → Nat} (Inv : Nat → S → Prop) {s : S} (h0 : Inv 0 s)
    (hs : ∀ i s, i < n → Inv i s → ∀ Ψ : EN, (∀ s, Inv (i + 1) s → Ψ.nx s) → (∀ s, Inv (i + 1) s → Ψ.ct s) → Ψ.rt = Φ.rt → Ψ.bk = Φ.nx → Ψ.rl = Φ.rl → wg (.tuple [.int (i : Nat), .int (f i : Nat)]) s fun s1 => wb Ψ s1)
    (hd : ∀ s, Inv n s → Φ.nx s) : loopW wg wb Φ (enumD (mkI n f)) s := by
  refine loop_ix (enumD (mkI n f)) Inv h0 (fun i x s hx q Ψ h1 h2 h3 h4 h5 => ?_) (fun s q => hd s (by rw [enumD_len, mkI_len] at q; exact q))
  obtain ⟨y, hy, rfl⟩ := enumD_get hx
  have hi : i < n := by rw [← mkI_len n f]; exact (List.getElem?_eq_some_iff.mp hy).1
  rw [mkI_get hi] at hy
  cases hy
  exact hs i s hi q Ψ h1 h2 h3 h4 h5
/-- range(n - 1, -1, -1): from the last one down -/
theorem rangeC_get {lo c : Int} {n i : Nat} {x : PyData} (h : (rangeC lo c n)[i]? = some x) : i < n ∧ x = .int (lo + (i : Int) * c) := by
  have hi : i < n := by rw [← rangeC_len lo c n]; exact (List.getElem?_eq_some_iff.mp h).1
  unfold rangeC at h
  rw [List.getElem?_map, List.getElem?_range hi] at h
  cases h
  exact ⟨hi, rfl⟩
/-! comprehensions that map, by the number of the turn -/
theorem lc_ix {vs : List Nat} {e0 : List Sl} {wg : DG} {we : DE} {Φ : List PyData → List Int → Prop} (xs : List PyData) (F : Nat → PyData) {q : List Int} (hl : xs.length ≤ 16777216)
    (hs : ∀ i x, xs[i]? = some x → ∀ Θ : S → PyData → S → Prop, (∀ s1 s3, s3.e = s1.e → s3.q = q → Θ s1 (F i) s3) → wg x ⟨wipeE e0 vs, q⟩ fun s1 => wipeE s1.e vs = wipeE e0 vs ∧ we s1 (Θ s1))
    (hd : Φ ((List.range xs.length).map F) q) : lcW vs e0 wg wYes we Φ xs [] q := by
  refine lc_inv xs (fun pre acc q' => acc = (List.range pre.length).map F ∧ q' = q) ⟨rfl, rfl⟩ (fun pre x post acc q' e h Ψ k => ?_) (fun acc q' h => by rw [h.1, h.2]; exact hd)
  obtain ⟨rfl, rfl⟩ := h
  have hlen : ((List.range pre.length).map F).length < sizeLine := sz_lt (by
    rw [e] at hl
    simp at hl ⊢
    omega)
  have r := hs pre.length x (by rw [e]; simp) (fun s1 y s3 => s3.e = s1.e ∧ ((List.range pre.length).map F).length < sizeLine ∧ Ψ ((List.range pre.length).map F ++ [y]) s3.q)
    (fun s1 s3 h1 h2 => ⟨h1, hlen, k _ _ ⟨by rw [List.length_append, List.length_singleton, List.range_succ, List.map_append]; rfl, h2⟩⟩)
  simp only [wYes, true_and, if_true]
  exact r
theorem lc_rng {vs : List Nat} {e0 : List Sl} {wg : DG} {we : DE} {Φ : List PyData → List Int → Prop} {lo : Int} {n : Nat} (F : Nat → PyData) {q : List Int} (hl : n ≤ 16777216)
    (hs : ∀ i, i < n → ∀ Θ : S → PyData → S → Prop, (∀ s1 s3, s3.e = s1.e → s3.q = q → Θ s1 (F i) s3) → wg (.int (lo + (i : Int))) ⟨wipeE e0 vs, q⟩ fun s1 => wipeE s1.e vs = wipeE e0 vs ∧ we s1 (Θ s1))
    (hd : Φ ((List.range n).map F) q) : lcW vs e0 wg wYes we Φ (rangeD lo n) [] q := by
  refine lc_ix (rangeD lo n) F (by rw [rangeD_len]; exact hl) (fun i x hx Θ k => ?_) (by rw [rangeD_len]; exact hd)
  obtain ⟨hi, rfl⟩ := rangeD_get hx
  exact hs i hi Θ k
theorem lc_enumI {vs : List Nat} {e0 : List Sl} {wg : DG} {we : DE} {Φ : List PyData → List Int → Prop} {n : Nat} {f : Nat → Nat} (F : Nat → PyData) {q : List Int} (hl : n ≤ 16777216)
    (hs : ∀ i, i < n → ∀ Θ : S → PyData → S → Prop, (∀ s1 s3, s3.e = s1.e → s3.q = q → Θ s1 (F i) s3) → wg (.tuple [.int (i : Nat), .int (f i : Nat)]) ⟨wipeE e0 vs, q⟩ fun s1 => wipeE s1.e vs = wipeE e0 vs ∧ we s1 (Θ s1))
    (hd : Φ ((List.range n).map F) q) : lcW vs e0 wg wYes we Φ (enumD (mkI n f)) [] q := by
  refine lc_ix (enumD (mkI n f)) F (by rw [enumD_len, mkI_len]; exact hl) (fun i x hx Θ k => ?_) (by rw [enumD_len, mkI_len]; exact hd)
  obtain ⟨y, hy, rfl⟩ := enumD_get hx
  have hi : i < n := by rw [← mkI_len n f]; exact (List.getElem?_eq_some_iff.mp hy).1
  rw [mkI_get hi] at hy
  cases hy
  exact hs i hi Θ k
theorem lc_zipI {vs : List Nat} {e0 : List Sl} {wg : DG} {we : DE} {Φ : List PyData → List Int → Prop} {n : Nat} {f g : Nat → Nat} (F : Nat → PyData) {q : List Int} (hl : n ≤ 16777216)
    (hs : ∀ i, i < n → ∀ Θ : S → PyData → S → Prop, (∀ s1 s3, s3.e = s1.e → s3.q = q → Θ s1 (F i) s3) → wg (.tuple [.int (f i : Nat), .int (g i : Nat)]) ⟨wipeE e0 vs, q⟩ fun s1 => wipeE s1.e vs = wipeE e0 vs ∧ we s1 (Θ s1))
    (hd : Φ ((List.range n).map F) q) : lcW vs e0 wg wYes we Φ (zipD (mkI n f) (mkI n g)) [] q := by
  have hl2 : (zipD (mkI n f) (mkI n g)).length = n := by
    unfold zipD
    rw [List.length_map, List.length_zip, mkI_len, mkI_len, Nat.min_self]
  refine lc_ix (zipD (mkI n f) (mkI n g)) F (by rw [hl2]; exact hl) (fun i x hx Θ k => ?_) (by rw [hl2]; exact hd)
  have hi : i < n := by rw [← hl2]; exact (List.getElem?_eq_some_iff.mp hx).1
  obtain ⟨y, z, hy, hz, rfl⟩ := zipD_get hx
  rw [mkI_get hi] at hy hz
  cases hy
  cases hz
  exact hs i hi Θ k
/-! bits -/
theorem bitNot_eq (x : Int) : Builtin.bitNot x = -x - 1 := by
  unfold Builtin.bitNot
  omega
theorem band_nat (a b : Nat) : Builtin.bitAnd (a : Int) (b : Int) = ((a &&& b : Nat) : Int) := by simp [Builtin.bitAnd]
theorem bor_nat (a b : Nat) : Builtin.bitOr (a : Int) (b : Int) = ((a ||| b : Nat) : Int) := by
  have h1 : decide ((0 : Int) ≤ -(a : Int) - 1) = false := by simp; omega
  have h2 : decide ((0 : Int) ≤ -(b : Int) - 1) = false := by simp; omega
  have e1 : (-(-(a : Int) - 1) - 1).toNat = a := by omega
  have e2 : (-(-(b : Int) - 1) - 1).toNat = b := by omega
  unfold Builtin.bitOr Builtin.bitAnd
  simp only [bitNot_eq, h1, h2, e1, e2]
  omega
theorem bxor_nat (a b : Nat) : Builtin.bitXor (a : Int) (b : Int) = ((a ^^^ b : Nat) : Int) := by
  have e1 : ((a ^^^ b) ||| (a &&& b)) = (a ||| b) := Nat.eq_of_testBit_eq fun i => by
    simp only [Nat.testBit_or, Nat.testBit_xor, Nat.testBit_and]
    cases a.testBit i <;> cases b.testBit i <;> rfl
  have e2 : ((a ^^^ b) &&& (a &&& b)) = 0 := Nat.eq_of_testBit_eq fun i => by
    simp only [Nat.testBit_and, Nat.testBit_xor, Nat.zero_testBit]
    cases a.testBit i <;> cases b.testBit i <;> rfl
  have e3 := nat_or_add_and (a ^^^ b) (a &&& b)
  rw [e1, e2] at e3
  unfold Builtin.bitXor
  rw [bor_nat, band_nat]
  omega
theorem shr_nat (a k : Nat) : (a : Int) / 2 ^ k = ((a >>> k : Nat) : Int) := by
  rw [Nat.shiftRight_eq_div_pow]
  simp
theorem shl_nat (a k : Nat) : (a : Int) * 2 ^ k = ((a <<< k : Nat) : Int) := by
  rw [Nat.shiftLeft_eq]
  simp
theorem shr_one (a k : Nat) : Builtin.bitAnd ((a : Int) / 2 ^ k) 1 = if a.testBit k then 1 else 0 := by
  rw [shr_nat, show (1 : Int) = ((1 : Nat) : Int) from rfl, band_nat, Nat.and_one_is_mod, Nat.testBit_eq_decide_div_mod_eq, Nat.shiftRight_eq_div_pow]
  have := Nat.mod_two_eq_zero_or_one (a / 2 ^ k)
  by_cases h : a / 2 ^ k % 2 = 1
  · simp [h]
  · have h0 : a / 2 ^ k % 2 = 0 := by omega
    simp [h0]
/-! the kinds of rules differ -/
@[simp] theorem kd_none_empty : ¬ Str.ofString "none" = Str.ofString "empty" := by decide +kernel
@[simp] theorem kd_none_one : ¬ Str.ofString "none" = Str.ofString "one" := by decide +kernel
@[simp] theorem kd_none_row : ¬ Str.ofString "none" = Str.ofString "row" := by decide +kernel
@[simp] theorem kd_none_either : ¬ Str.ofString "none" = Str.ofString "either" := by decide +kernel
@[simp] theorem kd_none_both : ¬ Str.ofString "none" = Str.ofString "both" := by decide +kernel
@[simp] theorem kd_none_not : ¬ Str.ofString "none" = Str.ofString "not" := by decide +kernel
@[simp] theorem kd_none_times : ¬ Str.ofString "none" = Str.ofString "times" := by decide +kernel
@[simp] theorem kd_empty_none : ¬ Str.ofString "empty" = Str.ofString "none" := by decide +kernel
@[simp] theorem kd_empty_one : ¬ Str.ofString "empty" = Str.ofString "one" := by decide +kernel
@[simp] theorem kd_empty_row : ¬ Str.ofString "empty" = Str.ofString "row" := by decide +kernel
@[simp] theorem kd_empty_either : ¬ Str.ofString "empty" = Str.ofString "either" := by decide +kernel
@[simp] theorem kd_empty_both : ¬ Str.ofString "empty" = Str.ofString "both" := by decide +kernel
@[simp] theorem kd_empty_not : ¬ Str.ofString "empty" = Str.ofString "not" := by decide +kernel
@[simp] theorem kd_empty_times : ¬ Str.ofString "empty" = Str.ofString "times" := by decide +kernel
@[simp] theorem kd_one_none : ¬ Str.ofString "one" = Str.ofString "none" := by decide +kernel
@[simp] theorem kd_one_empty : ¬ Str.ofString "one" = Str.ofString "empty" := by decide +kernel
@[simp] theorem kd_one_row : ¬ Str.ofString "one" = Str.ofString "row" := by decide +kernel
@[simp] theorem kd_one_either : ¬ Str.ofString "one" = Str.ofString "either" := by decide +kernel
@[simp] theorem kd_one_both : ¬ Str.ofString "one" = Str.ofString "both" := by decide +kernel
@[simp] theorem kd_one_not : ¬ Str.ofString "one" = Str.ofString "not" := by decide +kernel
@[simp] theorem kd_one_times : ¬ Str.ofString "one" = Str.ofString "times" := by decide +kernel
@[simp] theorem kd_row_none : ¬ Str.ofString "row" = Str.ofString "none" := by decide +kernel
@[simp] theorem kd_row_empty : ¬ Str.ofString "row" = Str.ofString "empty" := by decide +kernel
@[simp] theorem kd_row_one : ¬ Str.ofString "row" = Str.ofString "one" := by decide +kernel
@[simp] theorem kd_row_either : ¬ Str.ofString "row" = Str.ofString "either" := by decide +kernel
@[simp] theorem kd_row_both : ¬ Str.ofString "row" = Str.ofString "both" := by decide +kernel
@[simp] theorem kd_row_not : ¬ Str.ofString "row" = Str.ofString "not" := by decide +kernel
@[simp] theorem kd_row_times : ¬ Str.ofString "row" = Str.ofString "times" := by decide +kernel
@[simp] theorem kd_either_none : ¬ Str.ofString "either" = Str.ofString "none" := by decide +kernel
@[simp] theorem kd_either_empty : ¬ Str.ofString "either" = Str.ofString "empty" := by decide +kernel
@[simp] theorem kd_either_one : ¬ Str.ofString "either" = Str.ofString "one" := by decide +kernel
@[simp] theorem kd_either_row : ¬ Str.ofString "either" = Str.ofString "row" := by decide +kernel
@[simp] theorem kd_either_both : ¬ Str.ofString "either" = Str.ofString "both" := by decide +kernel
@[simp] theorem kd_either_not : ¬ Str.ofString "either" = Str.ofString "not" := by decide +kernel
@[simp] theorem kd_either_times : ¬ Str.ofString "either" = Str.ofString "times" := by decide +kernel
@[simp] theorem kd_both_none : ¬ Str.ofString "both" = Str.ofString "none" := by decide +kernel
@[simp] theorem kd_both_empty : ¬ Str.ofString "both" = Str.ofString "empty" := by decide +kernel
@[simp] theorem kd_both_one : ¬ Str.ofString "both" = Str.ofString "one" := by decide +kernel
@[simp] theorem kd_both_row : ¬ Str.ofString "both" = Str.ofString "row" := by decide +kernel
@[simp] theorem kd_both_either : ¬ Str.ofString "both" = Str.ofString "either" := by decide +kernel
@[simp] theorem kd_both_not : ¬ Str.ofString "both" = Str.ofString "not" := by decide +kernel
@[simp] theorem kd_both_times : ¬ Str.ofString "both" = Str.ofString "times" := by decide +kernel
@[simp] theorem kd_not_none : ¬ Str.ofString "not" = Str.ofString "none" := by decide +kernel
@[simp] theorem kd_not_empty : ¬ Str.ofString "not" = Str.ofString "empty" := by decide +kernel
@[simp] theorem kd_not_one : ¬ Str.ofString "not" = Str.ofString "one" := by decide +kernel
@[simp] theorem kd_not_row : ¬ Str.ofString "not" = Str.ofString "row" := by decide +kernel
@[simp] theorem kd_not_either : ¬ Str.ofString "not" = Str.ofString "either" := by decide +kernel
@[simp] theorem kd_not_both : ¬ Str.ofString "not" = Str.ofString "both" := by decide +kernel
@[simp] theorem kd_not_times : ¬ Str.ofString "not" = Str.ofString "times" := by decide +kernel
@[simp] theorem kd_times_none : ¬ Str.ofString "times" = Str.ofString "none" := by decide +kernel
@[simp] theorem kd_times_empty : ¬ Str.ofString "times" = Str.ofString "empty" := by decide +kernel
@[simp] theorem kd_times_one : ¬ Str.ofString "times" = Str.ofString "one" := by decide +kernel
@[simp] theorem kd_times_row : ¬ Str.ofString "times" = Str.ofString "row" := by decide +kernel
@[simp] theorem kd_times_either : ¬ Str.ofString "times" = Str.ofString "either" := by decide +kernel
@[simp] theorem kd_times_both : ¬ Str.ofString "times" = Str.ofString "both" := by decide +kernel
@[simp] theorem kd_times_not : ¬ Str.ofString "times" = Str.ofString "not" := by decide +kernel
/-! relations -/
theorem tidy_rid (n : Nat) : Tidy n (rid n) := fun b e h => ⟨Nat.le_of_eq h.1, h.2⟩
theorem tidy_rno (n : Nat) : Tidy n rno := fun b e h => h.elim
theorem tidy_rup (n : Nat) : Tidy n (rup n) := fun b e h => h
theorem tidy_comp {n : Nat} {P Q : Rel} (h1 : Tidy n P) (h2 : Tidy n Q) : Tidy n (rcomp P Q) := fun b e ⟨m, x, y⟩ => ⟨Nat.le_trans (h1 _ _ x).1 (h2 _ _ y).1, (h2 _ _ y).2⟩
theorem tidy_or {n : Nat} {P Q : Rel} (h1 : Tidy n P) (h2 : Tidy n Q) : Tidy n (ror P Q) := fun b e h => h.elim (h1 b e) (h2 b e)
theorem tidy_and {n : Nat} {P Q : Rel} (h1 : Tidy n P) : Tidy n (rand P Q) := fun b e h => h1 b e h.1
theorem tidy_not {n : Nat} {P : Rel} : Tidy n (rnot n P) := fun b e h => h.1
theorem tidy_row {n : Nat} : ∀ {Ps : List Rel}, (∀ P, P ∈ Ps → Tidy n P) → Tidy n (rrow n Ps)
  | [], _ => tidy_rid n
  | P :: Ps, h => tidy_comp (h P List.mem_cons_self) (tidy_row fun Q hq => h Q (List.mem_cons_of_mem _ hq))
theorem tidy_any {n : Nat} : ∀ {Ps : List Rel}, (∀ P, P ∈ Ps → Tidy n P) → Tidy n (rany Ps)
  | [], _ => tidy_rno n
  | P :: Ps, h => tidy_or (h P List.mem_cons_self) (tidy_any fun Q hq => h Q (List.mem_cons_of_mem _ hq))
theorem tidy_all {n : Nat} : ∀ {Ps : List Rel}, (∀ P, P ∈ Ps → Tidy n P) → Tidy n (rall n Ps)
  | [], _ => tidy_rup n
  | P :: Ps, h => tidy_and (h P List.mem_cons_self)
theorem tidy_pow {n : Nat} {P Q : Rel} (h1 : Tidy n P) (h2 : Tidy n Q) : ∀ k, Tidy n (rpow P Q k)
  | 0 => h2
  | k + 1 => tidy_comp h1 (tidy_pow h1 h2 k)
theorem tidy_star {n : Nat} {P : Rel} (h : Tidy n P) : Tidy n (Rstar n P) := fun b e r => by
  induction r with
  | refl h0 => exact ⟨Nat.le_refl _, h0⟩
  | step h1 h2 h3 ih => exact ⟨by omega, ih.2⟩
theorem tidy_times {n : Nat} {P : Rel} (h : Tidy n P) (lo : Nat) (hi : Option Nat) : Tidy n (rtimes n P lo hi) := by
  cases hi with
  | none => exact tidy_pow h (tidy_star h) lo
  | some k => exact tidy_pow h (tidy_pow (tidy_or h (tidy_rid n)) (tidy_rid n) _) lo
theorem rel_ext {P Q : Rel} (h : ∀ b e, P b e ↔ Q b e) : P = Q := funext fun b => funext fun e => propext (h b e)
theorem comp_assoc (P Q R : Rel) : rcomp (rcomp P Q) R = rcomp P (rcomp Q R) := rel_ext fun b e =>
  ⟨fun ⟨m, ⟨k, h1, h2⟩, h3⟩ => ⟨k, h1, m, h2, h3⟩, fun ⟨k, h1, m, h2, h3⟩ => ⟨m, ⟨k, h1, h2⟩, h3⟩⟩
theorem id_comp {n : Nat} {P : Rel} (h : Tidy n P) : rcomp (rid n) P = P := rel_ext fun b e =>
  ⟨fun ⟨m, ⟨h1, h2⟩, h3⟩ => by rw [h1]; exact h3, fun h3 => ⟨b, ⟨rfl, by have := h _ _ h3; omega⟩, h3⟩⟩
theorem comp_id {n : Nat} {P : Rel} (h : Tidy n P) : rcomp P (rid n) = P := rel_ext fun b e =>
  ⟨fun ⟨m, h1, ⟨h2, h3⟩⟩ => by rw [← h2]; exact h1, fun h3 => ⟨e, h3, ⟨rfl, (h _ _ h3).2⟩⟩⟩
/-- a row folded from the left -/
theorem foldl_comp {n : Nat} : ∀ (Ps : List Rel) (P : Rel), Tidy n P → (∀ Q, Q ∈ Ps → Tidy n Q) → Ps.foldl rcomp P = rcomp P (rrow n Ps)
  | [], P, h, _ => (comp_id h).symm
  | Q :: Ps, P, h, hq => by
    rw [List.foldl_cons, foldl_comp Ps _ (tidy_comp h (hq Q List.mem_cons_self)) fun R hr => hq R (List.mem_cons_of_mem _ hr), comp_assoc]
    rfl
theorem row_rep {n : Nat} (P Q : Rel) (hq : Tidy n Q) : ∀ k, rcomp (rrow n (List.replicate k P)) Q = rpow P Q k
  | 0 => id_comp hq
  | k + 1 => by
    show rcomp (rcomp P _) Q = rcomp P _
    rw [comp_assoc, row_rep P Q hq k]
/-- all of a rule's words lie tidy -/
theorem tidy_leaf {x : PyData} {D : Den} (h : Leaf x D) (w : Str) : Tidy w.length (D w) := by
  cases h with
  | no => exact tidy_rno _
  | em => exact tidy_rid _
  | one h1 h2 h3 =>
    rintro b e ⟨rfl, c, h4, _⟩
    have := (List.getElem?_eq_some_iff.mp h4).1
    refine ⟨by omega, ?_⟩
    rw [Array.length_toList] at this
    exact this
theorem all2_mem {α β : Type} {R : α → β → Prop} {xs : List α} {ys : List β} (h : All2 R xs ys) : ∀ y, y ∈ ys → ∃ x, x ∈ xs ∧ R x y := by
  induction h with
  | nil => intro y hy; cases hy
  | cons a b ih =>
    intro y hy
    rcases List.mem_cons.mp hy with rfl | hy
    · exact ⟨_, List.mem_cons_self, a⟩
    · obtain ⟨x, hx, r⟩ := ih y hy
      exact ⟨x, List.mem_cons_of_mem _ hx, r⟩
theorem all2_len {α β : Type} {R : α → β → Prop} {xs : List α} {ys : List β} (h : All2 R xs ys) : xs.length = ys.length := by
  induction h with
  | nil => rfl
  | cons a b ih => rw [List.length_cons, List.length_cons, ih]
theorem tidy_rul : ∀ (d : Nat) {x : PyData} {D : Den}, Rul d x D → ∀ w : Str, Tidy w.length (D w)
  | 0, x, D, h, w => tidy_leaf h w
  | d + 1, x, D, h, w => by
    have step : ∀ {xs : List PyData} {Ds : List Den}, All2 (Rul d) xs Ds → ∀ P, P ∈ Ds.map (· w) → Tidy w.length P := fun h P hP => by
      obtain ⟨E, hE, rfl⟩ := List.mem_map.mp hP
      obtain ⟨x, _, hx⟩ := all2_mem h E hE
      exact tidy_rul d hx w
    cases h with
    | leaf h => exact tidy_leaf h w
    | row h1 h2 h3 => exact tidy_row (step h3)
    | ei h1 h2 h3 => exact tidy_any (step h3)
    | bo h1 h2 h3 => exact tidy_all (step h3)
    | no h => exact tidy_not
    | ti h h1 h2 => exact tidy_times (tidy_rul d h w) _ _
end DL
/-! DL: tables of one's own: lists of lists that are changed in place. -/
namespace DL
open PySem PySem.Spec PyProof.Rows L2
section
variable {K : PySem.W.Frag} {G G2 G3 F F' H H' : Hp} {P : Option Addr} {σ : L2.St} {s : S}
inductive RowsG (K : PySem.W.Frag) (G G2 F : Hp) : List Addr → List (List PyData) → Prop
  | nil : RowsG K G G2 F [] []
  | cons {q : Addr} {vs : List V} {xs : List PyData} {qs : List Addr} {xss : List (List PyData)} : G2 q = some (.lst vs) → G q = none → DqA K F vs xs → q ∉ qs → RowsG K G G2 F qs xss → RowsG K G G2 F (q :: qs) (xs :: xss)
theorem RowsG.up (e : Same G2 G3) (f : Same F F') : ∀ {qs : List Addr} {xss : List (List PyData)}, RowsG K G G2 F qs xss → RowsG K G G3 F' qs xss
  | [], _, h => by cases h; exact .nil
  | q :: qs, _, h => by
    cases h with
    | cons h1 h2 h3 h4 h5 => exact .cons (e _ _ h1) h2 (h3.mono f) h4 (RowsG.up e f h5)
theorem RowsG.has : ∀ {qs : List Addr} {xss : List (List PyData)}, RowsG K G G2 F qs xss → ∀ r, r ∈ qs → ∃ o, G2 r = some o
  | [], _, h, r, hr => by cases hr
  | q :: qs, _, h, r, hr => by
    cases h with
    | cons h1 h2 h3 h4 h5 =>
      rcases List.mem_cons.mp hr with rfl | hr
      · exact ⟨_, h1⟩
      · exact RowsG.has h5 r hr
theorem RowsG.snoc {p : Addr} {us : List V} {ys : List PyData} (hp : G2 p = some (.lst us)) (gp : G p = none) (d : DqA K F us ys) : ∀ {qs : List Addr} {xss : List (List PyData)}, RowsG K G G2 F qs xss → p ∉ qs → RowsG K G G2 F (qs ++ [p]) (xss ++ [ys])
  | [], _, h, n => by
    cases h
    exact .cons hp gp d (by intro z; cases z) .nil
  | q :: qs, _, h, n => by
    cases h with
    | cons h1 h2 h3 h4 h5 =>
      refine .cons h1 h2 h3 (fun z => ?_) (RowsG.snoc hp gp d h5 fun z => n (List.mem_cons_of_mem _ z))
      rcases List.mem_append.mp z with z | z
      · exact h4 z
      · rw [List.mem_singleton.mp z] at n
        exact n List.mem_cons_self
theorem RowsG.nodup : ∀ {qs : List Addr} {xss : List (List PyData)}, RowsG K G G2 F qs xss → qs.Nodup
  | [], _, h => List.nodup_nil
  | q :: qs, _, h => by
    cases h with
    | cons h1 h2 h3 h4 h5 => exact List.nodup_cons.mpr ⟨h4, RowsG.nodup h5⟩
theorem RowsG.ok (R : Rep K G2 P F H σ s) : ∀ {qs : List Addr} {xss : List (List PyData)}, RowsG K G G2 F qs xss → RowsOk K G P F H qs xss
  | [], _, h => by cases h; exact .nil
  | q :: qs, _, h => by
    cases h with
    | cons h1 h2 h3 h4 h5 =>
      refine .cons (R.apart _ _ h1) h2 (fun z => ?_) (R.keep _ _ h1) h3 (RowsG.ok R h5)
      rw [(R.pool q z).2.1] at h1
      cases h1
theorem Rep.weakG (R : Rep K G2 P F H σ s) (e : Same G G2) : Rep K G P F H σ s where
  same := R.same
  keep := e.trans R.keep
  apart := fun b o g => R.apart b o (e b o g)
  sl := fun i x hx => by
    have q := R.sl i x hx
    cases x with
    | un => exact True.intro
    | d x => exact q
    | o xs =>
      obtain ⟨p, vs, h1, h2, h3, h4, h5, h6⟩ := q
      exact ⟨p, vs, h1, h2, e.free h3, h4, h5, h6⟩
    | pl => exact q
    | sc ns => exact q
    | tb p qs xss => exact q.tbUp rfl (Same.refl F) fun r o hr g1 g2 g3 g4 => ⟨g1, e.free g2, g3, g4⟩
  sep := R.sep
  pool := fun a ha => by
    obtain ⟨h1, h2, h3⟩ := R.pool a ha
    exact ⟨h1, e.free h2, h3⟩
  len := R.len
  tbs := R.tbs
theorem Rep.addG {p : Addr} {o : HO} (R : Rep K G P F H σ s) (h : H p = some o) (fp : F p = none) (np : P ≠ some p) (hsl : ∀ (i : Nat) (xs : List PyData), s.e[i]? = some (.o xs) → σ[i]? ≠ some (some (.ref p))) (htb : ∀ (i : Nat) (x : Sl), s.e[i]? = some x → p ∉ tads x) :
    Rep K (upd G p o) P F H σ s where
  same := R.same
  keep := fun b u q => by
    by_cases hb : b = p
    · rw [hb, upd_same] at q
      cases q
      rw [hb]
      exact h
    · rw [upd_ne hb] at q
      exact R.keep b u q
  apart := fun b u q => by
    by_cases hb : b = p
    · rw [hb]
      exact fp
    · rw [upd_ne hb] at q
      exact R.apart b u q
  sl := fun i x hx => by
    have q := R.sl i x hx
    cases x with
    | un => exact True.intro
    | d x => exact q
    | o xs =>
      obtain ⟨p', vs, h1, h2, h3, h4, h5, h6⟩ := q
      exact ⟨p', vs, h1, h2, by rw [upd_ne (fun z => hsl i xs hx (by rw [← z]; exact h1))]; exact h3, h4, h5, h6⟩
    | pl => exact q
    | sc ns => exact q
    | tb p' qs xss => exact q.tbUp rfl (Same.refl F) fun r o hr g1 g2 g3 g4 => ⟨g1, by rw [upd_ne (fun z => htb i _ hx (by rw [← z]; exact hr))]; exact g2, g3, g4⟩
  sep := R.sep
  pool := fun a ha => by
    obtain ⟨h1, h2, h3⟩ := R.pool a ha
    exact ⟨h1, by rw [upd_ne (fun z => np (by rw [← z]; exact ha))]; exact h2, h3⟩
  len := R.len
  tbs := R.tbs
/-- a new table stored -/
theorem Rep.setT {i : Nat} {p : Addr} {qs : List Addr} {xss : List (List PyData)} (R : Rep K G P F H σ s) (n : ∀ r, r ∈ p :: qs → Nu G P F σ s r) (h : H p = some (.lst (qs.map V.ref))) (nd : (p :: qs).Nodup) (d : RowsOk K G P F H qs xss) :
    Rep K G P F H (σ.set i (some (.ref p))) (s.put i (.tb p qs xss)) := by
  refine ⟨R.same, R.keep, R.apart, fun j y hy => ?_, fun j k ys zs r hj hk e1 e2 => ?_, R.pool, put_len R.len, fun j k y z r hj hk hr jk oc => ?_⟩
  · have hy0 := hy
    rcases set_get hy with ⟨rfl, rfl⟩ | ⟨ne, hy⟩
    · have n0 := n p List.mem_cons_self
      exact ⟨set_self (by rw [R.len]; exact put_lt hy0), n0.f, n0.g, n0.np, h, nd, d⟩
    · have q := R.sl j y hy
      cases y with
      | un => exact True.intro
      | d y =>
        obtain ⟨u, a, b⟩ := q
        exact ⟨u, by rw [List.getElem?_set_ne (Ne.symm ne)]; exact a, b⟩
      | o ys =>
        obtain ⟨p', vs', g1, g2⟩ := q
        exact ⟨p', vs', by rw [List.getElem?_set_ne (Ne.symm ne)]; exact g1, g2⟩
      | pl =>
        obtain ⟨a, h1, h2⟩ := q
        exact ⟨a, h1, by rw [List.getElem?_set_ne (Ne.symm ne)]; exact h2⟩
      | sc ns =>
        obtain ⟨a, h1, h2⟩ := q
        exact ⟨a, by rw [List.getElem?_set_ne (Ne.symm ne)]; exact h1, h2⟩
      | tb p' qs' xss' => exact q.tbUp (List.getElem?_set_ne (Ne.symm ne)) (Same.refl F) fun r o hr g1 g2 g3 g4 => ⟨g1, g2, g3, g4⟩
  · rcases set_get hj with ⟨_, z⟩ | ⟨nj, hj⟩
    · cases z
    · rcases set_get hk with ⟨_, z⟩ | ⟨nk, hk⟩
      · cases z
      · rw [List.getElem?_set_ne (Ne.symm nj)] at e1
        rw [List.getElem?_set_ne (Ne.symm nk)] at e2
        exact R.sep j k ys zs r hj hk e1 e2
  · have occ_off : ∀ {m : Nat} {w : Sl}, m ≠ i → Occ (σ.set i (some (.ref p))) m w r → Occ σ m w r := fun nm q => by
      rcases q with q | ⟨q, q2⟩
      · exact .inl q
      · rw [List.getElem?_set_ne (Ne.symm nm)] at q2
        exact .inr ⟨q, q2⟩
    have none_occ : ∀ {m : Nat} {w : Sl}, s.e[m]? = some w → r ∈ p :: qs → ¬ Occ σ m w r := fun hm hr q => by
      rcases q with q | ⟨⟨ws, rfl⟩, q2⟩
      · exact (n r hr).tb _ _ hm q
      · exact (n r hr).sl _ _ hm q2
    rcases set_get hj with ⟨e1, e2⟩ | ⟨nj, hj⟩
    · rw [e2] at hr
      rcases set_get hk with ⟨e3, e4⟩ | ⟨nk, hk⟩
      · exact jk (e1.trans e3.symm)
      · exact none_occ hk hr (occ_off nk oc)
    · rcases set_get hk with ⟨e3, e4⟩ | ⟨nk, hk⟩
      · rcases oc with q | ⟨⟨_, q⟩, _⟩
        · rw [e4] at q
          exact (n r q).tb j y hj hr
        · rw [e4] at q
          cases q
      · exact R.tbs j k y z r hj hk hr jk (occ_off nk oc)
/-- a comprehension that makes lists -/
theorem lcT_of {vs is : List Nat} {wi : DI} {wg : DG} {wt : DT} {wl : DA} (hsub : ∀ i ∈ is, i ∈ vs) (σ : L2.St) (H : Hp) (Q : VK) (h : ∃ G P F s Φ, Rep K G P F H σ s ∧ wLc vs wi wg wt (wFz wl) s Φ ∧
      ∀ p qs xss F' H' s', Rep K G P F' H' σ s' → Same F F' → (∀ r, r ∈ p :: qs → Nu G P F' σ s' r) → H' p = some (.lst (qs.map V.ref)) → (p :: qs).Nodup → RowsOk K G P F' H' qs xss → Φ (xss.map .list) s' → Q (.ref p) H') :
    tLc (tI K wi) (tG K is wg) (tT K wt) (tL K wl) vs σ H Q := by
  obtain ⟨G, P, F, s, Φ, R, h, k⟩ := h
  refine ⟨G, P, F, s, _, R, h, fun J F1 H1 s1 xs R1 e1 Y q D hD => ?_⟩
  obtain ⟨hno, q⟩ := q
  obtain ⟨R1', n1⟩ := nu_new (o := .lst []) R1 hD
  refine ⟨fun i m H2 => m = xs.length - i ∧ i ≤ xs.length ∧ ∃ F2 G2 qs xss q2, Same F1 F2 ∧ Same G G2 ∧ H2 D = some (.lst (qs.map V.ref)) ∧ RowsG K G G2 F2 qs xss ∧ Rep K G2 P F2 H2 σ ⟨s1.e, q2⟩ ∧ Nu G2 P F2 σ ⟨s1.e, q2⟩ D ∧ qs.length = xss.length ∧
    lcW vs s1.e wg wt (wFz wl) (fun ys q => Φ ys ⟨s1.e, q⟩) (xs.drop i) (xss.map .list) q2, ⟨_, rfl, Nat.zero_le _, F1, G, [], [], s1.q, Same.refl F1, Same.refl G, upd_same, .nil, R1', n1, rfl, by simpa using q⟩, ?_⟩
  rintro i m H2 ⟨rfl, hi, F2, G2, qs, xss, q2, e2, eG, hD2, rows, R2, n2, hlen, w2⟩
  by_cases hl : i < xs.length
  · obtain ⟨go, yl⟩ := (Y F2 H2 e2 R2.same i).1 xs[i] (List.getElem?_eq_getElem hl)
    rw [List.drop_eq_getElem_cons hl] at w2
    refine .inr ⟨go, fun H3 => ∃ F2 G2 qs xss q2, Same F1 F2 ∧ Same G G2 ∧ H3 D = some (.lst (qs.map V.ref)) ∧ RowsG K G G2 F2 qs xss ∧ Rep K G2 P F2 H3 σ ⟨s1.e, q2⟩ ∧ Nu G2 P F2 σ ⟨s1.e, q2⟩ D ∧ qs.length = xss.length ∧
      lcW vs s1.e wg wt (wFz wl) (fun ys q => Φ ys ⟨s1.e, q⟩) (xs.drop (i + 1)) (xss.map .list) q2, fun H3 z => ⟨xs.length - (i + 1), by omega, rfl, hl, z⟩, fun v H3 hy => ?_⟩
    obtain ⟨F3, f, dx⟩ := yl v H3 hy
    have RB : Rep K (upd G2 D (.lst (qs.map V.ref))) P F3 H3 (wipe σ vs) ⟨wipeE s1.e vs, q2⟩ := (R2.block (vs := vs) n2 hD2).fresh f
    refine ⟨_, P, F3, _, xs[i], _, RB, dx, w2, fun σ4 s4 R4 ag l4 q4 => ?_⟩
    obtain ⟨we4, q4⟩ := q4
    have ag' : ∀ i, i ∉ vs → σ4[i]? = σ[i]? := fun j hj => by
      rw [ag j (fun z => hj (hsub j z)), wipe_off hj]
    refine ⟨wipe_same (by rw [l4, wipe_length]) ag', ?_⟩
    refine ⟨_, P, F3, s4, _, R4, q4, fun b F5 H5 s5 R5 e5 q5 => ?_⟩
    obtain ⟨es5, q5⟩ := q5
    have e25 : Same F2 F5 := f.ff.trans e5
    cases b with
    | true =>
      rw [if_pos rfl] at q5 ⊢
      refine ⟨_, P, F5, s5, _, R5, q5, fun p us F6 H6 s6 ds R6 e6 n6 hp6 d6 q6 => ?_⟩
      obtain ⟨es6, hz, q6⟩ := q6
      have we6 : wipeE s6.e vs = wipeE s1.e vs := by rw [es6]; exact we4
      obtain ⟨R7, n7, hD7⟩ := R2.unblock (vs := vs) (acc' := qs.map V.ref ++ [.ref p]) n2 hno (e25.trans e6) R6 we6 ag'
      have pD : p ≠ D := fun z => by
        have g := n6.g
        rw [z, upd_same] at g
        cases g
      have gp : G2 p = none := by
        have g := n6.g
        rw [upd_ne pD] at g
        exact g
      have hsl : ∀ (j : Nat) (x : Sl), s1.e[j]? = some x → ((∃ ys, x = .o ys) → σ[j]? ≠ some (some (.ref p))) ∧ p ∉ tads x := fun j x hx => by
        by_cases hj : j ∈ vs
        · refine ⟨fun ⟨ys, z⟩ => (by rw [z] at hx; exact (noOwn_at hno hj hx).elim), fun z => ?_⟩
          cases x with
          | tb a b c => exact noOwn_tb hno hj hx
          | _ => cases z
        · have h6 : s6.e[j]? = some x := by rw [← wipeE_out hj, we6, wipeE_out hj]; exact hx
          refine ⟨fun ⟨ys, z⟩ => ?_, n6.tb j x h6⟩
          rw [z] at h6
          rw [← ag' j hj]
          exact n6.sl j ys h6
      have R8 : Rep K (upd G2 p (.lst us)) P F6 (upd H6 D (.lst (qs.map V.ref ++ [.ref p]))) σ ⟨s1.e, s6.q⟩ := R7.addG (by rw [upd_ne pD]; exact hp6) n6.f n6.np (fun j ys hj => (hsl j _ hj).1 ⟨ys, rfl⟩) (fun j x hx => (hsl j x hx).2)
      have eG2 : Same G2 (upd G2 p (.lst us)) := same_new gp
      have np : p ∉ qs := fun z => by
        obtain ⟨o, ho⟩ := rows.has p z
        rw [gp] at ho
        cases ho
      refine ⟨_, hD7, by rw [List.length_map, hlen]; rw [List.length_map] at hz; exact hz, F6, upd G2 p (.lst us), qs ++ [p], xss ++ [ds], s6.q, e2.trans (e25.trans e6), eG.trans eG2, by rw [upd_same, List.map_append]; rfl, ?_, R8, ⟨n7.f, by rw [upd_ne (Ne.symm pD)]; exact n7.g, n7.np, n7.sl, n7.tb⟩, by simp [hlen], ?_⟩
      · exact (rows.up eG2 (e25.trans e6)).snoc upd_same (eG.free gp) d6 np
      · rw [List.map_append]
        exact q6
    | false =>
      rw [if_neg Bool.false_ne_true] at q5 ⊢
      obtain ⟨R7, n7, hD7⟩ := R2.unblock (vs := vs) (acc' := qs.map V.ref) n2 hno e25 R5 (by rw [es5]; exact we4) ag'
      have eu : upd H5 D (.lst (qs.map V.ref)) = H5 := by
        funext b
        by_cases hb : b = D
        · rw [hb, upd_same, hD7]
        · rw [upd_ne hb]
      rw [eu] at R7
      exact ⟨F5, G2, qs, xss, s5.q, e2.trans e25, eG, hD7, rows.up (Same.refl G2) e25, R7, n7, hlen, q5⟩
  · refine .inl ⟨(Y F2 H2 e2 R2.same i).2 (by omega), ?_⟩
    rw [List.drop_eq_nil_of_le (by omega)] at w2
    have R3 := R2.weakG eG
    have dq : D ∉ qs := fun z => by
      obtain ⟨o, ho⟩ := rows.has D z
      rw [n2.g] at ho
      cases ho
    refine k D qs xss F2 H2 ⟨s1.e, q2⟩ R3 (e1.trans e2) (fun r hr => ?_) hD2 (List.nodup_cons.mpr ⟨dq, rows.nodup⟩) (rows.ok R2) w2
    rcases List.mem_cons.mp hr with rfl | hr
    · exact ⟨n2.f, eG.free n2.g, n2.np, n2.sl, n2.tb⟩
    · obtain ⟨o, ho⟩ := rows.has r hr
      obtain ⟨a1, a2, a3, _⟩ := (rows.ok R2).at' r hr
      refine ⟨a1, a2, a3, fun j ys hj z => ?_, fun j x hx z => ?_⟩
      · obtain ⟨p', vs', g1, g2, g3, _⟩ := R2.sl j _ hj
        rw [z] at g1
        cases g1
        rw [ho] at g3
        cases g3
      · have g := (tad_at (R2.sl j x hx) z).2.1
        rw [ho] at g
        cases g
end

section
variable {K : PySem.W.Frag} {G F H : Hp} {P : Option Addr} {σ : L2.St} {s : S}
@[simp] def wSetT (i : Nat) (w : DA) : DS := fun Φ s => w s fun ys s1 => ∃ yss : List (List PyData), ys = yss.map .list ∧ ∀ p qs, Φ.nx (s1.put i (.tb p qs yss))
theorem map_list_inj : ∀ {a b : List (List PyData)}, a.map PyData.list = b.map PyData.list → a = b
  | [], [], _ => rfl
  | _ :: _, _ :: _, h => by
    rw [List.map_cons, List.map_cons] at h
    injection h with h1 h2
    injection h1 with h1
    rw [h1, map_list_inj h2]
  | [], _ :: _, h => by cases h
  | _ :: _, [], h => by cases h
@[simp] def tbAt (s : S) (i : Nat) (k : Addr → List Addr → List (List PyData) → Prop) : Prop := match s.e[i]? with
  | some (.tb p qs xss) => k p qs xss
  | _ => False
theorem tbAt_of {s : S} {i : Nat} {k : Addr → List Addr → List (List PyData) → Prop} (h : tbAt s i k) : ∃ p qs xss, s.e[i]? = some (.tb p qs xss) ∧ k p qs xss := by
  unfold tbAt at h
  cases hs : s.e[i]? with
  | none =>
    rw [hs] at h
    exact h.elim
  | some z =>
    rw [hs] at h
    cases z with
    | tb p qs xss => exact ⟨p, qs, xss, rfl, h⟩
    | _ => exact h.elim
theorem RowsOk.len : ∀ {qs : List Addr} {xss : List (List PyData)}, RowsOk K G P F H qs xss → qs.length = xss.length
  | [], _, h => by cases h; rfl
  | q :: qs, _, h => by
    cases h with
    | cons h1 h2 h3 h4 h5 h6 => rw [List.length_cons, List.length_cons, RowsOk.len h6]
theorem RowsOk.get : ∀ {qs : List Addr} {xss : List (List PyData)} {j : Nat} {xs : List PyData}, RowsOk K G P F H qs xss → xss[j]? = some xs → ∃ q vs, qs[j]? = some q ∧ H q = some (.lst vs) ∧ DqA K F vs xs
  | [], _, j, xs, h, e => by
    cases h
    simp at e
  | q :: qs, _, 0, xs, h, e => by
    cases h with
    | cons h1 h2 h3 h4 h5 h6 =>
      simp at e
      subst e
      exact ⟨q, _, rfl, h4, h5⟩
  | q :: qs, _, j + 1, xs, h, e => by
    cases h with
    | cons h1 h2 h3 h4 h5 h6 =>
      obtain ⟨q', vs, a, b, c⟩ := RowsOk.get (j := j) h6 (by simpa using e)
      exact ⟨q', vs, by simpa using a, b, c⟩
theorem RowsOk.set {ws : List V} {ys : List PyData} {r : Addr} (d : DqA K F ws ys) : ∀ {qs : List Addr} {xss : List (List PyData)} {j : Nat}, RowsOk K G P F H qs xss → qs.Nodup → qs[j]? = some r → RowsOk K G P F (upd H r (.lst ws)) qs (xss.set j ys)
  | [], _, j, h, nd, e => by simp at e
  | q :: qs, _, 0, h, nd, e => by
    cases h with
    | cons h1 h2 h3 h4 h5 h6 =>
      simp at e
      subst e
      refine .cons h1 h2 h3 upd_same d (h6.up (Same.refl F) fun r o hr g1 g2 g3 g4 => ⟨g1, g2, g3, ?_⟩)
      rw [upd_ne (fun z => (List.nodup_cons.mp nd).1 (by rw [← z]; exact hr))]
      exact g4
  | q :: qs, _, j + 1, h, nd, e => by
    cases h with
    | cons h1 h2 h3 h4 h5 h6 =>
      have e' : qs[j]? = some r := by simpa using e
      refine .cons h1 h2 h3 ?_ h5 (RowsOk.set d h6 (List.nodup_cons.mp nd).2 e')
      rw [upd_ne (fun z => (List.nodup_cons.mp nd).1 (by rw [z]; exact List.mem_of_getElem? e'))]
      exact h4
/-- a row of a table changed -/
theorem Rep.wrT {i j : Nat} {p r : Addr} {qs : List Addr} {xss : List (List PyData)} {ws : List V} {ys : List PyData} (R : Rep K G P F H σ s) (h : s.e[i]? = some (.tb p qs xss)) (e : qs[j]? = some r) (d : DqA K F ws ys) :
    Rep K G P F (upd H r (.lst ws)) σ (s.put i (.tb p qs (xss.set j ys))) := by
  obtain ⟨h1, h2, h3, h4, h5, h6, h7⟩ := R.sl i _ h
  have rq : r ∈ qs := List.mem_of_getElem? e
  have rm : r ∈ tads (.tb p qs xss) := List.mem_cons_of_mem _ rq
  obtain ⟨f1, f2, f3, o0, f4⟩ := h7.at' r rq
  have pr : p ≠ r := fun z => (List.nodup_cons.mp h6).1 (by rw [z]; exact rq)
  refine ⟨fun b o q => ?_, fun b o q => ?_, R.apart, fun k y hy => ?_, fun k l us zs r' hj hk e1 e2 => ?_, fun a ha => ?_, by rw [R.len]; exact (List.length_set).symm, fun k l y z r' hj hk hr jk oc => ?_⟩
  · rw [upd_ne (fun z => by rw [z, f1] at q; cases q)]
    exact R.same b o q
  · rw [upd_ne (fun z => by rw [z, f2] at q; cases q)]
    exact R.keep b o q
  · rcases set_get hy with ⟨rfl, rfl⟩ | ⟨ne, hy⟩
    · exact ⟨h1, h2, h3, h4, by rw [upd_ne pr]; exact h5, h6, h7.set d (List.nodup_cons.mp h6).2 e⟩
    · have q := R.sl k y hy
      cases y with
      | un => exact True.intro
      | d y => exact q
      | o us =>
        obtain ⟨p', vs', g1, g2, g3, g4, g5, g6⟩ := q
        have np : p' ≠ r := fun z => R.tbs i k _ _ r h hy rm (Ne.symm ne) (occ_o rfl (by rw [← z]; exact g1))
        exact ⟨p', vs', g1, g2, g3, g4, by rw [upd_ne np]; exact g5, g6⟩
      | pl => exact q
      | sc ns => exact q
      | tb p' qs' xss' => exact SlOk.tbUp (F := F) (F' := F) q rfl (Same.refl F) fun u o hr g1 g2 g3 g4 => ⟨g1, g2, g3, by rw [upd_ne (fun z => R.tbs i k _ _ r h hy rm (Ne.symm ne) (.inl (by rw [← z]; exact hr)))]; exact g4⟩
  · rcases set_get hj with ⟨_, z⟩ | ⟨nj, hj⟩
    · cases z
    · rcases set_get hk with ⟨_, z⟩ | ⟨nk, hk⟩
      · cases z
      · exact R.sep k l us zs r' hj hk e1 e2
  · obtain ⟨g1, g2, g3⟩ := R.pool a ha
    exact ⟨g1, g2, by rw [upd_ne (fun z => f3 (by rw [← z]; exact ha))]; exact g3⟩
  · rcases set_get hj with ⟨e1, e2⟩ | ⟨nj, hj⟩
    · rcases set_get hk with ⟨e3, e4⟩ | ⟨nk, hk⟩
      · exact jk (e1.trans e3.symm)
      · rw [e2] at hr
        exact R.tbs i l _ z r' h hk hr (by rw [← e1]; exact jk) oc
    · rcases set_get hk with ⟨e3, e4⟩ | ⟨nk, hk⟩
      · rcases oc with q | ⟨⟨_, q⟩, _⟩
        · rw [e4] at q
          exact R.tbs k i y _ r' hj h hr (by rw [← e3]; exact jk) (.inl q)
        · rw [e4] at q
          cases q
      · exact R.tbs k l y z r' hj hk hr jk oc
end
section
variable {X : Cx} {pos : Pos}
theorem xs_setTb {i : Nat} {y : Str} {py : Pos} {elt tg iter : Expr} {ifs : List Expr} {scope : Scope} {own : List (Str × Nat)} {spos : Pos} {is : List Nat} {wi : DI} {wg : DG} {wt : DT} {wl : DA} (hc : X.calm = true) (hN : X.N.Nodup) (hy : X.N[i]? = some y) (hyl : X.env.scope.names.lookup y = some .local)
    (hsw : swapsWith (.ListComp elt [⟨tg, iter, ifs, 0⟩] scope pos) (some (.Name y py)) spos.line X.env = pure true) (hi : XI X tg iter wi) (ok : BlkOk X.N X.env.scope scope own) (hsub : ∀ i ∈ is, i ∈ own.map (·.2))
    (hg : ∀ (s : Shared) (H : Hp) (C : Addr) (cl : List (Str × Addr)) (fp : List Addr), XG (X.blk s H scope (compEnvC scope cl C X.env) fp) tg is wg) (ht : ∀ (s : Shared) (H : Hp) (C : Addr) (cl : List (Str × Addr)) (fp : List Addr), XTs (X.blk s H scope (compEnvC scope cl C X.env) fp) ifs wt)
    (he : ∀ (s : Shared) (H : Hp) (C : Addr) (cl : List (Str × Addr)) (fp : List Addr), XL (X.blk s H scope (compEnvC scope cl C X.env) fp) elt wl) (hs : ∀ x, foldedSetIterable iter X.env x = pure x := by intro _; rfl) :
    XS X (.Assign [.Name y py] (.ListComp elt [⟨tg, iter, ifs, 0⟩] scope pos) spos) (wSetT i (wLc (own.map (·.2)) wi wg wt (wFz wl))) := ps_imp (ps_setLc hc hN hy hyl hsw hi ok hg ht he hs) fun D σ H h => by
  obtain ⟨G, P, F, s, Φ, R, h, b⟩ := h
  exact lcT_of hsub σ H _ ⟨G, P, F, s, _, R, h, fun p qs xss F' H' s' R' e n hp nd d q => by
    obtain ⟨yss, e1, q⟩ := q
    have e2 := map_list_inj e1
    subst e2
    exact b.nx _ F' H' _ (R'.setT n hp nd d) e (q p qs)⟩
/-- .. of a name that a block holds -/
theorem xs_setTbC {i : Nat} {y : Str} {py : Pos} {elt tg iter : Expr} {ifs : List Expr} {scope : Scope} {own : List (Str × Nat)} {spos : Pos} {is : List Nat} {wi : DI} {wg : DG} {wt : DT} {wl : DA} (hc : X.calm = true) (hN : X.N.Nodup) (hy : X.N[i]? = some y) (hx : Loc X.env.scope y)
    (hi : XI X tg iter wi) (ok : BlkOk X.N X.env.scope scope own) (hsub : ∀ i ∈ is, i ∈ own.map (·.2))
    (hg : ∀ (s : Shared) (H : Hp) (C : Addr) (cl : List (Str × Addr)) (fp : List Addr), XG (X.blk s H scope (compEnvC scope cl C X.env) fp) tg is wg) (ht : ∀ (s : Shared) (H : Hp) (C : Addr) (cl : List (Str × Addr)) (fp : List Addr), XTs (X.blk s H scope (compEnvC scope cl C X.env) fp) ifs wt)
    (he : ∀ (s : Shared) (H : Hp) (C : Addr) (cl : List (Str × Addr)) (fp : List Addr), XL (X.blk s H scope (compEnvC scope cl C X.env) fp) elt wl) (hs : ∀ x, foldedSetIterable iter X.env x = pure x := by intro _; rfl)
    (hsw : swapsWith (.ListComp elt [⟨tg, iter, ifs, 0⟩] scope pos) (some (.Name y py)) spos.line X.env = pure false := by rfl)
    (hf : X.fn y = true ∨ X.env.scope.names.lookup y = some .local := by first | exact .inl rfl | exact .inr rfl | assumption) :
    XS X (.Assign [.Name y py] (.ListComp elt [⟨tg, iter, ifs, 0⟩] scope pos) spos) (wSetT i (wLc (own.map (·.2)) wi wg wt (wFz wl))) := ps_imp (ps_set hN hy hx (pe_lc hc hN hi ok hg ht he hs) hsw hf) fun D σ H h => by
  obtain ⟨G, P, F, s, Φ, R, h, b⟩ := h
  exact lcT_of hsub σ H _ ⟨G, P, F, s, _, R, h, fun p qs xss F' H' s' R' e n hp nd d q => by
    obtain ⟨yss, e1, q⟩ := q
    have e2 := map_list_inj e1
    subst e2
    exact b.nx _ F' H' _ (R'.setT n hp nd d) e (q p qs)⟩
@[simp] def wTbLen (i : Nat) : DE := fun s Φ => tbAt s i fun _ _ xss => Φ (.int xss.length) s
theorem xe_tbLen {i : Nat} {x : Str} {xp p1 : Pos} (hg : Gl X "len") (hm : X.mg "len" = none) (hv : PE X (.Name x xp) (tVar i)) (he : starEach [.Name x xp] X.env = (false, eval (.Name x xp) X.env) :: starEach [] X.env := by rfl)
    (hpl : (backTo pos (starEach [] X.env)).any (·.1) = false := by rfl) : XE X (.Call (.Name "len" p1) [.Name x xp] [] pos) (wTbLen i) :=
  pe_imp (pe_callB call_len_seq hg hm (by decide +kernel) (pa_cons hv pa_nil he) (by decide) (by decide) he hpl) fun σ H Q h => by
    obtain ⟨G, P, F, s, Φ, R, h, kk⟩ := h
    obtain ⟨p, qs, xss, h0, h⟩ := tbAt_of h
    obtain ⟨h1, h2, h3, h4, h5, h6, h7⟩ := R.sl i _ h0
    refine ⟨_, h1, p, _, rfl, .inl (SqL.of h5), ?_⟩
    rw [List.length_map, h7.len]
    exact kk _ F H s _ R (Same.refl F) (.int _) h
/-- the row of a table -/
@[simp] def tbRow (s : S) (i : Nat) (k : PyData) (f : Addr → List Addr → List (List PyData) → Nat → List PyData → Prop) : Prop := tbAt s i fun p qs xss => match k with
  | .int k => optP (ixN xss.length k) fun j => optP xss[j]? fun xs => f p qs xss j xs
  | _ => False
theorem tbRow_of {K : PySem.W.Frag} {G F H : Hp} {P : Option Addr} {σ : L2.St} {s : S} {i : Nat} {k : PyData} {f : Addr → List Addr → List (List PyData) → Nat → List PyData → Prop} (R : Rep K G P F H σ s) (h : tbRow s i k f) : ∃ p qs xss k' j xs r vs, s.e[i]? = some (.tb p qs xss) ∧ k = .int k' ∧
    σ[i]? = some (some (.ref p)) ∧ H p = some (.lst (qs.map V.ref)) ∧ atI (qs.map V.ref) k' = some (.ref r) ∧ qs[j]? = some r ∧ xss[j]? = some xs ∧ H r = some (.lst vs) ∧ DqA K F vs xs ∧ f p qs xss j xs := by
  obtain ⟨p, qs, xss, h0, h⟩ := tbAt_of h
  obtain ⟨h1, h2, h3, h4, h5, h6, h7⟩ := R.sl i _ h0
  cases k with
  | int k =>
    obtain ⟨j, e1, h⟩ := optP_of h
    obtain ⟨xs, e2, h⟩ := optP_of h
    obtain ⟨r, vs, a, b, c⟩ := h7.get e2
    refine ⟨p, qs, xss, k, j, xs, r, vs, h0, rfl, h1, h5, ?_, a, e2, b, c, h⟩
    unfold atI
    rw [List.length_map, h7.len, e1]
    show (qs.map V.ref)[j]? = _
    rw [List.getElem?_map, a]
    rfl
  | _ => exact h.elim
@[simp] def wTbRowLen (i : Nat) (wk : DE) : DE := fun s Φ => tbAt s i fun _ _ _ => wk s fun k s1 => tbRow s1 i k fun _ _ _ _ xs => Φ (.int xs.length) s1
theorem xe_tbRowLen {i : Nat} {x : Str} {xp xp2 p1 : Pos} {k : Expr} {wk : DE} (hg : Gl X "len") (hm : X.mg "len" = none) (hv : PE X (.Name x xp) (tVar i)) (hk : XE X k wk) (hs : PlainIx k := by exact fun _ _ => rfl)
    (he : starEach [.Subscript (.Name x xp) k xp2] X.env = (false, eval (.Subscript (.Name x xp) k xp2) X.env) :: starEach [] X.env := by rfl)
    (hpl : (backTo pos (starEach [] X.env)).any (·.1) = false := by rfl) : XE X (.Call (.Name "len" p1) [.Subscript (.Name x xp) k xp2] [] pos) (wTbRowLen i wk) :=
  pe_imp (pe_callB call_len_seq hg hm (by decide +kernel) (pa_cons (pe_ix ix_list hv hk hs) pa_nil he) (by decide) (by decide) he hpl) fun σ H Q h => by
    obtain ⟨G, P, F, s, Φ, R, h, kk⟩ := h
    obtain ⟨p0, qs0, xss0, h0, h⟩ := tbAt_of h
    refine ⟨_, (R.sl i _ h0).1, G, P, F, s, _, R, h, fun u F2 H2 s2 y R2 e2 d2 q2 => ?_⟩
    obtain ⟨p, qs, xss, k', j, xs, r, vs, t0, rfl, t1, t2, t3, t4, t5, t6, t7, q⟩ := tbRow_of R2 q2
    cases d2
    have e := (R.sl i _ h0).1
    rw [t1] at e
    cases e
    refine ⟨_, _, k', _, rfl, rfl, SqL.of t2, t3, r, vs, rfl, .inl (SqL.of t6), ?_⟩
    rw [t7.length]
    exact kk _ F2 H2 s2 _ R2 e2 (.int _) q
/-- table[a][b] -/
@[simp] def wTbIx (i : Nat) (wa wb : DE) : DE := fun s Φ => tbAt s i fun _ _ _ => wa s fun a s1 => tbRow s1 i a fun _ _ _ j _ => wb s1 fun b s2 => s2.e[i]? = s1.e[i]? ∧ tbAt s2 i fun _ _ xss => match b with
  | .int b => optP xss[j]? fun xs => optP (atI xs b) fun x => Φ x s2
  | _ => False
theorem xe_tbIx {i : Nat} {x : Str} {xp xp2 : Pos} {a b : Expr} {wa wb : DE} (hv : PE X (.Name x xp) (tVar i)) (ha : XE X a wa) (hb : XE X b wb) (hsa : PlainIx a := by exact fun _ _ => rfl) (hsb : PlainIx b := by exact fun _ _ => rfl) :
    XE X (.Subscript (.Subscript (.Name x xp) a xp2) b pos) (wTbIx i wa wb) :=
  pe_imp (pe_ix ix_list (pe_ix ix_list hv ha hsa) hb hsb) fun σ H Q h => by
    obtain ⟨G, P, F, s, Φ, R, h, kk⟩ := h
    obtain ⟨p0, qs0, xss0, h0, h⟩ := tbAt_of h
    refine ⟨_, (R.sl i _ h0).1, G, P, F, s, _, R, h, fun u F2 H2 s2 y R2 e2 d2 q2 => ?_⟩
    obtain ⟨p, qs, xss, k', j, xs, r, vs, t0, rfl, t1, t2, t3, t4, t5, t6, t7, q⟩ := tbRow_of R2 q2
    cases d2
    have e := (R.sl i _ h0).1
    rw [t1] at e
    cases e
    refine ⟨_, _, k', _, rfl, rfl, SqL.of t2, t3, G, P, F2, s2, _, R2, q, fun w F3 H3 s3 z R3 e3 d3 q3 => ?_⟩
    obtain ⟨es, q3⟩ := q3
    obtain ⟨p4, qs4, xss4, h4, q3⟩ := tbAt_of q3
    rw [es, t0] at h4
    cases h4
    cases z with
    | int b =>
      cases d3
      obtain ⟨xs4, x1, q3⟩ := optP_of q3
      obtain ⟨x4, x2, q3⟩ := optP_of q3
      have hh := R3.sl i _ (es.trans t0)
      obtain ⟨_, _, _, _, _, _, rows⟩ := hh
      obtain ⟨r', vs', y1, y2, y3⟩ := rows.get x1
      rw [t4] at y1
      cases y1
      obtain ⟨v, z1, z2⟩ := atI_up y3 x2
      exact ⟨r, vs', b, v, rfl, rfl, SqL.of y2, z1, kk v F3 H3 s3 x4 R3 (e2.trans e3) z2 q3⟩
    | _ => exact q3.elim
/-- table[a][b] = e -/
@[simp] def wTbSet (i : Nat) (wa wb we : DE) : DS := fun Φ s => we s fun x s0 => tbAt s0 i fun _ _ _ => wa s0 fun a s1 => tbRow s1 i a fun _ _ _ j _ => wb s1 fun b s2 => s2.e[i]? = s1.e[i]? ∧ tbAt s2 i fun p qs xss => match b with
  | .int b => optP xss[j]? fun xs => optP (ixN xs.length b) fun l => Φ.nx (s2.put i (.tb p qs (xss.set j (xs.set l x))))
  | _ => False
theorem xs_tbSet {i : Nat} {x : Str} {xp xp2 p1 : Pos} {a b e : Expr} {wa wb we : DE} (hv : PE X (.Name x xp) (tVar i)) (ha : XE X a wa) (hb : XE X b wb) (h : XE X e we) (hsa : PlainIx a := by exact fun _ _ => rfl)
    (hs : swapsWithSole [.Subscript (.Subscript (.Name x xp) a xp2) b p1] e pos.line X.env = pure false := by rfl) (hw : swappedStores [.Subscript (.Subscript (.Name x xp) a xp2) b p1] e X.env = pure none := by rfl)
    (hasg : ∀ u, assign (.Subscript (.Subscript (.Name x xp) a xp2) b p1) X.env u = (do let ov ← holding [u] (eval (.Subscript (.Name x xp) a xp2) X.env); let iv ← holding [u, ov] (eval b X.env); standAt p1; holding [u, ov, iv] (setItem ov iv u); release [u, ov, iv] []) := by intro _; rfl) :
    XS X (.Assign [.Subscript (.Subscript (.Name x xp) a xp2) b p1] e pos) (wTbSet i wa wb we) :=
  ps_imp (ps_asg h (pg_sub (pe_ix ix_list hv ha hsa) hb set_list hasg) hs hw) fun D σ H h => by
    obtain ⟨G, P, F, s, Φ, R, h, bb⟩ := h
    refine ⟨G, P, F, s, _, R, h, fun v F1 H1 s1 dx R1 e1 d1 q1 => ?_⟩
    obtain ⟨p0, qs0, xss0, h0, q1⟩ := tbAt_of q1
    refine ⟨_, (R1.sl i _ h0).1, G, P, F1, s1, _, R1, q1, fun u F2 H2 s2 y R2 e2 d2 q2 => ?_⟩
    obtain ⟨p, qs, xss, k', j, xs, r, vs, t0, rfl, t1, t2, t3, t4, t5, t6, t7, q⟩ := tbRow_of R2 q2
    cases d2
    have e := (R1.sl i _ h0).1
    rw [t1] at e
    cases e
    refine ⟨_, _, k', _, rfl, rfl, SqL.of t2, t3, G, P, F2, s2, _, R2, q, fun w F3 H3 s3 z R3 e3 d3 q3 => ?_⟩
    obtain ⟨es, q3⟩ := q3
    obtain ⟨p4, qs4, xss4, h4, q3⟩ := tbAt_of q3
    have h40 := h4
    rw [es, t0] at h4
    cases h4
    cases z with
    | int b =>
      cases d3
      obtain ⟨xs4, x1, q3⟩ := optP_of q3
      obtain ⟨l, x2, q3⟩ := optP_of q3
      obtain ⟨_, _, _, _, _, _, rows⟩ := R3.sl i _ h40
      obtain ⟨r', vs', y1, y2, y3⟩ := rows.get x1
      rw [t4] at y1
      cases y1
      exact ⟨r, vs', b, l, rfl, rfl, y2, by rw [y3.length]; exact x2, bb.nx _ F3 _ _ (R3.wrT h40 t4 (y3.set l ((d1.mono e2).mono e3))) ((e1.trans e2).trans e3) q3⟩
    | _ => exact q3.elim
/-- table[a].append(e) -/
@[simp] def wTbApp (i : Nat) (wa we : DE) : DS := fun Φ s => tbAt s i fun _ _ _ => wa s fun a s1 => tbRow s1 i a fun _ _ _ j _ => we s1 fun x s2 => s2.e[i]? = s1.e[i]? ∧ tbAt s2 i fun p qs xss => optP xss[j]? fun xs => xs.length < sizeLine ∧ Φ.nx (s2.put i (.tb p qs (xss.set j (xs ++ [x]))))
theorem tbApp_of {K : PySem.W.Frag} {W : XWish} {i : Nat} {wa we : DE} (D : Ends) (σ : L2.St) (H : Hp) (h : tS K W (wTbApp i wa we) D σ H) : tDrop (tBM K "list" rAppend (tOp (rIxL K) (tVar i) (tE K wa)) (tCons (tE K we) tNil)) D σ H := by
  obtain ⟨G, P, F, s, Φ, R, h, bb⟩ := h
  obtain ⟨p0, qs0, xss0, h0, h⟩ := tbAt_of h
  refine ⟨_, (R.sl i _ h0).1, G, P, F, s, _, R, h, fun u F2 H2 s2 y R2 e2 d2 q2 => ?_⟩
  obtain ⟨p, qs, xss, k', j, xs, r, vs, t0, rfl, t1, t2, t3, t4, t5, t6, t7, q⟩ := tbRow_of R2 q2
  cases d2
  have e := (R.sl i _ h0).1
  rw [t1] at e
  cases e
  refine ⟨_, _, k', _, rfl, rfl, SqL.of t2, t3, .inl ⟨rfl, _, SqL.of t6⟩, G, P, F2, s2, _, R2, q, fun w F3 H3 s3 z R3 e3 d3 q3 => ?_⟩
  obtain ⟨es, q3⟩ := q3
  obtain ⟨p4, qs4, xss4, h4, q3⟩ := tbAt_of q3
  have h40 := h4
  rw [es, t0] at h4
  cases h4
  obtain ⟨xs4, x1, hl, q3⟩ := optP_of q3
  obtain ⟨_, _, _, _, _, _, rows⟩ := R3.sl i _ h40
  obtain ⟨r', vs', y1, y2, y3⟩ := rows.get x1
  rw [t4] at y1
  cases y1
  exact ⟨r, vs', w, rfl, rfl, y2, by rw [y3.length]; exact hl, bb.nx _ F3 _ _ (R3.wrT h40 t4 (y3.append (.cons d3 .nil))) (e2.trans e3) q3⟩
theorem xs_tbApp {i : Nat} {x : Str} {xp xp2 p1 p2 : Pos} {a e : Expr} {wa we : DE} (hv : PE X (.Name x xp) (tVar i)) (ha : XE X a wa) (h : XE X e we) (hsa : PlainIx a := by exact fun _ _ => rfl)
    (hbase : attributeBase (.Subscript (.Name x xp) a xp2) "append" X.env (eval (.Subscript (.Name x xp) a xp2) X.env) = eval (.Subscript (.Name x xp) a xp2) X.env := by rfl)
    (hfew : ((backTo p2 (starEach [e] X.env)).all (fun x => !x.1) && (backToKw p2 (keywordEach [] X.env)).all (fun x => x.1.isSome) && decide ([e].length + ([] : List Keyword).length + (if ([] : List Keyword).isEmpty then 0 else 1) < 30)) = true := by rfl)
    (hline : (p1.endLine == p2.line) = true := by rfl) (hs : starEach [e] X.env = (false, eval e X.env) :: starEach [] X.env := by rfl) (hplain : (backTo p2 (starEach [] X.env)).any (·.1) = false := by rfl)
    (hsw : swapsWith (.Call (.Attribute (.Subscript (.Name x xp) a xp2) "append" p1) [e] [] p2) none pos.line X.env = pure false := by rfl) : XS X (.Expr (.Call (.Attribute (.Subscript (.Name x xp) a xp2) "append" p1) [e] [] p2) pos) (wTbApp i wa we) :=
  ps_imp (ps_expr (pe_bm PySem.F.plainAttrs_list PySem.F.slot_list_append PySem.F.type_list_append mt_append (pe_ix ix_list hv ha hsa) (pa_cons h pa_nil hs) hbase hfew hline hs hplain) hsw) tbApp_of
end
end DL
/-! DL: places of signs in texts; lists turned about; a[b] += e -/
namespace DL
open PySem PySem.Spec PyProof.Rows L2
section
open Builtin Builtin.Str PySem.StrLaws
theorem occ_stays (s sub : Str) (hi : Nat) : ∀ (l : List Nat) (st : Array Nat × Nat), st.fst.size = 1 → (forIn l st (occBody s sub hi 1)).run.fst = st.fst
  | [], st, h => rfl
  | a :: l, st, h => by
    rw [List.forIn_cons]
    unfold occBody
    rw [if_neg (fun z => by have := z.1.1.1; omega)]
    exact occ_stays s sub hi l st h
theorem occ_first (s sub : Str) (hi m : Nat) (hm : m + sub.length ≤ hi ∧ subAt s sub m = true) : ∀ (n lo free : Nat), free ≤ lo → lo ≤ m → m < lo + n → (∀ k, lo ≤ k → k < m → ¬ (k + sub.length ≤ hi ∧ subAt s sub k = true)) →
    (forIn (List.range' lo n) ((#[] : Array Nat), free) (occBody s sub hi 1)).run.fst = #[m]
  | 0, lo, free, _, h1, h2, _ => by omega
  | n + 1, lo, free, hf, h1, h2, h3 => by
    rw [List.range'_succ, List.forIn_cons]
    by_cases e : lo = m
    · subst e
      unfold occBody
      rw [if_pos ⟨⟨⟨by simp, hf⟩, hm.1⟩, hm.2⟩]
      exact occ_stays s sub hi _ _ (by simp)
    · unfold occBody
      rw [if_neg (fun z => h3 lo (Nat.le_refl _) (by omega) ⟨z.1.2, z.2⟩)]
      exact occ_first s sub hi m hm n (lo + 1) free (by omega) (by omega) (by omega) fun k hk => h3 k (by omega)
theorem occ_idx {s : Str} {c : Nat} (h : c ∈ s.cps.toList) : occurrences s ⟨#[c]⟩ 0 s.length 1 = [s.cps.toList.idxOf c] := by
  have h1 : s.cps.toList[s.cps.toList.idxOf c]? = some c := by
    rw [List.getElem?_eq_getElem (List.idxOf_lt_length_iff.mpr h), List.getElem_idxOf]
  have h2 := (subAt_one s c _).mpr h1
  have hl : s.cps.toList.idxOf c < s.length := by
    have := List.idxOf_lt_length_iff.mpr h
    rw [Array.length_toList] at this
    exact this
  rw [occ_eq, occ_first s ⟨#[c]⟩ s.length _ h2 _ 0 0 (Nat.le_refl _) (Nat.zero_le _) (by omega) fun k _ hk z => ?_]
  have h3 := (subAt_one s c k).mp z
  have h4 := List.not_of_lt_findIdx (p := (· == c)) (xs := s.cps.toList) (i := k) (by simpa [List.idxOf] using hk)
  have h5 := (List.getElem?_eq_some_iff.mp h3)
  obtain ⟨h6, h7⟩ := h5
  simp [h7] at h4
end
/-- the place of a sign in a text -/
@[simp] def wIndex (wo we : DE) : DE := fun s Φ => wo s fun a s1 => match a with
  | .str a => we s1 fun b s2 => match b with
    | .str b => ∃ c, b = ⟨#[c]⟩ ∧ c ∈ a.cps.toList ∧ Φ (.int (a.cps.toList.idxOf c : Nat)) s2
    | _ => False
  | _ => False
section
variable {X : Cx} {pos : Pos}
theorem xe_index {o e : Expr} {apos : Pos} {wo we : DE} (ho : XE X o wo) (he : XE X e we)
    (hbase : attributeBase o "index" X.env (eval o X.env) = eval o X.env := by rfl)
    (hfew : ((backTo pos (starEach [e] X.env)).all (fun x => !x.1) && (backToKw pos (keywordEach [] X.env)).all (fun x => x.1.isSome) && decide ([e].length + ([] : List Keyword).length + (if ([] : List Keyword).isEmpty then 0 else 1) < 30)) = true := by rfl)
    (hline : (apos.endLine == pos.line) = true := by rfl) (hs : starEach [e] X.env = (false, eval e X.env) :: starEach [] X.env := by rfl) (hplain : (backTo pos (starEach [] X.env)).any (·.1) = false := by rfl) :
    XE X (.Call (.Attribute o "index" apos) [e] [] pos) (wIndex wo we) :=
  pe_imp (pe_bm PySem.F.plainAttrs_str PySem.F.slot_str_index PySem.F.type_str_index mt_sindex ho (pa_cons he pa_nil hs) hbase hfew hline hs hplain) fun σ H Q h => by
    obtain ⟨G, P, F, s, Φ, R, h, kk⟩ := h
    refine ⟨G, P, F, s, _, R, h, fun v F1 H1 s1 x R1 e1 d1 q1 => ?_⟩
    cases x with
    | str a =>
      cases d1
      refine ⟨rfl, G, P, F1, s1, _, R1, q1, fun u F2 H2 s2 y R2 e2 d2 q2 => ?_⟩
      cases y with
      | str b =>
        cases d2
        obtain ⟨c, rfl, hc, q2⟩ := q2
        exact ⟨a, _, _, [], rfl, rfl, occ_idx hc, kk _ F2 H2 s2 _ R2 (e1.trans e2) (.int _) q2⟩
      | _ => exact q2.elim
    | _ => exact q1.elim
/-- x.reverse() -/
@[simp] def wRev (i : Nat) : DS := fun Φ s => ownAt s i fun xs => Φ.nx (s.put i (.o xs.reverse))
theorem dqa_rev {K : PySem.W.Frag} {F : Hp} : ∀ {vs : List V} {xs : List PyData}, DqA K F vs xs → DqA K F vs.reverse xs.reverse
  | _, [], h => by cases h; exact .nil
  | _, _ :: _, h => by
    cases h with
    | cons h1 h2 =>
      rw [List.reverse_cons, List.reverse_cons]
      exact (dqa_rev h2).append (.cons h1 .nil)
theorem xs_rev {i : Nat} {x : Str} {xp p1 p2 : Pos} (hv : PE X (.Name x xp) (tVar i))
    (hbase : attributeBase (.Name x xp) "reverse" X.env (eval (.Name x xp) X.env) = eval (.Name x xp) X.env := by rfl) (hline : (p1.endLine == p2.line) = true := by rfl)
    (hsw : swapsWith (.Call (.Attribute (.Name x xp) "reverse" p1) [] [] p2) none pos.line X.env = pure false := by rfl) : XS X (.Expr (.Call (.Attribute (.Name x xp) "reverse" p1) [] [] p2) pos) (wRev i) :=
  ps_imp (ps_expr (pe_bm0 PySem.F.plainAttrs_list PySem.F.slot_list_reverse PySem.F.type_list_reverse mt_reverse hv hbase hline) hsw) fun D σ H h => by
    obtain ⟨G, P, F, s, Φ, R, h, b⟩ := h
    obtain ⟨xs, h0, h⟩ := ownAt_of h
    obtain ⟨p, vs, e1, _, _, _, e5, e6⟩ := R.sl i _ h0
    exact ⟨_, e1, .inl ⟨rfl, _, SqL.of e5⟩, p, vs, rfl, rfl, e5, b.nx _ F _ _ (R.wrO h0 e1 (dqa_rev e6)) (Same.refl F) h⟩
/-- sum(x), x one's own -/
@[simp] def wOwnSum (i : Nat) : DE := fun s Φ => ownAt s i fun xs => ∃ ns : List Int, xs = ns.map .int ∧ Φ (.int ns.sum) s
theorem xe_ownSum {i : Nat} {x : Str} {xp p1 : Pos} (hc : X.calm = true) (hg : Gl X "sum") (hm : X.mg "sum" = none) (hv : PE X (.Name x xp) (tVar i)) (he : starEach [.Name x xp] X.env = (false, eval (.Name x xp) X.env) :: starEach [] X.env := by rfl)
    (hpl : (backTo pos (starEach [] X.env)).any (·.1) = false := by rfl) : XE X (.Call (.Name "sum" p1) [.Name x xp] [] pos) (wOwnSum i) :=
  pe_imp (pe_callB (cr_sum hc) hg hm (by decide +kernel) (pa_cons hv pa_nil he) (by decide) (by decide) he hpl) fun σ H Q h => by
    obtain ⟨G, P, F, s, Φ, R, h, kk⟩ := h
    obtain ⟨xs, h0, ns, rfl, h⟩ := ownAt_of h
    obtain ⟨p, vs, g1, _, _, _, g5, g6⟩ := R.sl i _ h0
    have e := g6.ints
    subst e
    exact ⟨_, g1, p, ns, rfl, SqL.of g5, kk _ F H s _ R (Same.refl F) (.int _) h⟩
end
end DL
/-! DL: a[b] += e; lists of two fors; pairs in order; how often a sign stands in a text -/
namespace DL
open PySem PySem.Spec PyProof.Rows L2
section
open Builtin Builtin.Str PySem.StrLaws
theorem occ_cnt (s : Str) (c limit : Nat) : ∀ (n lo free : Nat) (st : Array Nat), free ≤ lo → st.size + n ≤ limit → lo + n = s.length + 1 →
    (forIn (List.range' lo n) (st, free) (occBody s ⟨#[c]⟩ s.length limit)).run.fst.size = st.size + (s.cps.toList.drop lo).count c
  | 0, lo, free, st, hf, hl, hn => by
    rw [List.drop_eq_nil_of_le (by
      have : s.cps.toList.length = s.length := Array.length_toList
      omega)]
    rfl
  | n + 1, lo, free, st, hf, hl, hn => by
    have hlen : s.cps.toList.length = s.length := Array.length_toList
    rw [List.range'_succ, List.forIn_cons]
    by_cases e : s.cps.toList[lo]? = some c
    · have h2 := (subAt_one s c lo).mpr e
      unfold occBody
      rw [if_pos ⟨⟨⟨by show st.size < limit; omega, hf⟩, h2.1⟩, h2.2⟩]
      have hlt := (List.getElem?_eq_some_iff.mp e)
      obtain ⟨hlt, e2⟩ := hlt
      have := occ_cnt s c limit n (lo + 1) (lo + 1) (st.push lo) (Nat.le_refl _) (by rw [Array.size_push]; omega) (by omega)
      rw [List.drop_eq_getElem_cons hlt, e2, List.count_cons_self]
      rw [Array.size_push] at this
      show (forIn (List.range' (lo + 1) n) (st.push lo, lo + 1) (occBody s ⟨#[c]⟩ s.length limit)).run.fst.size = _
      rw [this]
      omega
    · unfold occBody
      rw [if_neg (fun z => e ((subAt_one s c lo).mp ⟨z.1.2, z.2⟩))]
      have := occ_cnt s c limit n (lo + 1) free st (by omega) (by omega) (by omega)
      show (forIn (List.range' (lo + 1) n) (st, free) (occBody s ⟨#[c]⟩ s.length limit)).run.fst.size = _
      rw [this]
      by_cases hlt : lo < s.cps.toList.length
      · rw [List.drop_eq_getElem_cons hlt, List.count_cons_of_ne]
        intro z
        exact e (by rw [List.getElem?_eq_getElem hlt, z])
      · rw [List.drop_eq_nil_of_le (by omega), List.drop_eq_nil_of_le (by omega)]
theorem count_one (s : Str) (c : Nat) : Txt.count s ⟨#[c]⟩ = ((s.cps.toList.count c : Nat) : Int) := by
  show (((occurrences s ⟨#[c]⟩ 0 s.length (s.length + 1)).length : Nat) : Int) = _
  rw [occ_eq, Array.length_toList, occ_cnt s c _ _ 0 0 #[] (Nat.le_refl _) (by simp) (by simp)]
  simp
end
@[simp] def wCount (wo we : DE) : DE := fun s Φ => wo s fun a s1 => match a with
  | .str a => we s1 fun b s2 => match b with
    | .str b => ∃ c, b = ⟨#[c]⟩ ∧ Φ (.int (a.cps.toList.count c : Nat)) s2
    | _ => False
  | _ => False
section
variable {X : Cx} {pos : Pos}
theorem xe_count {o e : Expr} {apos : Pos} {wo we : DE} (ho : XE X o wo) (he : XE X e we)
    (hbase : attributeBase o "count" X.env (eval o X.env) = eval o X.env := by rfl)
    (hfew : ((backTo pos (starEach [e] X.env)).all (fun x => !x.1) && (backToKw pos (keywordEach [] X.env)).all (fun x => x.1.isSome) && decide ([e].length + ([] : List Keyword).length + (if ([] : List Keyword).isEmpty then 0 else 1) < 30)) = true := by rfl)
    (hline : (apos.endLine == pos.line) = true := by rfl) (hs : starEach [e] X.env = (false, eval e X.env) :: starEach [] X.env := by rfl) (hplain : (backTo pos (starEach [] X.env)).any (·.1) = false := by rfl) :
    XE X (.Call (.Attribute o "count" apos) [e] [] pos) (wCount wo we) :=
  pe_imp (pe_bm PySem.F.plainAttrs_str PySem.F.slot_str_count PySem.F.type_str_count mt_count ho (pa_cons he pa_nil hs) hbase hfew hline hs hplain) fun σ H Q h => by
    obtain ⟨G, P, F, s, Φ, R, h, kk⟩ := h
    refine ⟨G, P, F, s, _, R, h, fun v F1 H1 s1 x R1 e1 d1 q1 => ?_⟩
    cases x with
    | str a =>
      cases d1
      refine ⟨rfl, G, P, F1, s1, _, R1, q1, fun u F2 H2 s2 y R2 e2 d2 q2 => ?_⟩
      cases y with
      | str b =>
        cases d2
        obtain ⟨c, rfl, q2⟩ := q2
        refine ⟨a, _, rfl, rfl, ?_⟩
        rw [count_one]
        exact kk _ F2 H2 s2 _ R2 (e1.trans e2) (.int _) q2
      | _ => exact q2.elim
    | _ => exact q1.elim
end
/-! a[b] += e, a one's own -/
theorem pg_list {X : Cx} : PGet X (rIxL X.K) := by
  intro pins s σ H o i ov iv Q I r1 r2 h
  obtain ⟨p, xs, i, z, rfl, rfl, hq, he, q⟩ := h
  cases r1
  obtain ⟨t, rfl⟩ := r2
  obtain ⟨its, r, pl, hz⟩ := I.list hq
  obtain ⟨j, h1, h2, h3, h4, h5⟩ := L2.atI_get he
  obtain ⟨w, ew, rw'⟩ := r.get h2
  have hl := r.length
  have hn := line63
  have fin : EP X pins σ Q w s := ⟨z, H, I, rw', q⟩
  by_cases h0 : 0 ≤ i
  · have hj : i.toNat = j := by
      rw [seqIndex_of h0 h5] at h1
      exact Option.some.inj h1
    exact wpAny_getItem_list (Q := EP X pins σ Q) pl.isList h0 (by omega) (by rw [hj]; simpa using ew) fin
  · have hj : (i + (its.toArray.size : Int)).toNat = j := by
      rw [seqIndex_neg (by omega) h4] at h1
      rw [List.size_toArray, ← hl]
      exact Option.some.inj h1
    exact wpAny_getItem_list_neg (Q := EP X pins σ Q) pl.isList (by omega) (by rw [List.size_toArray] <;> omega) (by omega) (by rw [hj]; simpa using ew) fin
@[simp] def wAugO (i : Nat) (f : Int → Int → Int) (wi we : DE) : DS := fun Φ s => ownAt s i fun _ => wi s fun k s1 => ownAt s1 i fun xs => match k with
  | .int k => match atI xs k with
    | some (.int m) => we s1 fun y s2 => match y with
      | .int n => ownAt s2 i fun xs2 => optP (ixN xs2.length k) fun j => Φ.nx (s2.put i (.o (xs2.set j (.int (f m n)))))
      | _ => False
    | _ => False
  | _ => False
section
variable {X : Cx} {pos : Pos}
theorem xs_augO {i : Nat} {x : Str} {xp p1 : Pos} {k e : Expr} {wi we : DE} {op : Operator} {f : Int → Int → Int} (hv : PE X (.Name x xp) (tVar i)) (hk : XE X k wi) (h : XE X e we) (ho : PIp X op (ipI f))
    (ha : ∀ ov iv new, augStore k ov iv new = (do holding [new, ov, iv] (setItem ov iv new); release [new, ov, iv] []; pure .next) := by intros; rfl) : XS X (.AugAssign (.Subscript (.Name x xp) k p1) op e pos) (wAugO i f wi we) :=
  ps_imp (ps_augS hv hk pg_list h ho set_list ha) fun D σ H h => by
    obtain ⟨G, P, F, s, Φ, R, h, b⟩ := h
    obtain ⟨xs0, h0, h⟩ := ownAt_of h
    obtain ⟨p, vs, g1, _, _, _, g5, _⟩ := R.sl i _ h0
    refine ⟨_, g1, G, P, F, s, _, R, h, fun u F1 H1 s1 y R1 e1 d1 q1 => ?_⟩
    obtain ⟨xs, h1, q1⟩ := ownAt_of q1
    obtain ⟨p', vs', k1, _, _, _, k5, k6⟩ := R1.sl i _ h1
    rw [g1] at k1
    cases k1
    cases y with
    | int k =>
      cases d1
      dsimp only at q1
      cases hj : atI xs k with
      | none => rw [hj] at q1; exact q1.elim
      | some d =>
        rw [hj] at q1
        cases d with
        | int m =>
          obtain ⟨v, z1, z2⟩ := atI_up k6 hj
          cases z2
          refine ⟨p, vs', k, _, rfl, rfl, SqL.of k5, z1, G, P, F1, s1, _, R1, q1, fun w F2 H2 s2 z R2 e2 d2 q2 => ?_⟩
          cases z with
          | int n =>
            cases d2
            obtain ⟨xs2, h2, q2⟩ := ownAt_of q2
            obtain ⟨j, hj2, q2⟩ := optP_of q2
            obtain ⟨p2, vs2, l1, _, _, _, l5, l6⟩ := R2.sl i _ h2
            rw [g1] at l1
            cases l1
            exact ⟨m, n, rfl, rfl, p, vs2, k, j, rfl, rfl, l5, by rw [l6.length]; exact hj2, b.nx _ F2 _ _ (R2.wrO h2 g1 (l6.set j (.int _))) (e1.trans e2) q2⟩
          | _ => exact q2.elim
        | _ => exact q1.elim
    | _ => exact q1.elim
end
end DL
/-! DL: lists of two fors; pairs in order -/
namespace DL
open PySem PySem.Spec PyProof.Rows L2
section
variable {K : PySem.W.Frag} {G F H F' H' : Hp} {P : Option Addr} {σ τ : L2.St} {s : S} {vs : List Nat} {D : Addr} {acc : List V}
/-- a kept list, to be changed again -/
theorem Rep.openG (R : Rep K (upd G D (.lst acc)) P F H σ s) (g : G D = none) : Rep K G P F H σ s ∧ Nu G P F σ s D := by
  refine ⟨R.weakG (fun b o q => ?_), ⟨R.apart D _ upd_same, g, fun z => ?_, fun i xs hx e => ?_, fun i x hx m => ?_⟩⟩
  · rw [upd_ne (fun z => by rw [z, g] at q; cases q)]
    exact q
  · have := (R.pool D z).2.1
    rw [upd_same] at this
    cases this
  · obtain ⟨p, us, h1, h2, h3, _⟩ := R.sl i _ hx
    rw [e] at h1
    cases h1
    rw [upd_same] at h3
    cases h3
  · have q := R.sl i x hx
    cases x with
    | tb p qs xss =>
      obtain ⟨h1, h2, h3, h4, h5, h6, h7⟩ := q
      rcases List.mem_cons.mp m with e | m
      · rw [← e, upd_same] at h3
        cases h3
      · have : ∀ {qs xss}, RowsOk K (upd G D (.lst acc)) P F H qs xss → D ∉ qs := by
          intro qs xss h
          induction h with
          | nil => intro z; cases z
          | cons a1 a2 a3 a4 a5 a6 ih =>
            intro z
            rcases List.mem_cons.mp z with e | z
            · rw [← e, upd_same] at a2
              cases a2
            · exact ih z
        exact this h7 m
    | _ => cases m
end
def lcW2 (vs vs1 : List Nat) (e0 : List Sl) (wg : DG) (wt : DT) (wi1 : DI) (wg1 : DG) (wt1 : DT) (we : DE) (Φ : List PyData → List Int → Prop) : List PyData → List PyData → List Int → Prop
  | [], acc, q => Φ acc q
  | x :: xs, acc, q => wg x ⟨wipeE e0 vs, q⟩ fun s1 => wipeE s1.e vs = wipeE e0 vs ∧ wt s1 fun b s2 => s2.e = s1.e ∧
    (if b = true then wi1 s2 fun ys s3 => s3.e = s1.e ∧ noOwn vs1 s1.e = true ∧ lcW vs1 s1.e wg1 wt1 we (fun acc q => lcW2 vs vs1 e0 wg wt wi1 wg1 wt1 we Φ xs acc q) ys acc s3.q
      else lcW2 vs vs1 e0 wg wt wi1 wg1 wt1 we Φ xs acc s2.q)
@[simp] def wLc2 (vs vs1 : List Nat) (wi : DI) (wg : DG) (wt : DT) (wi1 : DI) (wg1 : DG) (wt1 : DT) (we : DE) : DA := fun s Φ => wi s fun xs s1 => noOwn vs s1.e = true ∧ lcW2 vs vs1 s1.e wg wt wi1 wg1 wt1 we (fun ys q => Φ ys ⟨s1.e, q⟩) xs [] s1.q
theorem lc2_of {K : PySem.W.Frag} {vs vs1 is is1 : List Nat} {wi wi1 : DI} {wg wg1 : DG} {wt wt1 : DT} {we : DE} (hsub : ∀ i ∈ is, i ∈ vs) (hsub1 : ∀ i ∈ is1, i ∈ vs1) (hv : ∀ i ∈ vs1, i ∈ vs) (σ : L2.St) (H : Hp) (Q : VK) (h : tL K (wLc2 vs vs1 wi wg wt wi1 wg1 wt1 we) σ H Q) :
    tLc2 (tI K wi) (tG K is wg) (tT K wt) (tI K wi1) (tG K is1 wg1) (tT K wt1) (tE K we) vs vs1 σ H Q := by
  obtain ⟨G, P, F, s, Φ, R, h, k⟩ := h
  refine ⟨G, P, F, s, _, R, h, fun J F1 H1 s1 xs R1 e1 Y q D hD => ?_⟩
  obtain ⟨hno, q⟩ := q
  obtain ⟨R1', n1⟩ := nu_new (o := .lst []) R1 hD
  refine ⟨fun i m H2 => m = xs.length - i ∧ i ≤ xs.length ∧ ∃ F2 vacc acc q2, Same F1 F2 ∧ H2 D = some (.lst vacc) ∧ DqA K F2 vacc acc ∧ Rep K G P F2 H2 σ ⟨s1.e, q2⟩ ∧ Nu G P F2 σ ⟨s1.e, q2⟩ D ∧
    lcW2 vs vs1 s1.e wg wt wi1 wg1 wt1 we (fun ys q => Φ ys ⟨s1.e, q⟩) (xs.drop i) acc q2, ⟨_, rfl, Nat.zero_le _, F1, [], [], s1.q, Same.refl F1, upd_same, .nil, R1', n1, by simpa using q⟩, ?_⟩
  rintro i m H2 ⟨rfl, hi, F2, vacc, acc, q2, e2, hD2, dacc, R2, n2, w2⟩
  by_cases hl : i < xs.length
  · obtain ⟨go, yl⟩ := (Y F2 H2 e2 R2.same i).1 xs[i] (List.getElem?_eq_getElem hl)
    rw [List.drop_eq_getElem_cons hl] at w2
    refine .inr ⟨go, fun H3 => ∃ F2 vacc acc q2, Same F1 F2 ∧ H3 D = some (.lst vacc) ∧ DqA K F2 vacc acc ∧ Rep K G P F2 H3 σ ⟨s1.e, q2⟩ ∧ Nu G P F2 σ ⟨s1.e, q2⟩ D ∧
      lcW2 vs vs1 s1.e wg wt wi1 wg1 wt1 we (fun ys q => Φ ys ⟨s1.e, q⟩) (xs.drop (i + 1)) acc q2, fun H3 z => ⟨xs.length - (i + 1), by omega, rfl, hl, z⟩, fun v H3 hy => ?_⟩
    obtain ⟨F3, f, dx⟩ := yl v H3 hy
    have RB : Rep K (upd G D (.lst vacc)) P F3 H3 (wipe σ vs) ⟨wipeE s1.e vs, q2⟩ := (R2.block (vs := vs) n2 hD2).fresh f
    refine ⟨_, P, F3, _, xs[i], _, RB, dx, w2, fun σ4 s4 R4 ag l4 q4 => ?_⟩
    obtain ⟨we4, q4⟩ := q4
    have ag' : ∀ i, i ∉ vs → σ4[i]? = σ[i]? := fun j hj => by
      rw [ag j (fun z => hj (hsub j z)), wipe_off hj]
    refine ⟨wipe_same (by rw [l4, wipe_length]) ag', ?_⟩
    refine ⟨_, P, F3, s4, _, R4, q4, fun b F5 H5 s5 R5 e5 q5 => ?_⟩
    obtain ⟨es5, q5⟩ := q5
    have e25 : Same F2 F5 := f.ff.trans e5
    -- the outer turn's end
    have fin : ∀ {F6 H6 : Hp} {s6 : S} {vacc6 : List V} {acc6 : List PyData}, Same F2 F6 → Rep K (upd G D (.lst vacc6)) P F6 H6 σ4 s6 → s6.e = s4.e → DqA K F6 vacc6 acc6 → lcW2 vs vs1 s1.e wg wt wi1 wg1 wt1 we (fun ys q => Φ ys ⟨s1.e, q⟩) (xs.drop (i + 1)) acc6 s6.q →
        ∃ F2 vacc acc q2, Same F1 F2 ∧ H6 D = some (.lst vacc) ∧ DqA K F2 vacc acc ∧ Rep K G P F2 H6 σ ⟨s1.e, q2⟩ ∧ Nu G P F2 σ ⟨s1.e, q2⟩ D ∧ lcW2 vs vs1 s1.e wg wt wi1 wg1 wt1 we (fun ys q => Φ ys ⟨s1.e, q⟩) (xs.drop (i + 1)) acc q2 := by
      intro F6 H6 s6 vacc6 acc6 e26 R6 es6 d6 q6
      obtain ⟨R7, n7, hD7⟩ := R2.unblock (vs := vs) (acc' := vacc6) n2 hno e26 R6 (by rw [es6]; exact we4) ag'
      have eu : upd H6 D (.lst vacc6) = H6 := by
        funext b
        by_cases hb : b = D
        · rw [hb, upd_same, hD7]
        · rw [upd_ne hb]
      rw [eu] at R7
      exact ⟨F6, vacc6, acc6, s6.q, e2.trans e26, hD7, d6, R7, n7, q6⟩
    cases b with
    | true =>
      rw [if_pos rfl] at q5 ⊢
      refine ⟨_, P, F5, s5, _, R5, q5, fun J1 F6 H6 s6 ys R6 e6 Y1 q6 => ?_⟩
      obtain ⟨es6, hno1, q6⟩ := q6
      obtain ⟨R6o, n6⟩ := R6.openG n2.g
      have e26 : Same F2 F6 := e25.trans e6
      have R6o' : Rep K G P F6 H6 σ4 ⟨s4.e, s6.q⟩ := by rw [← es6]; exact R6o
      have n6' : Nu G P F6 σ4 ⟨s4.e, s6.q⟩ D := by rw [← es6]; exact n6
      refine ⟨fun j k H7 => k = ys.length - j ∧ j ≤ ys.length ∧ ∃ F7 vacc7 acc7 q7, Same F6 F7 ∧ H7 D = some (.lst vacc7) ∧ DqA K F7 vacc7 acc7 ∧ Rep K G P F7 H7 σ4 ⟨s4.e, q7⟩ ∧ Nu G P F7 σ4 ⟨s4.e, q7⟩ D ∧
        lcW vs1 s4.e wg1 wt1 we (fun acc q => lcW2 vs vs1 s1.e wg wt wi1 wg1 wt1 we (fun ys q => Φ ys ⟨s1.e, q⟩) (xs.drop (i + 1)) acc q) (ys.drop j) acc7 q7,
        ⟨_, rfl, Nat.zero_le _, F6, vacc, acc, s6.q, Same.refl F6, R6.keep D _ upd_same, dacc.mono e26, R6o', n6', by simpa using q6⟩, ?_⟩
      rintro j k H7 ⟨rfl, hj, F7, vacc7, acc7, q7, e7, hD7, d7, R7, n7, w7⟩
      by_cases hl1 : j < ys.length
      · obtain ⟨go1, yl1⟩ := (Y1 F7 H7 e7 R7.same j).1 ys[j] (List.getElem?_eq_getElem hl1)
        rw [List.drop_eq_getElem_cons hl1] at w7
        refine .inr ⟨go1, fun H8 => ∃ F7 vacc7 acc7 q7, Same F6 F7 ∧ H8 D = some (.lst vacc7) ∧ DqA K F7 vacc7 acc7 ∧ Rep K G P F7 H8 σ4 ⟨s4.e, q7⟩ ∧ Nu G P F7 σ4 ⟨s4.e, q7⟩ D ∧
          lcW vs1 s4.e wg1 wt1 we (fun acc q => lcW2 vs vs1 s1.e wg wt wi1 wg1 wt1 we (fun ys q => Φ ys ⟨s1.e, q⟩) (xs.drop (i + 1)) acc q) (ys.drop (j + 1)) acc7 q7,
          fun H8 z => ⟨ys.length - (j + 1), by omega, rfl, hl1, z⟩, fun v H8 hy8 => ?_⟩
        obtain ⟨F8, f8, dx8⟩ := yl1 v H8 hy8
        have RB8 : Rep K (upd G D (.lst vacc7)) P F8 H8 (wipe σ4 vs1) ⟨wipeE s4.e vs1, q7⟩ := (R7.block (vs := vs1) n7 hD7).fresh f8
        refine ⟨_, P, F8, _, ys[j], _, RB8, dx8, w7, fun σ9 s9 R9 ag9 l9 q9 => ?_⟩
        obtain ⟨we9, q9⟩ := q9
        have ag9' : ∀ i, i ∉ vs1 → σ9[i]? = σ4[i]? := fun j hj => by
          rw [ag9 j (fun z => hj (hsub1 j z)), wipe_off hj]
        refine ⟨wipe_same (by rw [l9, wipe_length]) ag9', ?_⟩
        refine ⟨_, P, F8, s9, _, R9, q9, fun b F10 H10 s10 R10 e10 q10 => ?_⟩
        obtain ⟨es10, q10⟩ := q10
        have e710 : Same F7 F10 := f8.ff.trans e10
        cases b with
        | true =>
          rw [if_pos rfl] at q10 ⊢
          refine ⟨_, P, F10, s10, _, R10, q10, fun y F11 H11 s11 dy R11 e11 d11 q11 => ?_⟩
          obtain ⟨es11, hz, q11⟩ := q11
          obtain ⟨R12, n12, hD12⟩ := R7.unblock (vs := vs1) (acc' := vacc7 ++ [y]) n7 hno1 (e710.trans e11) R11 (by rw [es11]; exact we9) ag9'
          exact ⟨vacc7, hD12, by rw [d7.length]; exact hz, F11, vacc7 ++ [y], acc7 ++ [dy], s11.q, e7.trans (e710.trans e11), upd_same, (d7.mono (e710.trans e11)).append (.cons d11 .nil), R12, n12, q11⟩
        | false =>
          rw [if_neg Bool.false_ne_true] at q10 ⊢
          obtain ⟨R12, n12, hD12⟩ := R7.unblock (vs := vs1) (acc' := vacc7) n7 hno1 e710 R10 (by rw [es10]; exact we9) ag9'
          have eu : upd H10 D (.lst vacc7) = H10 := by
            funext b
            by_cases hb : b = D
            · rw [hb, upd_same, hD12]
            · rw [upd_ne hb]
          rw [eu] at R12
          exact ⟨F10, vacc7, acc7, s10.q, e7.trans e710, hD12, d7.mono e710, R12, n12, q10⟩
      · refine .inl ⟨(Y1 F7 H7 e7 R7.same j).2 (by omega), ?_⟩
        rw [List.drop_eq_nil_of_le (show ys.length ≤ j from by omega)] at w7
        have RB7 : Rep K (upd G D (.lst vacc7)) P F7 H7 σ4 ⟨s4.e, q7⟩ := R7.block (vs := []) n7 hD7
        exact fin (e26.trans e7) RB7 rfl d7 w7
    | false =>
      rw [if_neg Bool.false_ne_true] at q5 ⊢
      exact fin e25 R5 es5 (dacc.mono e25) q5
  · refine .inl ⟨(Y F2 H2 e2 R2.same i).2 (by omega), ?_⟩
    rw [List.drop_eq_nil_of_le (by omega)] at w2
    exact k D vacc F2 H2 ⟨s1.e, q2⟩ acc R2 (e1.trans e2) n2 hD2 dacc w2
section
variable {X : Cx} {pos : Pos}
theorem xl_lc2 {elt tg iter tg1 iter1 : Expr} {ifs ifs1 : List Expr} {scope : Scope} {own : List (Str × Nat)} {vs1 is is1 : List Nat} {wi wi1 : DI} {wg wg1 : DG} {wt wt1 : DT} {we : DE} (hc : X.calm = true) (hN : X.N.Nodup) (hi : XI X tg iter wi) (ok : BlkOk X.N X.env.scope scope own) (hv : ∀ i ∈ vs1, i ∈ own.map (·.2)) (hsub : ∀ i ∈ is, i ∈ own.map (·.2)) (hsub1 : ∀ i ∈ is1, i ∈ vs1)
    (hg : ∀ (s : Shared) (H : Hp) (C : Addr) (cl : List (Str × Addr)) (fp : List Addr), XG (X.blk s H scope (compEnvC scope cl C X.env) fp) tg is wg) (ht : ∀ (s : Shared) (H : Hp) (C : Addr) (cl : List (Str × Addr)) (fp : List Addr), XTs (X.blk s H scope (compEnvC scope cl C X.env) fp) ifs wt)
    (hi1 : ∀ (s : Shared) (H : Hp) (C : Addr) (cl : List (Str × Addr)) (fp : List Addr), XI (X.blk s H scope (compEnvC scope cl C X.env) fp) tg1 iter1 wi1)
    (hg1 : ∀ (s : Shared) (H : Hp) (C : Addr) (cl : List (Str × Addr)) (fp : List Addr), XG (X.blk s H scope (compEnvC scope cl C X.env) fp) tg1 is1 wg1) (ht1 : ∀ (s : Shared) (H : Hp) (C : Addr) (cl : List (Str × Addr)) (fp : List Addr), XTs (X.blk s H scope (compEnvC scope cl C X.env) fp) ifs1 wt1)
    (he : ∀ (s : Shared) (H : Hp) (C : Addr) (cl : List (Str × Addr)) (fp : List Addr), XE (X.blk s H scope (compEnvC scope cl C X.env) fp) elt we) (hs : ∀ x, foldedSetIterable iter X.env x = pure x := by intro _; rfl) (hs1 : ∀ env x, foldedSetIterable iter1 env x = pure x := by intro _ _; rfl) :
    XL X (.ListComp elt [⟨tg, iter, ifs, 0⟩, ⟨tg1, iter1, ifs1, 0⟩] scope pos) (wLc2 (own.map (·.2)) vs1 wi wg wt wi1 wg1 wt1 we) :=
  pe_imp (pe_lc2 (vs1 := vs1) hc hN hi ok hv hg ht hi1 hg1 ht1 he hs hs1) (lc2_of hsub hsub1 hv)
end
/-! sorted(x), x a list of pairs of whole numbers -/
abbrev dPair (p : Int × Int) : PyData := .tuple [.int p.1, .int p.2]
abbrev lePair (p q : Int × Int) : Prop := p.1 < q.1 ∨ (p.1 = q.1 ∧ p.2 ≤ q.2)
@[simp] def wSortP (wa : DE) : DA := fun s Φ => wa s fun x s1 => match x with
  | .list xs => ∃ ps : List (Int × Int), xs = ps.map dPair ∧ ∀ qs : List (Int × Int), qs.Perm ps → qs.Pairwise lePair → Φ (qs.map dPair) s1
  | _ => False
open Classical in
noncomputable def kV (h : Heap) (u : Value) : Int × Int := if e : ∃ p : Int × Int, Srt.IsPair h u p.1 p.2 then e.choose else (0, 0)
theorem isPair_det {h : Heap} {u : Value} {i j m n : Int} (a : Srt.IsPair h u i j) (b : Srt.IsPair h u m n) : i = m ∧ j = n := by
  obtain ⟨a1, o1, t1, u1, n1, e1, g1, c1, d1⟩ := a
  obtain ⟨a2, o2, t2, u2, n2, e2, g2, c2, d2⟩ := b
  rw [e1] at e2
  cases e2
  rw [g1] at g2
  cases g2
  rw [d1] at d2
  injection d2 with d3 _
  have d4 := congrArg Array.toList d3
  simp at d4
  exact ⟨d4.1.1, d4.2.1⟩
theorem kV_eq {h : Heap} {u : Value} {i j : Int} (a : Srt.IsPair h u i j) : kV h u = (i, j) := by
  have e : ∃ p : Int × Int, Srt.IsPair h u p.1 p.2 := ⟨(i, j), a⟩
  unfold kV
  rw [dif_pos e]
  obtain ⟨h1, h2⟩ := isPair_det e.choose_spec a
  exact Prod.ext h1 h2
abbrev ZsOk (K : PySem.W.Frag) (H : Hp) (zs : List (V × (Int × Int))) : Prop := ∀ z ∈ zs, ∃ t, z.1 = V.ref t ∧ SqT K H t [.int z.2.1, .int z.2.2]
def rSortedQ (K : PySem.W.Frag) : List V → Hp → VK → Prop := fun vs H Q => ∃ (a : Addr) (zs : List (V × (Int × Int))), vs = [V.ref a] ∧ SqL K H a (zs.map (·.1)) ∧ ZsOk K H zs ∧
  ∀ (ws : List (V × (Int × Int))) p, ws.Perm zs → (ws.map (·.2)).Pairwise lePair → H p = none → Q (.ref p) (upd H p (.lst (ws.map (·.1))))
theorem zs_back {h : Heap} : ∀ {zs : List (V × (Int × Int))} {its : List Value}, Vals (zs.map (·.1)) its → (∀ z ∈ zs, ∃ t, z.1 = V.ref t ∧ Srt.IsPair h (.ref t) z.2.1 z.2.2) → zs = its.map (fun u => (backV u, kV h u)) ∧ ∀ u ∈ its, (∃ t, u = Value.ref t) ∧ Srt.IsPair h u (kV h u).1 (kV h u).2
  | [], its, r, _ => by
    cases r
    exact ⟨rfl, fun u hu => absurd hu (by simp)⟩
  | z :: zs, its, r, hz => by
    cases r with
    | @cons _ u _ us r1 r2 =>
      obtain ⟨t, e, ip⟩ := hz z List.mem_cons_self
      obtain ⟨h1, h2⟩ := zs_back r2 fun y hy => hz y (List.mem_cons_of_mem _ hy)
      have r1 : RelV z.1 u := r1
      rw [e] at r1
      have eu : u = Value.ref t := r1
      subst eu
      have ek := kV_eq ip
      refine ⟨?_, fun y hy => ?_⟩
      · rw [List.map_cons, ← h1, ek]
        show z :: zs = (V.ref t, _) :: zs
        rw [← e]
      · rcases List.mem_cons.mp hy with e2 | hy
        · rw [e2, ek]
          exact ⟨⟨t, rfl⟩, ip⟩
        · exact h2 y hy
theorem cr_sortedQ {X : Cx} : CallR X (.builtin "sorted") (rSortedQ X.K) := by
  intro pins s σ H vs us Q I r h
  obtain ⟨a, zs, rfl, hs, hx, q⟩ := h
  obtain ⟨its, rv, hl, hz⟩ := I.list hs
  obtain ⟨u, rfl, ru⟩ := vals1 r
  obtain rfl : u = Value.ref a := ru
  have hx' : ∀ z ∈ zs, ∃ t, z.1 = V.ref t ∧ Srt.IsPair s.heap (.ref t) z.2.1 z.2.2 := fun z m => by
    obtain ⟨t, e, ht⟩ := hx z m
    obtain ⟨its2, r2, ⟨o, ho, hc, n, hd⟩, _⟩ := I.tuple ht
    obtain ⟨u1, u2, rfl, ri, rj⟩ := vals2 r2
    obtain ⟨t1, rfl⟩ := ri
    obtain ⟨t2, rfl⟩ := rj
    exact ⟨t, e, t, o, t1, t2, n, rfl, ho, hc, hd⟩
  obtain ⟨e1, e2⟩ := zs_back rv hx'
  refine SrtO.sorted_pairsO (k := kV s.heap) hl.isList (by rw [← rv.length]; exact hz) (fun v hv => (e2 v hv).2) fun h' d out h1 h2 kp hd hn => ?_
  have h3 : ∀ u ∈ out, ∃ a, u = Value.ref a := fun u hu => (e2 u (h2.perm.mem_iff.mp hu)).1
  obtain ⟨n, hn⟩ := hn
  have em : (out.map (fun u => (backV u, kV s.heap u))).map (·.1) = out.map backV := by
    rw [List.map_map]
    rfl
  have key := q (out.map (fun u => (backV u, kV s.heap u))) d (by rw [e1]; exact h2.perm.map _) (by
    rw [List.map_map]
    refine List.pairwise_map.mpr (h1.imp fun {x y} hxy => ?_)
    have a := SrtO.lexB_no.mp hxy
    show lePair (kV s.heap x) (kV s.heap y)
    unfold lePair
    omega) (I.hok.fresh hd)
  rw [em] at key
  refine ⟨.ref d, upd H d (.lst (out.map backV)), I.laid (t' := s.toks) kp hd ⟨?_, out, n, vals_back h3, hn⟩, rfl, key⟩
  have hl2 : (out.map backV).length = (zs.map (·.1)).length := by
    rw [List.length_map, h2.perm.length_eq, rv.length]
  rw [hl2]
  exact hz
theorem dqa_pairs {K : PySem.W.Frag} {F : Hp} : ∀ {vs : List V} {ps : List (Int × Int)}, DqA K F vs (ps.map dPair) → ∃ zs : List (V × (Int × Int)), vs = zs.map (·.1) ∧ ps = zs.map (·.2) ∧ (∀ z ∈ zs, Dq K F z.1 (dPair z.2)) ∧ ZsOk K F zs
  | vs, [], h => by
    cases h
    exact ⟨[], rfl, rfl, fun z m => absurd m (by simp), fun z m => absurd m (by simp)⟩
  | vs, p :: ps, h => by
    cases h with
    | @cons v vs _ _ h1 h2 =>
      obtain ⟨zs, rfl, rfl, h3, h4⟩ := dqa_pairs h2
      refine ⟨(v, p) :: zs, rfl, rfl, fun z m => ?_, fun z m => ?_⟩
      · rcases List.mem_cons.mp m with e | m
        · rw [e]; exact h1
        · exact h3 z m
      · rcases List.mem_cons.mp m with e | m
        · rw [e]
          cases h1 with
          | @tup a xs _ g1 g2 =>
            obtain ⟨v1, v2, rfl, a1, a2⟩ := dqa2 g2
            cases a1
            cases a2
            exact ⟨a, rfl, g1⟩
        · exact h4 z m
theorem dqa_of_zs {K : PySem.W.Frag} {F : Hp} : ∀ {zs : List (V × (Int × Int))}, (∀ z ∈ zs, Dq K F z.1 (dPair z.2)) → DqA K F (zs.map (·.1)) ((zs.map (·.2)).map dPair)
  | [], _ => .nil
  | z :: zs, h => .cons (h z List.mem_cons_self) (dqa_of_zs fun y m => h y (List.mem_cons_of_mem _ m))
section
variable {X : Cx} {pos : Pos}
theorem bb_sorted : bootBuiltins "sorted" = some (.builtin "sorted") := by decide +kernel
theorem xl_sortP {e : Expr} {p : Pos} {wa : DE} (hg : Gl X "sorted") (hm : X.mg "sorted" = none) (ha : XE X e wa) (he : starEach [e] X.env = (false, eval e X.env) :: starEach [] X.env := by rfl) (hpl : (backTo pos (starEach [] X.env)).any (·.1) = false := by rfl) :
    XL X (.Call (.Name "sorted" p) [e] [] pos) (wSortP wa) := pe_imp (pe_callB cr_sortedQ hg hm bb_sorted (pa_cons ha pa_nil he) (by decide) (by decide) he hpl) fun σ H Q h => by
  obtain ⟨G, P, F, s, Φ, R, h, k⟩ := h
  refine ⟨G, P, F, s, _, R, h, fun v F1 H1 s1 x R1 e1 d1 q => ?_⟩
  cases x with
  | list xs =>
    obtain ⟨ps, rfl, q⟩ := q
    cases d1 with
    | @lst a0 vs0 _ h1 h2 =>
      obtain ⟨zs, rfl, rfl, h3, h4⟩ := dqa_pairs h2
      refine ⟨a0, zs, rfl, SqL.of (R1.same _ _ h1), fun z m => ?_, fun ws l pm pw hl => ?_⟩
      · obtain ⟨t, e, ht⟩ := h4 z m
        exact ⟨t, e, same_sqt R1.same ht⟩
      · obtain ⟨R2, n⟩ := nu_new (o := .lst (ws.map (·.1))) R1 hl
        exact k l _ F1 _ s1 _ R2 e1 n upd_same (dqa_of_zs fun z m => h3 z (pm.mem_iff.mp m)) (q (ws.map (·.2)) (pm.map _) pw)
  | _ => exact q.elim
end
end DL
/-! DL: what looks at one's own lists without freezing them; >= of tuples -/
namespace DL
open PySem PySem.Spec PyProof.Rows L2
section
variable {X : Cx} {pos : Pos}
/-- is one's own list not empty -/
@[simp] def wTruO (i : Nat) : DT := fun s Φ => ownAt s i fun xs => Φ (!xs.isEmpty) s
theorem xt_truO {i : Nat} {x : Str} {xp : Pos} (hv : PE X (.Name x xp) (tVar i)) (he : ∀ whole, isTrue (.Name x xp) X.env whole = (do let v ← whole; standAt (Expr.Name x xp).pos; holding [v] (truthy v)) := by intro _; rfl) : XT X (.Name x xp) (wTruO i) :=
  pt_imp (pt_truth hv he) fun σ H Q h => by
    obtain ⟨G, P, F, s, Φ, R, h, k⟩ := h
    obtain ⟨xs, h0, h⟩ := ownAt_of h
    obtain ⟨p, vs, g1, _, _, _, g5, g6⟩ := R.sl i _ h0
    exact ⟨_, g1, _, .inl ⟨_, SqL.of g5, by rw [dqa_empty g6]⟩, k _ F H s R (Same.refl F) h⟩
/-- own == e, own != e -/
@[simp] def wOwnEq (neg : Bool) (i : Nat) (we : DE) : DE := fun s Φ => ownAt s i fun _ => we s fun y s1 => ownAt s1 i fun xs => eqD (.list xs) y ∧ Φ (.bool (if neg then !PyData.eqv (.list xs) y else PyData.eqv (.list xs) y)) s1
theorem own_dp {K : PySem.W.Frag} {G F H : Hp} {P : Option Addr} {σ : L2.St} {s : S} {i : Nat} {xs : List PyData} {a : Addr} (R : Rep K G P F H σ s) (h0 : s.e[i]? = some (.o xs)) (ha : σ[i]? = some (some (.ref a))) (hd : (PyData.list xs).hasDict = false) : Dp K H (.ref a) (.list xs) := by
  obtain ⟨p, vs, g1, _, _, _, g5, g6⟩ := R.sl i _ h0
  rw [ha] at g1
  cases g1
  exact .lst (SqL.of g5) ((g6.mono R.same).dpUp _ _ (by simpa [PyData.hasDict] using hd))
theorem noDict {d : PyData} (h : SeqAt.shaped d = true) : d.hasDict = false := PyData.hasDict_of_canLay _ (SeqAt.canLay_of_shaped h)
theorem xe_ownEq {i : Nat} {x : Str} {xp : Pos} {b : Expr} {wb : DE} (hu : X.A.units + 64 < cLine) (hv : PE X (.Name x xp) (tVar i)) (hb : XE X b wb) (hm : behindInMarks .Eq b = false := by first | exact nobehind _ (by decide) (by decide) | rfl) :
    XE X (.Compare (.Name x xp) [.Eq] [b] pos) (wOwnEq false i wb) := pe_imp (pe_cmpR (op_eqD hu) hv hb hm) fun σ H Q h => by
  obtain ⟨G, P, F, s, Φ, R, h, k⟩ := h
  obtain ⟨xs0, h0, h⟩ := ownAt_of h
  obtain ⟨p, vs, g1, _, _, _, g5, g6⟩ := R.sl i _ h0
  refine ⟨_, g1, G, P, F, s, _, R, h, fun y F2 H2 s2 dy R2 e2 d2 q2 => ?_⟩
  obtain ⟨xs, h1, ⟨sh1, sh2⟩, q2⟩ := ownAt_of q2
  exact ⟨_, _, own_dp R2 h1 g1 (noDict sh1), (d2.mono R2.same).dp (noDict sh2), sh1, sh2, k _ F2 H2 s2 _ R2 e2 (.bl _) q2⟩
theorem xe_ownNe {i : Nat} {x : Str} {xp : Pos} {b : Expr} {wb : DE} (hu : X.A.units + 64 < cLine) (hv : PE X (.Name x xp) (tVar i)) (hb : XE X b wb) (hm : behindInMarks .NotEq b = false := by first | exact nobehind _ (by decide) (by decide) | rfl) :
    XE X (.Compare (.Name x xp) [.NotEq] [b] pos) (wOwnEq true i wb) := pe_imp (pe_cmpR (op_neD hu) hv hb hm) fun σ H Q h => by
  obtain ⟨G, P, F, s, Φ, R, h, k⟩ := h
  obtain ⟨xs0, h0, h⟩ := ownAt_of h
  obtain ⟨p, vs, g1, _, _, _, g5, g6⟩ := R.sl i _ h0
  refine ⟨_, g1, G, P, F, s, _, R, h, fun y F2 H2 s2 dy R2 e2 d2 q2 => ?_⟩
  obtain ⟨xs, h1, ⟨sh1, sh2⟩, q2⟩ := ownAt_of q2
  exact ⟨_, _, own_dp R2 h1 g1 (noDict sh1), (d2.mono R2.same).dp (noDict sh2), sh1, sh2, k _ F2 H2 s2 _ R2 e2 (.bl _) q2⟩
/-! calls that only look: one's own lists as arguments, a flat answer -/
def tAk (K : PySem.W.Frag) (w : DA) : TA := fun σ H Q => ∃ G P F s Φ, Rep K G P F H σ s ∧ w s Φ ∧ ∀ vs F' H' s' xs F2, Rep K G P F' H' σ s' → Same F F' → Same F' F2 → Same F2 H' → DqA K F2 vs xs → Φ xs s' → Q vs H'
abbrev XAk (X : Cx) (es : List Expr) (w : DA) : Prop := PA X es (tAk X.K w)
variable {e : Expr} {es : List Expr}
theorem xk_nil : XAk X [] wNil := pa_imp pa_nil fun σ H Q h => by
  obtain ⟨G, P, F, s, Φ, R, h, k⟩ := h
  exact k [] F H s [] F R (Same.refl F) (Same.refl F) R.same .nil h
theorem xk_cons {wa : DE} {wr : DA} (ha : XE X e wa) (hr : XAk X es wr) (hs : starEach (e :: es) X.env = (false, eval e X.env) :: starEach es X.env := by rfl) : XAk X (e :: es) (wCons wa wr) :=
  pa_imp (pa_cons ha hr hs) fun σ H Q h => by
    obtain ⟨G, P, F, s, Φ, R, h, k⟩ := h
    refine ⟨G, P, F, s, _, R, h, fun x F1 H1 s1 dx R1 e1 d1 h1 => ⟨G, P, F1, s1, _, R1, h1, fun xs F2 H2 s2 ds F3 R2 e2 e3 e4 d2 h2 => ?_⟩⟩
    exact k _ F2 H2 s2 _ F3 R2 (e1.trans e2) e3 e4 (.cons (d1.mono (e2.trans e3)) d2) h2
@[simp] def wConsO (i : Nat) (wr : DA) : DA := fun s Φ => ownAt s i fun xs => wr s fun ds s1 => s1.e[i]? = s.e[i]? ∧ Φ (.list xs :: ds) s1
theorem xk_own {i : Nat} {x : Str} {xp : Pos} {wr : DA} (hv : PE X (.Name x xp) (tVar i)) (hr : XAk X es wr) (hs : starEach (.Name x xp :: es) X.env = (false, eval (.Name x xp) X.env) :: starEach es X.env := by rfl) : XAk X (.Name x xp :: es) (wConsO i wr) :=
  pa_imp (pa_cons hv hr hs) fun σ H Q h => by
    obtain ⟨G, P, F, s, Φ, R, h, k⟩ := h
    obtain ⟨xs, h0, h⟩ := ownAt_of h
    obtain ⟨p, vs, g1, _⟩ := R.sl i _ h0
    refine ⟨_, g1, G, P, F, s, _, R, h, fun us F2 H2 s2 ds F3 R2 e2 e3 e4 d2 h2 => ?_⟩
    obtain ⟨es, h2⟩ := h2
    obtain ⟨p', vs', k1, _, _, _, k5, k6⟩ := R2.sl i _ (es.trans h0)
    rw [g1] at k1
    cases k1
    cases hp : F3 p with
    | none =>
      have e5 : Same F3 (upd F3 p (.lst vs')) := same_new hp
      refine k _ F2 H2 s2 _ (upd F3 p (.lst vs')) R2 e2 (e3.trans e5) (fun b o q => ?_) (.cons (.lst upd_same (k6.mono (e3.trans e5))) (d2.mono e5)) h2
      by_cases hb : b = p
      · rw [hb, upd_same] at q
        cases q
        rw [hb]
        exact k5
      · rw [upd_ne hb] at q
        exact e4 b o q
    | some o =>
      have ho := e4 p o hp
      rw [k5] at ho
      cases ho
      exact k _ F2 H2 s2 _ F3 R2 e2 e3 e4 (.cons (.lst hp (k6.mono e3)) d2) h2
theorem flat_up {K : PySem.W.Frag} {F F' : Hp} {v : V} {d : PyData} (h : Dq K F v d) (f : flatD d = true) : Dq K F' v d := by
  cases h with
  | non => exact .non
  | bl b => exact .bl b
  | int i => exact .int i
  | str x => exact .str x
  | _ => cases f
@[simp] def wCallK (sp : DSp) (wa : DA) : DE := fun s Φ => wa s fun ds s1 => sp ds fun r => flatD r = true ∧ Φ r s1
theorem xe_callK {k : Nat} {f : Addr} {fd : FuncData} {ps : List Str} {x : Str} {p : Pos} {sp : DSp} {wa : DA} (F : FnG X.prog X.w X.K X.mg X.base CX0 k f fd ps (spD X.K sp)) (hgd : X.A.guards = some []) (hr : Room k X.A) (hg : Gl X x) (hm : X.mg x = some (.ref f)) (hk : PySem.W.keepIn X.K (.ref f) = true) (hb : Binds X.K fd ps [])
    (ha : XAk X (e :: es) wa) (hdb : (x == ("__debug__" : Str)) = false := by decide) (he : starEach (e :: es) X.env = (false, eval e X.env) :: starEach es X.env := by rfl) (hpl : (backTo pos (starEach es X.env)).any (·.1) = false := by rfl) :
    XE X (.Call (.Name x p) (e :: es) [] pos) (wCallK sp wa) := pe_imp (pe_callG F hgd hr hg hm hk hb .nil pass0 ha hdb he hpl) fun σ H Q h => by
  obtain ⟨G, P, F, s, Φ, R, h, kk⟩ := h
  refine ⟨G, P, F, s, _, R, h, fun vs F1 H1 s1 ds F2 R1 e1 e2 e3 d1 q => ?_⟩
  show spD X.K sp (vs ++ []) H1 Q E0
  rw [List.append_nil]
  refine ⟨F2, ds, _, e3, d1, q, fun v F' H' x fr dx qx => ?_⟩
  have f0 : Fresh F1 H1 F1 H' := ⟨Same.refl F1, R1.same.trans fr.hh, fr.hh, fun _ _ _ n => n⟩
  exact kk v F1 H' s1 x (R1.fresh f0) e1 (flat_up dx qx.1) qx.2
theorem c_callK {k kX : Nat} {x : Str} {ps : List Str} {p : Pos} {sp : DSp} {wa : DA} (C : Ca X.prog X.w X.K X.mg X.base k x ps (spD X.K sp)) (hgd : X.A.guards = some []) (hr : Room kX X.A) (hk : k ≤ kX) (hg : Gl X x) (ha : XAk X (e :: es) wa)
    (hdb : (x == ("__debug__" : Str)) = false := by decide) (he : starEach (e :: es) X.env = (false, eval e X.env) :: starEach es X.env := by rfl) (hpl : (backTo pos (starEach es X.env)).any (·.1) = false := by rfl) : XE X (.Call (.Name x p) (e :: es) [] pos) (wCallK sp wa) := by
  obtain ⟨f, fd, F, gm, kp, b⟩ := C.ex
  exact xe_callK F hgd (hr.mono hk) hg gm kp b ha hdb he hpl
/-- a new list, one of two -/
@[simp] def wIfL (t : DT) (w u : DA) : DA := fun s Φ => t s fun b s1 => if b = true then w s1 Φ else u s1 Φ
theorem xl_if {c a b : Expr} {t : DT} {w u : DA} (hc : XT X c t) (ha : XL X a w) (hb : XL X b u) : XL X (.IfExp c a b pos) (wIfL t w u) := pe_imp (pe_ifExp hc ha hb) fun σ H Q h => by
  obtain ⟨G, P, F, s, Φ, R, h, k⟩ := h
  refine ⟨G, P, F, s, _, R, h, fun b F1 H1 s1 R1 e1 h1 => ?_⟩
  cases b with
  | true =>
    rw [if_pos rfl] at h1 ⊢
    exact ⟨G, P, F1, s1, _, R1, h1, fun p vs F2 H2 s2 xs R2 e2 n hp d2 h2 => k p vs F2 H2 s2 xs R2 (e1.trans e2) n hp d2 h2⟩
  | false =>
    rw [if_neg Bool.false_ne_true] at h1 ⊢
    exact ⟨G, P, F1, s1, _, R1, h1, fun p vs F2 H2 s2 xs R2 e2 n hp d2 h2 => k p vs F2 H2 s2 xs R2 (e1.trans e2) n hp d2 h2⟩
/-! the same as tests -/
theorem xt_ownEq {i : Nat} {x : Str} {xp : Pos} {b : Expr} {wb : DE} (hu : X.A.units + 64 < cLine) (hv : PE X (.Name x xp) (tVar i)) (hb : XE X b wb) (hm : behindInMarks .Eq b = false := by first | exact nobehind _ (by decide) (by decide) | rfl) :
    XT X (.Compare (.Name x xp) [.Eq] [b] pos) (wTst (wOwnEq false i wb)) := pt_imp (pt_cmpR (op_eqD hu) hv hb hm) fun σ H Q h => by
  obtain ⟨G, P, F, s, Φ, R, h, k⟩ := tst_of σ H Q h
  obtain ⟨xs0, h0, h⟩ := ownAt_of h
  obtain ⟨p, vs, g1, _, _, _, g5, g6⟩ := R.sl i _ h0
  refine ⟨_, g1, G, P, F, s, _, R, h, fun y F2 H2 s2 dy R2 e2 d2 q2 => ?_⟩
  obtain ⟨xs, h1, ⟨sh1, sh2⟩, q2⟩ := ownAt_of q2
  exact ⟨_, _, own_dp R2 h1 g1 (noDict sh1), (d2.mono R2.same).dp (noDict sh2), sh1, sh2, k _ F2 H2 s2 _ R2 e2 (.bl _) q2⟩
theorem xt_ownNe {i : Nat} {x : Str} {xp : Pos} {b : Expr} {wb : DE} (hu : X.A.units + 64 < cLine) (hv : PE X (.Name x xp) (tVar i)) (hb : XE X b wb) (hm : behindInMarks .NotEq b = false := by first | exact nobehind _ (by decide) (by decide) | rfl) :
    XT X (.Compare (.Name x xp) [.NotEq] [b] pos) (wTst (wOwnEq true i wb)) := pt_imp (pt_cmpR (op_neD hu) hv hb hm) fun σ H Q h => by
  obtain ⟨G, P, F, s, Φ, R, h, k⟩ := tst_of σ H Q h
  obtain ⟨xs0, h0, h⟩ := ownAt_of h
  obtain ⟨p, vs, g1, _, _, _, g5, g6⟩ := R.sl i _ h0
  refine ⟨_, g1, G, P, F, s, _, R, h, fun y F2 H2 s2 dy R2 e2 d2 q2 => ?_⟩
  obtain ⟨xs, h1, ⟨sh1, sh2⟩, q2⟩ := ownAt_of q2
  exact ⟨_, _, own_dp R2 h1 g1 (noDict sh1), (d2.mono R2.same).dp (noDict sh2), sh1, sh2, k _ F2 H2 s2 _ R2 e2 (.bl _) q2⟩
theorem chain_of {K : PySem.W.Frag} {r r' : R2} {w w' : W2} {wa wb wc : DE} (O : Op2 K r w) (O' : Op2 K r' w') (σ : L2.St) (H : Hp) (Q : VK) (h : tE K (wChain w w' wa wb wc) σ H Q) : tChain r r' (tE K wa) (tE K wb) (tE K wc) σ H Q := by
  obtain ⟨G, P, F, s, Φ, R, h, k⟩ := h
  refine ⟨G, P, F, s, _, R, h, fun x F1 H1 s1 dx R1 e1 d1 q1 => ⟨G, P, F1, s1, _, R1, q1, fun y F2 H2 s2 dy R2 e2 d2 q2 => ?_⟩⟩
  refine O.run _ _ R2.same (d1.mono e2) d2 q2 fun z F3 H3 dz f dzz q3 => ?_
  have R3 := R2.fresh f
  cases dz with
  | bool t =>
    cases dzz
    refine ⟨t, rfl, ?_⟩
    cases t with
    | true =>
      dsimp only at q3
      rw [if_pos rfl] at q3 ⊢
      refine ⟨G, P, F3, s2, _, R3, q3, fun u F4 H4 s4 du R4 e4 d4 q4 => ?_⟩
      exact O'.run _ _ R4.same (d2.mono (f.ff.trans e4)) d4 q4 fun z2 F5 H5 d5 f5 dq5 q5 => k z2 F5 H5 s4 d5 (R4.fresh f5) ((((e1.trans e2).trans f.ff).trans e4).trans f5.ff) dq5 q5
    | false =>
      dsimp only at q3
      rw [if_neg Bool.false_ne_true] at q3 ⊢
      exact k _ F3 H3 s2 _ R3 ((e1.trans e2).trans f.ff) (.bl false) q3
  | _ => exact q3.elim
theorem xt_chain {a b c : Expr} {op op' : CmpOp} {r r' : R2} {w w' : W2} {wa wb wc : DE} (ho : OpR X (compareOp op) r) (O : Op2 X.K r w) (ho' : OpR X (compareOp op') r') (O' : Op2 X.K r' w') (ha : XE X a wa) (hb : XE X b wb) (hc : XE X c wc) (hm : lastMarks [op, op'] [b, c] = false := by with_unfolding_all rfl) :
    XT X (.Compare a [op, op'] [b, c] pos) (wTst (wChain w w' wa wb wc)) := pt_imp (pt_chain ho ho' ha hb hc hm) fun σ H Q h => chain_of O O' σ H _ (tst_of σ H Q h)
end
end DL
/-! DL: >= of pairs of ints -/
namespace DL
open PySem PySem.Spec PyProof.Rows L2
section
variable {X : Cx} {pos : Pos}
def rGePair (K : PySem.W.Frag) : R2 := fun x y H Q => ∃ (a b : Addr) (i j m n : Int), x = .ref a ∧ y = .ref b ∧ SqT K H a [.int i, .int j] ∧ SqT K H b [.int m, .int n] ∧ Q (.bl (if i = m then decide (n ≤ j) else decide (m ≤ i))) H
theorem beq_dec (c d : Int) : (c == d) = decide (c = d) := by
  by_cases z : c = d
  · rw [decide_eq_true z, z, beq_self_eq_true]
  · rw [decide_eq_false z, beq_eq_false_iff_ne.mpr z]
theorem lex_pair (i j m n : Int) : Ob.lexAt (fun c => if c = 0 then decide (i = m) else decide (j = n)) (fun c => if c = 0 then decide (m ≤ i) else decide (n ≤ j)) true 0 2 = if i = m then decide (n ≤ j) else decide (m ≤ i) := by
  rw [Ob.lexAt_succ, Ob.lexAt_succ, Ob.lexAt_zero]
  by_cases z : i = m
  · rw [if_pos z]
    by_cases z2 : j = n
    · simp [z, z2]
    · simp [z, z2]
  · rw [if_neg z]
    simp [z]
theorem opr_gePair (hu : X.A.units < cLine) : OpR X (compareOp .GtE) (rGePair X.K) := by
  intro pins s σ H x y v u Q I rx ry h
  obtain ⟨a, b, i, j, m, n, hx, hy, ha, hb, q⟩ := h
  subst hx
  subst hy
  have ev : v = Value.ref a := rx
  have eu : u = Value.ref b := ry
  subst ev
  subst eu
  obtain ⟨is, r1, t1, _⟩ := I.tuple ha
  obtain ⟨js, r2, t2, _⟩ := I.tuple hb
  obtain ⟨v1, v2, e1, q1, q2⟩ := Vals.two r1
  obtain ⟨u1, u2, e2, q3, q4⟩ := Vals.two r2
  subst e1
  subst e2
  obtain ⟨k1, rfl⟩ := q1
  obtain ⟨k2, rfl⟩ := q2
  obtain ⟨k3, rfl⟩ := q3
  obtain ⟨k4, rfl⟩ := q4
  have key := Ob.RcOp.tuples_ge (A := X.A) (s := s) (e := fun c => if c = 0 then decide (i = m) else decide (j = n)) (r := fun c => if c = 0 then decide (m ≤ i) else decide (n ≤ j)) t1 t2 hu (fun c h1 h2 => by
    have hc : c = 0 ∨ c = 1 := by
      have h3 : c < 2 := h1
      omega
    rcases hc with rfl | rfl
    · show SeqAt.EqAt _ _ (Value.int i k1) (Value.int m k3) (decide (i = m))
      rw [← beq_dec]
      exact SeqAt.EqAt.int_int _ _ _ _
    · show SeqAt.EqAt _ _ (Value.int j k2) (Value.int n k4) (decide (j = n))
      rw [← beq_dec]
      exact SeqAt.EqAt.int_int _ _ _ _) (fun c h1 h2 _ => by
    have hc : c = 0 ∨ c = 1 := by
      have h3 : c < 2 := h1
      omega
    rcases hc with rfl | rfl
    · exact Ob.RcOp.ge_int i m k1 k3
    · exact Ob.RcOp.ge_int j n k2 k4)
  have key2 := key X.prog X.w X.xe (EP X pins σ Q)
  have e5 : Ob.lexAt (fun c => if c = 0 then decide (i = m) else decide (j = n)) (fun c => if c = 0 then decide (m ≤ i) else decide (n ≤ j)) (decide ((#[Value.int i k1, Value.int j k2] : Array Value).size ≥ (#[Value.int m k3, Value.int n k4] : Array Value).size)) 0 (min (#[Value.int i k1, Value.int j k2] : Array Value).size (#[Value.int m k3, Value.int n k4] : Array Value).size) = if i = m then decide (n ≤ j) else decide (m ≤ i) := lex_pair i j m n
  rw [e5] at key2
  exact key2 ⟨.bl _, H, I, rfl, q⟩
@[simp] def wGePair : W2 := fun x y Φ => ∃ i j m n : Int, x = .tuple [.int i, .int j] ∧ y = .tuple [.int m, .int n] ∧ Φ (.bool (if i = m then decide (n ≤ j) else decide (m ≤ i)))
theorem o_gePair {K : PySem.W.Frag} : Op2 K (rGePair K) wGePair := ⟨fun {F H x y dx dy} Q Φ s d1 d2 w k => by
  obtain ⟨i, j, m, n, rfl, rfl, w⟩ := w
  cases d1 with
  | tup h1 h2 =>
    cases d2 with
    | tup h3 h4 =>
      obtain ⟨v1, v2, rfl, a1, a2⟩ := dqa2 h2
      obtain ⟨u1, u2, rfl, b1, b2⟩ := dqa2 h4
      cases a1
      cases a2
      cases b1
      cases b2
      exact ⟨_, _, _, _, _, _, rfl, rfl, same_sqt s h1, same_sqt s h3, k _ F H _ (Fresh.refl s) (.bl _) w⟩⟩
end
end DL
/-! DL: general lemmas for laws -/
namespace DL
open PySem PySem.Spec PyProof.Rows L2
theorem emod_le' {a m : Int} (h : 0 ≤ a) (hm : 0 < m) : a % m ≤ a := by
  have e := Int.mul_ediv_add_emod a m
  have q : 0 ≤ a / m := Int.ediv_nonneg h (by omega)
  have q2 : 0 ≤ m * (a / m) := Int.mul_nonneg (by omega) q
  omega
theorem take_snoc {α : Type} {xs : List α} {i : Nat} {x : α} (h : xs[i]? = some x) : xs.take (i + 1) = xs.take i ++ [x] := by
  rw [List.take_add_one, h]
  rfl
theorem cutD_1 (x : PyData) (xs : List PyData) (hl : xs.length ≤ 1000000): DL.cutD (x :: xs) (some 1) none = xs := by
  have e : min 1 (xs.length + 1) = 1 := by omega
  simp [DL.cutD, HT.sIx, e]
theorem mem_signs {z : Str} {c : Nat} : inF (.str ⟨#[c]⟩) (signsOf z) = true ↔ c ∈ z.cps.toList := by
  unfold inF signsOf
  rw [List.any_eq_true]
  constructor
  · rintro ⟨y, hy, h⟩
    obtain ⟨d, hd, rfl⟩ := List.mem_map.mp hy
    have : (⟨#[d]⟩ : Str) = ⟨#[c]⟩ := by simpa [eqF] using h
    cases this
    exact hd
  · intro h
    exact ⟨_, List.mem_map.mpr ⟨c, h, rfl⟩, by simp [eqF]⟩
theorem not_mem_signs {z : Str} {s : Str} (h : ∀ c, s ≠ ⟨#[c]⟩) : inF (.str s) (signsOf z) = false := by
  unfold inF signsOf
  rw [List.any_eq_false]
  intro y hy
  obtain ⟨d, hd, rfl⟩ := List.mem_map.mp hy
  intro e
  exact h d (by simpa [eqF] using e : (⟨#[d]⟩ : Str) = s).symm
theorem signs_flat (z : Str) : (signsOf z).all flatD = true := by
  unfold signsOf
  rw [List.all_map]
  exact List.all_eq_true.mpr fun x _ => rfl
theorem sIx_in {n d : Nat} {v : Int} (h0 : 0 ≤ v) (h1 : v ≤ n) : HT.sIx n d (some v) = v.toNat := by
  unfold HT.sIx
  simp only
  rw [if_neg (by omega)]
  omega
theorem sIx_over {n d : Nat} {v : Int} (h0 : 0 ≤ v) (h1 : n ≤ v) : HT.sIx n d (some v) = n := by
  unfold HT.sIx
  simp only
  rw [if_neg (by omega)]
  omega
theorem slice_sign {w : Str} {i : Nat} (h : i < w.length) : cutS w (some (i : Int)) (some ((i : Int) + 1)) = ⟨#[w.cps[i]'h]⟩ := by
  unfold cutS
  rw [sIx_in (n := w.length) (by omega) (by omega), sIx_in (n := w.length) (by omega) (by omega)]
  have e1 : ((i : Int) + 1).toNat - (i : Int).toNat = 1 := by omega
  have e2 : (i : Int).toNat = i := by omega
  have hl : i < w.cps.toList.length := by rw [Array.length_toList]; exact h
  rw [e1, e2, List.drop_eq_getElem_cons hl]
  simp
  rfl
theorem slice_end {w : Str} : cutS w (some (w.length : Int)) (some ((w.length : Int) + 1)) = ⟨#[]⟩ := by
  unfold cutS
  rw [sIx_in (n := w.length) (v := (w.length : Int)) (by omega) (by omega), sIx_over (n := w.length) (by omega) (by omega)]
  simp
theorem lc_mapl {α : Type} {vs : List Nat} {e0 : List Sl} {wg : DG} {we : DE} {Φ : List PyData → List Int → Prop} (l : List α) (F G : α → PyData) {q : List Int} (hl : l.length ≤ 16777216)
    (hs : ∀ a, a ∈ l → ∀ Θ : S → PyData → S → Prop, (∀ s1 s3, s3.e = s1.e → s3.q = q → Θ s1 (G a) s3) → wg (F a) ⟨wipeE e0 vs, q⟩ fun s1 => wipeE s1.e vs = wipeE e0 vs ∧ we s1 (Θ s1))
    (hd : Φ (l.map G) q) : lcW vs e0 wg wYes we Φ (l.map F) [] q := by
  refine lc_inv (l.map F) (fun pre acc q' => acc = (l.take pre.length).map G ∧ q' = q) ⟨rfl, rfl⟩ (fun pre x post acc q' e h Ψ k => ?_) (fun acc q' h => by rw [h.1, h.2, List.length_map, List.take_length]; exact hd)
  obtain ⟨rfl, rfl⟩ := h
  have hx : (l.map F)[pre.length]? = some x := by rw [e]; simp
  rw [List.getElem?_map] at hx
  cases ha : l[pre.length]? with
  | none =>
    rw [ha] at hx
    cases hx
  | some a =>
    rw [ha] at hx
    cases hx
    have hlen : ((l.take pre.length).map G).length < sizeLine := sz_lt (by
      have := (List.getElem?_eq_some_iff.mp ha).1
      rw [List.length_map, List.length_take]
      omega)
    have r := hs a (List.mem_of_getElem? ha) (fun s1 y s3 => s3.e = s1.e ∧ ((l.take pre.length).map G).length < sizeLine ∧ Ψ ((l.take pre.length).map G ++ [y]) s3.q)
      (fun s1 s3 h1 h2 => ⟨h1, hlen, k _ _ ⟨by rw [List.length_append, List.length_singleton, take_snoc ha, List.map_append]; rfl, h2⟩⟩)
    simp only [wYes, true_and, if_true]
    exact r
theorem lc_filt {vs : List Nat} {e0 : List Sl} {wg : DG} {wt : DT} {we : DE} {Φ : List PyData → List Int → Prop} {lo : Int} {n : Nat} (p : Nat → Bool) (F : Nat → PyData) {q : List Int} (hl : n ≤ 16777216)
    (hs : ∀ i, i < n → ∀ (Y : S → PyData → S → Prop) (N : S → Prop), (p i = true → ∀ s1 s3, s3.e = s1.e → s3.q = q → Y s1 (F i) s3) → (p i = false → ∀ s2, s2.q = q → N s2) →
      wg (.int (lo + (i : Int))) ⟨wipeE e0 vs, q⟩ fun s1 => wipeE s1.e vs = wipeE e0 vs ∧ wt s1 fun b s2 => s2.e = s1.e ∧ if b = true then we s2 (Y s1) else N s2)
    (hd : Φ (((List.range n).filter p).map F) q) : lcW vs e0 wg wt we Φ (rangeD lo n) [] q := by
  refine lc_inv (rangeD lo n) (fun pre acc q' => acc = ((List.range pre.length).filter p).map F ∧ q' = q) ⟨rfl, rfl⟩ (fun pre x post acc q' e h Ψ k => ?_) (fun acc q' h => by rw [h.1, h.2, rangeD_len]; exact hd)
  obtain ⟨rfl, rfl⟩ := h
  have hx : (rangeD lo n)[pre.length]? = some x := by rw [e]; simp
  obtain ⟨hi, rfl⟩ := rangeD_get hx
  have hlen : (((List.range pre.length).filter p).map F).length < sizeLine := sz_lt (by
    have := List.length_filter_le p (List.range pre.length)
    rw [List.length_map]
    rw [List.length_range] at this
    omega)
  refine hs pre.length hi (fun s1 y s3 => s3.e = s1.e ∧ (((List.range pre.length).filter p).map F).length < sizeLine ∧ Ψ (((List.range pre.length).filter p).map F ++ [y]) s3.q) (fun s2 => Ψ (((List.range pre.length).filter p).map F) s2.q)
    (fun hp s1 s3 h1 h2 => ⟨h1, hlen, k _ _ ⟨?_, h2⟩⟩) (fun hp s2 h2 => k _ _ ⟨?_, h2⟩)
  · rw [List.length_append, List.length_singleton, List.range_succ, List.filter_append, List.map_append]
    simp [hp]
  · rw [List.length_append, List.length_singleton, List.range_succ, List.filter_append, List.map_append]
    simp [hp]
/-! sums -/
theorem sum_filter {α : Type} (p : α → Bool) (f : α → Nat) : ∀ l : List α, (∀ a, a ∈ l → p a = false → f a = 0) → ((l.filter p).map f).sum = (l.map f).sum
  | [], _ => rfl
  | a :: l, h => by
    have ih := sum_filter p f l fun b hb => h b (List.mem_cons_of_mem _ hb)
    cases hp : p a
    · rw [List.filter_cons_of_neg (by simp [hp]), ih, List.map_cons, List.sum_cons, h a List.mem_cons_self hp, Nat.zero_add]
    · rw [List.filter_cons_of_pos hp, List.map_cons, List.sum_cons, ih, List.map_cons, List.sum_cons]
def sumN (n : Nat) (f : Nat → Nat) : Nat := ((List.range n).map f).sum
theorem sumN_succ (n : Nat) (f : Nat → Nat) : sumN (n + 1) f = sumN n f + f n := by
  unfold sumN
  rw [List.range_succ, List.map_append, List.sum_append]
  simp
theorem sumN_zero {f : Nat → Nat} : ∀ {n : Nat}, sumN n f ≠ 0 ↔ ∃ i, i < n ∧ f i ≠ 0
  | 0 => ⟨fun h => absurd rfl h, fun ⟨i, h, _⟩ => by omega⟩
  | n + 1 => by
    rw [sumN_succ]
    constructor
    · intro h
      by_cases h0 : f n = 0
      · obtain ⟨i, h1, h2⟩ := sumN_zero.mp (show sumN n f ≠ 0 by omega)
        exact ⟨i, by omega, h2⟩
      · exact ⟨n, by omega, h0⟩
    · rintro ⟨i, h1, h2⟩
      by_cases h0 : i = n
      · subst h0
        omega
      · have := sumN_zero.mpr ⟨i, show i < n by omega, h2⟩
        omega
theorem succ_le_pow (L : Nat) : L + 1 ≤ 2 ^ L := Nat.lt_two_pow_self
theorem sum_cast {α : Type} (f : α → Nat) (l : List α) : (l.map fun a => ((f a : Nat) : Int)).sum = ((l.map f).sum : Nat) := by
  induction l with
  | nil => rfl
  | cons a l ih => rw [List.map_cons, List.sum_cons, ih, List.map_cons, List.sum_cons, Int.natCast_add]
def delta (b e : Nat) : Nat := if b = e then 1 else 0
theorem delta_int (b e : Nat) : (if (b : Int) = (e : Int) then (1 : Int) else 0) = ((delta b e : Nat) : Int) := by
  unfold delta
  by_cases h : b = e
  · rw [if_pos h, if_pos (by omega)]
    rfl
  · rw [if_neg h, if_neg (by omega)]
    rfl
theorem pick_go {m : Int} {q : List Int} {Φ : PyData → List Int → Prop} (hm : 0 < m) (hq : PoolOk q) (h : ∀ (n : Nat) q', PoolOk q' → (n : Int) < m → n < 60 → Φ (.int (n : Nat)) q') : sp_pick [.int m] q Φ :=
  ⟨m, rfl, hm, hq, fun n q' hq' h0 h1 h2 => by
    obtain ⟨k, rfl⟩ := Int.eq_ofNat_of_zero_le h0
    exact h k q' hq' h1 (by omega)⟩
theorem join_foldl (acc : Array Nat) : ∀ zs : List Str, (zs.foldl (fun acc p => acc ++ (#[] : Array Nat) ++ p.cps) acc).toList = acc.toList ++ (zs.map fun z => z.cps.toList).flatten
  | [] => by simp
  | z :: zs => by
    rw [List.foldl_cons, join_foldl _ zs]
    simp
theorem join_cps (zs : List Str) : (Txt.join (Str.ofString "") zs).cps.toList = (zs.map fun z => z.cps.toList).flatten := by
  have e : (Str.ofString "").cps = #[] := by decide +kernel
  show (List.foldl (fun acc p => acc ++ (Str.ofString "").cps ++ p.cps) (zs.headD Str.empty).cps (zs.drop 1)).toList = _
  rw [e, join_foldl]
  cases zs with
  | nil => rfl
  | cons z zs => rfl
theorem join_len (zs : List Str) : (Txt.join (Str.ofString "") zs).length = (zs.map fun z => z.length).sum := by
  have h := congrArg List.length (join_cps zs)
  rw [Array.length_toList, List.length_flatten, List.map_map] at h
  rw [show (Txt.join (Str.ofString "") zs).length = (Txt.join (Str.ofString "") zs).cps.size from rfl, h]
  congr 1
theorem empty_len : (Str.ofString "").length = 0 := by decide +kernel
def sg (c : Nat) : Str := ⟨#[c]⟩
theorem sg_len (c : Nat) : (sg c).length = 1 := rfl
theorem sum_le {l : List Nat} {m : Nat} (h : ∀ a, a ∈ l → a ≤ m) : l.sum ≤ l.length * m := by
  induction l with
  | nil => exact Nat.zero_le _
  | cons a l ih =>
    rw [List.sum_cons, List.length_cons, Nat.succ_mul]
    have h1 := h a List.mem_cons_self
    have h2 := ih fun b hb => h b (List.mem_cons_of_mem _ hb)
    omega
theorem join_signs (cs : List Nat) : (Txt.join (Str.ofString "") (cs.map sg)).cps.toList = cs := by
  rw [join_cps, List.map_map]
  induction cs with
  | nil => rfl
  | cons c cs ih =>
    rw [List.map_cons, List.flatten_cons, ih]
    rfl
theorem str_at {z : Str} {n : Nat} (h : n < z.length) : atI z.cps.toList (n : Int) = some (z.cps[n]'h) := by
  rw [DL.atI_nat (by rw [Array.length_toList]; exact h), Array.getElem?_toList]
  exact Array.getElem?_eq_getElem h
theorem str_mem {z : Str} {n : Nat} (h : n < z.length) : z.cps[n]'h ∈ z.cps.toList := by
  rw [Array.mem_toList_iff]
  exact Array.getElem_mem h
theorem lay_signs : ∀ cs : List Nat, (∀ c, c ∈ cs → c < 1114112) → PyData.canLayAll0 (cs.map fun c => PyData.str (sg c)) = true
  | [], _ => rfl
  | c :: cs, h => by
    rw [List.map_cons]
    show (PyData.canLay0 (.str (sg c)) && PyData.canLayAll0 _) = true
    rw [lay_signs cs fun d hd => h d (List.mem_cons_of_mem _ hd), Bool.and_true]
    have := h c List.mem_cons_self
    simp [PyData.canLay0, PyData.strOk, sg]
    exact this
theorem depth_strs : ∀ zs : List Str, PyData.depthAll (zs.map PyData.str) ≤ 1
  | [] => by simp [PyData.depthAll]
  | z :: zs => by
    have := depth_strs zs
    rw [List.map_cons]
    simp only [PyData.depthAll, PyData.depth]
    omega
theorem shaped_signs (cs : List Nat) (h : ∀ c, c ∈ cs → c < 1114112) : SeqAt.shaped (.list (cs.map fun c => PyData.str (sg c))) = true := by
  unfold SeqAt.shaped
  have h1 : PyData.canLay0 (.list (cs.map fun c => PyData.str (sg c))) = true := lay_signs cs h
  rw [h1, Bool.true_and, decide_eq_true_eq]
  have h2 := depth_strs (cs.map sg)
  rw [List.map_map] at h2
  have h3 : (PyData.list (cs.map fun c => PyData.str (sg c))).depth ≤ 1 + PyData.depthAll (cs.map fun c => PyData.str (sg c)) := by
    simp only [PyData.depth]
    omega
  exact Nat.le_trans h3 (Nat.le_trans (Nat.add_le_add_left h2 1) (by decide))
theorem cutS_to {w : Str} {v : Int} (h : 0 ≤ v) : (cutS w none (some v)).length = min v.toNat w.length := by
  unfold cutS HT.sIx
  simp only
  rw [if_neg (by omega)]
  show (List.take _ (List.drop 0 w.cps.toList)).toArray.size = _
  rw [List.size_toArray, List.drop_zero, List.length_take, Array.length_toList]
  show min (min v.toNat w.length - 0) w.length = _
  omega
theorem cutS_from {w : Str} {v : Int} (h : 0 ≤ v) : (cutS w (some v) none).length = w.length - min v.toNat w.length := by
  unfold cutS HT.sIx
  simp only
  rw [if_neg (by omega)]
  show (List.take _ (List.drop _ w.cps.toList)).toArray.size = _
  rw [List.size_toArray, List.length_take, List.length_drop, Array.length_toList]
  show min (w.length - min v.toNat w.length) (w.length - min v.toNat w.length) = _
  omega
theorem abc_cps : (Str.ofString "abcdefghijklmnopqrstuvwxyz").cps.toList = (List.range 26).map fun t => 97 + t := by decide +kernel
theorem abc_at {t : Nat} (h : t < 26) : atI (Str.ofString "abcdefghijklmnopqrstuvwxyz").cps.toList (t : Int) = some (97 + t) := by
  rw [abc_cps, DL.atI_nat (by rw [List.length_map, List.length_range]; exact h), List.getElem?_map, List.getElem?_range h]
  rfl
theorem odd_at {i : Nat} (h : i < 6) : atI [PyData.int 1, .int 3, .int 5, .int 7, .int 9, .int 11] (i : Int) = some (.int ((2 * i + 1 : Nat) : Int)) := by
  rw [DL.atI_nat (by simpa using h)]
  have h6 : i = 0 ∨ i = 1 ∨ i = 2 ∨ i = 3 ∨ i = 4 ∨ i = 5 := by omega
  rcases h6 with rfl | rfl | rfl | rfl | rfl | rfl <;> rfl
structure Shw (s p : Nat) (x : PyData) : Prop where
  ok : x.showable = true
  nd : x.hasDict = false
  dp : x.depth ≤ p
  le : x.shown.length ≤ s
structure ShwA (s p : Nat) (xs : List PyData) : Prop where
  ok : PyData.showableAll xs = true
  nd : PyData.hasDictAll xs = false
  dp : PyData.depthAll xs ≤ p
  le : piled (PyData.shownAll xs) ≤ s
theorem shwA_nil (p : Nat) : ShwA 0 p [] := ⟨rfl, rfl, Nat.zero_le _, Nat.le_refl _⟩
theorem shwA_cons {s t p : Nat} {x : PyData} {xs : List PyData} (h : Shw s p x) (g : ShwA t p xs) : ShwA (s + 2 + t) p (x :: xs) where
  ok := by
    show (x.showable && PyData.showableAll xs) = true
    rw [h.ok, g.ok]
    rfl
  nd := by
    show (x.hasDict || PyData.hasDictAll xs) = false
    rw [h.nd, g.nd]
    rfl
  dp := Nat.max_le.mpr ⟨h.dp, g.dp⟩
  le := by
    show piled (x.shown :: PyData.shownAll xs) ≤ _
    rw [piled_cons]
    have := h.le
    have := g.le
    omega
theorem shwA_all {s p : Nat} : ∀ {xs : List PyData}, (∀ x, x ∈ xs → Shw s p x) → ShwA (xs.length * (s + 2)) p xs
  | [], _ => by
    rw [List.length_nil, Nat.zero_mul]
    exact shwA_nil p
  | x :: xs, h => by
    rw [List.length_cons, Nat.succ_mul, Nat.add_comm]
    exact shwA_cons (h x List.mem_cons_self) (shwA_all fun y hy => h y (List.mem_cons_of_mem _ hy))
theorem shw_mono {s t p r : Nat} {x : PyData} (h : Shw s p x) (a : s ≤ t) (b : p ≤ r) : Shw t r x := ⟨h.ok, h.nd, Nat.le_trans h.dp b, Nat.le_trans h.le a⟩
theorem shw_list {s p : Nat} {xs : List PyData} (h : ShwA s p xs) : Shw (s + 2) (p + 1) (.list xs) where
  ok := h.ok
  nd := h.nd
  dp := Nat.succ_le_succ h.dp
  le := by
    show (textFrom 0 "[" (PyData.shownAll xs) ++ ("]" : Str)).length ≤ _
    rw [Str.length_append]
    have h1 := textFrom_len_le (PyData.shownAll xs) 0 "["
    have h2 := h.le
    have h3 : piled (PyData.shownAll xs) = ((PyData.shownAll xs).map (·.length)).sum + 2 * (PyData.shownAll xs).length := by
      unfold piled
      induction PyData.shownAll xs with
      | nil => rfl
      | cons a l ih =>
        rw [List.map_cons, List.sum_cons, ih, List.map_cons, List.sum_cons, List.length_cons]
        omega
    have h4 : ("[" : Str).length = 1 := by decide +kernel
    have h5 : ("]" : Str).length = 1 := by decide +kernel
    omega
theorem shw_tuple {s p : Nat} {x : PyData} {xs : List PyData} (h : ShwA s p (x :: xs)) : Shw (s + 1) (p + 1) (.tuple (x :: xs)) where
  ok := h.ok
  nd := h.nd
  dp := Nat.succ_le_succ h.dp
  le := by
    show (("(" : Str) ++ Str.join ", " (PyData.shownAll (x :: xs)) ++ ((if (PyData.shownAll (x :: xs)).length == 1 then ",)" else ")" : String) : Str)).length ≤ _
    rw [Str.length_append, Str.length_append]
    have h1 := join_length_add (PyData.shownAll (x :: xs)) (by
      show x.shown :: PyData.shownAll xs ≠ []
      simp)
    have h2 := h.le
    have h4 : ("(" : Str).length = 1 := by decide +kernel
    have h5 : ((if (PyData.shownAll (x :: xs)).length == 1 then ",)" else ")" : String) : Str).length ≤ 2 := by
      split <;> decide +kernel
    omega
theorem shw_str {z : Str} (h : ∀ c, c ∈ z.cps.toList → c < 1114112) : Shw (10 * z.length + 2) 0 (.str z) := ⟨rfl, rfl, Nat.le_refl _, StrLaws.reprText_len z fun c hc => Nat.lt_trans (h c hc) (by decide)⟩
theorem shw_none : Shw 4 0 .none := ⟨rfl, rfl, Nat.le_refl _, by decide +kernel⟩
theorem shw_small {n : Nat} (h : n ≤ 8) : Shw 4 0 (.int (n : Nat)) := by
  have hc : n = 0 ∨ n = 1 ∨ n = 2 ∨ n = 3 ∨ n = 4 ∨ n = 5 ∨ n = 6 ∨ n = 7 ∨ n = 8 := by omega
  rcases hc with rfl | rfl | rfl | rfl | rfl | rfl | rfl | rfl | rfl
  all_goals exact ⟨by decide +kernel, rfl, Nat.le_refl _, by decide +kernel⟩
theorem shw_up {s p q : Nat} {x : PyData} (h : Shw s p x) (a : p ≤ q) : Shw s q x := shw_mono h (Nat.le_refl _) a
theorem cutD_mem {xs : List PyData} {l u : Option Int} {y : PyData} (h : y ∈ DL.cutD xs l u) : y ∈ xs := List.mem_of_mem_drop (List.mem_of_mem_take h)
theorem cutD_len (xs : List PyData) (l u : Option Int) : (DL.cutD xs l u).length ≤ xs.length := by
  unfold DL.cutD
  rw [List.length_take, List.length_drop]
  omega
theorem lc_pred {P : PyData → Prop} {m : Nat} {vs : List Nat} {e0 : List Sl} {wg : DG} {we : DE} {Φ : List PyData → List Int → Prop} {q : List Int} (xs : List PyData) (hq : PoolOk q) (hm : xs.length ≤ m) (hm2 : m ≤ 10000)
    (hs : ∀ x q, x ∈ xs → PoolOk q → ∀ Θ : S → PyData → S → Prop, (∀ s1 y s3, s3.e = s1.e → PoolOk s3.q → P y → Θ s1 y s3) → wg x ⟨wipeE e0 vs, q⟩ fun s1 => wipeE s1.e vs = wipeE e0 vs ∧ we s1 (Θ s1))
    (hd : ∀ ys q, PoolOk q → ys.length ≤ m → (∀ y, y ∈ ys → P y) → Φ ys q) : lcW vs e0 wg wYes we Φ xs [] q := by
  refine lc_inv xs (fun pre acc q' => PoolOk q' ∧ acc.length = pre.length ∧ ∀ y, y ∈ acc → P y) ⟨hq, rfl, by simp⟩ (fun pre x post acc q' e h Ψ k => ?_) (fun acc q' h => hd acc q' h.1 (by omega) h.2.2)
  obtain ⟨hq', hl, hp⟩ := h
  have hlen : acc.length < sizeLine := sz_lt (by
    rw [e] at hm
    simp at hm
    omega)
  have r := hs x q' (by rw [e]; simp) hq' (fun s1 y s3 => s3.e = s1.e ∧ acc.length < sizeLine ∧ Ψ (acc ++ [y]) s3.q) (fun s1 y s3 h1 h2 h3 => ⟨h1, hlen, k _ _ ⟨h2, by simp [hl], fun u hu => by
    rcases List.mem_append.mp hu with hu | hu
    · exact hp u hu
    · rw [List.mem_singleton.mp hu]
      exact h3⟩⟩)
  simp only [wYes, true_and, if_true]
  exact r
end DL
/-! machines as data, numbers of words -/
namespace DL
open PySem PySem.Spec PyProof.Rows L2
def mkL (n : Nat) (f : Nat → PyData) : List PyData := (List.range n).map f
theorem mkL_len (n : Nat) (f : Nat → PyData) : (mkL n f).length = n := by
  unfold mkL
  rw [List.length_map, List.length_range]
theorem mkL_get {n : Nat} {f : Nat → PyData} {i : Nat} (h : i < n) : (mkL n f)[i]? = some (f i) := by
  unfold mkL
  rw [List.getElem?_map, List.getElem?_range h]
  rfl
theorem atI_mkL {n : Nat} {f : Nat → PyData} {i : Nat} (h : i < n) : atI (mkL n f) (i : Int) = some (f i) := by
  rw [atI_nat (by rw [mkL_len]; exact h), mkL_get h]
theorem mkL_congr {n : Nat} {f g : Nat → PyData} (h : ∀ i, i < n → f i = g i) : mkL n f = mkL n g := by
  unfold mkL
  exact List.map_congr_left fun i hi => h i (List.mem_range.mp hi)
theorem mkL_app (n : Nat) (f : Nat → PyData) : mkL n f ++ [f n] = mkL (n + 1) f := by
  unfold mkL
  rw [List.range_succ, List.map_append]
  rfl
theorem mkL_mem {n : Nat} {f : Nat → PyData} {x : PyData} (h : x ∈ mkL n f) : ∃ i, i < n ∧ x = f i := by
  unfold mkL at h
  obtain ⟨i, hi, rfl⟩ := List.mem_map.mp h
  exact ⟨i, List.mem_range.mp hi, rfl⟩
theorem atI_end {α : Type} (xs : List α) (x : α) : atI (xs ++ [x]) (-1) = some x := by
  unfold atI ixN
  rw [if_neg (by omega), if_pos (by simp; omega)]
  show (xs ++ [x])[(-1 + ((xs ++ [x]).length : Int)).toNat]? = some x
  have e : (-1 + ((xs ++ [x]).length : Int)).toNat = xs.length := by simp; omega
  rw [e]
  simp
abbrev mkB (n : Nat) (E : Nat → Bool) : List PyData := mkL n fun i => .bool (E i)
abbrev mkM (n m : Nat) (g : Nat → Nat → Nat) : List PyData := mkL n fun b => .list (mkI m (g b))
theorem mkI_L (n : Nat) (f : Nat → Nat) : mkI n f = mkL n fun i => .int (f i : Nat) := rfl
/-- a list of things of one kind is a map of places -/
theorem mkL_of {α : Type} [Inhabited α] {c : α → PyData} {Q : α → Prop} : ∀ {xs : List PyData}, (∀ x, x ∈ xs → ∃ v, Q v ∧ x = c v) → ∃ f : Nat → α, xs = mkL xs.length (fun i => c (f i)) ∧ ∀ i, i < xs.length → Q (f i) := fun {xs} h => by
  classical
  have h2 : ∀ i, i < xs.length → ∃ v, Q v ∧ xs[i]? = some (c v) := fun i hi => by
    obtain ⟨v, q, e⟩ := h xs[i] (List.getElem_mem hi)
    exact ⟨v, q, by rw [List.getElem?_eq_getElem hi, e]⟩
  refine ⟨fun i => if hi : i < xs.length then (h2 i hi).choose else default, ?_, fun i hi => ?_⟩
  · apply List.ext_getElem?
    intro i
    by_cases hi : i < xs.length
    · rw [mkL_get hi]
      show xs[i]? = some (c (if hi : i < xs.length then (h2 i hi).choose else default))
      rw [dif_pos hi]
      exact (h2 i hi).choose_spec.2
    · rw [List.getElem?_eq_none (by omega), List.getElem?_eq_none (by rw [mkL_len]; omega)]
  · show Q (if hi : i < xs.length then (h2 i hi).choose else default)
    rw [dif_pos hi]
    exact (h2 i hi).choose_spec.1
structure MachOk (L n : Nat) (T : Nat → Nat → Nat) : Prop where
  pos : 1 ≤ n
  lt : ∀ s a, s < n → a < L → T s a < n
abbrev machD (L n : Nat) (T : Nat → Nat → Nat) (E : Nat → Bool) : PyData := .tuple [.list (mkM n L T), .list (mkB n E)]
/-- rows of numbers are a table -/
theorem mkM_of {L m : Nat} {xs : List PyData} (h : ∀ x, x ∈ xs → ∃ f : Nat → Nat, (∀ a, a < L → f a < m) ∧ x = .list (mkI L f)) : ∃ T : Nat → Nat → Nat, xs = mkM xs.length L T ∧ ∀ s a, s < xs.length → a < L → T s a < m := by
  obtain ⟨T, e, q⟩ := mkL_of (c := fun f : Nat → Nat => PyData.list (mkI L f)) (Q := fun f => ∀ a, a < L → f a < m) h
  exact ⟨T, e, fun s a hs ha => q s hs a ha⟩
theorem mkI_of {m : Nat} {xs : List PyData} (h : ∀ x, x ∈ xs → ∃ v : Nat, v < m ∧ x = .int (v : Nat)) : ∃ f : Nat → Nat, xs = mkI xs.length f ∧ ∀ a, a < xs.length → f a < m := by
  obtain ⟨T, e, q⟩ := mkL_of (c := fun v : Nat => PyData.int (v : Nat)) (Q := fun v => v < m) h
  exact ⟨T, e, q⟩
theorem mkB_of {xs : List PyData} (h : ∀ x, x ∈ xs → ∃ b : Bool, x = .bool b) : ∃ f : Nat → Bool, xs = mkB xs.length f := by
  obtain ⟨T, e, q⟩ := mkL_of (c := fun v : Bool => PyData.bool v) (Q := fun _ => True) fun x hx => by
    obtain ⟨b, e⟩ := h x hx
    exact ⟨b, True.intro, e⟩
  exact ⟨T, e⟩
/-! numbers of words -/
theorem sumN_congr {n : Nat} {f g : Nat → Nat} (h : ∀ i, i < n → f i = g i) : sumN n f = sumN n g := by
  unfold sumN
  rw [List.map_congr_left fun i hi => h i (List.mem_range.mp hi)]
theorem sumN_add (n : Nat) (f g : Nat → Nat) : sumN n (fun i => f i + g i) = sumN n f + sumN n g := by
  induction n with
  | zero => rfl
  | succ n ih =>
    rw [sumN_succ, sumN_succ, sumN_succ, ih]
    omega
theorem sumN_mul (n c : Nat) (f : Nat → Nat) : sumN n (fun i => c * f i) = c * sumN n f := by
  induction n with
  | zero => rfl
  | succ n ih => rw [sumN_succ, sumN_succ, ih, Nat.mul_add]
theorem sumN_0 (n : Nat) : sumN n (fun _ => 0) = 0 := by
  induction n with
  | zero => rfl
  | succ n ih => rw [sumN_succ, ih]
theorem sumN_setF {n t v : Nat} {f h : Nat → Nat} (ht : t < n) : sumN n (fun i => setF f t (f t + v) i * h i) = sumN n (fun i => f i * h i) + v * h t := by
  induction n with
  | zero => omega
  | succ n ih =>
    rw [sumN_succ, sumN_succ]
    by_cases e : t = n
    · subst e
      rw [setF_same, Nat.add_mul, sumN_congr (g := fun i => f i * h i) fun i hi => by rw [setF_ne (Nat.ne_of_lt hi)]]
      omega
    · rw [ih (by omega), setF_ne (fun z => e z.symm)]
      omega
def bk (L : Nat) (T : Nat → Nat → Nat) : Nat → (Nat → Nat) → Nat → Nat
  | 0, h, s => h s
  | k + 1, h, s => sumN L fun a => bk L T k h (T s a)
def bk1 (L : Nat) (T : Nat → Nat → Nat) (h : Nat → Nat) (s : Nat) : Nat := sumN L fun a => h (T s a)
theorem bk_comm (L : Nat) (T : Nat → Nat → Nat) : ∀ (k : Nat) (h : Nat → Nat) (s : Nat), bk L T (k + 1) h s = bk L T k (bk1 L T h) s
  | 0, h, s => rfl
  | k + 1, h, s => by
    show sumN L (fun a => bk L T (k + 1) h (T s a)) = sumN L fun a => bk L T k (bk1 L T h) (T s a)
    exact sumN_congr fun a _ => bk_comm L T k h (T s a)
def eN (E : Nat → Bool) (s : Nat) : Nat := if E s = true then 1 else 0
def cnt (L : Nat) (T : Nat → Nat → Nat) (E : Nat → Bool) (k s : Nat) : Nat := bk L T k (eN E) s
/-- words as lists of places of signs, in their order -/
def wl (L : Nat) : Nat → List (List Nat)
  | 0 => [[]]
  | k + 1 => (wl L k).flatMap fun w => (List.range L).map fun a => w ++ [a]
theorem wl_len (L k : Nat) : (wl L k).length = L ^ k := by
  induction k with
  | zero => rfl
  | succ k ih =>
    unfold wl
    rw [List.length_flatMap]
    simp only [List.length_map, List.length_range, List.map_const', List.sum_replicate_nat, ih, Nat.pow_succ]
theorem flat_len (L : Nat) : ∀ l : List (List Nat), (l.flatMap fun w => (List.range L).map fun a => w ++ [a]).length = l.length * L
  | [] => by simp
  | w :: l => by rw [List.flatMap_cons, List.length_append, flat_len L l, List.length_cons, Nat.succ_mul, List.length_map, List.length_range]; omega
theorem wl_mem {L : Nat} : ∀ {k : Nat} {w : List Nat}, w ∈ wl L k → w.length = k ∧ ∀ a, a ∈ w → a < L
  | 0, w, h => by
    rw [List.mem_singleton.mp h]
    exact ⟨rfl, by simp⟩
  | k + 1, w, h => by
    unfold wl at h
    obtain ⟨u, hu, h⟩ := List.mem_flatMap.mp h
    obtain ⟨a, ha, rfl⟩ := List.mem_map.mp h
    obtain ⟨h1, h2⟩ := wl_mem hu
    refine ⟨by rw [List.length_append, h1]; rfl, fun b hb => ?_⟩
    rcases List.mem_append.mp hb with hb | hb
    · exact h2 b hb
    · rw [List.mem_singleton.mp hb]
      exact List.mem_range.mp ha
/-- the sum along all words of a length -/
theorem wl_sum (L : Nat) (T : Nat → Nat → Nat) : ∀ (k : Nat) (h : Nat → Nat), ((wl L k).map fun w => h (w.foldl T 0)).sum = bk L T k h 0
  | 0, h => by
    simp [wl, bk]
  | k + 1, h => by
    rw [bk_comm, ← wl_sum L T k (bk1 L T h)]
    have e : wl L (k + 1) = (wl L k).flatMap fun w => (List.range L).map fun a => w ++ [a] := rfl
    rw [e]
    generalize wl L k = l
    induction l with
    | nil => rfl
    | cons w l ih =>
      rw [List.flatMap_cons, List.map_append, List.sum_append, ih, List.map_cons, List.sum_cons]
      congr 1
      rw [List.map_map]
      unfold bk1 sumN
      congr 1
      refine List.map_congr_left fun a _ => ?_
      show h ((w ++ [a]).foldl T 0) = _
      rw [List.foldl_append]
      rfl
theorem filter_sum {α : Type} (p : α → Bool) (l : List α) : (l.filter p).length = (l.map fun x => if p x = true then 1 else 0).sum := by
  induction l with
  | nil => rfl
  | cons x l ih =>
    rw [List.map_cons, List.sum_cons, ← ih, List.filter_cons]
    by_cases h : p x = true
    · rw [if_pos h, if_pos h, List.length_cons]
      omega
    · rw [if_neg h, if_neg h]
      omega
theorem wl_cnt (L : Nat) (T : Nat → Nat → Nat) (E : Nat → Bool) (k : Nat) : ((wl L k).filter fun w => E (w.foldl T 0)).length = cnt L T E k 0 := by
  rw [filter_sum]
  exact wl_sum L T k (eN E)
/-- all words to a length -/
def wlTo (L : Nat) : Nat → List (List Nat)
  | 0 => wl L 0
  | k + 1 => wlTo L k ++ wl L (k + 1)
theorem wlTo_mem {L k : Nat} {w : List Nat} (h : w ∈ wlTo L k) : w.length ≤ k ∧ ∀ a, a ∈ w → a < L := by
  induction k with
  | zero =>
    obtain ⟨a, b⟩ := wl_mem (k := 0) h
    exact ⟨by omega, b⟩
  | succ k ih =>
    rcases List.mem_append.mp h with h | h
    · exact ⟨by have := (ih h).1; omega, (ih h).2⟩
    · obtain ⟨a, b⟩ := wl_mem h
      exact ⟨by omega, b⟩
theorem filter_none {α : Type} {p : α → Bool} {l : List α} (h : ∀ x, x ∈ l → p x = false) : l.filter p = [] := by
  rw [List.filter_eq_nil_iff]
  intro x hx
  rw [h x hx]
  exact Bool.false_ne_true
theorem filter_all {α : Type} {p q : α → Bool} {l : List α} (h : ∀ x, x ∈ l → p x = q x) : l.filter p = l.filter q := List.filter_congr h
theorem wlTo_eq {L m k : Nat} (hk : k ≤ m) (p : List Nat → Bool) : ((wlTo L m).filter fun w => p w && decide (w.length = k)).length = ((wl L k).filter p).length := by
  induction m with
  | zero =>
    have e : k = 0 := by omega
    subst e
    congr 1
    refine filter_all fun w hw => ?_
    rw [(wl_mem hw).1]
    simp
  | succ m ih =>
    unfold wlTo
    rw [List.filter_append, List.length_append]
    by_cases e : k = m + 1
    · subst e
      rw [filter_none (l := wlTo L m) fun w hw => by have := (wlTo_mem hw).1; simp; intro _; omega]
      rw [List.length_nil, Nat.zero_add]
      congr 1
      refine filter_all fun w hw => ?_
      rw [(wl_mem hw).1]
      simp
    · rw [ih (by omega), filter_none (l := wl L (m + 1)) fun w hw => by rw [(wl_mem hw).1]; simp; intro _; omega]
      rfl
theorem wlTo_le {L m k : Nat} (hk : k ≤ m) (p : List Nat → Bool) : ((wlTo L m).filter fun w => p w && decide (w.length ≤ k)).length = sumN (k + 1) fun j => ((wl L j).filter p).length := by
  induction m with
  | zero =>
    have e : k = 0 := by omega
    subst e
    rw [sumN_succ, show sumN 0 (fun j => ((wl L j).filter p).length) = 0 from rfl, Nat.zero_add]
    congr 1
    refine filter_all fun w hw => ?_
    rw [(wl_mem hw).1]
    simp
  | succ m ih =>
    unfold wlTo
    rw [List.filter_append, List.length_append]
    by_cases e : k = m + 1
    · subst e
      rw [sumN_succ, filter_all (l := wlTo L m) (q := fun w => p w && decide (w.length ≤ m)) fun w hw => by
        have := (wlTo_mem hw).1
        have h1 : decide (w.length ≤ m + 1) = true := by simp; omega
        have h2 : decide (w.length ≤ m) = true := by simp; omega
        rw [h1, h2]]
      congr 1
      · clear ih
        have key : ∀ m, ((wlTo L m).filter fun w => p w && decide (w.length ≤ m)).length = sumN (m + 1) fun j => ((wl L j).filter p).length := by
          intro m
          induction m with
          | zero =>
            rw [sumN_succ, show sumN 0 (fun j => ((wl L j).filter p).length) = 0 from rfl, Nat.zero_add]
            congr 1
            refine filter_all fun w hw => ?_
            rw [(wl_mem hw).1]
            simp
          | succ m ih =>
            unfold wlTo
            rw [List.filter_append, List.length_append, sumN_succ, filter_all (l := wlTo L m) (q := fun w => p w && decide (w.length ≤ m)) fun w hw => by
              have := (wlTo_mem hw).1
              have h1 : decide (w.length ≤ m + 1) = true := by simp; omega
              have h2 : decide (w.length ≤ m) = true := by simp; omega
              rw [h1, h2], ih]
            congr 2
            refine filter_all fun w hw => ?_
            rw [(wl_mem hw).1]
            simp
        exact key m
      · congr 1
        refine filter_all fun w hw => ?_
        rw [(wl_mem hw).1]
        simp
    · rw [ih (by omega), filter_none (l := wl L (m + 1)) fun w hw => by rw [(wl_mem hw).1]; simp; intro _; omega]
      rfl
/-- a letter's number -/
def cz (z : Str) (a : Nat) : Nat := z.cps.toList.getD a 0
/-- a word's text -/
def wS (z : Str) (w : List Nat) : Str := ⟨(w.map fun a => cz z a).toArray⟩
theorem wS_len (z : Str) (w : List Nat) : (wS z w).length = w.length := by
  show (w.map _).toArray.size = _
  rw [List.size_toArray, List.length_map]
theorem wS_snoc (z : Str) (w : List Nat) (a : Nat) : wS z w ++ sg (cz z a) = wS z (w ++ [a]) := by
  show (⟨_⟩ : Str) = ⟨_⟩
  congr 1
  simp [wS, sg]
theorem signs_wS (z : Str) (w : List Nat) : signsOf (wS z w) = w.map fun a => .str (sg (cz z a)) := by
  unfold signsOf wS sg
  simp
theorem signs_rng (z : Str) : signsOf z = mkL z.length fun a => .str (sg (cz z a)) := by
  apply List.ext_getElem?
  intro i
  unfold signsOf mkL
  rw [List.getElem?_map, List.getElem?_map]
  by_cases h : i < z.length
  · have h2 : i < z.cps.toList.length := by rw [Array.length_toList]; exact h
    rw [List.getElem?_range h, List.getElem?_eq_getElem h2]
    simp [sg, cz]
    rw [Array.getElem?_eq_getElem (by exact h)]
    rfl
  · rw [List.getElem?_eq_none (l := z.cps.toList) (by rw [Array.length_toList]; exact Nat.le_of_not_lt h), List.getElem?_eq_none (by rw [List.length_range]; omega)]
    rfl
/-- the place of a sign -/
theorem idx_mem {z : Str} {a : Nat} (h : a < z.length) : cz z a ∈ z.cps.toList := by
  have h2 : a < z.cps.toList.length := by rw [Array.length_toList]; exact h
  have e : cz z a = z.cps.toList[a] := by
    unfold cz
    rw [List.getD_eq_getElem?_getD, List.getElem?_eq_getElem h2]
    rfl
  rw [e]
  exact List.getElem_mem h2
theorem idx_at {z : Str} (nd : z.cps.toList.Nodup) {a : Nat} (h : a < z.length) : z.cps.toList.idxOf (cz z a) = a := by
  have h2 : a < z.cps.toList.length := by rw [Array.length_toList]; exact h
  have e : cz z a = z.cps.toList[a] := by
    unfold cz
    rw [List.getD_eq_getElem?_getD, List.getElem?_eq_getElem h2]
    rfl
  rw [e]
  exact nd.idxOf_getElem a h2
theorem nodup_map {α β : Type} {f : α → β} : ∀ {l : List α}, l.Nodup → (∀ x, x ∈ l → ∀ y, y ∈ l → f x = f y → x = y) → (l.map f).Nodup
  | [], _, _ => List.nodup_nil
  | a :: l, h, g => by
    obtain ⟨h1, h2⟩ := List.nodup_cons.mp h
    rw [List.map_cons]
    refine List.nodup_cons.mpr ⟨fun z => ?_, nodup_map h2 fun x hx y hy => g x (List.mem_cons_of_mem _ hx) y (List.mem_cons_of_mem _ hy)⟩
    obtain ⟨b, hb, e⟩ := List.mem_map.mp z
    have := g b (List.mem_cons_of_mem _ hb) a List.mem_cons_self e
    rw [← this] at h1
    exact h1 hb
/-! comprehensions and loops over maps of places -/
theorem lc_mkL {vs : List Nat} {e0 : List Sl} {wg : DG} {we : DE} {Φ : List PyData → List Int → Prop} {n : Nat} {F : Nat → PyData} (G : Nat → PyData) {q : List Int} (hl : n ≤ 16777216)
    (hs : ∀ i, i < n → ∀ Θ : S → PyData → S → Prop, (∀ s1 s3, s3.e = s1.e → s3.q = q → Θ s1 (G i) s3) → wg (F i) ⟨wipeE e0 vs, q⟩ fun s1 => wipeE s1.e vs = wipeE e0 vs ∧ we s1 (Θ s1))
    (hd : Φ (mkL n G) q) : lcW vs e0 wg wYes we Φ (mkL n F) [] q :=
  lc_mapl (List.range n) F G (by rw [List.length_range]; exact hl) (fun i hi => hs i (List.mem_range.mp hi)) hd
theorem loop_mkL {wg : DG} {wb : DS} {Φ : EN} {n : Nat} {F : Nat → PyData} (Inv : Nat → S → Prop) {s : S} (h0 : Inv 0 s)
    (hs : ∀ i s, i < n → Inv i s → ∀ Ψ : EN, (∀ s, Inv (i + 1) s → Ψ.nx s) → (∀ s, Inv (i + 1) s → Ψ.ct s) → Ψ.rt = Φ.rt → Ψ.bk = Φ.nx → Ψ.rl = Φ.rl → wg (F i) s fun s1 => wb Ψ s1)
    (hd : ∀ s, Inv n s → Φ.nx s) : loopW wg wb Φ (mkL n F) s := by
  refine loop_ix (mkL n F) Inv h0 (fun i x s hx q Ψ h1 h2 h3 h4 h5 => ?_) (fun s q => hd s (by rw [mkL_len] at q; exact q))
  have hi : i < n := by rw [← mkL_len n F]; exact (List.getElem?_eq_some_iff.mp hx).1
  rw [mkL_get hi] at hx
  cases hx
  exact hs i s hi q Ψ h1 h2 h3 h4 h5
/-- a comprehension with a test over a mapped list -/
theorem lc_fml {α : Type} {vs : List Nat} {e0 : List Sl} {wg : DG} {wt : DT} {we : DE} {Φ : List PyData → List Int → Prop} (l : List α) (F G : α → PyData) (p : α → Bool) {q : List Int} (hl : l.length ≤ 16777216)
    (hs : ∀ a, a ∈ l → ∀ (Y : S → PyData → S → Prop) (N : S → Prop), (p a = true → ∀ s1 s3, s3.e = s1.e → s3.q = q → Y s1 (G a) s3) → (p a = false → ∀ s2, s2.q = q → N s2) →
      wg (F a) ⟨wipeE e0 vs, q⟩ fun s1 => wipeE s1.e vs = wipeE e0 vs ∧ wt s1 fun b s2 => s2.e = s1.e ∧ if b = true then we s2 (Y s1) else N s2)
    (hd : Φ ((l.filter p).map G) q) : lcW vs e0 wg wt we Φ (l.map F) [] q := by
  refine lc_inv (l.map F) (fun pre acc q' => acc = ((l.take pre.length).filter p).map G ∧ q' = q) ⟨rfl, rfl⟩ (fun pre x post acc q' e h Ψ k => ?_) (fun acc q' h => by rw [h.1, h.2, List.length_map, List.take_length]; exact hd)
  obtain ⟨rfl, rfl⟩ := h
  have hx : (l.map F)[pre.length]? = some x := by rw [e]; simp
  rw [List.getElem?_map] at hx
  cases ha : l[pre.length]? with
  | none =>
    rw [ha] at hx
    cases hx
  | some a =>
    rw [ha] at hx
    cases hx
    have hlen : (((l.take pre.length).filter p).map G).length < sizeLine := sz_lt (by
      have h1 := (List.getElem?_eq_some_iff.mp ha).1
      have h2 := List.length_filter_le p (l.take pre.length)
      rw [List.length_take] at h2
      rw [List.length_map]
      omega)
    refine hs a (List.mem_of_getElem? ha) (fun s1 y s3 => s3.e = s1.e ∧ (((l.take pre.length).filter p).map G).length < sizeLine ∧ Ψ (((l.take pre.length).filter p).map G ++ [y]) s3.q) (fun s2 => Ψ (((l.take pre.length).filter p).map G) s2.q)
      (fun hp s1 s3 h1 h2 => ⟨h1, hlen, k _ _ ⟨?_, h2⟩⟩) (fun hp s2 h2 => k _ _ ⟨?_, h2⟩)
    · rw [List.length_append, List.length_singleton, take_snoc ha, List.filter_append, List.map_append]
      simp [hp]
    · rw [List.length_append, List.length_singleton, take_snoc ha, List.filter_append, List.map_append]
      simp [hp]
/-- a comprehension over a pool: its items fulfil a word, as many as are walked -/
theorem lc_predE {P : PyData → Prop} {vs : List Nat} {e0 : List Sl} {wg : DG} {we : DE} {Φ : List PyData → List Int → Prop} {q : List Int} (xs : List PyData) (hq : PoolOk q) (hm2 : xs.length ≤ 10000)
    (hs : ∀ x q, x ∈ xs → PoolOk q → ∀ Θ : S → PyData → S → Prop, (∀ s1 y s3, s3.e = s1.e → PoolOk s3.q → P y → Θ s1 y s3) → wg x ⟨wipeE e0 vs, q⟩ fun s1 => wipeE s1.e vs = wipeE e0 vs ∧ we s1 (Θ s1))
    (hd : ∀ ys q, PoolOk q → ys.length = xs.length → (∀ y, y ∈ ys → P y) → Φ ys q) : lcW vs e0 wg wYes we Φ xs [] q := by
  refine lc_inv xs (fun pre acc q' => PoolOk q' ∧ acc.length = pre.length ∧ ∀ y, y ∈ acc → P y) ⟨hq, rfl, by simp⟩ (fun pre x post acc q' e h Ψ k => ?_) (fun acc q' h => hd acc q' h.1 h.2.1 h.2.2)
  obtain ⟨hq', hl, hp⟩ := h
  have hlen : acc.length < sizeLine := sz_lt (by
    rw [e] at hm2
    simp at hm2
    omega)
  have r := hs x q' (by rw [e]; simp) hq' (fun s1 y s3 => s3.e = s1.e ∧ acc.length < sizeLine ∧ Ψ (acc ++ [y]) s3.q) (fun s1 y s3 h1 h2 h3 => ⟨h1, hlen, k _ _ ⟨h2, by simp [hl], fun u hu => by
    rcases List.mem_append.mp hu with hu | hu
    · exact hp u hu
    · rw [List.mem_singleton.mp hu]
      exact h3⟩⟩)
  simp only [wYes, true_and, if_true]
  exact r
/-! tables that are changed -/
def rowsM (n L : Nat) (T : Nat → Nat → Nat) : List (List PyData) := (List.range n).map fun s => mkI L (T s)
theorem rowsM_len (n L : Nat) (T : Nat → Nat → Nat) : (rowsM n L T).length = n := by
  unfold rowsM
  rw [List.length_map, List.length_range]
theorem rowsM_get {n L s : Nat} {T : Nat → Nat → Nat} (h : s < n) : (rowsM n L T)[s]? = some (mkI L (T s)) := by
  unfold rowsM
  rw [List.getElem?_map, List.getElem?_range h]
  rfl
theorem rowsM_list (n L : Nat) (T : Nat → Nat → Nat) : (rowsM n L T).map PyData.list = mkM n L T := by
  unfold rowsM mkM mkL
  rw [List.map_map]
  rfl
def setT (T : Nat → Nat → Nat) (s a v : Nat) : Nat → Nat → Nat := setF T s (setF (T s) a v)
theorem rowsM_set {n L s a v : Nat} {T : Nat → Nat → Nat} (ha : a < L) : (rowsM n L T).set s ((mkI L (T s)).set a (.int (v : Nat))) = rowsM n L (setT T s a v) := by
  rw [mkI_set ha]
  apply List.ext_getElem?
  intro j
  rw [List.getElem?_set]
  by_cases hj : j < n
  · by_cases hs : s = j
    · subst hs
      rw [if_pos rfl, rowsM_len, if_pos hj, rowsM_get hj]
      unfold setT
      rw [setF_same]
    · rw [if_neg hs, rowsM_get hj, rowsM_get hj]
      unfold setT
      rw [setF_ne (fun z => hs z.symm)]
  · rw [List.getElem?_eq_none (l := rowsM n L (setT T s a v)) (by rw [rowsM_len]; omega)]
    by_cases hs : s = j
    · rw [if_pos hs, rowsM_len, if_neg (by omega)]
    · rw [if_neg hs, List.getElem?_eq_none (by rw [rowsM_len]; omega)]
theorem setT_lt {n L s a v : Nat} {T : Nat → Nat → Nat} (h : ∀ s a, s < n → a < L → T s a < n) (hv : v < n) : ∀ s' a', s' < n → a' < L → setT T s a v s' a' < n := fun s' a' hs ha => by
  unfold setT
  by_cases e : s' = s
  · subst e
    rw [setF_same]
    by_cases e2 : a' = a
    · subst e2
      rw [setF_same]
      exact hv
    · rw [setF_ne e2]
      exact h s' a' hs ha
  · rw [setF_ne e]
    exact h s' a' hs ha
theorem mkI_cons (n : Nat) (f : Nat → Nat) : mkI (n + 1) f = .int (f 0 : Nat) :: mkI n fun i => f (i + 1) := by
  unfold mkI
  rw [List.range_succ_eq_map, List.map_cons, List.map_map]
  rfl
end DL
/-! DL: the law's own call, its promise one of those that know that nothing is under repr; promises put together -/
namespace DL
open PySem PySem.Spec PyProof.Rows L2
section
variable {P : Program} {w : World} {K : PySem.W.Frag} {mg mb : Str → Option Value} {k : Nat} {fa p : Addr} {fd : FuncData} {x : Str} {t : Shared} {us : List Value} {ns : List Int}
/-- what stands behind the call of a law -/
abbrev LawEnd (t : Shared) (r : Result) (t' : Shared) : Prop := r = .ok (.ret (.bool true)) ∧ OldK t.heap t'.heap ∧ t'.os = t.os ∧ AllBare t'.gens
theorem law_at (kin : K.In t.heap) (gl : t.heap.Ns mainGlobals mg) (bn : t.heap.Ns builtinsNs mb) (bb : ∀ y : Str, y ≠ "__name__" → mb y = bootBuiltins y) (nl : t.heap.NoLimit) (gn : t.gens = #[])
    (hp : t.heap.get? p = some { cls := .type "list", data := .seq us.toArray }) (hr : Room k callerA) (F : ∀ base : Heap, FnG P w K mg base CX0 k fa fd [x] (spLaw K)) (bd : ∀ (s : Shared) (u : Value), BindsTo s fd ⟨[u], []⟩ [(x, u)])
    (H : Hp) (h0 : ∀ b, H b = none ∨ (b = p ∧ ∃ o xs, H b = some (.frz o (.lst xs)))) (sq : SqL K H p (ns.map V.int)) (nn : ns.length ≤ 63) (hok : HOk P w H t.heap) (hK : H p ≠ none → K.lookup p = none) :
    codeAny (model P w) callerA (.call (.ref fa) ⟨[.ref p], []⟩) (LawEnd t) t := by
  have free : ∀ {b : Addr}, b ≠ p → H b = none := fun {b} n => (h0 b).resolve_right fun z => n z.1
  have dict : ∀ {b : Addr} {m : Str → Option Value}, t.heap.Ns b m → (hidT t.heap H).Ns b m := fun {b m} q => by
    obtain ⟨o, es, ep, e1, e2, e3⟩ := q
    refine ⟨o, es, ep, hidT_get e1 (free fun z => ?_), e2, e3⟩
    rw [z, hp] at e1
    cases e1
    cases e2
  have inb : K.In (hidT t.heap H) := fun b o e => by
    by_cases z : H b = none
    · exact hidT_get (kin b o e) z
    · have zb : b = p := ((h0 b).resolve_left z).1
      rw [zb] at e z
      rw [hK z] at e
      cases e
  obtain ⟨ml, l1, l2⟩ := nl
  have envd : Env0 P w K mg (hidT t.heap H) callerA [] t H :=
    ⟨rfl, ⟨inb, dict gl, ⟨mb, dict bn, bb⟩, ⟨ml, dict l1, l2⟩⟩, fun b o e => of_hidT e, Nat.le_of_eq (hidT_size _ _), trivial, fun b hb => (by cases (show b ∈ ([] : List Addr) from hb)), hok, .of_eq gn⟩
  refine codeAny_mono ((F (hidT t.heap H)).go callerA [] t H ⟨[.ref p], []⟩ [.ref p] [.ref p] (fun v _ => v = .bl true) (fun _ _ _ => False) rfl hr envd (bd t (.ref p)) (.cons rfl .nil) ⟨p, ns, rfl, sq, nn, fun _ => rfl⟩) fun r t' q => ?_
  match r, q with
  | .error e, q => exact (show False from q).elim
  | .ok .next, q => exact q.elim
  | .ok .brk, q => exact q.elim
  | .ok .cont, q => exact q.elim
  | .ok (.ret u), q =>
    obtain ⟨v, H', o1, o2, un, hok2, ru, rfl⟩ := q
    obtain rfl : u = Value.bool true := ru
    refine ⟨rfl, OldK.of_keep fun b o e => ?_, o1, o2⟩
    rcases h0 b with z | ⟨_, ob, xs, z⟩
    · exact un.keep b o e z (fun y => (by cases (show b ∈ ([] : List Addr) from y))) fun y => (by cases y)
    · have g1 := (hok b _ z).1
      have g2 := (hok2 b _ (un.frzs b ob _ z)).1
      rw [e] at g1
      cases g1
      exact g2
theorem law_callG (kin : K.In t.heap) (gl : t.heap.Ns mainGlobals mg) (bn : t.heap.Ns builtinsNs mb) (bb : ∀ y : Str, y ≠ "__name__" → mb y = bootBuiltins y) (nl : t.heap.NoLimit) (gn : t.gens = #[])
    (hp : t.heap.get? p = some { cls := .type "list", data := .seq us.toArray }) (hi : IntsAre us ns) (nn : ns.length ≤ 63) (hr : Room k callerA) (F : ∀ base : Heap, FnG P w K mg base CX0 k fa fd [x] (spLaw K)) (bd : ∀ (s : Shared) (u : Value), BindsTo s fd ⟨[u], []⟩ [(x, u)]) :
    codeAny (model P w) callerA (.call (.ref fa) ⟨[.ref p], []⟩) (LawEnd t) t := by
  have rv := vals_ints hi
  have line : ns.length ≤ sizeLine := by rw [sizeLine_eq]; omega
  have ln := hi.length
  cases hk : K.lookup p with
  | some o =>
    have e := kin p o hk
    rw [hp] at e
    cases e
    exact law_at kin gl bn bb nl gn hp hr F bd (fun _ => none) (fun _ => .inl rfl) (.inr ⟨_, us.toArray, _, hk, rfl, rfl, rfl, by rw [List.size_toArray, ln]; exact line, by simpa using rv⟩) nn (fun b u z => by cases (show (none : Option HO) = some u from z)) fun z => absurd rfl z
  | none =>
    let H : Hp := fun b => if b = p then some (.frz { cls := .type "list", data := .seq us.toArray } (.lst (ns.map V.int))) else none
    have hp2 : H p = some (.frz { cls := .type "list", data := .seq us.toArray } (.lst (ns.map V.int))) := if_pos rfl
    refine law_at kin gl bn bb nl gn hp hr F bd H (fun b => ?_) (.inl (.inr ⟨_, hp2⟩)) nn (fun b u z => ?_) fun _ => hk
    · by_cases z : b = p
      · exact .inr ⟨z, _, _, by rw [z]; exact hp2⟩
      · exact .inl (if_neg z)
    · by_cases y : b = p
      · rw [y, hp2] at z
        cases z
        rw [y]
        exact ⟨hp, by rw [List.length_map]; exact line, us, _, rv, hp⟩
      · rw [show H b = none from if_neg y] at z
        cases z
end
/-- behind k_head, from the law's promise -/
theorem walk_ofG {l : PySem.W.OpenLaw} {k : Nat} {q : Program} {loose : List Str} {XP : (Str → Option Value) → Heap → Prop} {YP : World → Heap → Prop} {d : DefRec} {K : Params → PySem.W.Frag} {x : Str}
    (h63 : l.most = some 63) (nodf : d.params.defaults = []) (room : Room k callerA) (hK : ∀ (w : World) (h : Heap), YP w h → (K w.params).In h)
    (F : ∀ (w : World) (mg : Str → Option Value) (fa : Addr) (h : Heap), (K w.params).In h → h.Ns mainGlobals mg → mg d.name = some (.ref fa) →
      ∃ fd : FuncData, (∀ (s : Shared) (u : Value), BindsTo s fd ⟨[u], []⟩ [(x, u)]) ∧ ∀ base : Heap, FnG l.prog w (K w.params) mg base CX0 k fa fd [x] (spLaw (K w.params))) :
    PySem.W.WalkO q loose XP YP l.row.toRowW d [] (fun f vs => PySem.call f vs) := by
  refine Att.attach_call h63 nodf fun w t0 t mg mb fa o pm cd doc p us ns G Y e1 e2 e3 hm hp hi hl gn => ?_
  obtain ⟨fd, bd, hF⟩ := F w mg fa _ (hK w _ Y) G.T.g hm
  exact law_callG (hK w _ Y) G.T.g G.T.b G.T.builtins G.T.nolimit gn hp hi hl room hF bd
/-! promises put together, and the one that is never asked -/
section
variable {P : Program} {w : World} {K : PySem.W.Frag} {mg : Str → Option Value} {base : Heap} {k : Nat} {f : Addr} {fd : FuncData} {ps : List Str} {qual x : Str} {st : Stmt} {N : List Str}
theorem fng_unionD {U : DSp} {sp : Nat → DSp} {n : Nat} (h : ∀ d, d ≤ n → FnG P w K mg base CX0 k f fd ps (spD K (sp d))) (hU : ∀ ds Φ, U ds Φ → ∃ d, d ≤ n ∧ sp d ds Φ) : FnG P w K mg base CX0 k f fd ps (spD K U) :=
  ⟨fun vs H Q E ⟨F, ds, Φ, a, b, c, e⟩ => by
    obtain ⟨d, hd, c⟩ := hU _ _ c
    exact (h d hd).len vs H Q E ⟨F, ds, Φ, a, b, c, e⟩, fun A outer s H args us vs Q E g hr z hb hv ⟨F, ds, Φ, a, b, c, e⟩ => by
    obtain ⟨d, hd, c⟩ := hU _ _ c
    exact (h d hd).go A outer s H args us vs Q E g hr z hb hv ⟨F, ds, Φ, a, b, c, e⟩⟩
theorem fng_unionP {U : DSpP} {sp : Nat → DSpP} {n : Nat} (h : ∀ d, d ≤ n → FnG P w K mg base CX0 k f fd ps (spP K (sp d))) (hU : ∀ ds q Φ, U ds q Φ → ∃ d, d ≤ n ∧ sp d ds q Φ) : FnG P w K mg base CX0 k f fd ps (spP K U) :=
  ⟨fun vs H Q E ⟨a, us, F, ds, q, Φ, h1, h2, h3, h4, h5, c, h6⟩ => by
    obtain ⟨d, hd, c⟩ := hU _ _ _ c
    exact (h d hd).len vs H Q E ⟨a, us, F, ds, q, Φ, h1, h2, h3, h4, h5, c, h6⟩, fun A outer s H args us' vs Q E g hr z hb hv ⟨a, us, F, ds, q, Φ, h1, h2, h3, h4, h5, c, h6⟩ => by
    obtain ⟨d, hd, c⟩ := hU _ _ _ c
    exact (h d hd).go A outer s H args us' vs Q E g hr z hb hv ⟨a, us, F, ds, q, Φ, h1, h2, h3, h4, h5, c, h6⟩⟩
theorem fng_noD : FnG P w K mg base CX0 k f fd ps (spD K fun _ _ => False) := ⟨fun vs H Q E ⟨F, ds, Φ, a, b, c, e⟩ => c.elim, fun A outer s H args us vs Q E g hr z hb hv ⟨F, ds, Φ, a, b, c, e⟩ => c.elim⟩
theorem fng_noP : FnG P w K mg base CX0 k f fd ps (spP K fun _ _ _ => False) := ⟨fun vs H Q E ⟨a, us, F, ds, q, Φ, h1, h2, h3, h4, h5, c, h6⟩ => c.elim, fun A outer s H args us vs Q E g hr z hb hv ⟨a, us', F, ds, q, Φ, h1, h2, h3, h4, h5, c, h6⟩ => c.elim⟩
end
/-- a def of the text in the written part -/
structure DefK (K : PySem.W.Frag) (x : Str) (st : Stmt) : Prop where
  ex : ∃ (f : Addr) (od an : Option Addr) (sl : Array (Option Value)) (oc kV dc pm cd ct : Value), PySem.W.nsIn K mainGlobals x = some (some (.ref f)) ∧
    K.lookup f = some ⟨oc, od, .func (PySem.W.fnOf x x (defArgs st) (defBody st) (defScope st) .none kV dc pm an cd ct), sl⟩ ∧ PySem.W.codeIn K cd x = true ∧ PySem.W.keepIn K (.ref f) = true
theorem DefK.mk4 {K : PySem.W.Frag} {x : Str} {st : Stmt} {f : Addr} {od an : Option Addr} {sl : Array (Option Value)} {oc kV dc pm cd ct : Value} (a : PySem.W.nsIn K mainGlobals x = some (some (.ref f)))
    (l : K.lookup f = some ⟨oc, od, .func (PySem.W.fnOf x x (defArgs st) (defBody st) (defScope st) .none kV dc pm an cd ct), sl⟩) (c : PySem.W.codeIn K cd x = true) (kp : PySem.W.keepIn K (.ref f) = true) : DefK K x st := ⟨_, _, _, _, _, _, _, _, _, _, a, l, c, kp⟩
theorem DefK.fn {K : PySem.W.Frag} {h : Heap} {mg : Str → Option Value} {x : Str} {st : Stmt} (D : DefK K x st) (X : K.In h) (G : h.Ns mainGlobals mg) :
    ∃ (f : Addr) (od an : Option Addr) (sl : Array (Option Value)) (oc kV dc pm cd ct : Value), Fun K x x st f (PySem.W.fnOf x x (defArgs st) (defBody st) (defScope st) .none kV dc pm an cd ct) ∧ mg x = some (.ref f) ∧ PySem.W.keepIn K (.ref f) = true := by
  obtain ⟨f, od, an, sl, oc, kV, dc, pm, cd, ct, a, l, c, kp⟩ := D.ex
  exact ⟨f, od, an, sl, oc, kV, dc, pm, cd, ct, fun_mk l c kp, PySem.W.mg_of X G a, kp⟩
end DL
/-! DL: defs that stand, from their readings -/
namespace DL
open PySem PySem.Spec PyProof.Rows L2
section
variable {P : Program} {w : World} {K : PySem.W.Frag} {mg : Str → Option Value} {base h : Heap} {k : Nat} {ps N : List Str} {x : Str} {st : Stmt}
/-- how its arguments are bound -/
abbrev Bnd (x : Str) (st : Stmt) (ps : List Str) : Prop := ∀ (kV doc pm : Value) (an : Option Addr) (cdv ct : Value) (us : List Value), us.length = ps.length → bindArgs (PySem.W.fnOf x x (defArgs st) (defBody st) (defScope st) .none kV doc pm an cdv ct) ⟨us, []⟩ = pure (ps.zip us)
/-- its body over data -/
abbrev Bdy (P : Program) (w : World) (K : PySem.W.Frag) (mg : Str → Option Value) (base : Heap) (k : Nat) (N : List Str) (x : Str) (st : Stmt) (c : DS → Prop) : Prop :=
  ∀ (f : Addr) (cdv : Value) (A : Around) (outer : List Env) (s : Shared) (H : Hp) (E : XK), (A.deeper (envOfC x (defScope st) s.heap.objs.size f cdv)).guards = some [] → Room k (A.deeper (envOfC x (defScope st) s.heap.objs.size f cdv)) →
    ∃ wd, XSs (cxOf CX0 P w K mg base N x (defScope st) f cdv A outer s H E).nox (defBody st) wd ∧ c wd
theorem caD {sp : DSp} (D : DefK K x st) (X : K.In h) (G : h.Ns mainGlobals mg) (Sc : FnScope N ps (defScope st)) (b : Bnd x st ps) (len : ∀ ds Φ, sp ds Φ → ds.length = ps.length)
    (body : Bdy P w K mg base k N x st fun wd => ∀ ds Φ, sp ds Φ → wd (endD Φ) ⟨startE N (ds.map .d), []⟩) : Ca P w K mg base (k + 1) x ps (spD K sp) := by
  obtain ⟨f, od, an, sl, oc, kV, dc, pm, cd, ct, F, gm, kp⟩ := D.fn X G
  exact ⟨f, _, fn_D F Sc len (body f), gm, kp, F.binds b⟩
theorem caP {sp : DSpP} (D : DefK K x st) (X : K.In h) (G : h.Ns mainGlobals mg) (Sc : FnScope N ps (defScope st)) (b : Bnd x st ps) (len : ∀ ds q Φ, sp ds q Φ → ds.length + 1 = ps.length)
    (body : Bdy P w K mg base k N x st fun wd => ∀ ds q Φ, sp ds q Φ → wd (endP Φ) ⟨startE N (.pl :: ds.map .d), q⟩) : Ca P w K mg base (k + 1) x ps (spP K sp) := by
  obtain ⟨f, od, an, sl, oc, kV, dc, pm, cd, ct, F, gm, kp⟩ := D.fn X G
  exact ⟨f, _, fn_P F Sc len (body f), gm, kp, F.binds b⟩
theorem caL {sp : DSpL} (D : DefK K x st) (X : K.In h) (G : h.Ns mainGlobals mg) (Sc : FnScope N ps (defScope st)) (b : Bnd x st ps) (len : ∀ ds Φ, sp ds Φ → ds.length = ps.length)
    (body : Bdy P w K mg base k N x st fun wd => ∀ ds Φ, sp ds Φ → wd (endL Φ) ⟨startE N (ds.map .d), []⟩) : Ca P w K mg base (k + 1) x ps (spL K sp) := by
  obtain ⟨f, od, an, sl, oc, kV, dc, pm, cd, ct, F, gm, kp⟩ := D.fn X G
  exact ⟨f, _, fn_L F Sc len (body f), gm, kp, F.binds b⟩
theorem caS {sp : DSpS} (D : DefK K x st) (X : K.In h) (G : h.Ns mainGlobals mg) (Sc : FnScope N ps (defScope st)) (b : Bnd x st ps) (len : ps.length = 1)
    (body : Bdy P w K mg base k N x st fun wd => ∀ ns Φ, sp ns Φ → wd (endL Φ) ⟨startE N [.sc ns], []⟩) : Ca P w K mg base (k + 1) x ps (spS K sp) := by
  obtain ⟨f, od, an, sl, oc, kV, dc, pm, cd, ct, F, gm, kp⟩ := D.fn X G
  exact ⟨f, _, fn_S F Sc len (body f), gm, kp, F.binds b⟩
/-- a def that calls itself, a promise for each depth -/
theorem caRecD {sp : Nat → DSp} {U : DSp} {n k0 : Nat} (D : DefK K x st) (X : K.In h) (G : h.Ns mainGlobals mg) (Sc : FnScope N ps (defScope st)) (b : Bnd x st ps) (len : ∀ d ds Φ, sp d ds Φ → ds.length = ps.length) (hU : ∀ ds Φ, U ds Φ → ∃ d, d ≤ n ∧ sp d ds Φ)
    (body : ∀ (d : Nat) (rc : DSp), (∀ e, d = e + 1 → rc = sp e) → ∀ l : Nat, l ≤ k0 + d → Ca P w K mg base l x ps (spD K rc) → Bdy P w K mg base (k0 + d) N x st fun wd => ∀ ds Φ, sp d ds Φ → wd (endD Φ) ⟨startE N (ds.map .d), []⟩) : Ca P w K mg base (k0 + n + 1) x ps (spD K U) := by
  obtain ⟨f, od, an, sl, oc, kV, dc, pm, cd, ct, F, gm, kp⟩ := D.fn X G
  have go : ∀ d, FnG P w K mg base CX0 (k0 + d + 1) f (PySem.W.fnOf x x (defArgs st) (defBody st) (defScope st) .none kV dc pm an cd ct) ps (spD K (sp d)) := by
    intro d
    induction d with
    | zero => exact fn_D F Sc (len 0) (body 0 (fun _ _ => False) (fun e z => by cases z) 0 (Nat.zero_le _) ⟨f, _, fng_noD, gm, kp, F.binds b⟩ f)
    | succ d ih => exact fn_D F Sc (len (d + 1)) (body (d + 1) (sp d) (fun e z => by cases z; rfl) (k0 + d + 1) (Nat.le_refl _) ⟨f, _, ih, gm, kp, F.binds b⟩ f)
  exact ⟨f, _, fng_unionD (n := n) (fun d hd => (go d).mono (by omega)) hU, gm, kp, F.binds b⟩
theorem caRecP {sp : Nat → DSpP} {U : DSpP} {n k0 : Nat} (D : DefK K x st) (X : K.In h) (G : h.Ns mainGlobals mg) (Sc : FnScope N ps (defScope st)) (b : Bnd x st ps) (len : ∀ d ds q Φ, sp d ds q Φ → ds.length + 1 = ps.length) (hU : ∀ ds q Φ, U ds q Φ → ∃ d, d ≤ n ∧ sp d ds q Φ)
    (body : ∀ (d : Nat) (rc : DSpP), (∀ e, d = e + 1 → rc = sp e) → ∀ l : Nat, l ≤ k0 + d → Ca P w K mg base l x ps (spP K rc) → Bdy P w K mg base (k0 + d) N x st fun wd => ∀ ds q Φ, sp d ds q Φ → wd (endP Φ) ⟨startE N (.pl :: ds.map .d), q⟩) : Ca P w K mg base (k0 + n + 1) x ps (spP K U) := by
  obtain ⟨f, od, an, sl, oc, kV, dc, pm, cd, ct, F, gm, kp⟩ := D.fn X G
  have go : ∀ d, FnG P w K mg base CX0 (k0 + d + 1) f (PySem.W.fnOf x x (defArgs st) (defBody st) (defScope st) .none kV dc pm an cd ct) ps (spP K (sp d)) := by
    intro d
    induction d with
    | zero => exact fn_P F Sc (len 0) (body 0 (fun _ _ _ => False) (fun e z => by cases z) 0 (Nat.zero_le _) ⟨f, _, fng_noP, gm, kp, F.binds b⟩ f)
    | succ d ih => exact fn_P F Sc (len (d + 1)) (body (d + 1) (sp d) (fun e z => by cases z; rfl) (k0 + d + 1) (Nat.le_refl _) ⟨f, _, ih, gm, kp, F.binds b⟩ f)
  exact ⟨f, _, fng_unionP (n := n) (fun d hd => (go d).mono (by omega)) hU, gm, kp, F.binds b⟩
/-- the law's own def -/
theorem caLaw {sx : Str} {yp p1 p2 cp pos : Pos} {rest : List Stmt} {fa : Addr} {kS : Nat} (D : DefK K "law" st) (X : K.In h) (G : h.Ns mainGlobals mg) (hfa : mg "law" = some (.ref fa)) (Sc : FnScope N ["script"] (defScope st)) (hN : 2 ≤ N.length)
    (hb0 : defBody st = .Assign [.Name "pool" yp] (.Call (.Name sx p1) [.Name "script" p2] [] cp) pos :: rest) (hk : kS ≤ k)
    (bd : ∀ (s : Shared) (v : Value) (kV dc pm : Value) (an : Option Addr) (cd ct : Value), BindsTo s (PySem.W.fnOf "law" "law" (defArgs st) (defBody st) (defScope st) .none kV dc pm an cd ct) ⟨[v], []⟩ [("script", v)])
    (C : ∀ base, Ca P w K mg base kS sx ["script"] (spS K spStream))
    (head : ∀ base (f : Addr) (cdv : Value) (A : Around) (outer : List Env) (s : Shared) (H : Hp) (E : XK) (fS : Addr) (fdS : FuncData), FnG P w K mg base CX0 kS fS fdS ["script"] (spS K spStream) → mg sx = some (.ref fS) → PySem.W.keepIn K (.ref fS) = true → Binds K fdS ["script"] [] →
      (A.deeper (envOfC "law" (defScope st) s.heap.objs.size f cdv)).guards = some [] → Room k (A.deeper (envOfC "law" (defScope st) s.heap.objs.size f cdv)) →
      PS (cxOf CX0 P w K mg base N "law" (defScope st) f cdv A outer s H E).nox (.Assign [.Name "pool" yp] (.Call (.Name sx p1) [.Name "script" p2] [] cp) pos) (tAsg (tCall (spS K spStream) [] E0 (tCons (tVar 0) tNil)) (gName 1)))
    (body : ∀ base (f : Addr) (cdv : Value) (A : Around) (outer : List Env) (s : Shared) (H : Hp) (E : XK), (A.deeper (envOfC "law" (defScope st) s.heap.objs.size f cdv)).guards = some [] → Room k (A.deeper (envOfC "law" (defScope st) s.heap.objs.size f cdv)) →
      ∃ wd, XSs (cxOf CX0 P w K mg base N "law" (defScope st) f cdv A outer s H E).nox rest wd ∧ ∀ ns q, PoolOk q → wd endTrue ⟨(startE N [.sc ns]).set 1 .pl, q⟩) :
    ∃ fd : FuncData, (∀ (s : Shared) (v : Value), BindsTo s fd ⟨[v], []⟩ [("script", v)]) ∧ ∀ base : Heap, FnG P w K mg base CX0 (k + 1) fa fd ["script"] (spLaw K) := by
  obtain ⟨f, od, an, sl, oc, kV, dc, pm, cd, ct, F, gm, kp⟩ := D.fn X G
  cases hfa.symm.trans gm
  refine ⟨_, fun s v => bd s v kV dc pm an cd ct, fun base => ?_⟩
  obtain ⟨fS, fdS, FS, gS, kS', bS⟩ := (C base).ex
  exact fn_law F Sc hN hb0 FS gS kS' bS hk (fun cdv A outer s H E g r => head base fa cdv A outer s H E fS fdS FS gS kS' bS g r) (body base fa)
end
end DL
/-! DL: own errors: raise, defs that may raise, calls of them -/
namespace DL
open PySem PySem.Spec PyProof.Rows L2
/-- an own class of errors without an __init__ of its own: its name stands for it -/
structure ExC (K : PySem.W.Frag) (mg : Str → Option Value) (x : Str) : Prop where
  ex : ∃ C, mg x = some (.ref C) ∧ PySem.W.keepIn K (.ref C) = true ∧ (∃ (B newId initId : String) (bmB : List Value), ExcBaseFacts B newId initId bmB ∧ PySem.W.excIn K C bmB newId = true) ∧
    PySem.W.subIn K (.ref C) (.type "BaseException") = some true ∧ PySem.W.typeIn K (.ref C) = some (.type "type")
section
variable {X : Cx} {C : Addr} {bmB : List Value} {B newId initId : String}
/-- X() -/
theorem pmk_own0 {x : Str} {p pos : Pos} (F : ExcBaseFacts B newId initId bmB) (q : PySem.W.excIn X.K C bmB newId = true) (gC : X.mg x = some (.ref C)) (kC : PySem.W.keepIn X.K (.ref C) = true) (r : Raises X (.ref C)) (hg : Gl X x)
    (hdb : (x == ("__debug__" : Str)) = false := by decide) : PMk X (.Call (.Name x p) [] [] pos) (fun _ H Q => Q (.ref C) none H) := by
  intro pins s σ H Q I h
  refine wpAny_Call_Name_kw (ld_glob I hg gC ?_ hdb)
  refine PySem.W.callWith_K0 I.kIn kC ?_
  show wpAny _ _ (call (.ref C) []) _ _ _
  obtain ⟨bm, N, nm, qn, bs, hdct, sn, sub, ab, col, dd, k0, k1, k2, k3, k5, mN, hC, hN, hni, T⟩ := exc_obj I.kIn q
  refine wpAny_call_exc_subT F T hC hN hni (fun h' e hm => ?_) (by show 0 ≤ sizeLine; exact Nat.zero_le _)
  exact mk_of I hm r h (I.hok.gone hm.new)
@[simp] def wRaise (c : Str) : DS := fun Φ s => Φ.ex c [] s
theorem xs_raise0 {x : Str} {p p2 pos : Pos} (hc : X.calm = true) (T : ExC X.K X.mg x) (hg : Gl X x) (hdb : (x == ("__debug__" : Str)) = false := by decide) : XS X (.Raise (some (.Call (.Name x p) [] [] p2)) none pos) (wRaise x) := by
  obtain ⟨C, gC, kC, ⟨B, newId, initId, bmB, F, q⟩, h1, h2⟩ := T.ex
  exact ps_imp (ps_raise hc (takes_wish X) (pmk_own0 F q gC kC (raises_own h1 h2) hg hdb)) fun D σ H h => by
    obtain ⟨G, P, F, s, Φ, R, h, b⟩ := h
    exact b.ex x [] σ F H s R (Same.refl F) h C gC
end
/-! promises of defs that may raise -/
/-- the wish of a def's errors, over data -/
def EX (K : PySem.W.Frag) (mg : Str → Option Value) (E : XK) (c : Str) (xs : List PyData) (F H : Hp) : Prop := ∀ C, mg c = some (.ref C) → match xs with
  | [] => E (.ref C) none H
  | [x] => ∀ d v f, H d = some (.xd [(f, v)]) → Dq K F v x → E (.ref C) (some d) H
  | _ => False
abbrev DSpX := List PyData → (PyData → Prop) → (Str → List PyData → Prop) → Prop
def spX (K : PySem.W.Frag) (mg : Str → Option Value) (f : DSpX) : Sp := fun vs H Q E => ∃ F ds Φ Ψ, Same F H ∧ DqA K F vs ds ∧ f ds Φ Ψ ∧ (∀ v F' H' x, Fresh F H F' H' → Dq K F' v x → Φ x → Q v H') ∧ ∀ c xs F' H', Fresh F H F' H' → Ψ c xs → EX K mg E c xs F' H'
@[simp] def endX (Φ : PyData → Prop) (Ψ : Str → List PyData → Prop) : EN := { nx := fun _ => Φ .none, rt := fun x _ => Φ x, ex := fun c xs _ => Ψ c xs }
section
variable {P : Program} {w : World} {K : PySem.W.Frag} {mg : Str → Option Value} {base : Heap} {k : Nat} {f : Addr} {fd : FuncData} {ps : List Str} {qual x : Str} {st : Stmt} {N : List Str}
theorem fn_X {sp : DSpX} (F : Fun K x qual st f fd) (Sc : FnScope N ps (defScope st)) (len : ∀ ds Φ Ψ, sp ds Φ Ψ → ds.length = ps.length)
    (hbody : ∀ (cdv : Value) (A : Around) (outer : List Env) (s : Shared) (H : Hp) (E : XK), (A.deeper (envOfC qual (defScope st) s.heap.objs.size f cdv)).guards = some [] → Room k (A.deeper (envOfC qual (defScope st) s.heap.objs.size f cdv)) →
      ∃ wd, XSs (cxOf (L2.CX P w) P w K mg base N qual (defScope st) f cdv A outer s H E) (defBody st) wd ∧ ∀ ds Φ Ψ, sp ds Φ Ψ → wd (endX Φ Ψ) ⟨startE N (ds.map .d), []⟩) : FnG P w K mg base (L2.CX P w) (k + 1) f fd ps (spX K mg sp) := by
  refine fng_of F Sc (fun vs H Q E h => ?_) (fun cdv A outer s H vs Q E g hr h => ?_)
  · obtain ⟨F, ds, Φ, Ψ, _, d, hs, _⟩ := h
    rw [d.length]
    exact len ds Φ Ψ hs
  · obtain ⟨wd, hX, hw⟩ := hbody cdv A outer s H E g hr
    refine ⟨_, hX, ?_⟩
    obtain ⟨F, ds, Φ, Ψ, e, d, hs, kk, kx⟩ := h
    have fr : ∀ {σ' : L2.St} {F' H' : Hp} {s' : S}, Rep K (partH F H none) none F' H' σ' s' → Same F F' → Fresh F H F' H' := fun {σ' F' H' s'} R ee =>
      ⟨ee, R.same, fun b o hb => by
        cases hF : F b with
        | none => exact R.keep b o (partH_at hF (fun z => by cases z) hb)
        | some u =>
          have q := e b u hF
          rw [hb] at q
          cases q
          exact R.same b o (ee b o hF), fun b o hb hF => R.apart b o (partH_at hF (fun z => by cases z) hb)⟩
    have tk : Takes (cxOf (L2.CX P w) P w K mg base N qual (defScope st) f cdv A outer s H E) (fun cls d _ H => E cls d H) := takes_of rfl rfl rfl rfl
    refine ⟨_, none, F, _, _, rep_startD e d [], hw ds Φ Ψ hs, fun σ' F' H' s' R ee q => kk _ F' H' .none (fr R ee) .non q, fun v σ' F' H' s' x R ee dx q => kk v F' H' x (fr R ee) dx q, fun _ _ _ _ _ _ q => q.elim, fun _ _ _ _ _ _ q => q.elim, fun _ _ _ _ _ _ _ _ _ _ _ _ q => q.elim, fun c xs σ' F' H' s' R ee q => ?_⟩
    intro C gC
    have z := kx c xs F' H' (fr R ee) q C gC
    match xs, z with
    | [], z => exact wish_of tk z
    | [x], z => exact fun d v f hd dv => wish_of tk (z d v f hd dv)
end
/-! calls of them, as x = f(..), return f(..), f(..) -/
def tCallX (sp : Sp) (W : WX) (t : TA) : TE := fun σ H Q => t σ H fun vs H1 => sp vs H1 Q (WE W σ)
section
variable {X : Cx} {k : Nat} {f : Addr} {fd : FuncData} {ps : List Str} {sp : Sp} {x : Str} {p pos : Pos} {e : Expr} {es : List Expr} {t : TA} {W : WX}
theorem pe_callX (F : FnG X.prog X.w X.K X.mg X.base (L2.CX X.prog X.w) k f fd ps sp) (hgd : X.A.guards = some []) (hr : Room k X.A) (hg : Gl X x) (hm : X.mg x = some (.ref f)) (hk : PySem.W.keepIn X.K (.ref f) = true) (hb : Binds X.K fd ps []) (tk : Takes X W)
    (ha : PA X (e :: es) t) (hdb : (x == ("__debug__" : Str)) = false := by decide) (he : starEach (e :: es) X.env = (false, eval e X.env) :: starEach es X.env := by rfl) (hpl : (backTo pos (starEach es X.env)).any (·.1) = false := by rfl) :
    PE X (.Call (.Name x p) (e :: es) [] pos) (tCallX sp W t) := by
  refine ⟨fun pins s σ H Q I h => wpAny_Call_Name_kw (ld_glob I hg hm (PySem.W.callWith_K (h₀ := X.base) I.ok.mod.kin hk (thn (ha.run pos pins s σ H _ I h) fun us s1 ⟨vs, H1, J, r, q⟩ => ⟨J.kIn, ?_⟩) he hpl) hdb)⟩
  have rr : Vals (vs ++ []) (us ++ []) := r.append .nil
  rw [List.append_nil, List.append_nil] at rr
  have bb := hb s1 us J.kIn (by rw [List.append_nil, ← rr.length]; exact F.len _ _ _ _ q)
  rw [List.append_nil] at bb
  refine wpAny_call (codeAny_mono (F.go X.A X.stack s1 H1 ⟨us, []⟩ us vs Q (WE W σ) hgd hr J.env0 bb rr q) fun r s' hq => ?_)
  match r, hq with
  | .error e, hq => exact passAt tk σ pins H1 s1 e s' J hq
  | .ok (.ret u), hq => exact J.after hq
  | .ok .next, hq => exact hq.elim
  | .ok .brk, hq => exact hq.elim
  | .ok .cont, hq => exact hq.elim
end
end DL
/-! DL: x = f(..), return f(..) of defs that may raise; try .. except X: -/
namespace DL
open PySem PySem.Spec PyProof.Rows L2
/-- a wish of the kit's as one over data -/
def wW (K : PySem.W.Frag) (mg : Str → Option Value) (W : WX) : XWish := fun c xs F σ H => ∀ C, mg c = some (.ref C) → match xs with
  | [] => W (.ref C) none σ H
  | [x] => ∀ d v f, H d = some (.xd [(f, v)]) → Dq K F v x → W (.ref C) (some d) σ H
  | _ => False
theorem wW_X {X : Cx} {W : WX} (tk : Takes X W) {c : Str} {xs : List PyData} {F : Hp} {σ : L2.St} {H : Hp} (h : wW X.K X.mg W c xs F σ H) : wX X c xs F σ H := fun C gC => by
  have z := h C gC
  match xs, z with
  | [], z => exact wish_of tk z
  | [x], z => exact fun d v f hd dv => wish_of tk (z d v f hd dv)
theorem Beh.wish {K : PySem.W.Frag} {G F : Hp} {P : Option Addr} {Φ : EN} {D : Ends} {W W' : XWish} (b : Beh K G P F Φ D W) (h : ∀ c xs F σ H, W c xs F σ H → W' c xs F σ H) : Beh K G P F Φ D W' :=
  ⟨b.nx, b.rt, b.bk, b.ct, b.rl, fun c xs σ' F' H' s' R e q => h _ _ _ _ _ (b.ex c xs σ' F' H' s' R e q)⟩
theorem tS_wish {K : PySem.W.Frag} {W W' : XWish} {w : DS} (h : ∀ c xs F σ H, W c xs F σ H → W' c xs F σ H) {D : Ends} {σ : L2.St} {H : Hp} (t : tS K W w D σ H) : tS K W' w D σ H := by
  obtain ⟨G, P, F, s, Φ, R, q, b⟩ := t
  exact ⟨G, P, F, s, Φ, R, q, b.wish h⟩
section
variable {X : Cx} {k i : Nat} {f : Addr} {fd : FuncData} {ps : List Str} {sp : DSpX} {x y : Str} {p pos pos2 yp : Pos} {e : Expr} {es : List Expr} {wa : DA}
theorem callX_of {G F H : Hp} {P : Option Addr} {σ : L2.St} {s : S} {Q : VK} {Φr : PyData → S → Prop} {Φx : Str → List PyData → S → Prop} (R : Rep X.K G P F H σ s) (h : wa s fun ds s1 => sp ds (fun r => Φr r s1) fun c xs => Φx c xs s1)
    (kr : ∀ v F' H' s' x, Rep X.K G P F' H' σ s' → Same F F' → Dq X.K F' v x → Φr x s' → Q v H') (kx : ∀ c xs F' H' s', Rep X.K G P F' H' σ s' → Same F F' → Φx c xs s' → wX X c xs F' σ H') :
    tCallX (spX X.K X.mg sp) (wishOf X) (tA X.K wa) σ H Q := by
  refine ⟨G, P, F, s, _, R, h, fun vs F1 H1 s1 ds R1 e1 d1 q => ?_⟩
  refine ⟨F1, ds, _, _, R1.same, d1, q, fun v F' H' x fr dx qx => kr v F' H' s1 x (R1.fresh fr) (e1.trans fr.ff) dx qx, fun c xs F' H' fr qx C gC => ?_⟩
  have z := kx c xs F' H' s1 (R1.fresh fr) (e1.trans fr.ff) qx C gC
  match xs, z with
  | [], z => exact z
  | [x], z => exact z
@[simp] def wRetX (sp : DSpX) (wa : DA) : DS := fun Φ s => wa s fun ds s1 => sp ds (fun r => Φ.rt r s1) fun c xs => Φ.ex c xs s1
theorem xs_retX (F : FnG X.prog X.w X.K X.mg X.base (L2.CX X.prog X.w) k f fd ps (spX X.K X.mg sp)) (hgd : X.A.guards = some []) (hr : Room k X.A) (hg : Gl X x) (hm : X.mg x = some (.ref f)) (hk : PySem.W.keepIn X.K (.ref f) = true) (hb : Binds X.K fd ps [])
    (ha : XA X (e :: es) wa) (hdb : (x == ("__debug__" : Str)) = false := by decide) (he : starEach (e :: es) X.env = (false, eval e X.env) :: starEach es X.env := by rfl) (hpl : (backTo pos (starEach es X.env)).any (·.1) = false := by rfl) :
    XS X (.Return (some (.Call (.Name x p) (e :: es) [] pos)) pos2) (wRetX sp wa) := ps_imp (ps_ret (pe_callX F hgd hr hg hm hk hb (takes_wish X) ha hdb he hpl)) fun D σ H h => by
  obtain ⟨G, P, F, s, Φ, R, h, b⟩ := h
  exact callX_of R h (fun v F' H' s' x R' e d q => b.rt v σ F' H' s' x R' e d q) fun c xs F' H' s' R' e q => b.ex c xs σ F' H' s' R' e q
@[simp] def wSetX (i : Nat) (sp : DSpX) (wa : DA) : DS := fun Φ s => wa s fun ds s1 => sp ds (fun r => Φ.nx (s1.put i (.d r))) fun c xs => Φ.ex c xs s1
theorem xs_setX (hN : X.N.Nodup) (hi : X.N[i]? = some y) (hx : Loc X.env.scope y) (F : FnG X.prog X.w X.K X.mg X.base (L2.CX X.prog X.w) k f fd ps (spX X.K X.mg sp)) (hgd : X.A.guards = some []) (hr : Room k X.A) (hg : Gl X x) (hm : X.mg x = some (.ref f)) (hk : PySem.W.keepIn X.K (.ref f) = true) (hb : Binds X.K fd ps [])
    (ha : XA X (e :: es) wa) (hdb : (x == ("__debug__" : Str)) = false := by decide) (he : starEach (e :: es) X.env = (false, eval e X.env) :: starEach es X.env := by rfl) (hpl : (backTo pos (starEach es X.env)).any (·.1) = false := by rfl)
    (hs : swapsWith (.Call (.Name x p) (e :: es) [] pos) (some (.Name y yp)) pos2.line X.env = pure false := by rfl)
    (hf : X.fn y = true ∨ X.env.scope.names.lookup y = some .local := by first | exact .inl rfl | exact .inr rfl | assumption) :
    XS X (.Assign [.Name y yp] (.Call (.Name x p) (e :: es) [] pos) pos2) (wSetX i sp wa) := ps_imp (ps_set hN hi hx (pe_callX F hgd hr hg hm hk hb (takes_wish X) ha hdb he hpl) hs hf) fun D σ H h => by
  obtain ⟨G, P, F, s, Φ, R, h, b⟩ := h
  exact callX_of (Φr := fun r s1 => Φ.nx (s1.put i (.d r))) R h (fun v F' H' s' x R' e d q => b.nx _ F' H' _ (R'.setD d) e q) fun c xs F' H' s' R' e q => b.ex c xs σ F' H' s' R' e q
end
/-! try: .. except X: .. -/
/-- tbl tells of each class that may come whether the clause takes it -/
@[simp] def wTry (tbl : List (Str × Bool)) (wb ws : DS) : DS := fun Φ s => wb { nx := Φ.nx, rt := Φ.rt, bk := Φ.bk, ct := Φ.ct, rl := Φ.rl, ex := fun c xs s' => xs.length ≤ 1 ∧ ∃ b, (c, b) ∈ tbl ∧ (if b = true then ws { nx := Φ.nx, rt := Φ.rt, bk := Φ.bk, ct := Φ.ct, rl := Φ.rl } s' else Φ.ex c xs s') } s
def noX : XWish := fun _ _ _ _ _ => False
section
variable {X : Cx} {x : Str} {cv : Value} {body suite : List Stmt} {b₀ : Stmt} {np pos pos' : Pos} {wb ws : DS} {tbl : List (Str × Bool)}
theorem xs_try_only (hs : X.stack = X.env :: X.outer) (hf : X.env.frame = some X.env.locals) (hc : Names X x cv) (ht : ∀ c b, (c, b) ∈ tbl → ∀ C, X.mg c = some (.ref C) → PySem.W.exmOne X.K (.ref C) cv = some b)
    (hb : ∀ (pn : List (Addr × Obj)) (xe : Value → Shared → Prop), PassesOwn (model X.prog X.w) X.A X.env xe → XSs (X.tr pn xe) body wb)
    (hsu : ∀ (a : Addr) (pn : List (Addr × Obj)), XSs (X.suite a pn) (b₀ :: suite) ws) :
    XS X (.Try body [.ExceptHandler (some (.Name x np)) none (b₀ :: suite) pos'] [] [] pos) (wTry tbl wb ws) :=
  ps_imp (ps_try_only (tb := fun W => tS X.K (wW X.K X.mg W) wb) (ts := fun _ _ _ => tS X.K noX ws) hs hf hc (takes_wish X)
    (fun W pn xe tk pa => pss_imp (hb pn xe pa) fun D σ H t => tS_wish (fun c xs F σ H q => wW_X tk q) t)
    (fun a oe cls d pn _ _ => pss_imp (hsu a ((a, oe) :: pn)) fun D σ H t => tS_wish (fun c xs F σ H q => q.elim) t)) fun D σ H h => by
  obtain ⟨G, P, F, s, Φ, R, h, b⟩ := h
  refine ⟨G, P, F, s, _, R, h, ⟨b.nx, b.rt, b.bk, b.ct, b.rl, fun c xs σ' F' H' s' R' e q => ?_⟩⟩
  obtain ⟨hl, bb, hm, q⟩ := q
  intro C gC
  have em := ht c bb hm C gC
  have yes : bb = true → tS X.K noX ws D σ' H' := fun e2 => by
    rw [if_pos e2] at q
    exact ⟨G, P, F', s', _, R', q, ⟨(b.up e).nx, (b.up e).rt, (b.up e).bk, (b.up e).ct, (b.up e).rl, fun _ _ _ _ _ _ _ _ z => z.elim⟩⟩
  have no : bb = false → wX X c xs F' σ' H' := fun e2 => by
    rw [if_neg (by rw [e2]; decide)] at q
    exact b.ex c xs σ' F' H' s' R' e q
  match xs, hl, no with
  | [], _, no => exact ⟨bb, em, fun e2 a _ => yes e2, fun e2 => no e2 C gC⟩
  | [x], _, no => exact fun d v f hd dv => ⟨bb, em, fun e2 a _ => yes e2, fun e2 => no e2 C gC d v f hd dv⟩
  | _ :: _ :: _, hl, _ => simp at hl
end
end DL
/-! DL: a caught error: isinstance, handed to a def -/
namespace DL
open PySem PySem.Spec PyProof.Rows L2
/-- a reference that is handed on as it is -/
abbrev excD (a : Addr) : PyData := .dict [(.none, .int (a : Nat))]
/-- the error at a, of the class D, that is under way in a context -/
structure Held1 (K : PySem.W.Frag) (D : Addr) (p : Addr × Obj) : Prop where
  cls : ExcC K D
  z : Zc (.ref D) none p.2
  f : ∃ vs, p.2.data = .fields vs
@[simp] def wIsE (a : Addr) (b : Bool) (w : DE) : DE := fun s Φ => w s fun x s1 => x = excD a ∧ Φ (.bool b) s1
section
variable {X : Cx} {D : Addr} {p0 : Addr × Obj} {pn : List (Addr × Obj)} {e : Expr} {pos : Pos}
theorem isE_of {v : V} {cv : Value} {b : Bool} {w : DE} (hcv : ∀ u, RelV v u → u = cv) (kb : PySem.W.kitOne X.K (.ref D) cv = some b) (σ : L2.St) (H : Hp) (Q : VK) (h : tE X.K (wIsE p0.1 b w) σ H Q) :
    tE X.K w σ H fun y H1 => (tCons (tC v) tNil) σ H1 fun vs H2 => rIsE X.K D p0.1 (y :: vs) H2 Q := by
  obtain ⟨G, P, F, s, Φ, R, h, k⟩ := h
  refine ⟨G, P, F, s, _, R, h, fun y F1 H1 s1 x R1 e1 d1 q => ?_⟩
  obtain ⟨ex, q⟩ := q
  rw [ex] at d1
  cases d1
  exact ⟨v, cv, b, rfl, hcv, kb, k _ F1 H1 s1 _ R1 e1 (.bl b) q⟩
/-- isinstance(e, C), C an own class -/
theorem xe_isE {T : Str} {C : Addr} {p p1 : Pos} {b : Bool} {w : DE} (E : Held1 X.K D p0) (kb : PySem.W.kitOne X.K (.ref D) (.ref C) = some b) (gC : X.mg T = some (.ref C)) (hg : Gl (X.suite p0.1 (p0 :: pn)) "isinstance") (hm : X.mg "isinstance" = none) (hgT : Gl (X.suite p0.1 (p0 :: pn)) T)
    (h : XE (X.suite p0.1 (p0 :: pn)) e w) (hd : (T == ("__debug__" : Str)) = false := by decide)
    (he : starEach [e, .Name T p1] X.env = (false, eval e X.env) :: starEach [.Name T p1] X.env := by rfl) (he2 : starEach [.Name T p1] X.env = (false, eval (.Name T p1) X.env) :: starEach [] X.env := by rfl) (hpl : (backTo pos (starEach [.Name T p1] X.env)).any (·.1) = false := by rfl) :
    XE (X.suite p0.1 (p0 :: pn)) (.Call (.Name "isinstance" p) [e, .Name T p1] [] pos) (wIsE p0.1 b w) :=
  pe_imp (pe_callB (call_isE E.cls E.z E.f) hg hm (by decide +kernel) (pa_cons h (pa_cons (pe_glob (v := .ref C) hgT gC rfl hd) pa_nil he2) he) (by decide) (by decide) he hpl) fun σ H Q h => isE_of (v := .ref C) (cv := .ref C) (fun u z => z) kb σ H Q h
/-- isinstance(e, T), T of the builtins -/
theorem xe_isET {T : Str} {n : String} {p p1 : Pos} {b : Bool} {w : DE} (E : Held1 X.K D p0) (kb : PySem.W.kitOne X.K (.ref D) (.type n) = some b) (hmT : X.mg T = none) (hvT : bootBuiltins T = some (.type n)) (hg : Gl (X.suite p0.1 (p0 :: pn)) "isinstance") (hm : X.mg "isinstance" = none) (hgT : Gl (X.suite p0.1 (p0 :: pn)) T)
    (h : XE (X.suite p0.1 (p0 :: pn)) e w) (hn : T ≠ "__name__" := by decide) (hd : (T == ("__debug__" : Str)) = false := by decide)
    (he : starEach [e, .Name T p1] X.env = (false, eval e X.env) :: starEach [.Name T p1] X.env := by rfl) (he2 : starEach [.Name T p1] X.env = (false, eval (.Name T p1) X.env) :: starEach [] X.env := by rfl) (hpl : (backTo pos (starEach [.Name T p1] X.env)).any (·.1) = false := by rfl) :
    XE (X.suite p0.1 (p0 :: pn)) (.Call (.Name "isinstance" p) [e, .Name T p1] [] pos) (wIsE p0.1 b w) :=
  pe_imp (pe_callB (call_isE E.cls E.z E.f) hg hm (by decide +kernel) (pa_cons h (pa_cons (pe_bltn (v := .ty n) hgT hmT hvT rfl hn hd) pa_nil he2) he) (by decide) (by decide) he hpl) fun σ H Q h => isE_of (v := .ty n) (cv := .type n) (fun u z => z) kb σ H Q h
end
theorem bb_ValueError : bootBuiltins "ValueError" = some (.type "ValueError") := by decide +kernel
/-- what a def promises that is handed the error under way and tells b of it -/
structure FnE (P : Program) (w : World) (K : PySem.W.Frag) (mg : Str → Option Value) (base : Heap) (k : Nat) (f : Addr) (fd : FuncData) (ps : List Str) (D : Addr) (b : Bool) : Prop where
  len : ps.length = 1
  go : ∀ (A : Around) (outer : List Env) (s : Shared) (H : Hp) (Q : VK) (E : XK) (p : Addr × Obj), L2H.RoomH k A → A.handled = some (.ref p.1) → Held1 K D p → L2H.PinOk outer H s p → Env0 P w K mg base A outer s H → BindsTo s fd ⟨[.ref p.1], []⟩ (ps.zip [.ref p.1]) →
    spD K (fun ds Φ => ds = [excD p.1] ∧ Φ (.bool b)) [.ref p.1] H Q E → codeAny (model P w) A (.call (.ref f) ⟨[.ref p.1], []⟩) (CR CX0 outer P w H s Q E) s
section
variable {P : Program} {w : World} {K : PySem.W.Frag} {mg : Str → Option Value} {base : Heap} {k : Nat} {f D : Addr} {fd : FuncData} {ps : List Str} {b : Bool}
theorem hot_ctx {N : List Str} {qual : Str} {scope : Scope} {cdv : Value} {A : Around} {outer : List Env} {s : Shared} {H : Hp} {E : XK} {p : Addr × Obj} (hh : A.handled = some (.ref p.1)) :
    (L2H.cxH CX0 P w K mg base N qual scope f cdv A outer s H E p).nox = (cxOf CX0 P w K mg base N qual scope f cdv A outer s H E).suite p.1 [p] := by

  cases A
  dsimp only at hh
  subst hh
  rfl
theorem fn_E {qual x : Str} {st : Stmt} {N : List Str} (F : Fun K x qual st f fd) (Sc : FnScope N ps (defScope st)) (len : ps.length = 1)
    (hbody : ∀ (cdv : Value) (A : Around) (outer : List Env) (s : Shared) (H : Hp) (E : XK) (p : Addr × Obj), Held1 K D p →
      ∃ wd, XSs ((cxOf CX0 P w K mg base N qual (defScope st) f cdv A outer s H E).suite p.1 [p]) (defBody st) wd ∧ ∀ Φ : PyData → Prop, Φ (.bool b) → wd (endD Φ) ⟨startE N [.d (excD p.1)], []⟩) : FnE P w K mg base (k + 1) f fd ps D b := by
  obtain ⟨oc, od, kV, doc, pm, an, cdv, ct, osl, rfl, lk, hcd⟩ := F.ex
  refine ⟨len, fun A outer s H Q E p hr hot hE hpin z hb hsp => ?_⟩
  have names : ∀ y ∈ ps.zip [Value.ref p.1], (defScope st).names.lookup y.1 = some .local ∨ ((defScope st).names.lookup y.1 = some .cell ∧ ((cellsFrom (s.heap.objs.size + 1) (defScope st).names []).lookup y.1).isSome = true) := by
    rintro ⟨n, v⟩ hy
    rcases Sc.par n (List.of_mem_zip hy).1 with q | q
    · exact Or.inl q
    · exact Or.inr ⟨q, PySem.W.cellsFrom_some _ _ _ (Or.inl q)⟩
  have kin : K.In s.heap := z.mod.kin.keeps fun b o e => (z.bs b o e).1
  have nolim : s.heap.NoLimit := z.mod.nolimit.keeps fun b o e => (z.bs b o e).1
  refine codeAny_call_function hr.depth (kin _ _ lk) rfl Sc.co Sc.gen rfl (PySem.W.codeRec_of kin hcd) (hb _ _ _ _ (wpAny_newFunctionEnv_cells Sc.kind names fun env he s1 y => ?_))
  subst he
  obtain ⟨wd, hX, hw⟩ := hbody cdv A outer s H E p hE
  rw [← hot_ctx hot] at hX
  obtain ⟨F, ds, Φ, e, d, ⟨hds, hs⟩, kk⟩ := hsp
  subst hds
  have r : Vals [V.ref p.1] [Value.ref p.1] := .cons rfl .nil
  have fr : ∀ {σ' : L2.St} {F' H' : Hp} {s' : S}, Rep K (partH F H none) none F' H' σ' s' → Same F F' → Fresh F H F' H' := fun {σ' F' H' s'} R ee =>
    ⟨ee, R.same, fun b o hb => by
      cases hF : F b with
      | none => exact R.keep b o (partH_at hF (fun z => by cases z) hb)
      | some u =>
        have q := e b u hF
        rw [hb] at q
        cases q
        exact R.same b o (ee b o hF), fun b o hb hF => R.apart b o (partH_at hF (fun z => by cases z) hb)⟩
  have start : tS K (wX (L2H.cxH CX0 P w K mg base N qual (defScope st) f cdv A outer s H E p).nox) wd { nx := fun _ H' => Q .non H', rt := Q } (L2.start N [V.ref p.1]) H :=
    ⟨_, none, F, _, _, rep_startD e d [], hw Φ hs, ⟨fun σ' F' H' s' R ee q => kk _ F' H' .none (fr R ee) .non q, fun v σ' F' H' s' x R ee dx q => kk v F' H' x (fr R ee) dx q, fun _ _ _ _ _ _ q => q.elim, fun _ _ _ _ _ _ q => q.elim, fun _ _ _ _ _ _ _ _ _ _ _ _ q => q.elim, fun _ _ _ _ _ _ _ _ q => q.elim⟩⟩
  refine ⟨nolim.keeps y.toInCall.keep, codeAny_func (wpAny_mono (hX.nox.run [] s1 (L2.start N [V.ref p.1]) H _ (L2H.inv_startH Sc hpin z len.symm r y) start) (fun fl s' hs => ?_) fun e s' hs => hs)⟩
  cases fl with
  | ret u =>
    obtain ⟨v, σ', H', J, rv, q⟩ := hs
    exact (⟨v, H', J.os, J.bare, J.base, J.hok, rv, q⟩ : CE outer P w H s Q u s')
  | next =>
    obtain ⟨σ', H', J, q⟩ := hs
    exact (⟨V.non, H', J.os, J.bare, J.base, J.hok, rfl, q⟩ : CE outer P w H s Q .none s')
  | brk => exact hs.elim fun _ h => h.elim fun _ h => False.elim h.2
  | cont => exact hs.elim fun _ h => h.elim fun _ h => False.elim h.2
end
end DL
/-! DL: a caught error handed to a def; try .. except X as e -/
namespace DL
open PySem PySem.Spec PyProof.Rows L2
section
variable {X : Cx} {D : Addr} {p0 : Addr × Obj} {pn : List (Addr × Obj)} {e : Expr} {pos : Pos} {k : Nat} {f : Addr} {fd : FuncData} {ps : List Str} {x : Str} {p : Pos} {b : Bool} {w : DE}
def tCallE (K : PySem.W.Frag) (a : Addr) (b : Bool) (t : TA) : TE := fun σ H Q => t σ H fun vs H1 => vs = [V.ref a] ∧ spD K (fun ds Φ => ds = [excD a] ∧ Φ (.bool b)) [V.ref a] H1 Q E0
theorem pe_callE {t : TA} (F : FnE X.prog X.w X.K X.mg X.base k f fd ps D b) (E : Held1 X.K D p0) (hr : L2H.RoomH k X.A) (hg : Gl (X.suite p0.1 (p0 :: pn)) x) (hm : X.mg x = some (.ref f)) (hk : PySem.W.keepIn X.K (.ref f) = true) (hb : Binds X.K fd ps [])
    (ha : PA (X.suite p0.1 (p0 :: pn)) [e] t) (hdb : (x == ("__debug__" : Str)) = false := by decide) (he : starEach [e] X.env = (false, eval e X.env) :: starEach [] X.env := by rfl) (hpl : (backTo pos (starEach [] X.env)).any (·.1) = false := by rfl) :
    PE (X.suite p0.1 (p0 :: pn)) (.Call (.Name x p) [e] [] pos) (tCallE X.K p0.1 b t) := by
  refine ⟨fun pins s σ H Q I h => wpAny_Call_Name_kw (ld_glob I hg hm (PySem.W.callWith_K (h₀ := X.base) I.ok.mod.kin hk (thn (ha.run pos pins s σ H _ I h) fun us s1 ⟨vs, H1, J, r, ev, q⟩ => ⟨J.kIn, ?_⟩) he hpl) hdb)⟩
  subst ev
  have eu : us = [Value.ref p0.1] := by
    cases r with
    | cons r1 r2 =>
      cases r2
      have r1 : _ = Value.ref p0.1 := r1
      rw [r1]
  subst eu
  have bb := hb s1 [Value.ref p0.1] J.kIn (by rw [F.len]; rfl)
  rw [List.append_nil] at bb
  have P1 := J.pin p0 (List.mem_append_left _ List.mem_cons_self)
  have hpin : L2H.PinOk (X.suite p0.1 (p0 :: pn)).stack H1 s1 p0 := ⟨P1.1, P1.2.1, fun hm => (List.mem_cons.mp (J.stkSub p0.1 hm)).elim P1.2.2.1 P1.2.2.2.1, P1.2.2.2.2⟩
  refine wpAny_call (codeAny_mono (F.go (X.suite p0.1 (p0 :: pn)).A X.stack s1 H1 Q E0 p0 ⟨hr.dp, hr.un⟩ rfl E hpin J.env0 bb q) fun r s' hq => ?_)
  match r, hq with
  | .error e, hq => exact hq.elim
  | .ok (.ret u), hq => exact J.after hq
  | .ok .next, hq => exact hq.elim
  | .ok .brk, hq => exact hq.elim
  | .ok .cont, hq => exact hq.elim
@[simp] def wCallE (a : Addr) (b : Bool) (wa : DA) : DE := fun s Φ => wa s fun ds s1 => ds = [excD a] ∧ Φ (.bool b) s1
theorem xe_callE {wa : DA} (F : FnE X.prog X.w X.K X.mg X.base k f fd ps D b) (E : Held1 X.K D p0) (hr : L2H.RoomH k X.A) (hg : Gl (X.suite p0.1 (p0 :: pn)) x) (hm : X.mg x = some (.ref f)) (hk : PySem.W.keepIn X.K (.ref f) = true) (hb : Binds X.K fd ps [])
    (ha : XA (X.suite p0.1 (p0 :: pn)) [e] wa) (hdb : (x == ("__debug__" : Str)) = false := by decide) (he : starEach [e] X.env = (false, eval e X.env) :: starEach [] X.env := by rfl) (hpl : (backTo pos (starEach [] X.env)).any (·.1) = false := by rfl) :
    XE (X.suite p0.1 (p0 :: pn)) (.Call (.Name x p) [e] [] pos) (wCallE p0.1 b wa) := pe_imp (pe_callE F E hr hg hm hk hb ha hdb he hpl) fun σ H Q h => by
  obtain ⟨G, P, F, s, Φ, R, h, kk⟩ := h
  refine ⟨G, P, F, s, _, R, h, fun vs F1 H1 s1 ds R1 e1 d1 q => ?_⟩
  obtain ⟨eds, q⟩ := q
  subst eds
  cases d1 with
  | cons d2 d3 =>
    cases d3
    cases d2
    exact ⟨rfl, F1, [excD p0.1], fun r => Φ r s1, R1.same, .cons (.er _) .nil, ⟨rfl, q⟩, fun v F' H' x fr dx qx => kk v F' H' s1 x (R1.fresh fr) (e1.trans fr.ff) dx qx⟩
/-! try: .. except X as n: .. -/
/-- tbl tells of each class that may come whether the clause takes it; n's slot holds the error while the suite runs -/
@[simp] def wTryAs (i : Nat) (tbl : List (Str × Bool)) (wb : DS) (ws : Addr → DS) : DS := fun Φ s => wb { nx := Φ.nx, rt := Φ.rt, bk := Φ.bk, ct := Φ.ct, rl := Φ.rl, ex := fun c xs s' => xs = [] ∧ ∃ b, (c, b) ∈ tbl ∧
  (if b = true then ∀ a, ws a { nx := fun s2 => Φ.nx (s2.put i .un), rt := Φ.rt, bk := fun s2 => Φ.bk (s2.put i .un), ct := fun s2 => Φ.ct (s2.put i .un), rl := Φ.rl } (s'.put i (.d (excD a))) else Φ.ex c xs s') } s
theorem Rep.dropU {K : PySem.W.Frag} {G F H : Hp} {P : Option Addr} {σ : L2.St} {s : S} {i : Nat} (R : Rep K G P F H σ s) : Rep K G P F H (σ.set i none) (s.put i .un) := by
  refine ⟨R.same, R.keep, R.apart, fun j y hy => ?_, fun j k ys zs r hj hk e1 e2 => ?_, R.pool, put_len R.len, fun j k y z r hj hk hr jk oc => ?_⟩
  · rcases set_get hy with ⟨rfl, rfl⟩ | ⟨ne, hy⟩
    · exact True.intro
    · have q := R.sl j y hy
      cases y with
      | un => exact True.intro
      | d y =>
        obtain ⟨u, a, b⟩ := q
        exact ⟨u, by rw [List.getElem?_set_ne (Ne.symm ne)]; exact a, b⟩
      | o ys =>
        obtain ⟨p', vs', g1, g2⟩ := q
        exact ⟨p', vs', by rw [List.getElem?_set_ne (Ne.symm ne)]; exact g1, g2⟩
      | pl =>
        obtain ⟨a, h1, h2⟩ := q
        exact ⟨a, h1, by rw [List.getElem?_set_ne (Ne.symm ne)]; exact h2⟩
      | sc ns =>
        obtain ⟨a, h1, h2⟩ := q
        exact ⟨a, by rw [List.getElem?_set_ne (Ne.symm ne)]; exact h1, h2⟩
      | tb p' qs xss => exact q.tbUp (List.getElem?_set_ne (Ne.symm ne)) (Same.refl F) fun r o hr g1 g2 g3 g4 => ⟨g1, g2, g3, g4⟩
  · rcases set_get hj with ⟨_, z⟩ | ⟨nj, hj⟩
    · cases z
    · rcases set_get hk with ⟨_, z⟩ | ⟨nk, hk⟩
      · cases z
      · rw [List.getElem?_set_ne (Ne.symm nj)] at e1
        rw [List.getElem?_set_ne (Ne.symm nk)] at e2
        exact R.sep j k ys zs r hj hk e1 e2
  · rcases set_get hj with ⟨_, rfl⟩ | ⟨_, hj⟩
    · cases hr
    · rcases set_get hk with ⟨_, rfl⟩ | ⟨nk, hk⟩
      · rcases oc with z | ⟨⟨_, z⟩, _⟩
        · cases z
        · cases z
      · refine R.tbs j k y z r hj hk hr jk ?_
        rcases oc with q | ⟨q, q2⟩
        · exact .inl q
        · rw [List.getElem?_set_ne (Ne.symm nk)] at q2
          exact .inr ⟨q, q2⟩
theorem xs_try_as {n : Str} {i : Nat} {cv : Value} {body suite : List Stmt} {b₀ : Stmt} {np pos' : Pos} {wb : DS} {ws : Addr → DS} {tbl : List (Str × Bool)} (hs : X.stack = X.env :: X.outer) (hf : X.env.frame = some X.env.locals) (hN : X.N.Nodup) (hi : X.N[i]? = some n) (hln : X.env.kindOf n = some .local)
    (hc : Names X x cv) (ht : ∀ c b, (c, b) ∈ tbl → ∀ C, X.mg c = some (.ref C) → PySem.W.exmOne X.K (.ref C) cv = some b ∧ (b = true → C = D)) (hE : ExcC X.K D)
    (hb : ∀ (pn : List (Addr × Obj)) (xe : Value → Shared → Prop), PassesOwn (model X.prog X.w) X.A X.env xe → XSs (X.tr pn xe) body wb)
    (hsu : ∀ (p0 : Addr × Obj) (pn : List (Addr × Obj)), Held1 X.K D p0 → XSs (X.suite p0.1 (p0 :: pn)) (b₀ :: suite) (ws p0.1)) :
    XS X (.Try body [.ExceptHandler (some (.Name x np)) (some n) (b₀ :: suite) pos'] [] [] pos) (wTryAs i tbl wb ws) :=
  ps_imp (ps_try_as (tb := fun W => tS X.K (wW X.K X.mg W) wb) (ts := fun a cls d D' σ H => (cls = .ref D ∧ d = none) ∧ tS X.K noX (ws a) D' σ H) hs hf hN hi hln hc (takes_wish X)
    (fun W pn xe tk pa => pss_imp (hb pn xe pa) fun D' σ H t => tS_wish (fun c xs F σ H q => wW_X tk q) t)
    (fun a oe cls d pn hz hfl => ⟨fun pins s σ H D' I h => by
      obtain ⟨⟨e1, e2⟩, h⟩ := h
      subst e1
      subst e2
      exact (hsu (a, oe) pn ⟨hE, hz, hfl⟩).run pins s σ H D' I (tS_wish (fun c xs F σ H q => q.elim) h)⟩)) fun D' σ H h => by
  obtain ⟨G, P, F, s, Φ, R, h, b⟩ := h
  refine ⟨G, P, F, s, _, R, h, ⟨b.nx, b.rt, b.bk, b.ct, b.rl, fun c xs σ' F' H' s' R' e q => ?_⟩⟩
  obtain ⟨rfl, bb, hm, q⟩ := q
  intro C gC
  obtain ⟨em, eD⟩ := ht c bb hm C gC
  refine ⟨bb, em, fun e2 a na => ⟨⟨by rw [eD e2], rfl⟩, ?_⟩, fun e2 => ?_⟩
  · rw [if_pos e2] at q
    refine ⟨G, P, F', _, _, R'.setD (.er a), q a, ⟨fun σ2 F2 H2 s2 R2 e3 q2 => b.nx _ F2 H2 _ R2.dropU (e.trans e3) q2, fun v σ2 F2 H2 s2 x R2 e3 => b.rt v σ2 F2 H2 s2 x R2 (e.trans e3), fun σ2 F2 H2 s2 R2 e3 q2 => b.bk _ F2 H2 _ R2.dropU (e.trans e3) q2, fun σ2 F2 H2 s2 R2 e3 q2 => b.ct _ F2 H2 _ R2.dropU (e.trans e3) q2,
      fun p vs σ2 F2 H2 s2 xs R2 e3 => b.rl p vs σ2 F2 H2 s2 xs R2 (e.trans e3), fun _ _ _ _ _ _ _ _ z => z.elim⟩⟩
  · rw [if_neg (by rw [e2]; decide)] at q
    exact b.ex c [] σ' F' H' s' R' e q C gC
end
end DL
/-! DL: defs that stand and may raise; defs that are handed an error -/
namespace DL
open PySem PySem.Spec PyProof.Rows L2
structure CaX (P : Program) (w : World) (K : PySem.W.Frag) (mg : Str → Option Value) (base : Heap) (k : Nat) (x : Str) (ps : List Str) (sp : DSpX) : Prop where
  ex : ∃ f fd, FnG P w K mg base (L2.CX P w) k f fd ps (spX K mg sp) ∧ mg x = some (.ref f) ∧ PySem.W.keepIn K (.ref f) = true ∧ Binds K fd ps []
structure CaE (P : Program) (w : World) (K : PySem.W.Frag) (mg : Str → Option Value) (base : Heap) (k : Nat) (x : Str) (ps : List Str) (D : Addr) (b : Bool) : Prop where
  ex : ∃ f fd, FnE P w K mg base k f fd ps D b ∧ mg x = some (.ref f) ∧ PySem.W.keepIn K (.ref f) = true ∧ Binds K fd ps []
section
variable {P : Program} {w : World} {K : PySem.W.Frag} {mg : Str → Option Value} {base h : Heap} {k : Nat} {ps : List Str} {x : Str} {st : Stmt} {N : List Str}
theorem caX {sp : DSpX} (D : DefK K x st) (X : K.In h) (G : h.Ns mainGlobals mg) (Sc : FnScope N ps (defScope st)) (b : Bnd x st ps) (len : ∀ ds Φ Ψ, sp ds Φ Ψ → ds.length = ps.length)
    (body : ∀ (f : Addr) (cdv : Value) (A : Around) (outer : List Env) (s : Shared) (H : Hp) (E : XK), (A.deeper (envOfC x (defScope st) s.heap.objs.size f cdv)).guards = some [] → Room k (A.deeper (envOfC x (defScope st) s.heap.objs.size f cdv)) →
      ∃ wd, XSs (cxOf (L2.CX P w) P w K mg base N x (defScope st) f cdv A outer s H E) (defBody st) wd ∧ ∀ ds Φ Ψ, sp ds Φ Ψ → wd (endX Φ Ψ) ⟨startE N (ds.map .d), []⟩) : CaX P w K mg base (k + 1) x ps sp := by
  obtain ⟨f, od, an, sl, oc, kV, dc, pm, cd, ct, F, gm, kp⟩ := D.fn X G
  exact ⟨f, _, fn_X F Sc len (body f), gm, kp, F.binds b⟩
theorem caE {D : Addr} {b : Bool} (Df : DefK K x st) (X : K.In h) (G : h.Ns mainGlobals mg) (Sc : FnScope N ps (defScope st)) (bd : Bnd x st ps) (len : ps.length = 1)
    (body : ∀ (f : Addr) (cdv : Value) (A : Around) (outer : List Env) (s : Shared) (H : Hp) (E : XK) (p : Addr × Obj), Held1 K D p →
      ∃ wd, XSs ((cxOf CX0 P w K mg base N x (defScope st) f cdv A outer s H E).suite p.1 [p]) (defBody st) wd ∧ ∀ Φ : PyData → Prop, Φ (.bool b) → wd (endD Φ) ⟨startE N [.d (excD p.1)], []⟩) : CaE P w K mg base (k + 1) x ps D b := by
  obtain ⟨f, od, an, sl, oc, kV, dc, pm, cd, ct, F, gm, kp⟩ := Df.fn X G
  exact ⟨f, _, fn_E F Sc len (body f), gm, kp, F.binds bd⟩
end
section
variable {X : Cx} {k kX i : Nat} {sp : DSpX} {ps : List Str} {x y : Str} {p pos pos2 yp : Pos} {e : Expr} {es : List Expr} {wa : DA} {D : Addr} {p0 : Addr × Obj} {pn : List (Addr × Obj)} {b : Bool}
theorem c_retX (C : CaX X.prog X.w X.K X.mg X.base k x ps sp) (hgd : X.A.guards = some []) (hr : Room kX X.A) (hk : k ≤ kX) (hg : Gl X x) (ha : XA X (e :: es) wa)
    (hdb : (x == ("__debug__" : Str)) = false := by decide) (he : starEach (e :: es) X.env = (false, eval e X.env) :: starEach es X.env := by rfl) (hpl : (backTo pos (starEach es X.env)).any (·.1) = false := by rfl) :
    XS X (.Return (some (.Call (.Name x p) (e :: es) [] pos)) pos2) (wRetX sp wa) := by
  obtain ⟨f, fd, F, gm, kp, b⟩ := C.ex
  exact xs_retX F hgd (hr.mono hk) hg gm kp b ha hdb he hpl
theorem c_setX (hN : X.N.Nodup) (hi : X.N[i]? = some y) (hx : Loc X.env.scope y) (C : CaX X.prog X.w X.K X.mg X.base k x ps sp) (hgd : X.A.guards = some []) (hr : Room kX X.A) (hk : k ≤ kX) (hg : Gl X x) (ha : XA X (e :: es) wa)
    (hdb : (x == ("__debug__" : Str)) = false := by decide) (he : starEach (e :: es) X.env = (false, eval e X.env) :: starEach es X.env := by rfl) (hpl : (backTo pos (starEach es X.env)).any (·.1) = false := by rfl)
    (hs : swapsWith (.Call (.Name x p) (e :: es) [] pos) (some (.Name y yp)) pos2.line X.env = pure false := by rfl)
    (hf : X.fn y = true ∨ X.env.scope.names.lookup y = some .local := by first | exact .inl rfl | exact .inr rfl | assumption) :
    XS X (.Assign [.Name y yp] (.Call (.Name x p) (e :: es) [] pos) pos2) (wSetX i sp wa) := by
  obtain ⟨f, fd, F, gm, kp, b⟩ := C.ex
  exact xs_setX hN hi hx F hgd (hr.mono hk) hg gm kp b ha hdb he hpl hs hf
theorem c_callE (C : CaE X.prog X.w X.K X.mg X.base k x ps D b) (E : Held1 X.K D p0) (hr : Room kX X.A) (hk : k ≤ kX) (hg : Gl (X.suite p0.1 (p0 :: pn)) x) (ha : XA (X.suite p0.1 (p0 :: pn)) [e] wa)
    (hdb : (x == ("__debug__" : Str)) = false := by decide) (he : starEach [e] X.env = (false, eval e X.env) :: starEach [] X.env := by rfl) (hpl : (backTo pos (starEach [] X.env)).any (·.1) = false := by rfl) :
    XE (X.suite p0.1 (p0 :: pn)) (.Call (.Name x p) [e] [] pos) (wCallE p0.1 b wa) := by
  obtain ⟨f, fd, F, gm, kp, bb⟩ := C.ex
  exact xe_callE F E (L2H.roomH_of (hr.mono hk)) hg gm kp bb ha hdb he hpl
end
/-! what the classes answer -/
theorem kit_ref {K : PySem.W.Frag} {t : Value} {C : Addr} {b : Bool} (h1 : PySem.W.isClsIn K C = true) (h2 : PySem.W.typeIn K (.ref C) = some (.type "type")) (h3 : PySem.W.subIn K t (.ref C) = some b) (h4 : b = true ∨ (t == .ref C) = false) : PySem.W.kitOne K t (.ref C) = some b := by
  have e : PySem.W.kitCls K t (.ref C) = some b := by
    show (if ((PySem.W.clsIn K C).isSome && PySem.W.typeIn K (.ref C) == some (.type "type")) = true then PySem.W.subIn K t (.ref C) else none) = some b
    have h1 : (PySem.W.clsIn K C).isSome = true := h1
    rw [h1, h2, if_pos (by decide), h3]
  unfold PySem.W.kitOne
  by_cases q : (t == Value.ref C) = true
  · rw [if_pos q]
    rcases h4 with h4 | h4
    · rw [h4]
    · rw [h4] at q
      cases q
  · rw [if_neg q]
    exact e
theorem kit_val {K : PySem.W.Frag} {D : Addr} {b : Bool} (h : PySem.W.subIn K (.ref D) (.type "ValueError") = some b) : PySem.W.kitOne K (.ref D) (.type "ValueError") = some b := by
  have e : PySem.W.kitMeta "ValueError" = true := by decide +kernel
  show (if (Value.ref D == Value.type "ValueError") = true then some true else (if PySem.W.kitMeta "ValueError" = true then PySem.W.subIn K (.ref D) (.type "ValueError") else none)) = some b
  rw [if_neg (by intro z; cases (beq_iff_eq.mp z)), if_pos e]
  exact h
end DL
/-! DL: enumerate of a text -/
namespace DL
open PySem PySem.Spec PyProof.Rows L2
def IteS (x : Str) : It :=
  ⟨fun i _ => i < x.cps.size, fun i H v H' => ∃ T c, v = .ref T ∧ H T = none ∧ x.cps[i]? = some c ∧ H' = upd H T (.tup [.int (i : Nat), .str ⟨#[c]⟩]), fun i _ => x.cps.size ≤ i⟩
theorem draws_text {prog : Program} {w : World} {A : Around} (hh : A.handled = none) (it : Addr) (x : Str) (t : Tok) :
    Draws prog w A it [it] x.cps.size (fun i v => ∃ c u, x.cps[i]? = some c ∧ v = .str ⟨#[c]⟩ u) (fun i h => h.IsStrIter it (strIterType x) x t i) := by
  cases ha : x.cps.all (· < 128)
  · simp only [strIterType, ha, Bool.false_eq_true, if_false]
    exact .strWide hh it x t
  · simp only [strIterType, ha, if_true]
    exact .strAscii hh it x t
theorem turn_enumS {P : Program} {w : World} {K : PySem.W.Frag} {elts : List Expr} {kk : Nat} {tpos : Pos} (x : Str) (t : Tok) (e it : Addr) :
    Turn P w K (.Tuple elts kk tpos) (IteS x) [e, it] e (fun i h => (∃ old, IsEnum h e it ((i : Nat) : Int) old) ∧ h.IsStrIter it (strIterType x) x t i ∧ e ≠ it ∧ i ≤ x.cps.size) where
  mem := by simp
  obj := fun i h st b hb => by
    obtain ⟨⟨old, he⟩, ⟨o, ho, hc, hd⟩, _⟩ := st
    have e' : b = e ∨ b = it := by simpa using hb
    rcases e' with z | z
    · rw [z]; exact ⟨_, he, fun v q => nomatch q⟩
    · rw [z]; exact ⟨o, ho, fun v q => by rw [hd] at q; cases q⟩
  keep := fun i h h' st k => let ⟨⟨old, he⟩, ⟨o, ho, r⟩, hne, hle⟩ := st; ⟨⟨old, k e (by simp) _ he⟩, ⟨o, k it (by simp) o ho, r⟩, hne, hle⟩
  item := by
    intro X hP hw hK hc i pins s σ H E I hf st hg
    subst hP hw hK
    obtain ⟨⟨old, he⟩, hit, hne, hle⟩ := st
    have hel : e < s.heap.objs.size := Heap.lt_size he
    have hil : it < s.heap.objs.size := by obtain ⟨_, q, _⟩ := hit; exact Heap.lt_size q
    have hlt : i < x.cps.size := hg
    refine wpAny_pyNext_enum_itemD (draws_text (A := X.A.in1) (I.ok.hd hc) it x t) he hit hlt hne (by simpa using hne) fun v h' tk hv ho hit' hT hsz hk => ?_
    obtain ⟨c, u, hcx, rfl⟩ := hv
    refine ⟨_, rfl, wpAny_letOwnedTupleGo_enum (s := { s with heap := h', toks := tk + 1 }) ho fun h'' he' sb => ?_⟩
    have hT2 : h''.get? s.heap.objs.size = some { cls := .type "tuple", data := .seq #[.int i tk, .str ⟨#[c]⟩ u] } := (sb.2 _ (Nat.ne_of_gt hel)).trans hT
    have new : ObjOk X.prog X.w (upd H s.heap.objs.size (.tup [.int (i : Nat), .str ⟨#[c]⟩])) h'' s.heap.objs.size (.tup [.int (i : Nat), .str ⟨#[c]⟩]) :=
      ⟨by show 2 ≤ sizeLine; decide, [.int i tk, .str ⟨#[c]⟩ u], .cons ⟨_, rfl⟩ (.cons ⟨_, rfl⟩ .nil), ⟨_, hT2, rfl, _, rfl⟩⟩
    have I1 : Inv X pins σ (upd H s.heap.objs.size (.tup [.int (i : Nat), .str ⟨#[c]⟩])) { s with heap := h'', toks := tk + 1 } :=
      I.turnedNew (ch := [e, it]) (fun b ob hb q => (sb.2 b (fun z => hb (by simp [z]))).trans (hk b ob (fun z => hb (by simp [z])) (fun z => hb (by simp [z])) q)) hf (Nat.le_refl _) new
    refine ⟨.ref s.heap.objs.size, _, I1, rfl, ⟨_, c, rfl, I.hok.fresh (Nat.le_refl _), hcx, rfl⟩, ⟨⟨.str ⟨#[c]⟩ u, ?_⟩, ?_, hne, hlt⟩, fun b hb => ?_⟩
    · have e1 : ((i + 1 : Nat) : Int) = (i : Int) + 1 := by omega
      rw [e1]; exact he'
    · obtain ⟨o, ho2, r⟩ := hit'
      exact ⟨o, (sb.2 it (Ne.symm hne)).trans ho2, r⟩
    · have hb' : b < s.heap.objs.size := by
        have e' : b = e ∨ b = it := by simpa using hb
        rcases e' with z | z
        · rw [z]; exact hel
        · rw [z]; exact hil
      rw [upd_ne (Nat.ne_of_lt hb')]
      exact (hf b hb).1
  done := by
    intro X hP hw hK hc i pins s σ H E I hf st hg
    subst hP hw hK
    obtain ⟨⟨old, he⟩, hit, hne, hle⟩ := st
    obtain ⟨f0, f1, f2, f3, f4, f5⟩ := hf it (by simp)
    have hg : x.cps.size ≤ i := hg
    have ei : i = x.cps.size := Nat.le_antisymm hle hg
    subst ei
    exact wpAny_pyNext_enum_endD (draws_text (A := X.A.in1) (I.ok.hd hc) it x t) he hit fun h' eb => ⟨rfl, I.turned (t' := s.toks) (fun b o hb q => eb b o hb q) f0 f1 f3 f4 f5⟩
  self := fun A i s Q E st h => let ⟨⟨_, he⟩, _⟩ := st; wpAny_pyIter_enum he h
def iEnum2 (K : PySem.W.Frag) (ta : TA) : TI := fun σ H R => ta σ H fun vs H1 => (∃ a xs, vs = [.ref a] ∧ SqL K H1 a xs ∧ R (Ite K a) H1) ∨ ∃ x, vs = [.str x] ∧ R (IteS x) H1
theorem pi_enum2 {X : Cx} {e : Expr} {ta : TA} {p pos tpos : Pos} {elts : List Expr} {kk : Nat} (hg : Gl X "enumerate") (hm : X.mg "enumerate" = none) (ha : PA X [e] ta) (hs : starEach [e] X.env = [(false, eval e X.env)] := by rfl) :
    PI X (.Tuple elts kk tpos) (.Call (.Name "enumerate" p) [e] [] pos) (iEnum2 X.K ta) := by
  refine ⟨fun pins s σ H R I h => ?_⟩
  refine Call_ (ld_blt I hg hm boot_enumerate (PyProof.Rows.callWith_type1 (thn (ha.run pos pins s σ H _ I h) fun us s1 ⟨vs, H1, I1, r1, q1⟩ => ?_) hs rfl))
  rcases q1 with ⟨a, xs, ex, hq, q⟩ | ⟨x, ex, q⟩
  · subst ex
    cases r1 with
    | cons r rr =>
      cases rr
      cases r
      obtain ⟨its, rv, p', hz⟩ := I1.list hq
      refine call_enumerate_list p'.isList fun h' he hit hsz hk => wpAny_pyIter_enum he ?_
      have I2 : Inv X pins σ H1 { s1 with heap := h' } := I1.kept (t' := s1.toks) hk
      refine ⟨s1.heap.objs.size + 1, [s1.heap.objs.size + 1, s1.heap.objs.size], _, _, H1, rfl, I2, turn_enum a (s1.heap.objs.size + 1) s1.heap.objs.size, ⟨⟨.none, he⟩, hit, Nat.succ_ne_self _⟩, fun b hb => ?_, q⟩
      have e' : b = s1.heap.objs.size + 1 ∨ b = s1.heap.objs.size := by simpa using hb
      have hle : s1.heap.objs.size ≤ b := by
        rcases e' with z | z
        · rw [z]; exact Nat.le_add_right _ _
        · rw [z]; exact Nat.le_refl _
      exact I1.fpOk hle (I1.hok.fresh hle)
  · subst ex
    cases r1 with
    | cons r rr =>
      cases rr
      obtain ⟨t, rfl⟩ := r
      refine call_enumerate_str fun h' he hit hsz hk => wpAny_pyIter_enum he ?_
      have I2 : Inv X pins σ H1 { s1 with heap := h' } := I1.kept (t' := s1.toks) hk
      refine ⟨s1.heap.objs.size + 1, [s1.heap.objs.size + 1, s1.heap.objs.size], _, _, H1, rfl, I2, turn_enumS x t (s1.heap.objs.size + 1) s1.heap.objs.size, ⟨⟨.none, he⟩, hit, Nat.succ_ne_self _, Nat.zero_le _⟩, fun b hb => ?_, q⟩
      have e' : b = s1.heap.objs.size + 1 ∨ b = s1.heap.objs.size := by simpa using hb
      have hle : s1.heap.objs.size ≤ b := by
        rcases e' with z | z
        · rw [z]; exact Nat.le_add_right _ _
        · rw [z]; exact Nat.le_refl _
      exact I1.fpOk hle (I1.hok.fresh hle)
theorem yl_enumS {K : PySem.W.Frag} {F : Hp} {z : Str} : Yl K F (IteS z) (enumD (signsOf z)) := fun F1 H1 e1 e2 i => by
  have hl : (signsOf z).length = z.cps.size := by
    unfold signsOf
    rw [List.length_map, Array.length_toList]
  refine ⟨fun x hx => ?_, fun h => by rw [enumD_len, hl] at h; exact h⟩
  obtain ⟨y, hy, rfl⟩ := enumD_get hx
  have hi : i < z.cps.size := by rw [← hl]; exact (List.getElem?_eq_some_iff.mp hy).1
  refine ⟨hi, fun u H2 q => ?_⟩
  obtain ⟨T, c, rfl, nT, hc, rfl⟩ := q
  have ey : y = .str ⟨#[c]⟩ := by
    unfold signsOf at hy
    rw [List.getElem?_map, Array.getElem?_toList, hc] at hy
    cases hy
    rfl
  subst ey
  have f := Fresh.new (o := .tup [.int (i : Nat), .str ⟨#[c]⟩]) e2 nT
  exact ⟨_, f, .tup (SqT.of upd_same) (.cons (.int _) (.cons (.str _) .nil))⟩
@[simp] def wEnum2 (w : DA) : DI := fun s Φ => w s fun xs s1 => match xs with
  | [.list xs] => Φ (enumD xs) s1
  | [.str z] => Φ (enumD (signsOf z)) s1
  | _ => False
theorem xi_enum2 {X : Cx} {e : Expr} {pos : Pos} {elts : List Expr} {kk : Nat} {w : DA} {p tpos : Pos} (hg : Gl X "enumerate") (hm : X.mg "enumerate" = none) (ha : XA X [e] w) (hs : starEach [e] X.env = [(false, eval e X.env)] := by rfl) :
    XI X (.Tuple elts kk tpos) (.Call (.Name "enumerate" p) [e] [] pos) (wEnum2 w) := pi_imp (pi_enum2 hg hm ha hs) fun σ H R h => by
  obtain ⟨G, P, F, s, Φ, RR, h, k⟩ := h
  refine ⟨G, P, F, s, _, RR, h, fun vs F1 H1 s1 xs R1 e1 d1 q => ?_⟩
  match xs, d1, q with
  | [.list xs], .cons (.lst h1 h2) .nil, q => exact .inl ⟨_, _, rfl, SqL.of (R1.same _ _ h1), k _ F1 H1 s1 _ R1 e1 (yl_enum h1 h2) q⟩
  | [.str z], .cons (.str _) .nil, q => exact .inr ⟨z, rfl, k _ F1 H1 s1 _ R1 e1 yl_enumS q⟩
def gc_int {K : PySem.W.Frag} {mg : Str → Option Value} {h : Heap} (X : K.In h) (G : h.Ns mainGlobals mg) {x : Str} {i : Int} {t : Tok} (a : PySem.W.nsIn K mainGlobals x = some (some (.int i t))) : Gc K mg x (.int i) where
  v := .int i
  u := .int i t
  mg := PySem.W.mg_of X G a
  rel := ⟨t, rfl⟩
  dq := fun F => .int _
theorem exC_val {K : PySem.W.Frag} {mg : Str → Option Value} {h : Heap} (X : K.In h) (G : h.Ns mainGlobals mg) {x : Str} {C : Addr} (t1 : PySem.W.nsIn K mainGlobals x = some (some (.ref C))) (t2 : PySem.W.keepIn K (.ref C) = true)
    (t3 : PySem.W.excIn K C [.type "ValueError", .type "Exception", .type "BaseException", .type "object"] "ValueError.__new__" = true) (t4 : PySem.W.subIn K (.ref C) (.type "BaseException") = some true) (t5 : PySem.W.typeIn K (.ref C) = some (.type "type")) : ExC K mg x :=
  ⟨_, PySem.W.mg_of X G t1, t2, ⟨_, _, _, _, PySem.F.excBase_ValueError, t3⟩, t4, t5⟩
end DL
/-! own errors with an own __init__ that says Base.__init__(self, ..), Base an own class; errors as values -/
namespace DL
open PySem PySem.Spec PyProof.Rows L2
section
variable {X : Cx} {e : Expr} {es : List Expr} {ta : TA} {p1 p2 pos : Pos} {B C : Addr} {mc : Value}
theorem handed_ve : PySem.W.handedIn (.builtin "ValueError.__init__") = true := by decide +kernel
/-- what the written part says of the base class -/
structure BaseC (K : PySem.W.Frag) (B : Addr) : Prop where
  sp : PySem.W.specialIn K (.ref B) "__getattribute__" = some (some (.builtin "type.__getattribute__"))
  rd : PySem.W.readsIn K B (.type "type") = true
  vV : PySem.W.findCls K (.ref B) (.type "type") "__init__" = some (.val (.builtin "ValueError.__init__"))
  kp : PySem.W.keepIn K (.ref B) = true
/-- B.__init__(self, ..), B an own class without an __init__ of its own -/
theorem pe_heinit {x : Str} {pl : Sem Bool} (T : BaseC X.K B) (hg : Gl X x) (gB : X.mg x = some (.ref B)) (ha : PA X (e :: es) ta)
    (hc : eval (.Call (.Attribute (.Name x p1) "__init__" p2) (e :: es) [] pos) X.env = (do
      let ov ← eval (.Name x p1) X.env
      standAt p2.atName
      let (f, first) ← holding [ov] (getMethod ov "__init__" pl)
      callWith pos f first (backTo pos (starEach (e :: es) X.env)) (backToKw pos (keywordEach [] X.env))) := by rfl)
    (hdb : (x == ("__debug__" : Str)) = false := by decide)
    (he : starEach (e :: es) X.env = (false, eval e X.env) :: starEach es X.env := by rfl) (hpl : (backTo pos (starEach es X.env)).any (·.1) = false := by rfl) :
    PE X (.Call (.Attribute (.Name x p1) "__init__" p2) (e :: es) [] pos) (tVeI X.K ta) := by
  refine ⟨fun pins s σ H Q I h => ?_⟩
  refine PySem.W.methodCall_KW (ld_glob I hg gB ?_ hdb) hc
  refine PySem.W.method_cls I.kIn T.sp (PySem.W.cls_value I.kIn T.rd T.vV handed_ve ?_)
  show wpAny _ _ (callWith pos (Value.builtin "ValueError.__init__") [] (backTo pos (starEach (e :: es) X.env)) []) _ _ _
  refine PyProof.Rows.callWith_method1 (thn (ha.run pos pins _ σ H _ (I.tok _) h) fun us s1 ⟨vs, H1, I1, r1, a, C, ws, ev, hl, T, ea, q⟩ => ?_) he hpl
  subst ev
  cases r1 with
  | @cons _ u0 _ ur ra rw' =>
    obtain rfl : u0 = Value.ref a := ra
    have hlen : ur.length ≤ sizeLine := by
      rw [← Paired.length rw', sizeLine_eq]
      omega
    exact oinit_ok T I1 ea hlen fun s' J => ⟨.non, H1, J, rfl, q⟩
end
/-! ### own errors as values: made, asked, read -/
/-- C(e, ..), C's own __init__ keeping sp, as a value -/
def tMkV (C : Addr) (sp : Sp) (ta : TA) : TE := fun σ H Q => ta σ H fun vs H1 => vs.length ≤ 1000 ∧ ∀ a, H1 a = none → sp (.ref a :: vs) (upd H1 a (exo a C none)) (fun v H2 => v = .non ∧ Q (.ref a) H2) (fun _ _ _ => False)
section
variable {X : Cx} {e : Expr} {es : List Expr} {ta : TA} {p pos : Pos}
theorem pe_oex {CX : CXT} {x : Str} {C fI : Addr} {k : Nat} {fd : FuncData} {ps : List Str} {sp : Sp} (T : OexC X.K C) (iC : PySem.W.findIn X.K (.ref C) "__init__" = some (some (.ref fI))) (tI : PySem.W.typeIn X.K (.ref fI) = some (.type "function"))
    (F1 : FnOk X.prog X.w X.K X.mg X.base CX k fI fd ps sp) (hr : Room (k + 1) X.A) (hb : Binds X.K fd ps []) (hx : Passes CX X (fun _ _ _ => False)) (hg : Gl X x) (hm : X.mg x = some (.ref C)) (ha : PA X (e :: es) ta)
    (hdb : (x == ("__debug__" : Str)) = false := by decide) (he : starEach (e :: es) X.env = (false, eval e X.env) :: starEach es X.env := by rfl) (hpl : (backTo pos (starEach es X.env)).any (·.1) = false := by rfl) :
    PE X (.Call (.Name x p) (e :: es) [] pos) (tMkV C sp ta) := by
  refine ⟨fun pins s σ H Q I h => ?_⟩
  obtain ⟨nm, q, N, bs, bm, sn, sub, ab, col, dd, k0, k1, k2, k3, k5, hC, hbm⟩ := T.cls
  refine wpAny_Call_Name_kw (ld_glob I hg hm ?_ hdb)
  refine PySem.W.callWith_K (h₀ := X.base) I.ok.mod.kin T.kC (thn (ha.run pos pins s σ H _ I h) fun us s1 ⟨vs, H1, I1, r1, hz, q1⟩ => ⟨I1.kIn, ?_⟩) he hpl
  show wpAny _ _ (call (.ref C) us) _ _ _
  obtain ⟨hp, g, dr, tk, os⟩ := s1
  have hsz : hp.objs.size ≤ hp.objs.size + 1 := Nat.le_succ _
  have hn : H1 (hp.objs.size + 1) = none := I1.hok.fresh hsz
  have hq := q1 (hp.objs.size + 1) hn
  have kk : ∀ b o, hp.get? b = some o → ((hp.push (PySem.W.kdv_tup us)).push (PySem.HandSPX.excO C hp.objs.size)).get? b = some o := fun b o e => Heap.get?_push_of_some _ (Heap.get?_push_of_some _ e)
  have hget : ((hp.push (PySem.W.kdv_tup us)).push (PySem.HandSPX.excO C hp.objs.size)).get? (hp.objs.size + 1) = some (PySem.HandSPX.excO C hp.objs.size) := by heap_get
  have I2 : Inv X pins σ (upd H1 (hp.objs.size + 1) (exo (hp.objs.size + 1) C none)) ⟨(hp.push (PySem.W.kdv_tup us)).push (PySem.HandSPX.excO C hp.objs.size), g, dr, tk, os⟩ :=
    I1.laid (t' := tk) (a := hp.objs.size + 1) (o := exo (hp.objs.size + 1) C none) (h' := (hp.push (PySem.W.kdv_tup us)).push (PySem.HandSPX.excO C hp.objs.size)) kk hsz (exo_ok hget)
  have r2 : Vals (V.ref (hp.objs.size + 1) :: vs) (Value.ref (hp.objs.size + 1) :: us) := .cons rfl r1
  have hl : (Value.ref (hp.objs.size + 1) :: us).length = ps.length := by
    have e := r2.length
    rw [F1.len _ _ _ _ hq] at e
    exact e.symm
  have hus : us.length ≤ sizeLine := by
    rw [← Paired.length r1, sizeLine_eq]
    omega
  have bb := hb ⟨(hp.push (PySem.W.kdv_tup us)).push (PySem.HandSPX.excO C hp.objs.size), g, dr, tk, os⟩ (Value.ref (hp.objs.size + 1) :: us) I2.kIn (by rw [List.append_nil]; exact hl)
  rw [List.append_nil] at bb
  refine wpAny_call (PySem.HandSPX.call_own F.excBase_ValueError (fun Y => PySem.HandSPX.refsVE_contains Y bm hbm) (I1.kIn _ _ hC) (PySem.W.looks_findIn I1.kIn iC) (fun self => PySem.W.bind_fn I1.kIn self tI) hus
    (codeAny_mono (F1.run _ X.stack _ _ ⟨Value.ref (hp.objs.size + 1) :: us, []⟩ (Value.ref (hp.objs.size + 1) :: us) _ _ (fun _ _ _ => False) (hr.make C us []) (I2.env0.make C us []) bb r2 hq) fun r s' hq' => ?_))
  cases r with
  | error er => exact hx pins σ _ _ er s' I2 hq'
  | ok fl =>
    cases fl with
    | ret u =>
      obtain ⟨v, H2, os2, bare2, un2, hok2, rv, ev, q2⟩ := hq'
      subst ev
      obtain ⟨h2, g2, d2, t2, os'⟩ := s'
      obtain rfl : os' = os := os2
      exact ⟨rv, .ref (hp.objs.size + 1), H2, I2.call (ch := []) un2 hok2 bare2 (fun b z => absurd z (by simp)), rfl, q2⟩
    | next => exact False.elim hq'
    | brk => exact False.elim hq'
    | cont => exact False.elim hq'
/-- C(), C without an __init__ of its own, as a value -/
theorem pe_oex0 {C : Addr} {bmB : List Value} {B newId initId : String} {x : Str} (F : ExcBaseFacts B newId initId bmB) (q : PySem.W.excIn X.K C bmB newId = true) (gC : X.mg x = some (.ref C)) (kC : PySem.W.keepIn X.K (.ref C) = true) (hg : Gl X x)
    (hdb : (x == ("__debug__" : Str)) = false := by decide) :
    PE X (.Call (.Name x p) [] [] pos) (fun σ H Q => ∀ a, H a = none → Q (.ref a) (upd H a (exo a C none))) := by
  refine ⟨fun pins s σ H Q I h => ?_⟩
  refine wpAny_Call_Name_kw (ld_glob I hg gC ?_ hdb)
  refine PySem.W.callWith_K0 I.kIn kC ?_
  show wpAny _ _ (call (.ref C) []) _ _ _
  obtain ⟨bm, N, nm, qn, bs, hdct, sn, sub, ab, col, dd, k0, k1, k2, k3, k5, mN, hC, hN, hni, T⟩ := exc_obj I.kIn q
  refine wpAny_call_exc_subT F T hC hN hni (fun h' a hm => ?_) (by show 0 ≤ sizeLine; exact Nat.zero_le _)
  have hn : H a = none := I.hok.gone hm.new
  obtain ⟨t, ht, _, _⟩ := hm.there
  exact ⟨.ref a, upd H a (exo a C none), L2.Inv.laidN I hm.keeps hm.new hn (exo_ok ht), rfl, h a hn⟩
/-- isinstance(e, c), e an error that is held as a value -/
def rIsX (K : PySem.W.Frag) : List V → Hp → VK → Prop := fun xs H Q => ∃ (a D : Addr) (d : Option Addr) (c : V) (cv : Value) (b : Bool), xs = [.ref a, c] ∧ ExcC K D ∧ H a = some (exo a D d) ∧ (d = none ∨ ∃ dd fs, d = some dd ∧ H dd = some (exd dd fs)) ∧ (∀ u, RelV c u → u = cv) ∧ PySem.W.kitOne K (.ref D) cv = some b ∧ Q (.bl b) H
theorem call_isX : CallR X (.builtin "isinstance") (rIsX X.K) := by
  intro pins s σ H xs us Q I r h
  obtain ⟨a, D, d, c, cv, b, rfl, C, ha, hd, hcv, e, q⟩ := h
  cases r with
  | cons rx rr =>
    cases rr with
    | cons rt rr =>
      cases rr
      cases rx
      have ec := hcv _ rt
      subst ec
      obtain ⟨t1, ho⟩ := exo_at I.hok ha
      have hcl : (PySem.W.clsIn X.K D).isSome = true := by
        obtain ⟨cd, hc, _⟩ := PySem.W.any_some C.hd
        rw [hc]
        rfl
      have hK := fun (od : Option Obj) (ox : Obj) => PySem.W.kitx_exc (x := a) (ox := ox) (od := od) hcl C.hg C.hk C.hs C.ha C.hn C.ht C.hm
      rcases hd with rfl | ⟨dd, fs, rfl, hd⟩
      · have J : PySem.W.InstAt s.heap a ({ cls := .ref D, dict := none, data := .fields #[.ref t1, .none, .none, .none, .bool false, .none] } : Obj) D none := ⟨ho, rfl, rfl, trivial⟩
        exact PySem.W.kia_one (hK none _) I.kIn J e (fun z => nomatch z) fun tk => ⟨.bl b, H, I.kept (t' := tk) fun _ _ z => z, rfl, q⟩
      · obtain ⟨mA, hns, rel⟩ := exd_at I.hok hd
        obtain ⟨od, hod, hl⟩ := lookIn_ns hns
        have J : PySem.W.InstAt s.heap a ({ cls := .ref D, dict := some dd, data := .fields #[.ref t1, .none, .none, .none, .bool false, .none] } : Obj) D (some od) := ⟨ho, rfl, rfl, hod⟩
        exact PySem.W.kia_one (hK (some od) _) I.kIn J e (fun z => nomatch z) fun tk => ⟨.bl b, H, I.kept (t' := tk) fun _ _ z => z, rfl, q⟩
/-- e.f, e an error that is held as a value -/
def tFldX (K : PySem.W.Frag) (n : Str) (te : TE) : TE := fun σ H Q => te σ H fun x H1 => ∃ (a C dd : Addr) (fs : List (Str × V)) (v : V), x = .ref a ∧ H1 a = some (exo a C (some dd)) ∧ H1 dd = some (exd dd fs) ∧ fs.lookup n = some v ∧ XfC K C ∧ PySem.W.findIn K (.ref C) n = some none ∧ Q v H1
theorem pe_fldX {n : Str} {te : TE} (he : PE X e te) (hb : attributeBase e n X.env (eval e X.env) = eval e X.env := by rfl) : PE X (.Attribute e n pos) (tFldX X.K n te) := by
  refine ⟨fun pins s σ H Q I h => ?_⟩
  refine attr_of hb (thn (he.run pins s σ H _ I h) fun u s1 hh => ?_)
  obtain ⟨x, H1, I1, rx, a, C, dd, fs, v, ex, ha, ea, l, T, hno, q⟩ := hh
  subst ex
  obtain rfl : u = Value.ref a := rx
  obtain ⟨t1, ho⟩ := exo_at I1.hok ha
  obtain ⟨mA, hns, hr⟩ := exd_at I1.hok ea
  obtain ⟨od, hod, hl⟩ := lookIn_ns hns
  obtain ⟨u, hu, ru⟩ := RelO.some_of (v := v) (o := mA n) (by rw [← l]; exact hr n)
  have J : PySem.W.InstAt s1.heap a ({ cls := .ref C, dict := some dd, data := .fields #[.ref t1, .none, .none, .none, .bool false, .none] } : Obj) C (some od) := ⟨ho, rfl, rfl, hod⟩
  exact HandSPX.exc_get I1.kIn J T.ga T.gg T.exC (PySem.W.findObj_own T.hdC hno rfl (by rw [hl, hu])) (handed_of ru) ⟨v, H1, I1.tok _, ru, q⟩
end
end DL
/-! DL: own errors as data -/
namespace DL
open PySem PySem.Spec PyProof.Rows L2
/-- what may stand in an error's message -/
def FmtOk : V → Prop
  | .int i => i.natAbs.log2 < 1920 ∧ (toString i : Str).length ≤ 1000
  | .str y => y.length ≤ 1000
  | _ => False
def fmtD : PyData → Prop
  | .int i => i.natAbs.log2 < 1920 ∧ (toString i : Str).length ≤ 1000
  | .str y => y.length ≤ 1000
  | _ => False
/-- what an error's own __init__ promises: its fields -/
def spInit (K : PySem.W.Frag) (n : Nat) (ns : List Str) (fs : List V → List (Str × V)) : Sp := fun vs H Q _ => ∃ (a C : Addr) (xs : List V), vs = .ref a :: xs ∧ xs.length = n ∧ OexC K C ∧ (∀ f, f ∈ ns → PySem.W.findIn K (.ref C) f = some none) ∧ (∀ x, x ∈ xs → FmtOk x) ∧
  H a = some (exo a C none) ∧ ∀ dx, H dx = none → dx ≠ a → Q .non (upd (upd H dx (exd dx (fs xs))) a (exo a C (some dx)))
section
variable {X : Cx}
theorem tFmt_ok {te : TE} {x : V} {σ : L2.St} {H : Hp} {Q : VK} (hx : FmtOk x) (h : te σ H fun y H1 => y = x ∧ H1 = H) (up : ∀ (Q Q' : VK), (∀ v H, Q v H → Q' v H) → te σ H Q → te σ H Q') (k : ∀ y : Str, y.length ≤ 1000 → Q (.str y) H) : tFmt te σ H Q := by
  refine up _ _ (fun v H1 e => ?_) h
  obtain ⟨rfl, rfl⟩ := e
  cases v with
  | int i => exact .inr ⟨i, rfl, hx.1, k _ hx.2⟩
  | str y => exact .inl ⟨y, rfl, Nat.le_trans hx (sz_le (by omega)), k y hx⟩
  | _ => exact hx.elim
end
/-- an own class of errors without an __init__ of its own -/
structure Er0 (K : PySem.W.Frag) (mg : Str → Option Value) (x : Str) : Prop where
  ex : ∃ C, mg x = some (.ref C) ∧ PySem.W.nsIn K mainGlobals x = some (some (.ref C)) ∧ PySem.W.keepIn K (.ref C) = true ∧ ∃ (B newId initId : String) (bmB : List Value), ExcBaseFacts B newId initId bmB ∧ PySem.W.excIn K C bmB newId = true
/-- an own class of errors with one -/
structure ErN (P : Program) (w : World) (K : PySem.W.Frag) (mg : Str → Option Value) (base : Heap) (k : Nat) (x : Str) (n : Nat) (ns : List Str) (fs : List V → List (Str × V)) : Prop where
  ex : ∃ C fI fd ps, mg x = some (.ref C) ∧ PySem.W.nsIn K mainGlobals x = some (some (.ref C)) ∧ OexC K C ∧ (∀ f, f ∈ ns → PySem.W.findIn K (.ref C) f = some none) ∧ PySem.W.findIn K (.ref C) "__init__" = some (some (.ref fI)) ∧ PySem.W.typeIn K (.ref fI) = some (.type "function") ∧
    FnOk P w K mg base CX0 k fI fd ps (spInit K n ns fs) ∧ Binds K fd ps []
abbrev erD (x : Str) (fs : List PyData) : PyData := .dict [(.str x, .list fs)]
@[simp] def wMk0 (x : Str) : DE := fun s Φ => Φ (erD x []) s
@[simp] def wMk1 (x f : Str) (wa : DA) : DE := fun s Φ => wa s fun ds s1 => match ds with
  | [d] => fmtD d ∧ Φ (erD x [.tuple [.str f, d]]) s1
  | _ => False
@[simp] def wMk2 (x f g : Str) (wa : DA) : DE := fun s Φ => wa s fun ds s1 => match ds with
  | [d, e] => (fmtD d ∧ fmtD e) ∧ Φ (erD x [.tuple [.str g, e], .tuple [.str f, d]]) s1
  | _ => False
theorem fmt_up {K : PySem.W.Frag} {F : Hp} {v : V} {d : PyData} (h : Dq K F v d) (f : fmtD d) : FmtOk v ∧ ∀ (n : Str) (fs : List (Str × V)) (xs : List PyData), FldF fs xs → FldF ((n, v) :: fs) (.tuple [.str n, d] :: xs) := by
  cases d with
  | int i => cases h; exact ⟨f, fun n fs xs q => .int q⟩
  | str y => cases h; exact ⟨f, fun n fs xs q => .str q⟩
  | _ => exact f.elim
section
variable {X : Cx} {e e2 : Expr} {es : List Expr} {p pos : Pos} {x : Str} {wa : DA}
theorem xe_mk0 (T : Er0 X.K X.mg x) (hg : Gl X x) (hdb : (x == ("__debug__" : Str)) = false := by decide) : XE X (.Call (.Name x p) [] [] pos) (wMk0 x) := by
  obtain ⟨C, gC, ns, kC, B, newId, initId, bmB, Fb, q⟩ := T.ex
  refine pe_imp (pe_oex0 Fb q gC kC hg hdb) fun σ H Q h => ?_
  obtain ⟨G, P, F, s, Φ, R, h, k⟩ := h
  intro a na
  have f := Fresh.new (o := exo a C none) R.same na
  exact k _ _ _ s _ (R.fresh f) f.ff (.xo ns upd_same (.inl ⟨rfl, rfl⟩) .nil) h
/-- the new object and its dict, as data -/
theorem new_er {K : PySem.W.Frag} {G F H : Hp} {P : Option Addr} {σ : L2.St} {s : S} {a dx C : Addr} {fs : List (Str × V)} {xs : List PyData} (R : Rep K G P F H σ s) (ns : PySem.W.nsIn K mainGlobals x = some (some (.ref C))) (na : H a = none) (nd : (upd H a (exo a C none)) dx = none) (ne : dx ≠ a) (hf : FldF fs xs) :
    ∃ F' H', upd (upd (upd H a (exo a C none)) dx (exd dx fs)) a (exo a C (some dx)) = H' ∧ Rep K G P F' H' σ s ∧ Same F F' ∧ Dq K F' (.ref a) (erD x xs) := by
  have nd1 : H dx = none := by
    rw [upd_ne ne] at nd
    exact nd
  have e1 : upd (upd (upd H a (exo a C none)) dx (exd dx fs)) a (exo a C (some dx)) = upd (upd H dx (exd dx fs)) a (exo a C (some dx)) := by
    funext b
    by_cases h1 : b = a
    · rw [h1, upd_same, upd_same]
    · rw [upd_ne h1, upd_ne h1]
      by_cases h2 : b = dx
      · rw [h2, upd_same, upd_same]
      · rw [upd_ne h2, upd_ne h2, upd_ne h1]
  have f1 := Fresh.new (o := exd dx fs) R.same nd1
  have R1 := R.fresh f1
  have na1 : (upd H dx (exd dx fs)) a = none := by rw [upd_ne (Ne.symm ne)]; exact na
  have f2 := Fresh.new (o := exo a C (some dx)) R1.same na1
  exact ⟨_, _, e1, R1.fresh f2, f1.ff.trans f2.ff, .xo ns upd_same (.inr ⟨dx, rfl, by rw [upd_ne ne, upd_same]⟩) hf⟩
theorem xe_mk1 {k kX : Nat} {f : Str} (T : ErN X.prog X.w X.K X.mg X.base k x 1 [f] (fun xs => [f].zip xs)) (hr : Room kX X.A) (hk : k + 1 ≤ kX) (hg : Gl X x) (ha : XA X (e :: es) wa) (hdb : (x == ("__debug__" : Str)) = false := by decide)
    (he : starEach (e :: es) X.env = (false, eval e X.env) :: starEach es X.env := by rfl) (hpl : (backTo pos (starEach es X.env)).any (·.1) = false := by rfl) : XE X (.Call (.Name x p) (e :: es) [] pos) (wMk1 x f wa) := by
  obtain ⟨C, fI, fd, ps, gC, ns, T, hno, iC, tI, F1, hb⟩ := T.ex
  refine pe_imp (pe_oex T iC tI F1 (hr.mono hk) hb pass0 hg gC ha hdb he hpl) fun σ H Q h => ?_
  obtain ⟨G, P, F, s, Φ, R, h, kk⟩ := h
  refine ⟨G, P, F, s, _, R, h, fun vs F1 H1 s1 ds R1 e1 d1 q => ?_⟩
  match ds, vs, d1, q with
  | [d], [v], .cons d2 .nil, q =>
    obtain ⟨fv, ff⟩ := fmt_up d2 q.1
    refine ⟨by show 1 ≤ 1000; decide, fun a na => ⟨a, C, [v], rfl, rfl, T, hno, fun y hy => by rw [List.mem_singleton.mp hy]; exact fv, upd_same, fun dx nd ne => ⟨rfl, ?_⟩⟩⟩
    obtain ⟨F', H', eH, R', sm, dq⟩ := new_er R1 ns na nd ne (ff f _ _ .nil)
    show Q (.ref a) (upd (upd (upd H1 a (exo a C none)) dx (exd dx [(f, v)])) a (exo a C (some dx)))
    rw [eH]
    exact kk _ F' H' s1 _ R' (e1.trans sm) dq q.2
theorem xe_mk2 {k kX : Nat} {f g : Str} (T : ErN X.prog X.w X.K X.mg X.base k x 2 [f, g] (fun xs => match xs with | [a, b] => [(g, b), (f, a)] | _ => [])) (hr : Room kX X.A) (hk : k + 1 ≤ kX) (hg : Gl X x) (ha : XA X (e :: es) wa) (hdb : (x == ("__debug__" : Str)) = false := by decide)
    (he : starEach (e :: es) X.env = (false, eval e X.env) :: starEach es X.env := by rfl) (hpl : (backTo pos (starEach es X.env)).any (·.1) = false := by rfl) : XE X (.Call (.Name x p) (e :: es) [] pos) (wMk2 x f g wa) := by
  obtain ⟨C, fI, fd, ps, gC, ns, T, hno, iC, tI, F1, hb⟩ := T.ex
  refine pe_imp (pe_oex T iC tI F1 (hr.mono hk) hb pass0 hg gC ha hdb he hpl) fun σ H Q h => ?_
  obtain ⟨G, P, F, s, Φ, R, h, kk⟩ := h
  refine ⟨G, P, F, s, _, R, h, fun vs F1 H1 s1 ds R1 e1 d1 q => ?_⟩
  match ds, vs, d1, q with
  | [d, d'], [v, v'], .cons d2 (.cons d3 .nil), q =>
    obtain ⟨fv, ff⟩ := fmt_up d2 q.1.1
    obtain ⟨fv', ff'⟩ := fmt_up d3 q.1.2
    refine ⟨by show 2 ≤ 1000; decide, fun a na => ⟨a, C, [v, v'], rfl, rfl, T, hno, fun y hy => ?_, upd_same, fun dx nd ne => ⟨rfl, ?_⟩⟩⟩
    · rcases List.mem_cons.mp hy with rfl | hy
      · exact fv
      · rw [List.mem_singleton.mp hy]
        exact fv'
    · obtain ⟨F', H', eH, R', sm, dq⟩ := new_er R1 ns na nd ne (ff' g _ _ (ff f _ _ .nil))
      show Q (.ref a) (upd (upd (upd H1 a (exo a C none)) dx (exd dx [(g, v'), (f, v)])) a (exo a C (some dx)))
      rw [eH]
      exact kk _ F' H' s1 _ R' (e1.trans sm) dq q.2
end
/-! isinstance of them, their fields -/
/-- the classes of the errors that may come, and what they say -/
structure ErsOk (K : PySem.W.Frag) (L : List Str) : Prop where
  ok : ∀ c, c ∈ L → ∀ D, PySem.W.nsIn K mainGlobals c = some (some (.ref D)) → ExcC K D
abbrev KitTab (K : PySem.W.Frag) (L : List Str) (cv : Value) (b : Str → Bool) : Prop := ∀ c, c ∈ L → ∀ D, PySem.W.nsIn K mainGlobals c = some (some (.ref D)) → PySem.W.kitOne K (.ref D) cv = some (b c)
abbrev NoFld (K : PySem.W.Frag) (L : List Str) (f : Str) : Prop := ∀ c, c ∈ L → ∀ D, PySem.W.nsIn K mainGlobals c = some (some (.ref D)) → PySem.W.findIn K (.ref D) f = some none
@[simp] def wIsX (L : List Str) (b : Str → Bool) (w : DE) : DE := fun s Φ => w s fun x s1 => match x with
  | .dict [(.str c, .list _)] => c ∈ L ∧ Φ (.bool (b c)) s1
  | _ => False
def fldAt (f : Str) : List PyData → Option PyData
  | .tuple [.str g, d] :: xs => if f = g then some d else fldAt f xs
  | _ => none
@[simp] def wFldX (L : List Str) (f : Str) (w : DE) : DE := fun s Φ => w s fun x s1 => match x with
  | .dict [(.str c, .list xs)] => c ∈ L ∧ optP (fldAt f xs) fun d => Φ d s1
  | _ => False
theorem XoAt.own {F H : Hp} {d : Option Addr} {fs : List (Str × V)} (e : Same F H) (h : XoAt F d fs) : d = none ∨ ∃ dd fs, d = some dd ∧ H dd = some (exd dd fs) := by
  rcases h with ⟨h, _⟩ | ⟨dd, h1, h2⟩
  · exact .inl h
  · exact .inr ⟨dd, fs, h1, e _ _ h2⟩
theorem fld_get {K : PySem.W.Frag} {F : Hp} {f : Str} {fs : List (Str × V)} {xs : List PyData} {d : PyData} (h : FldF fs xs) (e : fldAt f xs = some d) : ∃ v, fs.lookup f = some v ∧ Dq K F v d := by
  have eqs : ∀ a b : Str, (a == b) = decide (a = b) := fun a b => by
    by_cases h : a = b
    · rw [h]; simp
    · rw [beq_eq_false_iff_ne.mpr h, decide_eq_false h]
  induction h with
  | nil => cases e
  | @int g i fs xs h ih =>
    unfold fldAt at e
    rw [List.lookup_cons, eqs]
    by_cases q : f = g
    · rw [if_pos q] at e
      rw [decide_eq_true q]
      exact ⟨_, rfl, by cases e; exact .int i⟩
    · rw [if_neg q] at e
      rw [decide_eq_false q]
      exact ih e
  | @str g y fs xs h ih =>
    unfold fldAt at e
    rw [List.lookup_cons, eqs]
    by_cases q : f = g
    · rw [if_pos q] at e
      rw [decide_eq_true q]
      exact ⟨_, rfl, by cases e; exact .str y⟩
    · rw [if_neg q] at e
      rw [decide_eq_false q]
      exact ih e
section
variable {X : Cx} {e : Expr} {p p1 pos : Pos} {w : DE} {L : List Str} {b : Str → Bool}
theorem isX_of {v : V} {cv : Value} (hcv : ∀ u, RelV v u → u = cv) (E : ErsOk X.K L) (kb : KitTab X.K L cv b) (σ : L2.St) (H : Hp) (Q : VK) (h : tE X.K (wIsX L b w) σ H Q) :
    tE X.K w σ H fun y H1 => (tCons (tC v) tNil) σ H1 fun vs H2 => rIsX X.K (y :: vs) H2 Q := by
  obtain ⟨G, P, F, s, Φ, R, h, k⟩ := h
  refine ⟨G, P, F, s, _, R, h, fun y F1 H1 s1 x R1 e1 d1 q => ?_⟩
  match x, d1, q with
  | .dict [(.str c, .list _)], .xo ns ha ho hf, q =>
    exact ⟨_, _, _, v, cv, b c, rfl, E.ok c q.1 _ ns, R1.same _ _ ha, ho.own R1.same, hcv, kb c q.1 _ ns, k _ F1 H1 s1 _ R1 e1 (.bl _) q.2⟩
/-- isinstance(e, C), C an own class -/
theorem xe_isX {T : Str} {C : Addr} (E : ErsOk X.K L) (kb : KitTab X.K L (.ref C) b) (gC : X.mg T = some (.ref C)) (hg : Gl X "isinstance") (hm : X.mg "isinstance" = none) (hgT : Gl X T) (h : XE X e w) (hd : (T == ("__debug__" : Str)) = false := by decide)
    (he : starEach [e, .Name T p1] X.env = (false, eval e X.env) :: starEach [.Name T p1] X.env := by rfl) (he2 : starEach [.Name T p1] X.env = (false, eval (.Name T p1) X.env) :: starEach [] X.env := by rfl) (hpl : (backTo pos (starEach [.Name T p1] X.env)).any (·.1) = false := by rfl) :
    XE X (.Call (.Name "isinstance" p) [e, .Name T p1] [] pos) (wIsX L b w) :=
  pe_imp (pe_callB call_isX hg hm (by decide +kernel) (pa_cons h (pa_cons (pe_glob (v := .ref C) hgT gC rfl hd) pa_nil he2) he) (by decide) (by decide) he hpl) fun σ H Q h => isX_of (v := .ref C) (cv := .ref C) (fun u z => z) E kb σ H Q h
/-- isinstance(e, T), T of the builtins -/
theorem xe_isXT {T : Str} {n : String} (E : ErsOk X.K L) (kb : KitTab X.K L (.type n) b) (hmT : X.mg T = none) (hvT : bootBuiltins T = some (.type n)) (hg : Gl X "isinstance") (hm : X.mg "isinstance" = none) (hgT : Gl X T) (h : XE X e w) (hn : T ≠ "__name__" := by decide) (hd : (T == ("__debug__" : Str)) = false := by decide)
    (he : starEach [e, .Name T p1] X.env = (false, eval e X.env) :: starEach [.Name T p1] X.env := by rfl) (he2 : starEach [.Name T p1] X.env = (false, eval (.Name T p1) X.env) :: starEach [] X.env := by rfl) (hpl : (backTo pos (starEach [.Name T p1] X.env)).any (·.1) = false := by rfl) :
    XE X (.Call (.Name "isinstance" p) [e, .Name T p1] [] pos) (wIsX L b w) :=
  pe_imp (pe_callB call_isX hg hm (by decide +kernel) (pa_cons h (pa_cons (pe_bltn (v := .ty n) hgT hmT hvT rfl hn hd) pa_nil he2) he) (by decide) (by decide) he hpl) fun σ H Q h => isX_of (v := .ty n) (cv := .type n) (fun u z => z) E kb σ H Q h
theorem ers_xf {K : PySem.W.Frag} {D : Addr} (h : ExcC K D) : XfC K D := ⟨h.hg, h.hk, h.hs, h.hd⟩
/-- e.f -/
theorem xe_fldX {f : Str} (E : ErsOk X.K L) (nf : NoFld X.K L f) (h : XE X e w) (hb : attributeBase e f X.env (eval e X.env) = eval e X.env := by rfl) : XE X (.Attribute e f pos) (wFldX L f w) :=
  pe_imp (pe_fldX h hb) fun σ H Q h => by
    obtain ⟨G, P, F, s, Φ, R, h, k⟩ := h
    refine ⟨G, P, F, s, _, R, h, fun y F1 H1 s1 x R1 e1 d1 q => ?_⟩
    match x, d1, q with
    | .dict [(.str c, .list xs)], .xo ns ha ho hf, q =>
      obtain ⟨d, ed, q2⟩ := optP_of q.2
      obtain ⟨v, ev, dv⟩ := fld_get (K := X.K) (F := F1) hf ed
      rcases ho with ⟨_, e0⟩ | ⟨dd, h1, h2⟩
      · rw [e0] at ev
        cases ev
      · subst h1
        exact ⟨_, _, dd, _, v, rfl, R1.same _ _ ha, R1.same _ _ h2, ev, ers_xf (E.ok c q.1 _ ns), nf c q.1 _ ns, k _ F1 H1 s1 _ R1 e1 dv q2⟩
end
/-! facts of the written part, by looking them all up -/
def adrs (K : PySem.W.Frag) (L : List Str) (p : Addr → Bool) : Bool := L.all fun c => match PySem.W.nsIn K mainGlobals c with
  | some (some (.ref D)) => p D
  | _ => true
theorem adrs_ok {K : PySem.W.Frag} {L : List Str} {p : Addr → Bool} (h : adrs K L p = true) : ∀ c, c ∈ L → ∀ D, PySem.W.nsIn K mainGlobals c = some (some (.ref D)) → p D = true := fun c hc D e => by
  have := List.all_eq_true.mp h c hc
  rw [e] at this
  exact this
end DL
/-! DL: own errors of a text, all together -/
namespace DL
open PySem PySem.Spec PyProof.Rows L2
def mt0 : Stmt → Stmt
  | .ClassDef _ _ _ body _ _ _ _ _ _ _ => body.headD (.Pass ⟨0, 0, 0, 0⟩)
  | st => st
section
variable {P : Program} {w : World} {K : PySem.W.Frag} {mg : Str → Option Value} {base : Heap}
theorem fmt1 {σ : L2.St} {H : Hp} {x : V} {i : Nat} (hx : FmtOk x) {Q : VK} (q : ∀ y : Str, y.length ≤ 1000 → Q (.str y) H) (h : σ[i]? = some (some x)) : tFmt (tVar i) σ H Q := by
  refine ⟨x, h, ?_⟩
  cases x with
  | int i => exact .inr ⟨i, rfl, hx.1, q _ hx.2⟩
  | str y => exact .inl ⟨y, rfl, Nat.le_trans hx (sz_le (by omega)), q y hx⟩
  | _ => exact hx.elim
theorem app_len (x y : Str) : (x ++ y).length = x.length + y.length := Str.length_append x y
theorem init1 {f m : Str} {a C : Addr} {x : V} {H : Hp} {Q : VK} (T : OexC K C) (no : PySem.W.findIn K (.ref C) f = some none) (hx : FmtOk x) (ha : H a = some (exo a C none))
    (k : ∀ dx, H dx = none → dx ≠ a → Q .non (upd (upd H dx (exd dx [(f, x)])) a (exo a C (some dx)))) (hm : m.length ≤ 1000) {σ : L2.St} (v0 : σ[0]? = some (some (.ref a))) (v1 : σ[1]? = some (some x)) :
    tSeq (tDrop (tVeI K (tCons (tVar 0) (tCons (fun σ H Q => tJs [tC (V.str m), tFmt (tVar 1)] Str.empty σ H fun out H1 => Q (V.str out) H1) tNil)))) (tOst K f (tVar 0) (tVar 1)) { nx := fun x H' => Q V.non H', rt := Q } σ H := by
  have e0 : Str.empty.length = 0 := rfl
  refine ⟨.ref a, v0, m, rfl, by rw [app_len]; exact sz_le (by omega), fmt1 hx (fun y hy => ⟨y, rfl, by rw [app_len, app_len]; exact sz_le (by omega), a, C, [_], rfl, (show 1 ≤ 1000 by decide), T, ha, ?_⟩) v1⟩
  exact ⟨x, v1, .ref a, v0, a, C, rfl, T, no, .inl ⟨ha, k⟩⟩
theorem init2 {f g m m2 : Str} {a C : Addr} {x y : V} {H : Hp} {Q : VK} (T : OexC K C) (no : PySem.W.findIn K (.ref C) f = some none) (no2 : PySem.W.findIn K (.ref C) g = some none) (hx : FmtOk x) (hy : FmtOk y) (ha : H a = some (exo a C none))
    (k : ∀ dx, H dx = none → dx ≠ a → Q .non (upd (upd H dx (exd dx [(g, y), (f, x)])) a (exo a C (some dx)))) (hm : m.length ≤ 1000) (hm2 : m2.length ≤ 1000) {σ : L2.St} (v0 : σ[0]? = some (some (.ref a))) (v1 : σ[1]? = some (some x)) (v2 : σ[2]? = some (some y)) :
    tSeq (tDrop (tVeI K (tCons (tVar 0) (tCons (fun σ H Q => tJs [tC (V.str m), tFmt (tVar 1), tC (V.str m2), tFmt (tVar 2)] Str.empty σ H fun out H1 => Q (V.str out) H1) tNil)))) (tSeq (tOst K f (tVar 0) (tVar 1)) (tOst K g (tVar 0) (tVar 2))) { nx := fun x H' => Q V.non H', rt := Q } σ H := by
  have e0 : Str.empty.length = 0 := rfl
  refine ⟨.ref a, v0, m, rfl, by rw [app_len]; exact sz_le (by omega), fmt1 hx (fun u hu => ⟨u, rfl, by rw [app_len, app_len]; exact sz_le (by omega), m2, rfl, by rw [app_len, app_len, app_len]; exact sz_le (by omega), fmt1 hy (fun z hz => ⟨z, rfl, by rw [app_len, app_len, app_len, app_len]; exact sz_le (by omega), a, C, [_], rfl, (show 1 ≤ 1000 by decide), T, ha, ?_⟩) v2⟩) v1⟩
  refine ⟨x, v1, .ref a, v0, a, C, rfl, T, no, .inl ⟨ha, fun dx nd ne => ?_⟩⟩
  refine ⟨y, v2, .ref a, v0, a, C, rfl, T, no2, .inr ⟨dx, [(f, x)], upd_same, ?_, by show 1 ≤ 900; decide, ?_⟩⟩
  · rw [upd_ne ne, upd_same]
  · have e : upd (upd (upd H dx (exd dx [(f, x)])) a (exo a C (some dx))) dx (exd dx [(g, y), (f, x)]) = upd (upd H dx (exd dx [(g, y), (f, x)])) a (exo a C (some dx)) := by
      funext b
      by_cases h1 : b = dx
      · rw [h1, upd_same, upd_ne ne, upd_same]
      · rw [upd_ne h1]
        by_cases h2 : b = a
        · rw [h2, upd_same, upd_same]
        · rw [upd_ne h2, upd_ne h1, upd_ne h2, upd_ne h1]
    rw [e]
    exact k dx nd ne
/-- an own __init__ stands -/
structure InitK (K : PySem.W.Frag) (C : Addr) (qual : Str) (st : Stmt) : Prop where
  ex : ∃ fI fd, PySem.W.findIn K (.ref C) "__init__" = some (some (.ref fI)) ∧ PySem.W.typeIn K (.ref fI) = some (.type "function") ∧ Fun K "__init__" qual st fI fd
theorem InitK.mk5 {C fI : Addr} {qual : Str} {st : Stmt} {oc : Value} {od an : Option Addr} {osl : Array (Option Value)} {kV doc pm cdv ct : Value} (ii : PySem.W.findIn K (.ref C) "__init__" = some (some (.ref fI))) (ti : PySem.W.typeIn K (.ref fI) = some (.type "function"))
    (l : K.lookup fI = some ⟨oc, od, .func (PySem.W.fnOf "__init__" qual (defArgs st) (defBody st) (defScope st) .none kV doc pm an cdv ct), osl⟩) (c : PySem.W.codeIn K cdv qual = true) (k : PySem.W.keepIn K (.ref fI) = true) : InitK K C qual st :=
  ⟨fI, _, ii, ti, fun_mk l c k⟩
theorem oexC_mk {C : Addr} {nm q N bs bm sn sub ab col dd k0 k1 k2 k3 k5} (l : K.lookup C = some (excClassObj nm q C N bs bm true sn sub ab col dd k0 k1 k2 k3 k5 "ValueError.__new__")) (r : PySem.HandSPX.refsVE bm = true)
    (sa : PySem.W.findIn K (.ref C) "__setattr__" = some (some (.builtin "object.__setattr__"))) (e : PySem.W.subIn K (.ref C) (.type "BaseException") = some true) (t : PySem.W.typeIn K (.ref C) = some (.type "type")) (k : PySem.W.keepIn K (.ref C) = true) : OexC K C :=
  ⟨⟨nm, q, N, bs, bm, sn, sub, ab, col, dd, k0, k1, k2, k3, k5, l, r⟩, sa, e, t, k⟩
theorem baseC_mk {B : Addr} (sp : PySem.W.specialIn K (.ref B) "__getattribute__" = some (some (.builtin "type.__getattribute__"))) (rd : PySem.W.readsIn K B (.type "type") = true) (vV : PySem.W.findCls K (.ref B) (.type "type") "__init__" = some (.val (.builtin "ValueError.__init__"))) (kp : PySem.W.keepIn K (.ref B) = true) : BaseC K B := ⟨sp, rd, vV, kp⟩
def excCb (K : PySem.W.Frag) (D : Addr) : Bool :=
  PySem.W.findIn K (.ref D) "__getattribute__" == some (some (.builtin "BaseException.__getattribute__")) && PySem.W.findIn K (.ref D) "__getattr__" == some none && PySem.W.subIn K (.ref D) (.type "BaseException") == some true && PySem.W.hasDictIn K D &&
  PySem.W.findIn K (.ref D) "__class__" == some (some (.builtin "object.__class__")) && PySem.W.specialIn K (.builtin "object.__class__") "__get__" == some (some (.builtin "getset_descriptor.__get__")) && PySem.W.takesIn K (.builtin "object.__class__") == some true && PySem.W.mroIn K D (.type "object") == some true
theorem excCb_ok {D : Addr} (h : excCb K D = true) : ExcC K D := by
  unfold excCb at h
  simp only [Bool.and_eq_true, beq_iff_eq] at h
  obtain ⟨⟨⟨⟨⟨⟨⟨h1, h2⟩, h3⟩, h4⟩, h5⟩, h6⟩, h7⟩, h8⟩ := h
  exact ⟨h1, h2, h3, h4, h5, h6, h7, h8⟩
/-- the own errors: their classes, what isinstance says of them, what they have as a field -/
structure Ers (K : PySem.W.Frag) (mg : Str → Option Value) (L : List Str) (b : Str → Str → Bool) (FL : List Str) : Prop where
  ok : ErsOk K L
  kit : ∀ x, x ∈ L → ∃ C, mg x = some (.ref C) ∧ KitTab K L (.ref C) (b x)
  kitV : KitTab K L (.type "ValueError") (fun _ => true)
  mV : mg "ValueError" = none
  fld : ∀ f, f ∈ FL → NoFld K L f
/-- the address of a class -/
def adr (K : PySem.W.Frag) (x : Str) : Option Addr := match PySem.W.nsIn K mainGlobals x with
  | some (some (.ref D)) => some D
  | _ => none
theorem adr_iff {x : Str} {D : Addr} : adr K x = some D ↔ PySem.W.nsIn K mainGlobals x = some (some (.ref D)) := by
  unfold adr
  split
  · rename_i E e
    rw [e]
    constructor
    · intro z; cases z; rfl
    · intro z; cases z; rfl
  · rename_i h
    constructor
    · intro z; cases z
    · intro z; exact absurd z (h _)
def onA (o : Option Addr) (p : Addr → Bool) : Bool := match o with
  | some D => p D
  | none => false
theorem onA_of {o : Option Addr} {p : Addr → Bool} (h : onA o p = true) : ∃ D, o = some D ∧ p D = true := by
  cases o with
  | none => cases h
  | some D => exact ⟨D, rfl, h⟩
def tabE (K : PySem.W.Frag) (L : List Str) (b : Str → Str → Bool) (FL : List Str) : Bool :=
  L.all fun x => onA (adr K x) fun C => excCb K C && (L.all fun c => onA (adr K c) fun D => PySem.W.kitOne K (.ref D) (.ref C) == some (b x c)) && PySem.W.kitOne K (.ref C) (.type "ValueError") == some true && FL.all fun f => PySem.W.findIn K (.ref C) f == some none
theorem ers_mk {h : Heap} {L FL : List Str} {b : Str → Str → Bool} (X : K.In h) (G : h.Ns mainGlobals mg) (z : PySem.W.nsIn K mainGlobals "ValueError" = some none) (t : tabE K L b FL = true) : Ers K mg L b FL := by
  have a : ∀ x, x ∈ L → ∃ C, adr K x = some C ∧ excCb K C = true ∧ (∀ c, c ∈ L → ∃ D, adr K c = some D ∧ PySem.W.kitOne K (.ref D) (.ref C) = some (b x c)) ∧ PySem.W.kitOne K (.ref C) (.type "ValueError") = some true ∧ ∀ f, f ∈ FL → PySem.W.findIn K (.ref C) f = some none := fun x hx => by
    obtain ⟨C, e, h⟩ := onA_of (List.all_eq_true.mp t x hx)
    simp only [Bool.and_eq_true, beq_iff_eq] at h
    obtain ⟨⟨⟨h1, h2⟩, h3⟩, h4⟩ := h
    refine ⟨C, e, h1, fun c hc => ?_, h3, fun f hf => ?_⟩
    · obtain ⟨D, e, h⟩ := onA_of (List.all_eq_true.mp h2 c hc)
      exact ⟨D, e, beq_iff_eq.mp h⟩
    · exact beq_iff_eq.mp (List.all_eq_true.mp h4 f hf)
  refine ⟨⟨fun c hc D e => ?_⟩, fun x hx => ?_, fun c hc D e => ?_, PySem.W.mg_none_of X G z, fun f hf c hc D e => ?_⟩
  · obtain ⟨C, e1, h1, _⟩ := a c hc
    rw [adr_iff.mpr e] at e1
    cases e1
    exact excCb_ok h1
  · obtain ⟨C, e1, _, h2, _⟩ := a x hx
    refine ⟨C, PySem.W.mg_of X G (adr_iff.mp e1), fun c hc D e => ?_⟩
    obtain ⟨D', e2, q⟩ := h2 c hc
    rw [adr_iff.mpr e] at e2
    cases e2
    exact q
  · obtain ⟨C, e1, _, _, h3, _⟩ := a c hc
    rw [adr_iff.mpr e] at e1
    cases e1
    exact h3
  · obtain ⟨C, e1, _, _, _, h4⟩ := a c hc
    rw [adr_iff.mpr e] at e1
    cases e1
    exact h4 f hf
/-- those without an __init__ -/
def tab0 (K : PySem.W.Frag) (L : List Str) : Bool := L.all fun x => onA (adr K x) fun C => PySem.W.keepIn K (.ref C) && PySem.W.excIn K C [.type "ValueError", .type "Exception", .type "BaseException", .type "object"] "ValueError.__new__"
theorem er0_mk {h : Heap} {L : List Str} (X : K.In h) (G : h.Ns mainGlobals mg) (t : tab0 K L = true) : ∀ x, x ∈ L → Er0 K mg x := fun x hx => by
  obtain ⟨C, e, h⟩ := onA_of (List.all_eq_true.mp t x hx)
  simp only [Bool.and_eq_true] at h
  have e := adr_iff.mp e
  exact ⟨C, PySem.W.mg_of X G e, e, h.1, _, _, _, _, PySem.F.excBase_ValueError, h.2⟩
theorem erN_mk {h : Heap} {C fI : Addr} {fd : FuncData} {k n : Nat} {x : Str} {ps ns : List Str} {fs : List V → List (Str × V)} (X : K.In h) (G : h.Ns mainGlobals mg) (a : PySem.W.nsIn K mainGlobals x = some (some (.ref C))) (o : OexC K C) (no : ∀ f, f ∈ ns → PySem.W.findIn K (.ref C) f = some none)
    (ii : PySem.W.findIn K (.ref C) "__init__" = some (some (.ref fI))) (ti : PySem.W.typeIn K (.ref fI) = some (.type "function")) (F : FnOk P w K mg base CX0 k fI fd ps (spInit K n ns fs)) (b : Binds K fd ps []) : ErN P w K mg base k x n ns fs :=
  ⟨C, fI, fd, ps, PySem.W.mg_of X G a, a, o, no, ii, ti, F, b⟩
end
section
variable {X : Cx} {e : Expr} {p p1 pos : Pos} {w : DE} {L FL : List Str} {b : Str → Str → Bool}
theorem xe_isY {T : Str} (E : Ers X.K X.mg L b FL) (hT : T ∈ L) (hg : Gl X "isinstance") (hm : X.mg "isinstance" = none) (hgT : Gl X T) (h : XE X e w) (hd : (T == ("__debug__" : Str)) = false := by decide)
    (he : starEach [e, .Name T p1] X.env = (false, eval e X.env) :: starEach [.Name T p1] X.env := by rfl) (he2 : starEach [.Name T p1] X.env = (false, eval (.Name T p1) X.env) :: starEach [] X.env := by rfl) (hpl : (backTo pos (starEach [.Name T p1] X.env)).any (·.1) = false := by rfl) :
    XE X (.Call (.Name "isinstance" p) [e, .Name T p1] [] pos) (wIsX L (b T) w) := by
  obtain ⟨C, gC, kb⟩ := E.kit T hT
  exact xe_isX E.ok kb gC hg hm hgT h hd he he2 hpl
theorem xe_isYV (E : Ers X.K X.mg L b FL) (hg : Gl X "isinstance") (hm : X.mg "isinstance" = none) (hgT : Gl X "ValueError") (h : XE X e w)
    (he : starEach [e, .Name "ValueError" p1] X.env = (false, eval e X.env) :: starEach [.Name "ValueError" p1] X.env := by rfl) (he2 : starEach [.Name "ValueError" p1] X.env = (false, eval (.Name "ValueError" p1) X.env) :: starEach [] X.env := by rfl) (hpl : (backTo pos (starEach [.Name "ValueError" p1] X.env)).any (·.1) = false := by rfl) :
    XE X (.Call (.Name "isinstance" p) [e, .Name "ValueError" p1] [] pos) (wIsX L (fun _ => true) w) :=
  xe_isXT E.ok E.kitV E.mV PyProof.Rows.Boot.«ValueError» hg hm hgT h (by decide) (by decide) he he2 hpl
theorem xe_fldY {f : Str} (E : Ers X.K X.mg L b FL) (hf : f ∈ FL) (h : XE X e w) (hb : attributeBase e f X.env (eval e X.env) = eval e X.env := by rfl) : XE X (.Attribute e f pos) (wFldX L f w) := xe_fldX E.ok (E.fld f hf) h hb
end
section
variable {X : Cx}
/-- a, b, c = e1, e2, e3, all plain names -/
@[simp] def wPar3 (i j l : Nat) (w : DA) : DS := fun Φ s => w s fun xs s1 => match xs with
  | [x, y, z] => Φ.nx (((s1.put i (.d x)).put j (.d y)).put l (.d z))
  | _ => False
theorem xs_par3 {i j l : Nat} {x y z : Str} {a b c : Expr} {w : DA} {px py pz pt pos : Pos} {kt k2 : Nat} {pt2 : Pos} (hc : X.calm = true) (hN : X.N.Nodup) (hi : X.N[i]? = some x) (hj : X.N[j]? = some y) (hl : X.N[l]? = some z) (hij : i ≠ j) (hil : i ≠ l) (hjl : j ≠ l)
    (hx : X.env.scope.names.lookup x = some .local) (hy : X.env.scope.names.lookup y = some .local) (hz : X.env.scope.names.lookup z = some .local) (ha : XA X [a, b, c] w)
    (hw : swappedStores [.Tuple [.Name x px, .Name y py, .Name z pz] kt pt] (.Tuple [a, b, c] k2 pt2) X.env = pure (some [x, y, z]))
    (hs : swapsWithSole [.Tuple [.Name x px, .Name y py, .Name z pz] kt pt] (.Tuple [a, b, c] k2 pt2) pos.line X.env = pure false := by rfl) : XS X (.Assign [.Tuple [.Name x px, .Name y py, .Name z pz] kt pt] (.Tuple [a, b, c] k2 pt2) pos) (wPar3 i j l w) :=
  ps_imp (ps_par3 hc hN hi hj hl hij hil hjl hx hy hz ha hw hs) fun D σ H h => by
    obtain ⟨G, P, F, s, Φ, R, h, b⟩ := h
    refine ⟨G, P, F, s, _, R, h, fun vs F' H' s' xs R' e d q => ?_⟩
    match xs, d, q with
    | [x, y, z], .cons d1 (.cons d2 (.cons d3 .nil)), q => exact ⟨_, _, _, rfl, b.nx _ F' H' _ (((R'.setD d1).setD d2).setD d3) e q⟩
end
end DL
namespace L00
open PySem PySem.Spec PyProof.Rows L2 DL
/-- the errors in the order in which the law names them -/
def EN25 : List Str := ["BadLetters", "BadRule", "BadNumber", "BadName", "TooDeep", "BadMachine", "TooMany", "TooGreat", "NotLeast", "NoWord", "NothingToUndo", "NothingToRedo", "BadTurner", "NotOne", "BadAnswer", "NoQuestion", "BadSheet", "BadWord", "BadSize", "UnknownName", "InUse", "Ring", "BadEntry", "Contradiction", "BadText"]
def ERL : List Str := "HallError" :: EN25
def ER0 : List Str := ["HallError", "BadLetters", "BadRule", "BadNumber", "BadName", "TooDeep", "BadMachine", "TooMany", "TooGreat", "NotLeast", "NoWord", "NothingToUndo", "NothingToRedo", "BadTurner", "NotOne", "BadAnswer", "NoQuestion", "BadSheet"]
def FLE : List Str := ["place", "size", "name", "word", "line", "column"]
/-- isinstance(an error of class c, x) -/
def bE (x c : Str) : Bool := x == c || x == "HallError"
def sp_letters2 : DSpP := fun ds q Φ => ∃ m, ds = [.int m] ∧ 1 ≤ m ∧ m ≤ 6 ∧ PoolOk q ∧ ∀ z q', PoolOk q' → Letters m z → z.cps.toList.Nodup → Φ (.str z) q'
def sp_kinds : DSp := fun ds Φ => ∃ (c : Str) (xs : List PyData), ds = [erD c xs] ∧ c ∈ ERL ∧ Φ (.list (EN25.map fun x => .bool (bE x c)))
end L00
namespace L00
open PySem PySem.Spec PyProof.Rows L2 DL
def topS (i : Nat) : Stmt := PySem.Challenge.pw_hallofwords_k00_errors_stand_apart.main.body.getD i (.Pass ⟨0, 0, 0, 0⟩)
section
variable {P : Program} {w : World} {K : PySem.W.Frag} {mg : Str → Option Value} {base : Heap} {k : Nat}
abbrev m_BadWord : Stmt := mt0 (topS 19)
theorem scm_BadWord : FnScope ["self", "place"] ["self", "place"] (defScope m_BadWord) := ⟨rfl, rfl, rfl, by decide +kernel, rfl, by decide +kernel, by decide +kernel⟩
theorem init_BadWord {fI B : Addr} {fd : FuncData} (F : Fun K "__init__" "BadWord.__init__" m_BadWord fI fd) (T : BaseC K B) (gB : mg "HallError" = some (.ref B)) : FnOk P w K mg base CX0 1 fI fd ["self", "place"] (spInit K 1 ["place"] (fun xs => [("place" : Str)].zip xs)) := by
  refine F.ok scm_BadWord (fun vs H Q E ⟨a, C, xs, e, l, _⟩ => by rw [e, List.length_cons, l]; rfl) fun cdv A outer s H vs Q E hr h => ⟨_, pss_cons (ps_expr (pe_heinit T (by rfl) gB (pa_cons (pv 0) (pa_cons (pe_joined (.cons pe_str (.cons (pe_fmt (pv 1)) .nil))) pa_nil)))) (pss_one (ps_ost (pv 0) (pv 1))), ?_⟩
  obtain ⟨a, C, xs, rfl, l, T1, hno, hf, ha, kk⟩ := h
  obtain ⟨x, rfl⟩ := List.length_eq_one_iff.mp l
  refine init1 T1 (hno _ (List.mem_cons_self ..)) (hf _ (List.mem_cons_self ..)) ha kk ?_ rfl rfl
  decide +kernel
theorem n_BadWord {h : Heap} {C B : Addr} (X : K.In h) (G : h.Ns mainGlobals mg) (a : PySem.W.nsIn K mainGlobals "BadWord" = some (some (.ref C))) (o : OexC K C) (no : PySem.W.findIn K (.ref C) "place" = some none) (I : InitK K C "BadWord.__init__" m_BadWord) (aB : PySem.W.nsIn K mainGlobals "HallError" = some (some (.ref B))) (T : BaseC K B) : ∀ base : Heap, ErN P w K mg base 1 "BadWord" 1 ["place"] (fun xs => [("place" : Str)].zip xs) := by
  intro base
  obtain ⟨fI, fd, ii, ti, F⟩ := I.ex
  refine erN_mk X G a o (fun f hf => ?_) ii ti (init_BadWord F T (PySem.W.mg_of X G aB)) (F.binds (fun _ _ _ _ _ _ us hl => match us, hl with | [_, _], _ => rfl))
  rw [List.mem_singleton.mp hf]
  exact no
abbrev m_BadSize : Stmt := mt0 (topS 20)
theorem scm_BadSize : FnScope ["self", "size"] ["self", "size"] (defScope m_BadSize) := ⟨rfl, rfl, rfl, by decide +kernel, rfl, by decide +kernel, by decide +kernel⟩
theorem init_BadSize {fI B : Addr} {fd : FuncData} (F : Fun K "__init__" "BadSize.__init__" m_BadSize fI fd) (T : BaseC K B) (gB : mg "HallError" = some (.ref B)) : FnOk P w K mg base CX0 1 fI fd ["self", "size"] (spInit K 1 ["size"] (fun xs => [("size" : Str)].zip xs)) := by
  refine F.ok scm_BadSize (fun vs H Q E ⟨a, C, xs, e, l, _⟩ => by rw [e, List.length_cons, l]; rfl) fun cdv A outer s H vs Q E hr h => ⟨_, pss_cons (ps_expr (pe_heinit T (by rfl) gB (pa_cons (pv 0) (pa_cons (pe_joined (.cons pe_str (.cons (pe_fmt (pv 1)) .nil))) pa_nil)))) (pss_one (ps_ost (pv 0) (pv 1))), ?_⟩
  obtain ⟨a, C, xs, rfl, l, T1, hno, hf, ha, kk⟩ := h
  obtain ⟨x, rfl⟩ := List.length_eq_one_iff.mp l
  refine init1 T1 (hno _ (List.mem_cons_self ..)) (hf _ (List.mem_cons_self ..)) ha kk ?_ rfl rfl
  decide +kernel
theorem n_BadSize {h : Heap} {C B : Addr} (X : K.In h) (G : h.Ns mainGlobals mg) (a : PySem.W.nsIn K mainGlobals "BadSize" = some (some (.ref C))) (o : OexC K C) (no : PySem.W.findIn K (.ref C) "size" = some none) (I : InitK K C "BadSize.__init__" m_BadSize) (aB : PySem.W.nsIn K mainGlobals "HallError" = some (some (.ref B))) (T : BaseC K B) : ∀ base : Heap, ErN P w K mg base 1 "BadSize" 1 ["size"] (fun xs => [("size" : Str)].zip xs) := by
  intro base
  obtain ⟨fI, fd, ii, ti, F⟩ := I.ex
  refine erN_mk X G a o (fun f hf => ?_) ii ti (init_BadSize F T (PySem.W.mg_of X G aB)) (F.binds (fun _ _ _ _ _ _ us hl => match us, hl with | [_, _], _ => rfl))
  rw [List.mem_singleton.mp hf]
  exact no
abbrev m_UnknownName : Stmt := mt0 (topS 21)
theorem scm_UnknownName : FnScope ["self", "name"] ["self", "name"] (defScope m_UnknownName) := ⟨rfl, rfl, rfl, by decide +kernel, rfl, by decide +kernel, by decide +kernel⟩
theorem init_UnknownName {fI B : Addr} {fd : FuncData} (F : Fun K "__init__" "UnknownName.__init__" m_UnknownName fI fd) (T : BaseC K B) (gB : mg "HallError" = some (.ref B)) : FnOk P w K mg base CX0 1 fI fd ["self", "name"] (spInit K 1 ["name"] (fun xs => [("name" : Str)].zip xs)) := by
  refine F.ok scm_UnknownName (fun vs H Q E ⟨a, C, xs, e, l, _⟩ => by rw [e, List.length_cons, l]; rfl) fun cdv A outer s H vs Q E hr h => ⟨_, pss_cons (ps_expr (pe_heinit T (by rfl) gB (pa_cons (pv 0) (pa_cons (pe_joined (.cons pe_str (.cons (pe_fmt (pv 1)) .nil))) pa_nil)))) (pss_one (ps_ost (pv 0) (pv 1))), ?_⟩
  obtain ⟨a, C, xs, rfl, l, T1, hno, hf, ha, kk⟩ := h
  obtain ⟨x, rfl⟩ := List.length_eq_one_iff.mp l
  refine init1 T1 (hno _ (List.mem_cons_self ..)) (hf _ (List.mem_cons_self ..)) ha kk ?_ rfl rfl
  decide +kernel
theorem n_UnknownName {h : Heap} {C B : Addr} (X : K.In h) (G : h.Ns mainGlobals mg) (a : PySem.W.nsIn K mainGlobals "UnknownName" = some (some (.ref C))) (o : OexC K C) (no : PySem.W.findIn K (.ref C) "name" = some none) (I : InitK K C "UnknownName.__init__" m_UnknownName) (aB : PySem.W.nsIn K mainGlobals "HallError" = some (some (.ref B))) (T : BaseC K B) : ∀ base : Heap, ErN P w K mg base 1 "UnknownName" 1 ["name"] (fun xs => [("name" : Str)].zip xs) := by
  intro base
  obtain ⟨fI, fd, ii, ti, F⟩ := I.ex
  refine erN_mk X G a o (fun f hf => ?_) ii ti (init_UnknownName F T (PySem.W.mg_of X G aB)) (F.binds (fun _ _ _ _ _ _ us hl => match us, hl with | [_, _], _ => rfl))
  rw [List.mem_singleton.mp hf]
  exact no
abbrev m_InUse : Stmt := mt0 (topS 22)
theorem scm_InUse : FnScope ["self", "name"] ["self", "name"] (defScope m_InUse) := ⟨rfl, rfl, rfl, by decide +kernel, rfl, by decide +kernel, by decide +kernel⟩
theorem init_InUse {fI B : Addr} {fd : FuncData} (F : Fun K "__init__" "InUse.__init__" m_InUse fI fd) (T : BaseC K B) (gB : mg "HallError" = some (.ref B)) : FnOk P w K mg base CX0 1 fI fd ["self", "name"] (spInit K 1 ["name"] (fun xs => [("name" : Str)].zip xs)) := by
  refine F.ok scm_InUse (fun vs H Q E ⟨a, C, xs, e, l, _⟩ => by rw [e, List.length_cons, l]; rfl) fun cdv A outer s H vs Q E hr h => ⟨_, pss_cons (ps_expr (pe_heinit T (by rfl) gB (pa_cons (pv 0) (pa_cons (pe_joined (.cons pe_str (.cons (pe_fmt (pv 1)) .nil))) pa_nil)))) (pss_one (ps_ost (pv 0) (pv 1))), ?_⟩
  obtain ⟨a, C, xs, rfl, l, T1, hno, hf, ha, kk⟩ := h
  obtain ⟨x, rfl⟩ := List.length_eq_one_iff.mp l
  refine init1 T1 (hno _ (List.mem_cons_self ..)) (hf _ (List.mem_cons_self ..)) ha kk ?_ rfl rfl
  decide +kernel
theorem n_InUse {h : Heap} {C B : Addr} (X : K.In h) (G : h.Ns mainGlobals mg) (a : PySem.W.nsIn K mainGlobals "InUse" = some (some (.ref C))) (o : OexC K C) (no : PySem.W.findIn K (.ref C) "name" = some none) (I : InitK K C "InUse.__init__" m_InUse) (aB : PySem.W.nsIn K mainGlobals "HallError" = some (some (.ref B))) (T : BaseC K B) : ∀ base : Heap, ErN P w K mg base 1 "InUse" 1 ["name"] (fun xs => [("name" : Str)].zip xs) := by
  intro base
  obtain ⟨fI, fd, ii, ti, F⟩ := I.ex
  refine erN_mk X G a o (fun f hf => ?_) ii ti (init_InUse F T (PySem.W.mg_of X G aB)) (F.binds (fun _ _ _ _ _ _ us hl => match us, hl with | [_, _], _ => rfl))
  rw [List.mem_singleton.mp hf]
  exact no
abbrev m_Ring : Stmt := mt0 (topS 23)
theorem scm_Ring : FnScope ["self", "name"] ["self", "name"] (defScope m_Ring) := ⟨rfl, rfl, rfl, by decide +kernel, rfl, by decide +kernel, by decide +kernel⟩
theorem init_Ring {fI B : Addr} {fd : FuncData} (F : Fun K "__init__" "Ring.__init__" m_Ring fI fd) (T : BaseC K B) (gB : mg "HallError" = some (.ref B)) : FnOk P w K mg base CX0 1 fI fd ["self", "name"] (spInit K 1 ["name"] (fun xs => [("name" : Str)].zip xs)) := by
  refine F.ok scm_Ring (fun vs H Q E ⟨a, C, xs, e, l, _⟩ => by rw [e, List.length_cons, l]; rfl) fun cdv A outer s H vs Q E hr h => ⟨_, pss_cons (ps_expr (pe_heinit T (by rfl) gB (pa_cons (pv 0) (pa_cons (pe_joined (.cons pe_str (.cons (pe_fmt (pv 1)) .nil))) pa_nil)))) (pss_one (ps_ost (pv 0) (pv 1))), ?_⟩
  obtain ⟨a, C, xs, rfl, l, T1, hno, hf, ha, kk⟩ := h
  obtain ⟨x, rfl⟩ := List.length_eq_one_iff.mp l
  refine init1 T1 (hno _ (List.mem_cons_self ..)) (hf _ (List.mem_cons_self ..)) ha kk ?_ rfl rfl
  decide +kernel
theorem n_Ring {h : Heap} {C B : Addr} (X : K.In h) (G : h.Ns mainGlobals mg) (a : PySem.W.nsIn K mainGlobals "Ring" = some (some (.ref C))) (o : OexC K C) (no : PySem.W.findIn K (.ref C) "name" = some none) (I : InitK K C "Ring.__init__" m_Ring) (aB : PySem.W.nsIn K mainGlobals "HallError" = some (some (.ref B))) (T : BaseC K B) : ∀ base : Heap, ErN P w K mg base 1 "Ring" 1 ["name"] (fun xs => [("name" : Str)].zip xs) := by
  intro base
  obtain ⟨fI, fd, ii, ti, F⟩ := I.ex
  refine erN_mk X G a o (fun f hf => ?_) ii ti (init_Ring F T (PySem.W.mg_of X G aB)) (F.binds (fun _ _ _ _ _ _ us hl => match us, hl with | [_, _], _ => rfl))
  rw [List.mem_singleton.mp hf]
  exact no
abbrev m_BadEntry : Stmt := mt0 (topS 24)
theorem scm_BadEntry : FnScope ["self", "place"] ["self", "place"] (defScope m_BadEntry) := ⟨rfl, rfl, rfl, by decide +kernel, rfl, by decide +kernel, by decide +kernel⟩
theorem init_BadEntry {fI B : Addr} {fd : FuncData} (F : Fun K "__init__" "BadEntry.__init__" m_BadEntry fI fd) (T : BaseC K B) (gB : mg "HallError" = some (.ref B)) : FnOk P w K mg base CX0 1 fI fd ["self", "place"] (spInit K 1 ["place"] (fun xs => [("place" : Str)].zip xs)) := by
  refine F.ok scm_BadEntry (fun vs H Q E ⟨a, C, xs, e, l, _⟩ => by rw [e, List.length_cons, l]; rfl) fun cdv A outer s H vs Q E hr h => ⟨_, pss_cons (ps_expr (pe_heinit T (by rfl) gB (pa_cons (pv 0) (pa_cons (pe_joined (.cons pe_str (.cons (pe_fmt (pv 1)) .nil))) pa_nil)))) (pss_one (ps_ost (pv 0) (pv 1))), ?_⟩
  obtain ⟨a, C, xs, rfl, l, T1, hno, hf, ha, kk⟩ := h
  obtain ⟨x, rfl⟩ := List.length_eq_one_iff.mp l
  refine init1 T1 (hno _ (List.mem_cons_self ..)) (hf _ (List.mem_cons_self ..)) ha kk ?_ rfl rfl
  decide +kernel
theorem n_BadEntry {h : Heap} {C B : Addr} (X : K.In h) (G : h.Ns mainGlobals mg) (a : PySem.W.nsIn K mainGlobals "BadEntry" = some (some (.ref C))) (o : OexC K C) (no : PySem.W.findIn K (.ref C) "place" = some none) (I : InitK K C "BadEntry.__init__" m_BadEntry) (aB : PySem.W.nsIn K mainGlobals "HallError" = some (some (.ref B))) (T : BaseC K B) : ∀ base : Heap, ErN P w K mg base 1 "BadEntry" 1 ["place"] (fun xs => [("place" : Str)].zip xs) := by
  intro base
  obtain ⟨fI, fd, ii, ti, F⟩ := I.ex
  refine erN_mk X G a o (fun f hf => ?_) ii ti (init_BadEntry F T (PySem.W.mg_of X G aB)) (F.binds (fun _ _ _ _ _ _ us hl => match us, hl with | [_, _], _ => rfl))
  rw [List.mem_singleton.mp hf]
  exact no
abbrev m_Contradiction : Stmt := mt0 (topS 25)
theorem scm_Contradiction : FnScope ["self", "word"] ["self", "word"] (defScope m_Contradiction) := ⟨rfl, rfl, rfl, by decide +kernel, rfl, by decide +kernel, by decide +kernel⟩
theorem init_Contradiction {fI B : Addr} {fd : FuncData} (F : Fun K "__init__" "Contradiction.__init__" m_Contradiction fI fd) (T : BaseC K B) (gB : mg "HallError" = some (.ref B)) : FnOk P w K mg base CX0 1 fI fd ["self", "word"] (spInit K 1 ["word"] (fun xs => [("word" : Str)].zip xs)) := by
  refine F.ok scm_Contradiction (fun vs H Q E ⟨a, C, xs, e, l, _⟩ => by rw [e, List.length_cons, l]; rfl) fun cdv A outer s H vs Q E hr h => ⟨_, pss_cons (ps_expr (pe_heinit T (by rfl) gB (pa_cons (pv 0) (pa_cons (pe_joined (.cons pe_str (.cons (pe_fmt (pv 1)) .nil))) pa_nil)))) (pss_one (ps_ost (pv 0) (pv 1))), ?_⟩
  obtain ⟨a, C, xs, rfl, l, T1, hno, hf, ha, kk⟩ := h
  obtain ⟨x, rfl⟩ := List.length_eq_one_iff.mp l
  refine init1 T1 (hno _ (List.mem_cons_self ..)) (hf _ (List.mem_cons_self ..)) ha kk ?_ rfl rfl
  decide +kernel
theorem n_Contradiction {h : Heap} {C B : Addr} (X : K.In h) (G : h.Ns mainGlobals mg) (a : PySem.W.nsIn K mainGlobals "Contradiction" = some (some (.ref C))) (o : OexC K C) (no : PySem.W.findIn K (.ref C) "word" = some none) (I : InitK K C "Contradiction.__init__" m_Contradiction) (aB : PySem.W.nsIn K mainGlobals "HallError" = some (some (.ref B))) (T : BaseC K B) : ∀ base : Heap, ErN P w K mg base 1 "Contradiction" 1 ["word"] (fun xs => [("word" : Str)].zip xs) := by
  intro base
  obtain ⟨fI, fd, ii, ti, F⟩ := I.ex
  refine erN_mk X G a o (fun f hf => ?_) ii ti (init_Contradiction F T (PySem.W.mg_of X G aB)) (F.binds (fun _ _ _ _ _ _ us hl => match us, hl with | [_, _], _ => rfl))
  rw [List.mem_singleton.mp hf]
  exact no
abbrev m_BadText : Stmt := mt0 (topS 26)
theorem scm_BadText : FnScope ["self", "line", "column"] ["self", "line", "column"] (defScope m_BadText) := ⟨rfl, rfl, rfl, by decide +kernel, rfl, by decide +kernel, by decide +kernel⟩
theorem init_BadText {fI B : Addr} {fd : FuncData} (F : Fun K "__init__" "BadText.__init__" m_BadText fI fd) (T : BaseC K B) (gB : mg "HallError" = some (.ref B)) : FnOk P w K mg base CX0 1 fI fd ["self", "line", "column"] (spInit K 2 ["line", "column"] (fun xs => match xs with | [a, b] => [("column", b), ("line", a)] | _ => [])) := by
  refine F.ok scm_BadText (fun vs H Q E ⟨a, C, xs, e, l, _⟩ => by rw [e, List.length_cons, l]; rfl) fun cdv A outer s H vs Q E hr h => ⟨_, pss_cons (ps_expr (pe_heinit T (by rfl) gB (pa_cons (pv 0) (pa_cons (pe_joined (.cons pe_str (.cons (pe_fmt (pv 1)) (.cons pe_str (.cons (pe_fmt (pv 2)) .nil))))) pa_nil)))) (pss_cons (ps_ost (pv 0) (pv 1)) (pss_one (ps_ost (pv 0) (pv 2)))), ?_⟩
  obtain ⟨a, C, xs, rfl, l, T1, hno, hf, ha, kk⟩ := h
  match xs, l, hf, kk with
  | [x, y], _, hf, kk =>
    refine init2 T1 (hno _ (List.mem_cons_self ..)) (hno _ (List.mem_cons_of_mem _ (List.mem_cons_self ..))) (hf _ (List.mem_cons_self ..)) (hf _ (List.mem_cons_of_mem _ (List.mem_cons_self ..))) ha kk ?_ ?_ rfl rfl rfl
    · decide +kernel
    · decide +kernel
theorem n_BadText {h : Heap} {C B : Addr} (X : K.In h) (G : h.Ns mainGlobals mg) (a : PySem.W.nsIn K mainGlobals "BadText" = some (some (.ref C))) (o : OexC K C) (no : PySem.W.findIn K (.ref C) "line" = some none ∧ PySem.W.findIn K (.ref C) "column" = some none) (I : InitK K C "BadText.__init__" m_BadText) (aB : PySem.W.nsIn K mainGlobals "HallError" = some (some (.ref B))) (T : BaseC K B) : ∀ base : Heap, ErN P w K mg base 1 "BadText" 2 ["line", "column"] (fun xs => match xs with | [a, b] => [("column", b), ("line", a)] | _ => []) := by
  intro base
  obtain ⟨fI, fd, ii, ti, F⟩ := I.ex
  refine erN_mk X G a o (fun f hf => ?_) ii ti (init_BadText F T (PySem.W.mg_of X G aB)) (F.binds (fun _ _ _ _ _ _ us hl => match us, hl with | [_, _, _], _ => rfl))
  rcases List.mem_cons.mp hf with rfl | hf
  · exact no.1
  · rw [List.mem_singleton.mp hf]
    exact no.2
abbrev s__law_pool : Stmt := topS 28
theorem sc__law_pool : FnScope ["script", "pool", "state", "k", "cell", "step", "one", "two"] ["script"] (defScope s__law_pool) := ⟨rfl, rfl, rfl, by decide +kernel, rfl, by decide +kernel, by decide +kernel⟩
def W__law_pool : DS := (wSeq (wSetO 1 (wLst wNil))
    (wSeq (wSet 2 (wC (.int 17)))
    (wSeq (wFor (wRng1 (wCons (wCB (wN2 gMin) (wCons (wScLen 0) (wCons (wC (.int 63)) wNil))) wNil)) (gNm 3) (wSeq (wSet 4 (wScIxA 0 (wVar 3)))
    (wSeq (wSet 2 (wBin wMod (wCB (wN1 gInt) (wCons (wBin wAdd (wBin wAdd (wBin wMul (wVar 2) (wC (.int 69621))) (wBin wMul (wVar 4) (wC (.int 48271)))) (wVar 3)) wNil)) (wC (.int 2147483647))))
    (wIfS (wTst (wBin wGe (wVar 4) (wBin wPow (wC (.int 10)) (wC (.int 18))))) (wFor (wRng1 (wCons (wC (.int 60)) wNil)) (gNm 5) (wSeq (wIfS (wTst (wBin (wEq false) (wVar 4) (wC (.int 0)))) wBk wNext)
    (wSeq (wApp 1 (wBin wMod (wCB (wN1 gInt) (wCons (wVar 4) wNil)) (wC (.int 60))))
    (wSet 4 (wBin wDiv (wVar 4) (wC (.int 60))))))) (wSeq (wSet 6 (wBin wMod (wCB (wN1 gInt) (wCons (wBin wAdd (wBin wAdd (wBin wMul (wVar 4) (wC (.int 48271))) (wBin wMul (wVar 3) (wC (.int 69621)))) (wC (.int 7))) wNil)) (wC (.int 2147483647))))
    (wSeq (wSet 7 (wBin wMod (wCB (wN1 gInt) (wCons (wBin wAdd (wBin wAdd (wBin wMul (wVar 6) (wC (.int 16807))) (wBin wMul (wVar 4) (wC (.int 31)))) (wVar 3)) wNil)) (wC (.int 1000003))))
    (wSetO 1 (wBinL wCat (wVar 1) (wFz (wLst (wCons (wBin wMod (wCB (wN1 gInt) (wCons (wBin wDiv (wVar 6) (wC (.int 11))) wNil)) (wC (.int 60))) (wCons (wBin wMod (wCB (wN1 gInt) (wCons (wVar 7) wNil)) (wC (.int 60))) wNil))))))))))))
    (wSeq (wFor (wRng1 (wCons (wC (.int 300)) wNil)) (gNm 5) (wSeq (wSet 2 (wBin wMod (wCB (wN1 gInt) (wCons (wBin wAdd (wBin wMul (wVar 2) (wC (.int 48271))) (wC (.int 11))) wNil)) (wC (.int 2147483647))))
    (wApp 1 (wBin wMod (wCB (wN1 gInt) (wCons (wBin wDiv (wVar 2) (wC (.int 97))) wNil)) (wC (.int 60))))))
    (wRetO 1)))))
theorem dv__law_pool (B : Bi mg) {f : Addr} (cdv : Value) (A : Around) (outer : List Env) (s : Shared) (H : Hp) (E : XK) (hgd : (A.deeper (envOfC "_law_pool" (defScope s__law_pool) s.heap.objs.size f cdv)).guards = some []) (hr : Room 0 (A.deeper (envOfC "_law_pool" (defScope s__law_pool) s.heap.objs.size f cdv))) :
    XSs (cxOf CX0 P w K mg base ["script", "pool", "state", "k", "cell", "step", "one", "two"] "_law_pool" (defScope s__law_pool) f cdv A outer s H E).nox (defBody s__law_pool) (W__law_pool) := by
  have nd := sc__law_pool.nd
  exact (xs_cons (xs_setO (i := 1) nd rfl (Or.inl rfl) (xl_lst xa_nil))
    (xs_cons (xs_set (i := 2) nd rfl (Or.inl rfl) xe_int)
    (xs_cons (xs_for PassesOwn.never rfl (xi_range1 rfl B.range (xa_cons (xe_callB (call_min2 rfl) opn_min2 rfl B.min bb_min (xa_cons (xe_scLen (i := 0) rfl B.len (pv 0)) (xa_cons xe_int xa_nil))) xa_nil)) (xg_name (i := 3) nd rfl (Or.inl rfl)) (xs_cons (xs_set (i := 4) nd rfl (Or.inl rfl) (xe_scIx (i := 0) (pv 0) (xe_var 3)))
    (xs_cons (xs_set (i := 2) nd rfl (Or.inl rfl) (xe_op op_mod o_mod (xe_callTy call_int1 opn_int rfl B.int bb_int (xa_cons (xe_op opr_plus op2_plus (xe_op opr_plus op2_plus (xe_op op_mul o_mul (xe_var 2) xe_int) (xe_op op_mul o_mul (xe_var 4) xe_int)) (xe_var 3)) xa_nil)) xe_int))
    (xs_one (xs_if (xt_cmp op_ge o_ge (xe_var 4) (xe_op op_pow o_pow xe_int xe_int)) (xs_one (xs_for PassesOwn.never rfl (xi_range1 rfl B.range (xa_cons xe_int xa_nil)) (xg_name (i := 5) nd rfl (Or.inl rfl)) (xs_cons (xs_if (xt_cmp (opr_eq hr.units) op2_eq (xe_var 4) xe_int) (xs_one xs_break) xs_nil)
    (xs_cons (xs_append (i := 1) (pv 1) (xe_op op_mod o_mod (xe_callTy call_int1 opn_int rfl B.int bb_int (xa_cons (xe_var 4) xa_nil)) xe_int))
    (xs_one (xs_set (i := 4) nd rfl (Or.inl rfl) (xe_op op_fdiv o_div (xe_var 4) xe_int))))))) (xs_cons (xs_set (i := 6) nd rfl (Or.inl rfl) (xe_op op_mod o_mod (xe_callTy call_int1 opn_int rfl B.int bb_int (xa_cons (xe_op opr_plus op2_plus (xe_op opr_plus op2_plus (xe_op op_mul o_mul (xe_var 4) xe_int) (xe_op op_mul o_mul (xe_var 3) xe_int)) xe_int) xa_nil)) xe_int))
    (xs_cons (xs_set (i := 7) nd rfl (Or.inl rfl) (xe_op op_mod o_mod (xe_callTy call_int1 opn_int rfl B.int bb_int (xa_cons (xe_op opr_plus op2_plus (xe_op opr_plus op2_plus (xe_op op_mul o_mul (xe_var 6) xe_int) (xe_op op_mul o_mul (xe_var 4) xe_int)) (xe_var 3)) xa_nil)) xe_int))
    (xs_one (xs_setO (i := 1) nd rfl (Or.inl rfl) (xl_op op_cat op2L_cat (xe_var 1) (xl_fz (xl_lst (xa_cons (xe_op op_mod o_mod (xe_callTy call_int1 opn_int rfl B.int bb_int (xa_cons (xe_op op_fdiv o_div (xe_var 6) xe_int) xa_nil)) xe_int) (xa_cons (xe_op op_mod o_mod (xe_callTy call_int1 opn_int rfl B.int bb_int (xa_cons (xe_var 7) xa_nil)) xe_int) xa_nil))))))))))))))
    (xs_cons (xs_for PassesOwn.never rfl (xi_range1 rfl B.range (xa_cons xe_int xa_nil)) (xg_name (i := 5) nd rfl (Or.inl rfl)) (xs_cons (xs_set (i := 2) nd rfl (Or.inl rfl) (xe_op op_mod o_mod (xe_callTy call_int1 opn_int rfl B.int bb_int (xa_cons (xe_op opr_plus op2_plus (xe_op op_mul o_mul (xe_var 2) xe_int) xe_int) xa_nil)) xe_int))
    (xs_one (xs_append (i := 1) (pv 1) (xe_op op_mod o_mod (xe_callTy call_int1 opn_int rfl B.int bb_int (xa_cons (xe_op op_fdiv o_div (xe_var 2) xe_int) xa_nil)) xe_int)))))
    (xs_one (xs_retO (i := 1) (pv 1)))))))
abbrev s__law_stream : Stmt := topS 29
theorem sc__law_stream : FnScope ["script"] ["script"] (defScope s__law_stream) := ⟨rfl, rfl, rfl, by decide +kernel, rfl, by decide +kernel, by decide +kernel⟩
def W__law_stream : DS := (wRetL (wBinL wCat (wFz (wLst (wCons (wC (.int 0)) wNil))) (wFz (wCallS 0 sp_pool))))
theorem dv__law_stream (c__law_pool : Ca P w K mg base 1 "_law_pool" ["script"] (spS K sp_pool)) {f : Addr} (cdv : Value) (A : Around) (outer : List Env) (s : Shared) (H : Hp) (E : XK) (hgd : (A.deeper (envOfC "_law_stream" (defScope s__law_stream) s.heap.objs.size f cdv)).guards = some []) (hr : Room 1 (A.deeper (envOfC "_law_stream" (defScope s__law_stream) s.heap.objs.size f cdv))) :
    XSs (cxOf CX0 P w K mg base ["script"] "_law_stream" (defScope s__law_stream) f cdv A outer s H E).nox (defBody s__law_stream) (W__law_stream) := by
  have nd := sc__law_stream.nd
  exact (xs_one (xs_retL (xl_op op_cat op2L_cat (xl_fz (xl_lst (xa_cons xe_int xa_nil))) (xl_fz (c_callS (i := 0) c__law_pool hgd hr (by omega) rfl (pv 0))))))
abbrev s__law_pick : Stmt := topS 30
theorem sc__law_pick : FnScope ["pool", "many"] ["pool", "many"] (defScope s__law_pick) := ⟨rfl, rfl, rfl, by decide +kernel, rfl, by decide +kernel, by decide +kernel⟩
def W__law_pick : DS := (wSeq (wPlSet 0 (wC (.int 0)) (wBin wAdd (wC (.int 1)) (wBin wMod (wCB (wN1 gInt) (wCons (wPlIx 0 (wC (.int 0))) wNil)) (wBin wSub (wPlLen 0) (wC (.int 1))))))
    (wRet (wBin wMod (wCB (wN1 gInt) (wCons (wPlIx 0 (wPlIx 0 (wC (.int 0)))) wNil)) (wVar 1))))
theorem dv__law_pick (B : Bi mg) {f : Addr} (cdv : Value) (A : Around) (outer : List Env) (s : Shared) (H : Hp) (E : XK) (hgd : (A.deeper (envOfC "_law_pick" (defScope s__law_pick) s.heap.objs.size f cdv)).guards = some []) (hr : Room 0 (A.deeper (envOfC "_law_pick" (defScope s__law_pick) s.heap.objs.size f cdv))) :
    XSs (cxOf CX0 P w K mg base ["pool", "many"] "_law_pick" (defScope s__law_pick) f cdv A outer s H E).nox (defBody s__law_pick) (W__law_pick) := by
  have nd := sc__law_pick.nd
  exact (xs_cons (xs_plSet (i := 0) (pv 0) xe_int (xe_op opr_plus op2_plus xe_int (xe_op op_mod o_mod (xe_callTy call_int1 opn_int rfl B.int bb_int (xa_cons (xe_plIx (i := 0) (pv 0) xe_int) xa_nil)) (xe_op op_sub o_sub (xe_plLen (i := 0) rfl B.len (pv 0)) xe_int))))
    (xs_one (xs_ret (xe_op op_mod o_mod (xe_callTy call_int1 opn_int rfl B.int bb_int (xa_cons (xe_plIx (i := 0) (pv 0) (xe_plIx (i := 0) (pv 0) xe_int)) xa_nil)) (xe_var 1)))))
abbrev s__law_letters : Stmt := topS 31
theorem sc__law_letters : FnScope ["pool", "most", "many", "signs", "at", "step", "k"] ["pool", "most"] (defScope s__law_letters) := ⟨rfl, rfl, rfl, by decide +kernel, rfl, by decide +kernel, by decide +kernel⟩
def W__law_letters : DS := (wSeq (wSet 2 (wBin wAdd (wC (.int 1)) (wCallP 0 sp_pick (wCons (wVar 1) wNil))))
    (wSeq (wSet 3 (wC (.str ("abcdefghijklmnopqrstuvwxyz" : Str))))
    (wSeq (wAsgT (wTup (wCons (wCallP 0 sp_pick (wCons (wC (.int 26)) wNil)) (wCons (wBin wIx (wFz (wLst (wCons (wC (.int 1)) (wCons (wC (.int 3)) (wCons (wC (.int 5)) (wCons (wC (.int 7)) (wCons (wC (.int 9)) (wCons (wC (.int 11)) wNil)))))))) (wCallP 0 sp_pick (wCons (wC (.int 6)) wNil))) wNil))) (gTp 2 (gCs (gNm 4) (gCs (gNm 5) gNl))))
    (wRet (wJoin (wC (.str ("" : Str))) (wFz (wLc [6] (wRng1 (wCons (wVar 2) wNil)) (gNm 6) wYes (wBin wIx (wVar 3) (wBin wMod (wCB (wN1 gInt) (wCons (wBin wAdd (wVar 4) (wBin wMul (wVar 5) (wVar 6))) wNil)) (wC (.int 26)))))))))))
theorem dv__law_letters (B : Bi mg) (c__law_pick : Ca P w K mg base 1 "_law_pick" ["pool", "many"] (spP K sp_pick)) {f : Addr} (cdv : Value) (A : Around) (outer : List Env) (s : Shared) (H : Hp) (E : XK) (hgd : (A.deeper (envOfC "_law_letters" (defScope s__law_letters) s.heap.objs.size f cdv)).guards = some []) (hr : Room 1 (A.deeper (envOfC "_law_letters" (defScope s__law_letters) s.heap.objs.size f cdv))) :
    XSs (cxOf CX0 P w K mg base ["pool", "most", "many", "signs", "at", "step", "k"] "_law_letters" (defScope s__law_letters) f cdv A outer s H E).nox (defBody s__law_letters) (W__law_letters) := by
  have nd := sc__law_letters.nd
  exact (xs_cons (xs_set (i := 2) nd rfl (Or.inl rfl) (xe_op opr_plus op2_plus xe_int (c_callP (i := 0) c__law_pick hgd hr (by omega) rfl (pv 0) (xa_cons (xe_var 1) xa_nil))))
    (xs_cons (xs_set (i := 3) nd rfl (Or.inr rfl) xe_str)
    (xs_cons (xs_asgT (xe_tup (xa_cons (c_callP (i := 0) c__law_pick hgd hr (by omega) rfl (pv 0) (xa_cons xe_int xa_nil)) (xa_cons (xe_ixR ix_seq op2_ix (xl_fz (xl_lst (xa_cons xe_int (xa_cons xe_int (xa_cons xe_int (xa_cons xe_int (xa_cons xe_int (xa_cons xe_int xa_nil)))))))) (c_callP (i := 0) c__law_pick hgd hr (by omega) rfl (pv 0) (xa_cons xe_int xa_nil))) xa_nil))) (xg_tup rfl (xgs_cons (xg_name (i := 4) nd rfl (by first | exact Or.inl rfl | exact Or.inr rfl)) (xgs_cons (xg_name (i := 5) nd rfl (by first | exact Or.inl rfl | exact Or.inr rfl)) xgs_nil))))
    (xs_one (xs_ret (xe_join xe_str (xl_fz (xl_lc (own := [(("k" : Str), 6)]) rfl nd (xi_range1 rfl B.range (xa_cons (xe_var 2) xa_nil)) (blkOk_by (N := ["pool", "most", "many", "signs", "at", "step", "k"]) (sc := (defScope s__law_letters)) (by decide +kernel)) (by decide) (fun _ _ _ _ _ => (xg_name (i := 6) nd rfl (Or.inl rfl))) (fun _ _ _ _ _ => xts_nil) (fun _ _ _ _ _ => (xe_ixR ix_seq op2_ix (xe_var 3) (xe_op op_mod o_mod (xe_callTy call_int1 opn_int rfl B.int bb_int (xa_cons (xe_op opr_plus op2_plus (xe_var 4) (xe_op op_mul o_mul (xe_var 5) (xe_var 6))) xa_nil)) xe_int)))))))))))
abbrev s__law_kinds : Stmt := topS 32
theorem sc__law_kinds : FnScope ["error", "found"] ["error"] (defScope s__law_kinds) := ⟨rfl, rfl, rfl, by decide +kernel, rfl, by decide +kernel, by decide +kernel⟩
def W__law_kinds : DS := (wSeq (wSet 1 (wFz (wLst (wCons (wIsX ERL (bE "BadLetters") (wVar 0)) (wCons (wIsX ERL (bE "BadRule") (wVar 0)) (wCons (wIsX ERL (bE "BadNumber") (wVar 0)) (wCons (wIsX ERL (bE "BadName") (wVar 0)) wNil)))))))
    (wSeq (wSet 1 (wBin wAdd (wVar 1) (wFz (wLst (wCons (wIsX ERL (bE "TooDeep") (wVar 0)) (wCons (wIsX ERL (bE "BadMachine") (wVar 0)) (wCons (wIsX ERL (bE "TooMany") (wVar 0)) (wCons (wIsX ERL (bE "TooGreat") (wVar 0)) wNil))))))))
    (wSeq (wSet 1 (wBin wAdd (wVar 1) (wFz (wLst (wCons (wIsX ERL (bE "NotLeast") (wVar 0)) (wCons (wIsX ERL (bE "NoWord") (wVar 0)) (wCons (wIsX ERL (bE "NothingToUndo") (wVar 0)) (wCons (wIsX ERL (bE "NothingToRedo") (wVar 0)) wNil))))))))
    (wSeq (wSet 1 (wBin wAdd (wVar 1) (wFz (wLst (wCons (wIsX ERL (bE "BadTurner") (wVar 0)) (wCons (wIsX ERL (bE "NotOne") (wVar 0)) (wCons (wIsX ERL (bE "BadAnswer") (wVar 0)) (wCons (wIsX ERL (bE "NoQuestion") (wVar 0)) wNil))))))))
    (wSeq (wSet 1 (wBin wAdd (wVar 1) (wFz (wLst (wCons (wIsX ERL (bE "BadSheet") (wVar 0)) (wCons (wIsX ERL (bE "BadWord") (wVar 0)) (wCons (wIsX ERL (bE "BadSize") (wVar 0)) (wCons (wIsX ERL (bE "UnknownName") (wVar 0)) wNil))))))))
    (wSeq (wSet 1 (wBin wAdd (wVar 1) (wFz (wLst (wCons (wIsX ERL (bE "InUse") (wVar 0)) (wCons (wIsX ERL (bE "Ring") (wVar 0)) (wCons (wIsX ERL (bE "BadEntry") (wVar 0)) (wCons (wIsX ERL (bE "Contradiction") (wVar 0)) wNil))))))))
    (wRet (wBin wAdd (wVar 1) (wFz (wLst (wCons (wIsX ERL (bE "BadText") (wVar 0)) wNil)))))))))))
theorem dv__law_kinds (B : Bi mg) (hEs : Ers K mg ERL bE FLE) {f : Addr} (cdv : Value) (A : Around) (outer : List Env) (s : Shared) (H : Hp) (E : XK) (hgd : (A.deeper (envOfC "_law_kinds" (defScope s__law_kinds) s.heap.objs.size f cdv)).guards = some []) (hr : Room 0 (A.deeper (envOfC "_law_kinds" (defScope s__law_kinds) s.heap.objs.size f cdv))) :
    XSs (cxOf CX0 P w K mg base ["error", "found"] "_law_kinds" (defScope s__law_kinds) f cdv A outer s H E).nox (defBody s__law_kinds) (W__law_kinds) := by
  have nd := sc__law_kinds.nd
  exact (xs_cons (xs_set (i := 1) nd rfl (Or.inl rfl) (xl_fz (xl_lst (xa_cons (xe_isY (T := "BadLetters") hEs (by decide +kernel) rfl B.isinstance rfl (xe_var 0)) (xa_cons (xe_isY (T := "BadRule") hEs (by decide +kernel) rfl B.isinstance rfl (xe_var 0)) (xa_cons (xe_isY (T := "BadNumber") hEs (by decide +kernel) rfl B.isinstance rfl (xe_var 0)) (xa_cons (xe_isY (T := "BadName") hEs (by decide +kernel) rfl B.isinstance rfl (xe_var 0)) xa_nil)))))))
    (xs_cons (xs_set (i := 1) nd rfl (Or.inl rfl) (xe_op opr_plus op2_plus (xe_var 1) (xl_fz (xl_lst (xa_cons (xe_isY (T := "TooDeep") hEs (by decide +kernel) rfl B.isinstance rfl (xe_var 0)) (xa_cons (xe_isY (T := "BadMachine") hEs (by decide +kernel) rfl B.isinstance rfl (xe_var 0)) (xa_cons (xe_isY (T := "TooMany") hEs (by decide +kernel) rfl B.isinstance rfl (xe_var 0)) (xa_cons (xe_isY (T := "TooGreat") hEs (by decide +kernel) rfl B.isinstance rfl (xe_var 0)) xa_nil))))))))
    (xs_cons (xs_set (i := 1) nd rfl (Or.inl rfl) (xe_op opr_plus op2_plus (xe_var 1) (xl_fz (xl_lst (xa_cons (xe_isY (T := "NotLeast") hEs (by decide +kernel) rfl B.isinstance rfl (xe_var 0)) (xa_cons (xe_isY (T := "NoWord") hEs (by decide +kernel) rfl B.isinstance rfl (xe_var 0)) (xa_cons (xe_isY (T := "NothingToUndo") hEs (by decide +kernel) rfl B.isinstance rfl (xe_var 0)) (xa_cons (xe_isY (T := "NothingToRedo") hEs (by decide +kernel) rfl B.isinstance rfl (xe_var 0)) xa_nil))))))))
    (xs_cons (xs_set (i := 1) nd rfl (Or.inl rfl) (xe_op opr_plus op2_plus (xe_var 1) (xl_fz (xl_lst (xa_cons (xe_isY (T := "BadTurner") hEs (by decide +kernel) rfl B.isinstance rfl (xe_var 0)) (xa_cons (xe_isY (T := "NotOne") hEs (by decide +kernel) rfl B.isinstance rfl (xe_var 0)) (xa_cons (xe_isY (T := "BadAnswer") hEs (by decide +kernel) rfl B.isinstance rfl (xe_var 0)) (xa_cons (xe_isY (T := "NoQuestion") hEs (by decide +kernel) rfl B.isinstance rfl (xe_var 0)) xa_nil))))))))
    (xs_cons (xs_set (i := 1) nd rfl (Or.inl rfl) (xe_op opr_plus op2_plus (xe_var 1) (xl_fz (xl_lst (xa_cons (xe_isY (T := "BadSheet") hEs (by decide +kernel) rfl B.isinstance rfl (xe_var 0)) (xa_cons (xe_isY (T := "BadWord") hEs (by decide +kernel) rfl B.isinstance rfl (xe_var 0)) (xa_cons (xe_isY (T := "BadSize") hEs (by decide +kernel) rfl B.isinstance rfl (xe_var 0)) (xa_cons (xe_isY (T := "UnknownName") hEs (by decide +kernel) rfl B.isinstance rfl (xe_var 0)) xa_nil))))))))
    (xs_cons (xs_set (i := 1) nd rfl (Or.inl rfl) (xe_op opr_plus op2_plus (xe_var 1) (xl_fz (xl_lst (xa_cons (xe_isY (T := "InUse") hEs (by decide +kernel) rfl B.isinstance rfl (xe_var 0)) (xa_cons (xe_isY (T := "Ring") hEs (by decide +kernel) rfl B.isinstance rfl (xe_var 0)) (xa_cons (xe_isY (T := "BadEntry") hEs (by decide +kernel) rfl B.isinstance rfl (xe_var 0)) (xa_cons (xe_isY (T := "Contradiction") hEs (by decide +kernel) rfl B.isinstance rfl (xe_var 0)) xa_nil))))))))
    (xs_one (xs_ret (xe_op opr_plus op2_plus (xe_var 1) (xl_fz (xl_lst (xa_cons (xe_isY (T := "BadText") hEs (by decide +kernel) rfl B.isinstance rfl (xe_var 0)) xa_nil))))))))))))
abbrev s_law : Stmt := topS 33
theorem sc_law : FnScope ["script", "pool", "letters", "one", "two", "name", "errors", "k", "base", "n"] ["script"] (defScope s_law) := ⟨rfl, rfl, rfl, by decide +kernel, rfl, by decide +kernel, by decide +kernel⟩
def W_law : DS := (wSeq (wSet 2 (wCallP 1 sp_letters2 (wCons (wC (.int 6)) wNil)))
    (wSeq (wPar3 3 4 5 (wCons (wCallP 1 sp_pick (wCons (wC (.int 60)) wNil)) (wCons (wBin wAdd (wC (.int 100)) (wCallP 1 sp_pick (wCons (wC (.int 60)) wNil))) (wCons (wBin wAdd (wVar 2) (wCB (wN1 gStr) (wCons (wCallP 1 sp_pick (wCons (wC (.int 60)) wNil)) wNil))) wNil))))
    (wSeq (wSet 6 (wFz (wLst (wCons (wMk0 "BadLetters") (wCons (wMk0 "BadRule") (wCons (wMk0 "BadNumber") (wCons (wMk0 "BadName") (wCons (wMk0 "TooDeep") (wCons (wMk0 "BadMachine") (wCons (wMk0 "TooMany") (wCons (wMk0 "TooGreat") (wCons (wMk0 "NotLeast") (wCons (wMk0 "NoWord") wNil)))))))))))))
    (wSeq (wSet 6 (wBin wAdd (wVar 6) (wFz (wLst (wCons (wMk0 "NothingToUndo") (wCons (wMk0 "NothingToRedo") (wCons (wMk0 "BadTurner") (wCons (wMk0 "NotOne") (wCons (wMk0 "BadAnswer") (wCons (wMk0 "NoQuestion") (wCons (wMk0 "BadSheet") wNil)))))))))))
    (wSeq (wSet 6 (wBin wAdd (wVar 6) (wFz (wLst (wCons (wMk1 "BadWord" "place" (wCons (wVar 3) wNil)) (wCons (wMk1 "BadSize" "size" (wCons (wVar 4) wNil)) (wCons (wMk1 "UnknownName" "name" (wCons (wVar 5) wNil)) (wCons (wMk1 "InUse" "name" (wCons (wVar 5) wNil)) (wCons (wMk1 "Ring" "name" (wCons (wVar 5) wNil)) (wCons (wMk1 "BadEntry" "place" (wCons (wVar 3) wNil)) (wCons (wMk1 "Contradiction" "word" (wCons (wVar 2) wNil)) (wCons (wMk2 "BadText" "line" "column" (wCons (wVar 3) (wCons (wVar 4) wNil))) wNil))))))))))))
    (wSeq (wFor (wRng1 (wCons (wCB (wN1 gLen) (wCons (wVar 6) wNil)) wNil)) (gNm 7) (wSeq (wIfS (wOr (wNot (wTru (wIsX ERL (bE "HallError") (wBin wIx (wVar 6) (wVar 7))))) (wNot (wTru (wIsX ERL (fun _ => true) (wBin wIx (wVar 6) (wVar 7)))))) (wRet (wC (.bool false))) wNext)
    (wIfS (wTst (wBin (wEq true) (wCall sp_kinds (wCons (wBin wIx (wVar 6) (wVar 7)) wNil)) (wFz (wLc [9] (wRng1 (wCons (wCB (wN1 gLen) (wCons (wVar 6) wNil)) wNil)) (gNm 9) wYes (wBin (wEq false) (wVar 9) (wVar 7)))))) (wRet (wC (.bool false))) wNext)))
    (wSeq (wIfS (wTst (wBin (wEq true) (wFz (wLst (wCons (wFldX ERL "place" (wBin wIx (wVar 6) (wC (.int 17)))) (wCons (wFldX ERL "size" (wBin wIx (wVar 6) (wC (.int 18)))) (wCons (wFldX ERL "place" (wBin wIx (wVar 6) (wC (.int 22)))) wNil))))) (wFz (wLst (wCons (wVar 3) (wCons (wVar 4) (wCons (wVar 3) wNil))))))) (wRet (wC (.bool false))) wNext)
    (wSeq (wIfS (wTst (wBin (wEq true) (wFz (wLst (wCons (wFldX ERL "name" (wBin wIx (wVar 6) (wC (.int 19)))) (wCons (wFldX ERL "name" (wBin wIx (wVar 6) (wC (.int 20)))) (wCons (wFldX ERL "name" (wBin wIx (wVar 6) (wC (.int 21)))) (wCons (wFldX ERL "word" (wBin wIx (wVar 6) (wC (.int 23)))) wNil)))))) (wFz (wLst (wCons (wVar 5) (wCons (wVar 5) (wCons (wVar 5) (wCons (wVar 2) wNil)))))))) (wRet (wC (.bool false))) wNext)
    (wSeq (wSet 8 (wMk0 "HallError"))
    (wRet (wAndV (wBin (wEq false) (wFz (wLst (wCons (wFldX ERL "line" (wBin wIx (wVar 6) (wC (.int 24)))) (wCons (wFldX ERL "column" (wBin wIx (wVar 6) (wC (.int 24)))) wNil)))) (wFz (wLst (wCons (wVar 3) (wCons (wVar 4) wNil))))) (wAndV (wNotV (wCB (wN1 gAny) (wCons (wCall sp_kinds (wCons (wVar 8) wNil)) wNil))) (wIsX ERL (fun _ => true) (wVar 8))))))))))))))
theorem dv_law (B : Bi mg) (c__law_kinds : Ca P w K mg base 1 "_law_kinds" ["error"] (spD K sp_kinds)) (c__law_pick : Ca P w K mg base 1 "_law_pick" ["pool", "many"] (spP K sp_pick)) (c__law_letters : Ca P w K mg base 2 "_law_letters" ["pool", "most"] (spP K sp_letters2)) (hEs : Ers K mg ERL bE FLE) (hZ : ∀ x, x ∈ ER0 → Er0 K mg x) (N_BadText : ErN P w K mg base 1 "BadText" 2 ["line", "column"] (fun xs => match xs with | [a, b] => [("column", b), ("line", a)] | _ => [])) (N_Contradiction : ErN P w K mg base 1 "Contradiction" 1 ["word"] (fun xs => [("word" : Str)].zip xs)) (N_BadEntry : ErN P w K mg base 1 "BadEntry" 1 ["place"] (fun xs => [("place" : Str)].zip xs)) (N_Ring : ErN P w K mg base 1 "Ring" 1 ["name"] (fun xs => [("name" : Str)].zip xs)) (N_InUse : ErN P w K mg base 1 "InUse" 1 ["name"] (fun xs => [("name" : Str)].zip xs)) (N_UnknownName : ErN P w K mg base 1 "UnknownName" 1 ["name"] (fun xs => [("name" : Str)].zip xs)) (N_BadSize : ErN P w K mg base 1 "BadSize" 1 ["size"] (fun xs => [("size" : Str)].zip xs)) (N_BadWord : ErN P w K mg base 1 "BadWord" 1 ["place"] (fun xs => [("place" : Str)].zip xs)) {f : Addr} (cdv : Value) (A : Around) (outer : List Env) (s : Shared) (H : Hp) (E : XK) (hgd : (A.deeper (envOfC "law" (defScope s_law) s.heap.objs.size f cdv)).guards = some []) (hr : Room 3 (A.deeper (envOfC "law" (defScope s_law) s.heap.objs.size f cdv))) :
    XSs (cxOf CX0 P w K mg base ["script", "pool", "letters", "one", "two", "name", "errors", "k", "base", "n"] "law" (defScope s_law) f cdv A outer s H E).nox ((defBody s_law).drop 1) (W_law) := by
  have nd := sc_law.nd
  exact (xs_cons (xs_set (i := 2) nd rfl (Or.inl rfl) (c_callP (i := 1) c__law_letters hgd hr (by omega) rfl (pv 1) (xa_cons xe_int xa_nil)))
    (xs_cons (xs_par3 (i := 3) (j := 4) (l := 5) rfl nd rfl rfl rfl (by decide) (by decide) (by decide) rfl rfl rfl (xa_cons (c_callP (i := 1) c__law_pick hgd hr (by omega) rfl (pv 1) (xa_cons xe_int xa_nil)) (xa_cons (xe_op opr_plus op2_plus xe_int (c_callP (i := 1) c__law_pick hgd hr (by omega) rfl (pv 1) (xa_cons xe_int xa_nil))) (xa_cons (xe_op opr_plus op2_plus (xe_var 2) (xe_callTy call_str_int opn_str rfl B.str bb_str (xa_cons (c_callP (i := 1) c__law_pick hgd hr (by omega) rfl (pv 1) (xa_cons xe_int xa_nil)) xa_nil))) xa_nil))) rfl)
    (xs_cons (xs_set (i := 6) nd rfl (Or.inl rfl) (xl_fz (xl_lst (xa_cons (xe_mk0 (hZ "BadLetters" (by decide +kernel)) rfl) (xa_cons (xe_mk0 (hZ "BadRule" (by decide +kernel)) rfl) (xa_cons (xe_mk0 (hZ "BadNumber" (by decide +kernel)) rfl) (xa_cons (xe_mk0 (hZ "BadName" (by decide +kernel)) rfl) (xa_cons (xe_mk0 (hZ "TooDeep" (by decide +kernel)) rfl) (xa_cons (xe_mk0 (hZ "BadMachine" (by decide +kernel)) rfl) (xa_cons (xe_mk0 (hZ "TooMany" (by decide +kernel)) rfl) (xa_cons (xe_mk0 (hZ "TooGreat" (by decide +kernel)) rfl) (xa_cons (xe_mk0 (hZ "NotLeast" (by decide +kernel)) rfl) (xa_cons (xe_mk0 (hZ "NoWord" (by decide +kernel)) rfl) xa_nil)))))))))))))
    (xs_cons (xs_set (i := 6) nd rfl (Or.inl rfl) (xe_op opr_plus op2_plus (xe_var 6) (xl_fz (xl_lst (xa_cons (xe_mk0 (hZ "NothingToUndo" (by decide +kernel)) rfl) (xa_cons (xe_mk0 (hZ "NothingToRedo" (by decide +kernel)) rfl) (xa_cons (xe_mk0 (hZ "BadTurner" (by decide +kernel)) rfl) (xa_cons (xe_mk0 (hZ "NotOne" (by decide +kernel)) rfl) (xa_cons (xe_mk0 (hZ "BadAnswer" (by decide +kernel)) rfl) (xa_cons (xe_mk0 (hZ "NoQuestion" (by decide +kernel)) rfl) (xa_cons (xe_mk0 (hZ "BadSheet" (by decide +kernel)) rfl) xa_nil)))))))))))
    (xs_cons (xs_set (i := 6) nd rfl (Or.inl rfl) (xe_op opr_plus op2_plus (xe_var 6) (xl_fz (xl_lst (xa_cons (xe_mk1 N_BadWord hr (by omega) rfl (xa_cons (xe_var 3) xa_nil)) (xa_cons (xe_mk1 N_BadSize hr (by omega) rfl (xa_cons (xe_var 4) xa_nil)) (xa_cons (xe_mk1 N_UnknownName hr (by omega) rfl (xa_cons (xe_var 5) xa_nil)) (xa_cons (xe_mk1 N_InUse hr (by omega) rfl (xa_cons (xe_var 5) xa_nil)) (xa_cons (xe_mk1 N_Ring hr (by omega) rfl (xa_cons (xe_var 5) xa_nil)) (xa_cons (xe_mk1 N_BadEntry hr (by omega) rfl (xa_cons (xe_var 3) xa_nil)) (xa_cons (xe_mk1 N_Contradiction hr (by omega) rfl (xa_cons (xe_var 2) xa_nil)) (xa_cons (xe_mk2 N_BadText hr (by omega) rfl (xa_cons (xe_var 3) (xa_cons (xe_var 4) xa_nil))) xa_nil))))))))))))
    (xs_cons (xs_for PassesOwn.never rfl (xi_range1 rfl B.range (xa_cons (xe_callB call_lenA opn_len rfl B.len bb_len (xa_cons (xe_var 6) xa_nil)) xa_nil)) (xg_name (i := 7) nd rfl (by first | exact Or.inl rfl | exact Or.inr rfl)) (xs_cons (xs_if (xw_t (xw_or (xt_not (xt_tru (xe_isY (T := "HallError") hEs (by decide +kernel) rfl B.isinstance rfl (xe_ixR ix_seq op2_ix (xe_var 6) (xe_var 7))))) (xw_or1 (xt_not (xt_tru (xe_isYV hEs rfl B.isinstance rfl (xe_ixR ix_seq op2_ix (xe_var 6) (xe_var 7)))))))) (xs_one (xs_ret xe_bl)) xs_nil)
    (xs_one (xs_if (xt_cmp (opr_ne hr.units) op2_ne (c_call c__law_kinds hgd hr (by omega) rfl (xa_cons (xe_ixR ix_seq op2_ix (xe_var 6) (xe_var 7)) xa_nil)) (xl_fz (xl_lc (own := [(("n" : Str), 9)]) rfl nd (xi_range1 rfl B.range (xa_cons (xe_callB call_lenA opn_len rfl B.len bb_len (xa_cons (xe_var 6) xa_nil)) xa_nil)) (blkOk_by (N := ["script", "pool", "letters", "one", "two", "name", "errors", "k", "base", "n"]) (sc := (defScope s_law)) (by decide +kernel)) (by decide) (fun _ _ _ _ _ => (xg_name (i := 9) nd rfl (Or.inl rfl))) (fun _ _ _ _ _ => xts_nil) (fun _ _ _ _ _ => (xe_cmp (opr_eq hr.units) op2_eq (xe_var 9) (xe_var 7)))))) (xs_one (xs_ret xe_bl)) xs_nil))))
    (xs_cons (xs_if (xt_cmp (opr_ne hr.units) op2_ne (xl_fz (xl_lst (xa_cons (xe_fldY hEs (f := "place") (by decide +kernel) (xe_ixR ix_seq op2_ix (xe_var 6) xe_int)) (xa_cons (xe_fldY hEs (f := "size") (by decide +kernel) (xe_ixR ix_seq op2_ix (xe_var 6) xe_int)) (xa_cons (xe_fldY hEs (f := "place") (by decide +kernel) (xe_ixR ix_seq op2_ix (xe_var 6) xe_int)) xa_nil))))) (xl_fz (xl_lst (xa_cons (xe_var 3) (xa_cons (xe_var 4) (xa_cons (xe_var 3) xa_nil)))))) (xs_one (xs_ret xe_bl)) xs_nil)
    (xs_cons (xs_if (xt_cmp (opr_ne hr.units) op2_ne (xl_fz (xl_lst (xa_cons (xe_fldY hEs (f := "name") (by decide +kernel) (xe_ixR ix_seq op2_ix (xe_var 6) xe_int)) (xa_cons (xe_fldY hEs (f := "name") (by decide +kernel) (xe_ixR ix_seq op2_ix (xe_var 6) xe_int)) (xa_cons (xe_fldY hEs (f := "name") (by decide +kernel) (xe_ixR ix_seq op2_ix (xe_var 6) xe_int)) (xa_cons (xe_fldY hEs (f := "word") (by decide +kernel) (xe_ixR ix_seq op2_ix (xe_var 6) xe_int)) xa_nil)))))) (xl_fz (xl_lst (xa_cons (xe_var 5) (xa_cons (xe_var 5) (xa_cons (xe_var 5) (xa_cons (xe_var 2) xa_nil))))))) (xs_one (xs_ret xe_bl)) xs_nil)
    (xs_cons (xs_set (i := 8) nd rfl (Or.inl rfl) (xe_mk0 (hZ "HallError" (by decide +kernel)) rfl))
    (xs_one (xs_ret (xe_and (xe_cmp (opr_eq hr.units) op2_eq (xl_fz (xl_lst (xa_cons (xe_fldY hEs (f := "line") (by decide +kernel) (xe_ixR ix_seq op2_ix (xe_var 6) xe_int)) (xa_cons (xe_fldY hEs (f := "column") (by decide +kernel) (xe_ixR ix_seq op2_ix (xe_var 6) xe_int)) xa_nil)))) (xl_fz (xl_lst (xa_cons (xe_var 3) (xa_cons (xe_var 4) xa_nil))))) (xe_and (xe_not (xe_callB (cr_any rfl) opn_any rfl B.any bb_any (xa_cons (c_call c__law_kinds hgd hr (by omega) rfl (xa_cons (xe_var 8) xa_nil)) xa_nil))) (xe_one (xe_isYV hEs rfl B.isinstance rfl (xe_var 8))))))))))))))))
end
end L00
namespace L00
open PySem PySem.Spec PyProof.Rows L2 DL
theorem w_pick (ds : List PyData) (q : List Int) (Φ : PyData → List Int → Prop) (h : sp_pick ds q Φ) : W__law_pick (endP Φ) ⟨startE ["pool", "many"] (.pl :: ds.map .d), q⟩ := by
  obtain ⟨m, rfl, hm, hq, k⟩ := h
  obtain ⟨a, t, rfl, ha, h1, h2, h3⟩ := hq.head
  have e1 : (0 : Int) ≤ a % (t.length : Int) := Int.emod_nonneg _ (by omega)
  have e2 : a % (t.length : Int) < t.length := Int.emod_lt_of_pos _ (by omega)
  simp only [W__law_pick, wSeq, wPlSet, wC, wBin, wAdd, wMod, wII, wCB, wN1, gInt, wCons, wNil, wPlIx, poolAt, wSub, wI2, wPlLen, wRet, wVar, endP, startE, S.put, optP, atI_cons0, List.length_cons, List.cons_append, List.getElem?_cons_zero, List.map_cons, List.map_nil]
  simp only [ixN_zero, List.set_cons_zero, atI_cons0]
  have e3 : ((t.length + 1 : Nat) : Int) - 1 = t.length := by omega
  rw [e3]
  refine ⟨by omega, ?_⟩
  rw [atI_lt (xs := (1 + a % (t.length : Int)) :: t) (k := 1 + a % (t.length : Int)) (by omega) (by simp; omega)]
  have e4 : (1 + a % (t.length : Int)).toNat = (a % (t.length : Int)).toNat + 1 := by omega
  have hm' := h3 _ (List.getElem_mem (l := t) (n := (a % (t.length : Int)).toNat) (by omega))
  simp only [e4, List.getElem_cons_succ]
  refine ⟨hm, k _ _ (PoolOk.mk' (by omega) h1 h2 h3) (Int.emod_nonneg _ (by omega)) (Int.emod_lt_of_pos _ hm) ?_⟩
  exact Int.lt_of_le_of_lt (emod_le' hm'.1 hm) hm'.2
theorem w_stream (ns : List Int) (Φ : List PyData → Prop) (h : spStream ns Φ) : W__law_stream (endL Φ) ⟨startE ["script"] [.sc ns], []⟩ := by
  obtain ⟨h1, k⟩ := h
  simp [W__law_stream]
  refine ⟨sz_le (by omega), h1, fun q a b c => ⟨sz_le (by rw [List.length_map]; omega), ?_⟩⟩
  exact k (0 :: q) (PoolOk.mk' (by omega) a (by omega) c)
theorem w_pool (ns : List Int) (Φ : List PyData → Prop) (h : sp_pool ns Φ) : W__law_pool (endL Φ) ⟨startE ["script", "pool", "state", "k", "cell", "step", "one", "two"] [.sc ns], []⟩ := by
  obtain ⟨h1, k⟩ := h
  simp [W__law_pool]
  have hn : (if 63 < (ns.length : Int) then (63 : Int) else (ns.length : Int)) = (ns.length : Int) := by
    rw [if_neg (by omega)]
  rw [hn, Int.toNat_natCast]
  refine ⟨⟨by omega, by omega⟩, ?_⟩
  refine loop_rng (fun i s => ∃ (q : List Int) (st : Int) (a3 a4 a5 a6 a7 : Sl), s = ⟨[.sc ns, .o (q.map .int), .d (.int st), a3, a4, a5, a6, a7], []⟩ ∧ q.length ≤ 60 * i ∧ ∀ n ∈ q, 0 ≤ n ∧ n < 60) ⟨[], 17, _, _, _, _, _, rfl, by simp, by simp⟩ ?_ ?_
  · rintro i s hi ⟨q, st, a3, a4, a5, a6, a7, rfl, hq, ho⟩ Ψ k1 k2 k3 k4 k5
    clear k2 k3 k4 k5
    simp
    generalize ns[i]?.getD 0 = c
    have m59 : ∀ z : Int, 0 ≤ z % 60 ∧ z % 60 < 60 := fun z => ⟨Int.emod_nonneg _ (by decide), Int.emod_lt_of_pos _ (by decide)⟩
    refine ⟨hi, .inr ⟨by decide, by decide⟩, .inr ⟨by decide, by decide⟩, ⟨by decide, by decide, by decide⟩, ?_⟩
    split
    · refine ⟨⟨by decide, by decide⟩, ?_⟩
      generalize (st * 69621 + c * 48271 + (i : Int)) % 2147483647 = st'
      refine loop_rng (fun j s => ∃ (q' : List Int) (c : Int) (a5 : Sl), s = ⟨[.sc ns, .o (q'.map .int), .d (.int st'), .d (.int i), .d (.int c), a5, a6, a7], []⟩ ∧ q'.length ≤ q.length + j ∧ ∀ n ∈ q', 0 ≤ n ∧ n < 60) ⟨q, c, _, rfl, by omega, ho⟩ ?_ ?_
      · rintro j s hj ⟨q', c, a5, rfl, hq', ho'⟩ Ψ' k1' k2 k3 k4 k5
        clear k2 k3 k5
        simp
        refine ite2 (fun _ => ?_) (fun _ => ⟨sz_lt (by omega), ⟨by decide, by decide⟩, k1' _ ⟨q' ++ [c % 60], c / 60, .d (.int (j : Int)), by simp, by simp; omega, fun n hn => ?_⟩⟩)
        · rw [k4]
          exact k1 _ ⟨q', st', _, _, _, _, _, rfl, by omega, ho'⟩
        · rcases List.mem_append.mp hn with h | h
          · exact ho' n h
          · rw [List.mem_singleton.mp h]
            exact m59 c
      · rintro s ⟨q', c, a5, rfl, hq', ho'⟩
        exact k1 _ ⟨q', st', _, _, _, _, _, rfl, by omega, ho'⟩
    · refine ⟨.inr ⟨by decide, by decide⟩, .inr ⟨by decide, by decide⟩, .inr ⟨by decide, by decide⟩, .inr ⟨by decide, by decide⟩, ⟨by decide, by decide⟩, sz_le (by omega), sz_le (by omega), ?_⟩
      refine k1 _ ⟨q ++ [(c * 48271 + (i : Int) * 69621 + 7) % 2147483647 / 11 % 60, ((c * 48271 + (i : Int) * 69621 + 7) % 2147483647 * 16807 + c * 31 + (i : Int)) % 1000003 % 60], _, _, _, _, _, _, by simp; exact ⟨rfl, rfl, rfl, rfl, rfl, rfl⟩, by simp; omega, fun n hn => ?_⟩
      rcases List.mem_append.mp hn with h | h
      · exact ho n h
      · rcases List.mem_cons.mp h with h | h
        · rw [h]
          exact m59 _
        · rw [List.mem_singleton.mp h]
          exact m59 _
  · rintro s ⟨q, st, a3, a4, a5, a6, a7, rfl, hq, ho⟩
    simp
    have m59 : ∀ z : Int, 0 ≤ z % 60 ∧ z % 60 < 60 := fun z => ⟨Int.emod_nonneg _ (by decide), Int.emod_lt_of_pos _ (by decide)⟩
    refine ⟨⟨by decide, by decide⟩, ?_⟩
    refine loop_rng (fun j s => ∃ (q' : List Int) (st : Int) (a5 : Sl), s = ⟨[.sc ns, .o (q'.map .int), .d (.int st), a3, a4, a5, a6, a7], []⟩ ∧ q'.length = q.length + j ∧ ∀ n ∈ q', 0 ≤ n ∧ n < 60) ⟨q, st, _, rfl, by omega, ho⟩ ?_ ?_
    · rintro j s hj ⟨q', st, a5, rfl, hq', ho'⟩ Ψ' k1' k2 k3 k4 k5
      clear k2 k3 k4 k5
      simp
      refine ⟨.inr ⟨by decide, by decide⟩, ⟨by decide, by decide⟩, sz_lt (by omega), k1' _ ⟨q' ++ [(st * 48271 + 11) % 2147483647 / 97 % 60], _, _, by simp; exact ⟨rfl, rfl⟩, by simp; omega, fun n hn => ?_⟩⟩
      rcases List.mem_append.mp hn with h | h
      · exact ho' n h
      · rw [List.mem_singleton.mp h]
        exact m59 _
    · rintro s ⟨q', st, a5, rfl, hq', ho'⟩
      simp
      exact k q' (by omega) (by omega) ho'
end L00
namespace L00
open PySem PySem.Spec PyProof.Rows L2 DL
theorem letters_nodup {i a n : Nat} (hi : i < 6) (hn : n ≤ 6) : ((List.range n).map fun j => 97 + (a + (2 * i + 1) * j) % 26).Nodup := by
  refine nodup_map List.nodup_range ?_
  intro x hx y hy e
  have hx := List.mem_range.mp hx
  have hy := List.mem_range.mp hy
  have hc : i = 0 ∨ i = 1 ∨ i = 2 ∨ i = 3 ∨ i = 4 ∨ i = 5 := by omega
  rcases hc with rfl | rfl | rfl | rfl | rfl | rfl <;> omega
theorem w_letters (ds : List PyData) (q : List Int) (Φ : PyData → List Int → Prop) (h : sp_letters2 ds q Φ) : W__law_letters (endP Φ) ⟨startE ["pool", "most", "many", "signs", "at", "step", "k"] (.pl :: ds.map .d), q⟩ := by
  obtain ⟨m, rfl, h1, h2, hq, k⟩ := h
  simp [W__law_letters]
  refine pick_go (by omega) hq fun n q1 hq1 hn1 hn2 => ?_
  simp
  refine pick_go (by omega) hq1 fun a q2 hq2 ha1 ha2 => ?_
  refine ⟨sz_le (by omega), pick_go (by omega) hq2 fun i q3 hq3 hi1 hi2 => ?_⟩
  rw [show ((1 : Int) + (n : Int)) = ((n + 1 : Nat) : Int) by omega]
  simp only [odd_at (show i < 6 by omega)]
  refine ⟨sz_le (by omega), ⟨by omega, by omega⟩, ?_⟩
  rw [Int.toNat_natCast]
  refine lc_rng (fun j => .str (sg (97 + (a + (2 * i + 1) * j) % 26))) (by omega) (fun j hj Θ kΘ => ?_) ?_
  · have e : ((a : Int) + ((2 * i + 1 : Nat) : Int) * ((0 : Int) + (j : Int))) % 26 = (((a + (2 * i + 1) * j) % 26 : Nat) : Int) := by
      rw [Int.zero_add, ← Int.natCast_mul, ← Int.natCast_add]
      rfl
    simp only [gNm, S.put, wipeE, wBin, wIx, wVar, wII, wC, wAdd, wCB, wN1, gInt, wCons, wNil, optP, List.getElem?_cons_zero, List.getElem?_cons_succ, List.set_cons_zero, List.set_cons_succ, e, abc_at (Nat.mod_lt (a + (2 * i + 1) * j) (show 0 < 26 by omega))]
    exact ⟨trivial, .inr ⟨by omega, by omega⟩, by decide, sz_le (by decide +kernel), kΘ _ _ rfl rfl⟩
  · let cs := (List.range (n + 1)).map fun j => 97 + (a + (2 * i + 1) * j) % 26
    have ej := join_signs cs
    have hl : cs.length = n + 1 := by rw [List.length_map, List.length_range]
    refine ⟨cs.map sg, by simp [cs], ?_, k _ _ hq3 ⟨?_, ?_, ?_⟩ ?_⟩
    · rw [empty_len, Nat.mul_zero, Nat.add_zero, List.map_map]
      refine Nat.le_trans (sum_le (m := 1) fun a h => ?_) (by rw [List.length_map]; omega)
      obtain ⟨b, _, rfl⟩ := List.mem_map.mp h
      exact Nat.le_refl _
    · show 1 ≤ (Txt.join (Str.ofString "") (cs.map sg)).cps.size
      rw [← Array.length_toList, ej, hl]
      omega
    · show ((Txt.join (Str.ofString "") (cs.map sg)).cps.size : Int) ≤ m
      rw [← Array.length_toList, ej, hl]
      omega
    · rw [ej]
      intro c hc
      obtain ⟨j, _, rfl⟩ := List.mem_map.mp hc
      have := Nat.mod_lt (a + (2 * i + 1) * j) (show 0 < 26 by omega)
      omega
    · rw [ej]
      exact letters_nodup (by omega) (by omega)
end L00
namespace L00
open PySem PySem.Spec PyProof.Rows L2 DL
theorem w_kinds (ds : List PyData) (Φ : PyData → Prop) (h : sp_kinds ds Φ) : W__law_kinds (endD Φ) ⟨startE ["error", "found"] (ds.map .d), []⟩ := by
  obtain ⟨c, xs, rfl, hc, h⟩ := h
  show W__law_kinds (endD Φ) ⟨[.d (erD c xs), .un], []⟩
  have s4 : 4 ≤ sizeLine := sz_le (by omega)
  have s1 : 1 ≤ sizeLine := sz_le (by omega)
  have s8 : 8 ≤ sizeLine := sz_le (by omega)
  have s12 : 12 ≤ sizeLine := sz_le (by omega)
  have s16 : 16 ≤ sizeLine := sz_le (by omega)
  have s20 : 20 ≤ sizeLine := sz_le (by omega)
  have s24 : 24 ≤ sizeLine := sz_le (by omega)
  have s25 : 25 ≤ sizeLine := sz_le (by omega)
  simp [W__law_kinds, hc, s1, s4, s8, s12, s16, s20, s24, s25]
  exact h
end L00
namespace L00
open PySem PySem.Spec PyProof.Rows L2 DL
theorem seq_go {a b : DS} {Φ : EN} {s : S} (h : ∀ Ψ : EN, Ψ.rt = Φ.rt → (∀ s', b Φ s' → Ψ.nx s') → a Ψ s) : wSeq a b Φ s := h _ rfl fun _ h => h
theorem small_fmt : ∀ i : Nat, i < 160 → (toString (i : Int) : Str).length ≤ 1000 ∧ (i : Int).natAbs.log2 < 1920 := by decide +kernel
theorem small_str : ∀ i : Nat, i < 160 → (toString (i : Int) : Str).length ≤ 4 := by decide +kernel
/-- the fields of the errors, in order -/
def fsL (z name : Str) (one two : Int) : List (List PyData) := List.replicate 17 [] ++ [[.tuple [.str "place", .int one]], [.tuple [.str "size", .int two]], [.tuple [.str "name", .str name]], [.tuple [.str "name", .str name]], [.tuple [.str "name", .str name]],
  [.tuple [.str "place", .int one]], [.tuple [.str "word", .str z]], [.tuple [.str "column", .int two], .tuple [.str "line", .int one]]]
def erL (z name : Str) (one two : Int) : List PyData := List.zipWith erD EN25 (fsL z name one two)
theorem erL_len (z name : Str) (one two : Int) : (erL z name one two).length = 25 := rfl
/-- the classes by their places -/
theorem en_at : ∀ k : Nat, k < 25 → ∃ c, EN25[k]? = some c ∧ c ∈ ERL ∧ (EN25.map fun x => bE x c) = (List.range 25).map fun n => decide (n = k) := by
  have h : ∀ k : Nat, k < 25 → (match EN25[k]? with | some c => decide (c ∈ ERL) && ((EN25.map fun x => bE x c) == (List.range 25).map fun n => decide (n = k)) | none => false) = true := by decide +kernel
  intro k hk
  have := h k hk
  cases e : EN25[k]? with
  | none => rw [e] at this; cases this
  | some c =>
    rw [e] at this
    simp only [Bool.and_eq_true, decide_eq_true_eq, beq_iff_eq] at this
    exact ⟨c, rfl, this⟩
theorem er_at {z name : Str} {one two : Int} {k : Nat} (hk : k < 25) : ∃ c xs, atI (erL z name one two) (k : Int) = some (erD c xs) ∧ c ∈ ERL ∧ (EN25.map fun x => PyData.bool (bE x c)) = (List.range 25).map fun n => PyData.bool (decide (n = k)) := by
  obtain ⟨c, e, h1, h2⟩ := en_at k hk
  have hl : k < (fsL z name one two).length := hk
  refine ⟨c, (fsL z name one two)[k], ?_, h1, ?_⟩
  · rw [DL.atI_nat (by rw [erL_len]; exact hk)]
    unfold erL
    rw [List.getElem?_zipWith, e, List.getElem?_eq_getElem hl]
  · have := congrArg (List.map PyData.bool) h2
    rw [List.map_map, List.map_map] at this
    exact this
theorem lay_bools : ∀ l : List Bool, PyData.canLayAll0 (l.map PyData.bool) = true
  | [] => rfl
  | b :: l => by
    rw [List.map_cons]
    show (PyData.canLay0 (.bool b) && PyData.canLayAll0 _) = true
    rw [lay_bools l]
    rfl
theorem depth_bools : ∀ l : List Bool, PyData.depthAll (l.map PyData.bool) ≤ 1
  | [] => by simp [PyData.depthAll]
  | b :: l => by
    have := depth_bools l
    rw [List.map_cons]
    simp only [PyData.depthAll, PyData.depth]
    omega
theorem shaped_bools (l : List Bool) : SeqAt.shaped (.list (l.map PyData.bool)) = true := by
  unfold SeqAt.shaped
  have h1 : PyData.canLay0 (.list (l.map PyData.bool)) = true := lay_bools l
  rw [h1, Bool.true_and, decide_eq_true_eq]
  have h2 := depth_bools l
  have h3 : (PyData.list (l.map PyData.bool)).depth ≤ 1 + PyData.depthAll (l.map PyData.bool) := by
    simp only [PyData.depth]
    omega
  omega
theorem strOk_iff {x : Str} : PyData.strOk x = true ↔ ∀ c, c ∈ x.cps.toList → c < 1114112 := by
  unfold PyData.strOk
  rw [← Array.all_toList, List.all_eq_true]
  exact ⟨fun h c hc => of_decide_eq_true (h c hc), fun h c hc => decide_eq_true (h c hc)⟩
theorem small_ok : ∀ i : Nat, i < 160 → PyData.strOk (Str.ofString (i : Int).repr) = true := by decide +kernel
theorem w_law (ns : List Int) (q : List Int) (hq : PoolOk q) : W_law endTrue ⟨(startE ["script", "pool", "letters", "one", "two", "name", "errors", "k", "base", "n"] [.sc ns]).set 1 .pl, q⟩ := by
  show W_law endTrue ⟨[.sc ns, .pl, .un, .un, .un, .un, .un, .un, .un, .un], q⟩
  generalize Sl.sc ns = a0
  unfold W_law
  refine seq_go fun Ψ _ k => ?_
  simp
  refine ⟨6, rfl, by omega, by omega, hq, fun z q1 hq1 hz nd => k _ ?_⟩
  clear k
  have hz2 : z.length ≤ 6 := by have := hz.hi; omega
  refine seq_go fun Ψ _ k => ?_
  simp
  refine pick_go (by omega) hq1 fun i q2 hq2 hi1 hi2 => pick_go (by omega) hq2 fun j q3 hq3 hj1 hj2 => pick_go (by omega) hq3 fun l q4 hq4 hl1 hl2 => ?_
  have sl : (Str.ofString (l : Int).repr).length ≤ 4 := small_str l (by omega)
  refine ⟨(small_fmt l (by omega)).2, sz_le (by omega), ?_⟩
  have hname : (z ++ Str.ofString (l : Int).repr).length ≤ 1000 := by rw [Str.length_append]; omega
  have hzo : PyData.strOk z = true := strOk_iff.mpr fun c hc => by have := hz.az c hc; omega
  have hno : PyData.strOk (z ++ Str.ofString (l : Int).repr) = true := strOk_iff.mpr fun c hc => by
    have hc' : c ∈ z.cps.toList ++ (Str.ofString (l : Int).repr).cps.toList := by
      rw [← Array.toList_append]
      exact hc
    rcases List.mem_append.mp hc' with h | h
    · exact strOk_iff.mp hzo c h
    · exact strOk_iff.mp (small_ok l (by omega)) c h
  generalize z ++ Str.ofString (l : Int).repr = name at hname hno ⊢
  refine k _ ?_
  clear k sl hz nd hq hq1 hq2 hq3
  have f1 := small_fmt i (by omega)
  have f2 : (toString (100 + (j : Int)) : Str).length ≤ 1000 ∧ (100 + (j : Int)).natAbs.log2 < 1920 := by
    have := small_fmt (100 + j) (by omega)
    rw [Int.natCast_add] at this
    exact this
  have hzl : z.length ≤ 1000 := by omega
  generalize (i : Int) = one at f1 ⊢
  generalize 100 + (j : Int) = two at f2 ⊢
  have s25 : 25 ≤ sizeLine := sz_le (by omega)
  have s17 : 17 ≤ sizeLine := sz_le (by omega)
  have s10 : 10 ≤ sizeLine := sz_le (by omega)
  have s8 : 8 ≤ sizeLine := sz_le (by omega)
  have s7 : 7 ≤ sizeLine := sz_le (by omega)
  refine seq_go fun Ψ _ k => ?_
  simp [s10]
  refine k _ ?_
  clear k
  refine seq_go fun Ψ _ k => ?_
  simp [s7, s17]
  refine k _ ?_
  clear k
  refine seq_go fun Ψ _ k => ?_
  simp [s8, s25, fmtD]
  have f3 := And.intro f1.2 f1.1
  have f4 := And.intro f2.2 f2.1
  refine ⟨f3, f4, hname, f3, hzl, ⟨f3, f4⟩, ?_⟩
  clear f1 f2 f3 f4 hname hzl hz2
  refine k ⟨[a0, .pl, .d (.str z), .d (.int one), .d (.int two), .d (.str name), .d (.list (erL z name one two)), .un, .un, .un], q4⟩ ?_
  clear k
  have h17 : atI (erL z name one two) 17 = some (erD "BadWord" [.tuple [.str "place", .int one]]) := rfl
  have h18 : atI (erL z name one two) 18 = some (erD "BadSize" [.tuple [.str "size", .int two]]) := rfl
  have h19 : atI (erL z name one two) 19 = some (erD "UnknownName" [.tuple [.str "name", .str name]]) := rfl
  have h20 : atI (erL z name one two) 20 = some (erD "InUse" [.tuple [.str "name", .str name]]) := rfl
  have h21 : atI (erL z name one two) 21 = some (erD "Ring" [.tuple [.str "name", .str name]]) := rfl
  have h22 : atI (erL z name one two) 22 = some (erD "BadEntry" [.tuple [.str "place", .int one]]) := rfl
  have h23 : atI (erL z name one two) 23 = some (erD "Contradiction" [.tuple [.str "word", .str z]]) := rfl
  have h24 : atI (erL z name one two) 24 = some (erD "BadText" [.tuple [.str "column", .int two], .tuple [.str "line", .int one]]) := rfl
  have hat : ∀ k : Nat, k < 25 → _ := fun k hk => er_at (z := z) (name := name) (one := one) (two := two) hk
  have hlen := erL_len z name one two
  generalize erL z name one two = E at *
  refine seq_go fun Ψ _ k => ?_
  simp [hlen]
  refine ⟨⟨by decide, by decide⟩, ?_⟩
  refine loop_rng (fun i s => ∃ a7 : Sl, (a7 = .un ∨ ∃ x, a7 = .d x) ∧ s = ⟨[a0, .pl, .d (.str z), .d (.int one), .d (.int two), .d (.str name), .d (.list E), a7, .un, .un], q4⟩) ⟨_, .inl rfl, rfl⟩ ?_ ?_
  · rintro i s hi ⟨a7, h7, rfl⟩ Θ k1 k2 k3 k4 k5
    clear k2 k3 k4 k5
    obtain ⟨c, xs, e, hc, hm⟩ := hat i (by omega)
    have hb : bE "HallError" c = true := by simp [bE]
    simp [e, hc, hb, hlen]
    refine ⟨c, xs, rfl, hc, ⟨by decide, by decide⟩, ?_⟩
    rw [hm]
    refine lc_rng (fun n => .bool (decide (n = i))) (by omega) (fun n hn Y kY => ?_) ?_
    · simp
      have ed : decide ((n : Int) = (i : Int)) = decide (n = i) := by
        by_cases h : n = i
        · rw [h, decide_eq_true rfl, decide_eq_true rfl]
        · rw [decide_eq_false h, decide_eq_false (by omega)]
      rw [ed]
      exact kY _ _ rfl rfl
    · have hs : SeqAt.shaped (.list ((List.range 25).map fun n => PyData.bool (decide (n = i)))) = true := by
        have := shaped_bools ((List.range 25).map fun n => decide (n = i))
        rw [List.map_map] at this
        exact this
      refine ⟨⟨hs, hs⟩, ?_⟩
      rw [if_pos (SeqAt.eqv_refl _ (SeqAt.canLay_of_shaped hs))]
      exact k1 _ ⟨_, .inr ⟨_, rfl⟩, rfl⟩
  · rintro s ⟨a7, h7, rfl⟩
    refine k _ ?_
    clear k
    refine seq_go fun Ψ _ k => ?_
    simp [h17, h18, h22, fldAt]
    have e0 : SeqAt.shaped (.list [.int one, .int two, .int one]) = true := by simp [SeqAt.shaped, PyData.canLay0, PyData.canLayAll0, PyData.depth, PyData.depthAll]
    refine ⟨by decide +kernel, by decide +kernel, by decide +kernel, sz_le (by omega), ⟨e0, e0⟩, ?_⟩
    rw [if_pos (SeqAt.eqv_refl _ (SeqAt.canLay_of_shaped e0))]
    refine k _ ?_
    clear k
    refine seq_go fun Ψ _ k => ?_
    simp [h19, h20, h21, h23, fldAt]
    have e1 : SeqAt.shaped (.list [.str name, .str name, .str name, .str z]) = true := by
      simp [SeqAt.shaped, PyData.canLay0, PyData.canLayAll0, PyData.depth, PyData.depthAll]
      exact ⟨hno, hzo⟩
    refine ⟨by decide +kernel, by decide +kernel, by decide +kernel, by decide +kernel, sz_le (by omega), ⟨e1, e1⟩, ?_⟩
    rw [if_pos (SeqAt.eqv_refl _ (SeqAt.canLay_of_shaped e1))]
    refine k _ ?_
    clear k
    refine seq_go fun Ψ _ k => ?_
    simp
    refine k _ ?_
    clear k
    simp [h24, fldAt]
    rw [if_neg (by decide +kernel : ¬ Str.ofString "line" = Str.ofString "column")]
    have e2 : SeqAt.shaped (.list [.int one, .int two]) = true := by simp [SeqAt.shaped, PyData.canLay0, PyData.canLayAll0, PyData.depth, PyData.depthAll]
    refine ⟨by decide +kernel, by decide +kernel, sz_le (by omega), ⟨e2, e2⟩, SeqAt.eqv_refl _ (SeqAt.canLay_of_shaped e2), "HallError", [], rfl, by decide +kernel, EN25.map fun x => bE x "HallError", ?_, ?_⟩
    · rw [List.map_map]
      rfl
    · have e3 : (EN25.map fun x => bE x "HallError").any id = false := by decide +kernel
      exact ⟨e3, by decide +kernel⟩
end L00
namespace L00
open PySem PySem.Spec PyProof.Rows L2 DL
section
variable {P : Program} {w : World} {K : PySem.W.Frag} {mg : Str → Option Value} {base h : Heap}

theorem ca__law_pool (X : K.In h) (G : h.Ns mainGlobals mg) (D : DefK K "_law_pool" s__law_pool) (B : Bi mg) : Ca P w K mg base 1 "_law_pool" ["script"] (spS K sp_pool) :=
  caS (k := 0) D X G sc__law_pool (fun _ _ _ _ _ _ us hl => match us, hl with | [_], _ => rfl) rfl
    fun f cdv A outer s H E g r => ⟨_, dv__law_pool B cdv A outer s H E g r, w_pool⟩
theorem ca__law_stream (X : K.In h) (G : h.Ns mainGlobals mg) (D : DefK K "_law_stream" s__law_stream) (c__law_pool : Ca P w K mg base 1 "_law_pool" ["script"] (spS K sp_pool)) : Ca P w K mg base 2 "_law_stream" ["script"] (spS K spStream) :=
  caS (k := 1) D X G sc__law_stream (fun _ _ _ _ _ _ us hl => match us, hl with | [_], _ => rfl) rfl
    fun f cdv A outer s H E g r => ⟨_, dv__law_stream c__law_pool cdv A outer s H E g r, w_stream⟩
theorem ca__law_pick (X : K.In h) (G : h.Ns mainGlobals mg) (D : DefK K "_law_pick" s__law_pick) (B : Bi mg) : Ca P w K mg base 1 "_law_pick" ["pool", "many"] (spP K sp_pick) :=
  caP (k := 0) D X G sc__law_pick (fun _ _ _ _ _ _ us hl => match us, hl with | [_, _], _ => rfl) (fun ds p Φ q => by first | (obtain ⟨rfl, _⟩ := q; rfl) | (obtain ⟨_, rfl, _⟩ := q; rfl) | (obtain ⟨_, _, rfl, _⟩ := q; rfl) | (obtain ⟨_, _, _, rfl, _⟩ := q; rfl) | (obtain ⟨_, _, _, _, rfl, _⟩ := q; rfl) | (obtain ⟨_, _, _, _, _, rfl, _⟩ := q; rfl) | (obtain ⟨_, _, _, _, _, _, rfl, _⟩ := q; rfl) | (obtain ⟨_, _, _, _, _, _, _, rfl, _⟩ := q; rfl) | (obtain ⟨_, _, _, _, _, _, _, _, rfl, _⟩ := q; rfl) | (obtain ⟨_, _, _, _, _, _, _, _, _, rfl, _⟩ := q; rfl) | (obtain ⟨_, _, _, _, _, _, _, _, _, _, rfl, _⟩ := q; rfl) | (obtain ⟨_, _, _, _, _, _, _, _, _, _, _, rfl, _⟩ := q; rfl))
    fun f cdv A outer s H E g r => ⟨_, dv__law_pick B cdv A outer s H E g r, w_pick⟩
theorem ca__law_letters (X : K.In h) (G : h.Ns mainGlobals mg) (D : DefK K "_law_letters" s__law_letters) (B : Bi mg) (c__law_pick : Ca P w K mg base 1 "_law_pick" ["pool", "many"] (spP K sp_pick)) : Ca P w K mg base 2 "_law_letters" ["pool", "most"] (spP K sp_letters2) :=
  caP (k := 1) D X G sc__law_letters (fun _ _ _ _ _ _ us hl => match us, hl with | [_, _], _ => rfl) (fun ds p Φ q => by first | (obtain ⟨rfl, _⟩ := q; rfl) | (obtain ⟨_, rfl, _⟩ := q; rfl) | (obtain ⟨_, _, rfl, _⟩ := q; rfl) | (obtain ⟨_, _, _, rfl, _⟩ := q; rfl) | (obtain ⟨_, _, _, _, rfl, _⟩ := q; rfl) | (obtain ⟨_, _, _, _, _, rfl, _⟩ := q; rfl) | (obtain ⟨_, _, _, _, _, _, rfl, _⟩ := q; rfl) | (obtain ⟨_, _, _, _, _, _, _, rfl, _⟩ := q; rfl) | (obtain ⟨_, _, _, _, _, _, _, _, rfl, _⟩ := q; rfl) | (obtain ⟨_, _, _, _, _, _, _, _, _, rfl, _⟩ := q; rfl) | (obtain ⟨_, _, _, _, _, _, _, _, _, _, rfl, _⟩ := q; rfl) | (obtain ⟨_, _, _, _, _, _, _, _, _, _, _, rfl, _⟩ := q; rfl))
    fun f cdv A outer s H E g r => ⟨_, dv__law_letters B c__law_pick cdv A outer s H E g r, w_letters⟩
theorem ca__law_kinds (X : K.In h) (G : h.Ns mainGlobals mg) (D : DefK K "_law_kinds" s__law_kinds) (B : Bi mg) (hEs : Ers K mg ERL bE FLE) : Ca P w K mg base 1 "_law_kinds" ["error"] (spD K sp_kinds) :=
  caD (k := 0) D X G sc__law_kinds (fun _ _ _ _ _ _ us hl => match us, hl with | [_], _ => rfl) (fun ds Φ q => by first | (obtain ⟨rfl, _⟩ := q; rfl) | (obtain ⟨_, rfl, _⟩ := q; rfl) | (obtain ⟨_, _, rfl, _⟩ := q; rfl) | (obtain ⟨_, _, _, rfl, _⟩ := q; rfl) | (obtain ⟨_, _, _, _, rfl, _⟩ := q; rfl) | (obtain ⟨_, _, _, _, _, rfl, _⟩ := q; rfl) | (obtain ⟨_, _, _, _, _, _, rfl, _⟩ := q; rfl) | (obtain ⟨_, _, _, _, _, _, _, rfl, _⟩ := q; rfl) | (obtain ⟨_, _, _, _, _, _, _, _, rfl, _⟩ := q; rfl) | (obtain ⟨_, _, _, _, _, _, _, _, _, rfl, _⟩ := q; rfl) | (obtain ⟨_, _, _, _, _, _, _, _, _, _, rfl, _⟩ := q; rfl) | (obtain ⟨_, _, _, _, _, _, _, _, _, _, _, rfl, _⟩ := q; rfl))
    fun f cdv A outer s H E g r => ⟨_, dv__law_kinds B hEs cdv A outer s H E g r, w_kinds⟩
theorem all_mk {fa : Addr} (X : K.In h) (G : h.Ns mainGlobals mg) (hfa : mg "law" = some (.ref fa)) (B : Bi mg)   (hEs : Ers K mg ERL bE FLE) (hZ : ∀ x, x ∈ ER0 → Er0 K mg x) (N_BadText : ∀ base : Heap, ErN P w K mg base 1 "BadText" 2 ["line", "column"] (fun xs => match xs with | [a, b] => [("column", b), ("line", a)] | _ => [])) (N_Contradiction : ∀ base : Heap, ErN P w K mg base 1 "Contradiction" 1 ["word"] (fun xs => [("word" : Str)].zip xs)) (N_BadEntry : ∀ base : Heap, ErN P w K mg base 1 "BadEntry" 1 ["place"] (fun xs => [("place" : Str)].zip xs)) (N_Ring : ∀ base : Heap, ErN P w K mg base 1 "Ring" 1 ["name"] (fun xs => [("name" : Str)].zip xs)) (N_InUse : ∀ base : Heap, ErN P w K mg base 1 "InUse" 1 ["name"] (fun xs => [("name" : Str)].zip xs)) (N_UnknownName : ∀ base : Heap, ErN P w K mg base 1 "UnknownName" 1 ["name"] (fun xs => [("name" : Str)].zip xs)) (N_BadSize : ∀ base : Heap, ErN P w K mg base 1 "BadSize" 1 ["size"] (fun xs => [("size" : Str)].zip xs)) (N_BadWord : ∀ base : Heap, ErN P w K mg base 1 "BadWord" 1 ["place"] (fun xs => [("place" : Str)].zip xs)) (D__law_pool : DefK K "_law_pool" s__law_pool) (D__law_stream : DefK K "_law_stream" s__law_stream) (D__law_pick : DefK K "_law_pick" s__law_pick) (D__law_letters : DefK K "_law_letters" s__law_letters) (D__law_kinds : DefK K "_law_kinds" s__law_kinds) (D_law : DefK K "law" s_law) :
    ∃ fd : FuncData, (∀ (s : Shared) (v : Value), BindsTo s fd ⟨[v], []⟩ [("script", v)]) ∧ ∀ base : Heap, FnG P w K mg base CX0 4 fa fd ["script"] (spLaw K) := by
  have c__law_pool := fun base : Heap => ca__law_pool (P := P) (w := w) (base := base) X G D__law_pool B
  have c__law_stream := fun base : Heap => ca__law_stream (P := P) (w := w) (base := base) X G D__law_stream (c__law_pool base)
  have c__law_pick := fun base : Heap => ca__law_pick (P := P) (w := w) (base := base) X G D__law_pick B
  have c__law_letters := fun base : Heap => ca__law_letters (P := P) (w := w) (base := base) X G D__law_letters B (c__law_pick base)
  have c__law_kinds := fun base : Heap => ca__law_kinds (P := P) (w := w) (base := base) X G D__law_kinds B hEs
  refine caLaw (k := 3) (kS := 2) (sx := "_law_stream") D_law X G hfa sc_law (by decide) rfl (by decide) (fun s v kV dc pm an cd ct => .of_eq rfl) c__law_stream (fun base f cdv A outer s H E fS fdS FS gS kS bS g r => ?_) fun base f cdv A outer s H E g r => ⟨_, dv_law B (c__law_kinds base) (c__law_pick base) (c__law_letters base)  hEs hZ (N_BadText base) (N_Contradiction base) (N_BadEntry base) (N_Ring base) (N_InUse base) (N_UnknownName base) (N_BadSize base) (N_BadWord base) cdv A outer s H E g r, w_law⟩
  exact ps_set (i := 1) sc_law.nd rfl (by first | exact Or.inr rfl | exact Or.inl rfl) (pe_callG FS g (r.mono (by decide)) rfl gS kS bS .nil pass0 (pa_cons (pv 0) pa_nil))
end
end L00
namespace L00
open PySem PySem.Spec PyProof.Rows L2 DL
section
variable {K : PySem.W.Frag} {mg : Str → Option Value} {h : Heap}
theorem bi_mk (X : K.In h) (G : h.Ns mainGlobals mg) (z_len : PySem.W.nsIn K mainGlobals "len" = some none) (z_int : PySem.W.nsIn K mainGlobals "int" = some none) (z_str : PySem.W.nsIn K mainGlobals "str" = some none) (z_bool : PySem.W.nsIn K mainGlobals "bool" = some none) (z_list : PySem.W.nsIn K mainGlobals "list" = some none) (z_tuple : PySem.W.nsIn K mainGlobals "tuple" = some none) (z_max : PySem.W.nsIn K mainGlobals "max" = some none) (z_min : PySem.W.nsIn K mainGlobals "min" = some none) (z_sum : PySem.W.nsIn K mainGlobals "sum" = some none) (z_any : PySem.W.nsIn K mainGlobals "any" = some none) (z_all : PySem.W.nsIn K mainGlobals "all" = some none) (z_repr : PySem.W.nsIn K mainGlobals "repr" = some none) (z_range : PySem.W.nsIn K mainGlobals "range" = some none) (z_enumerate : PySem.W.nsIn K mainGlobals "enumerate" = some none) (z_zip : PySem.W.nsIn K mainGlobals "zip" = some none) (z_isinstance : PySem.W.nsIn K mainGlobals "isinstance" = some none) (z_sorted : PySem.W.nsIn K mainGlobals "sorted" = some none) : Bi mg :=
  ⟨PySem.W.mg_none_of X G z_len, PySem.W.mg_none_of X G z_int, PySem.W.mg_none_of X G z_str, PySem.W.mg_none_of X G z_bool, PySem.W.mg_none_of X G z_list, PySem.W.mg_none_of X G z_tuple, PySem.W.mg_none_of X G z_max, PySem.W.mg_none_of X G z_min, PySem.W.mg_none_of X G z_sum, PySem.W.mg_none_of X G z_any, PySem.W.mg_none_of X G z_all, PySem.W.mg_none_of X G z_repr, PySem.W.mg_none_of X G z_range, PySem.W.mg_none_of X G z_enumerate, PySem.W.mg_none_of X G z_zip, PySem.W.mg_none_of X G z_isinstance, PySem.W.mg_none_of X G z_sorted⟩
end
end L00
open PySem PySem.W PyProof.Rows
set_option maxHeartbeats 0 in
theorem PySem.Challenge.cw_hallofwords_k00_errors_stand_apart_holds : PySem.Challenge.rw_hallofwords_k00_errors_stand_apart.Holds := by
  w_on; o_law; k_head; (case hw => w_witness2)
  k_fill
  refine DL.walk_ofG (l := PySem.Challenge.rw_hallofwords_k00_errors_stand_apart) (k := 4) (x := "script") rfl rfl ⟨rfl, by decide, by decide⟩ (fun w h Y => PySem.W.kIn_of Y) ?F
  case F =>
    intro w mg fa h KX G hmg
    refine' L00.all_mk KX G hmg (L00.bi_mk KX G ?z_len ?z_int ?z_str ?z_bool ?z_list ?z_tuple ?z_max ?z_min ?z_sum ?z_any ?z_all ?z_repr ?z_range ?z_enumerate ?z_zip ?z_isinstance ?z_sorted)  (DL.ers_mk KX G ?e_V ?e_T) (DL.er0_mk KX G ?z_0) (L00.n_BadText KX G ?o_a_BadText (DL.oexC_mk ?o_l_BadText ?o_r_BadText ?o_s_BadText ?o_e_BadText ?o_t_BadText ?o_k_BadText) ⟨?o_no0_BadText, ?o_no1_BadText⟩ (DL.InitK.mk5 ?o_ii_BadText ?o_ti_BadText ?o_il_BadText ?o_c_BadText ?o_ik_BadText) ?o_aB_BadText (DL.baseC_mk ?o_b1_BadText ?o_b2_BadText ?o_b3_BadText ?o_b4_BadText)) (L00.n_Contradiction KX G ?o_a_Contradiction (DL.oexC_mk ?o_l_Contradiction ?o_r_Contradiction ?o_s_Contradiction ?o_e_Contradiction ?o_t_Contradiction ?o_k_Contradiction) ?o_no_Contradiction (DL.InitK.mk5 ?o_ii_Contradiction ?o_ti_Contradiction ?o_il_Contradiction ?o_c_Contradiction ?o_ik_Contradiction) ?o_aB_Contradiction (DL.baseC_mk ?o_b1_Contradiction ?o_b2_Contradiction ?o_b3_Contradiction ?o_b4_Contradiction)) (L00.n_BadEntry KX G ?o_a_BadEntry (DL.oexC_mk ?o_l_BadEntry ?o_r_BadEntry ?o_s_BadEntry ?o_e_BadEntry ?o_t_BadEntry ?o_k_BadEntry) ?o_no_BadEntry (DL.InitK.mk5 ?o_ii_BadEntry ?o_ti_BadEntry ?o_il_BadEntry ?o_c_BadEntry ?o_ik_BadEntry) ?o_aB_BadEntry (DL.baseC_mk ?o_b1_BadEntry ?o_b2_BadEntry ?o_b3_BadEntry ?o_b4_BadEntry)) (L00.n_Ring KX G ?o_a_Ring (DL.oexC_mk ?o_l_Ring ?o_r_Ring ?o_s_Ring ?o_e_Ring ?o_t_Ring ?o_k_Ring) ?o_no_Ring (DL.InitK.mk5 ?o_ii_Ring ?o_ti_Ring ?o_il_Ring ?o_c_Ring ?o_ik_Ring) ?o_aB_Ring (DL.baseC_mk ?o_b1_Ring ?o_b2_Ring ?o_b3_Ring ?o_b4_Ring)) (L00.n_InUse KX G ?o_a_InUse (DL.oexC_mk ?o_l_InUse ?o_r_InUse ?o_s_InUse ?o_e_InUse ?o_t_InUse ?o_k_InUse) ?o_no_InUse (DL.InitK.mk5 ?o_ii_InUse ?o_ti_InUse ?o_il_InUse ?o_c_InUse ?o_ik_InUse) ?o_aB_InUse (DL.baseC_mk ?o_b1_InUse ?o_b2_InUse ?o_b3_InUse ?o_b4_InUse)) (L00.n_UnknownName KX G ?o_a_UnknownName (DL.oexC_mk ?o_l_UnknownName ?o_r_UnknownName ?o_s_UnknownName ?o_e_UnknownName ?o_t_UnknownName ?o_k_UnknownName) ?o_no_UnknownName (DL.InitK.mk5 ?o_ii_UnknownName ?o_ti_UnknownName ?o_il_UnknownName ?o_c_UnknownName ?o_ik_UnknownName) ?o_aB_UnknownName (DL.baseC_mk ?o_b1_UnknownName ?o_b2_UnknownName ?o_b3_UnknownName ?o_b4_UnknownName)) (L00.n_BadSize KX G ?o_a_BadSize (DL.oexC_mk ?o_l_BadSize ?o_r_BadSize ?o_s_BadSize ?o_e_BadSize ?o_t_BadSize ?o_k_BadSize) ?o_no_BadSize (DL.InitK.mk5 ?o_ii_BadSize ?o_ti_BadSize ?o_il_BadSize ?o_c_BadSize ?o_ik_BadSize) ?o_aB_BadSize (DL.baseC_mk ?o_b1_BadSize ?o_b2_BadSize ?o_b3_BadSize ?o_b4_BadSize)) (L00.n_BadWord KX G ?o_a_BadWord (DL.oexC_mk ?o_l_BadWord ?o_r_BadWord ?o_s_BadWord ?o_e_BadWord ?o_t_BadWord ?o_k_BadWord) ?o_no_BadWord (DL.InitK.mk5 ?o_ii_BadWord ?o_ti_BadWord ?o_il_BadWord ?o_c_BadWord ?o_ik_BadWord) ?o_aB_BadWord (DL.baseC_mk ?o_b1_BadWord ?o_b2_BadWord ?o_b3_BadWord ?o_b4_BadWord)) (DL.DefK.mk4 ?a__law_pool ?l__law_pool ?c__law_pool ?k__law_pool) (DL.DefK.mk4 ?a__law_stream ?l__law_stream ?c__law_stream ?k__law_stream) (DL.DefK.mk4 ?a__law_pick ?l__law_pick ?c__law_pick ?k__law_pick) (DL.DefK.mk4 ?a__law_letters ?l__law_letters ?c__law_letters ?k__law_letters) (DL.DefK.mk4 ?a__law_kinds ?l__law_kinds ?c__law_kinds ?k__law_kinds) (DL.DefK.mk4 ?a_law ?l_law ?c_law ?k_law)
    (case z_len => k_is)
    (case z_int => k_is)
    (case z_str => k_is)
    (case z_bool => k_is)
    (case z_list => k_is)
    (case z_tuple => k_is)
    (case z_max => k_is)
    (case z_min => k_is)
    (case z_sum => k_is)
    (case z_any => k_is)
    (case z_all => k_is)
    (case z_repr => k_is)
    (case z_range => k_is)
    (case z_enumerate => k_is)
    (case z_zip => k_is)
    (case z_isinstance => k_is)
    (case z_sorted => k_is)
    (case e_V => k_is); (case e_T => kernel_rfl)
    (case z_0 => kernel_rfl)
    (case o_a_BadText => k_is)
    (case o_l_BadText => k_is)
    (case o_r_BadText => decide +kernel)
    (case o_s_BadText => k_is)
    (case o_e_BadText => k_is)
    (case o_t_BadText => k_is)
    (case o_k_BadText => k_is)
    (case o_no0_BadText => k_is)
    (case o_no1_BadText => k_is)
    (case o_ii_BadText => k_is)
    (case o_ti_BadText => k_is)
    (case o_il_BadText => k_is)
    (case o_c_BadText => k_is)
    (case o_ik_BadText => k_is)
    (case o_aB_BadText => k_is)
    (case o_b1_BadText => k_is)
    (case o_b2_BadText => k_is)
    (case o_b3_BadText => k_is)
    (case o_b4_BadText => k_is)
    (case o_a_Contradiction => k_is)
    (case o_l_Contradiction => k_is)
    (case o_r_Contradiction => decide +kernel)
    (case o_s_Contradiction => k_is)
    (case o_e_Contradiction => k_is)
    (case o_t_Contradiction => k_is)
    (case o_k_Contradiction => k_is)
    (case o_no_Contradiction => k_is)
    (case o_ii_Contradiction => k_is)
    (case o_ti_Contradiction => k_is)
    (case o_il_Contradiction => k_is)
    (case o_c_Contradiction => k_is)
    (case o_ik_Contradiction => k_is)
    (case o_aB_Contradiction => k_is)
    (case o_b1_Contradiction => k_is)
    (case o_b2_Contradiction => k_is)
    (case o_b3_Contradiction => k_is)
    (case o_b4_Contradiction => k_is)
    (case o_a_BadEntry => k_is)
    (case o_l_BadEntry => k_is)
    (case o_r_BadEntry => decide +kernel)
    (case o_s_BadEntry => k_is)
    (case o_e_BadEntry => k_is)
    (case o_t_BadEntry => k_is)
    (case o_k_BadEntry => k_is)
    (case o_no_BadEntry => k_is)
    (case o_ii_BadEntry => k_is)
    (case o_ti_BadEntry => k_is)
    (case o_il_BadEntry => k_is)
    (case o_c_BadEntry => k_is)
    (case o_ik_BadEntry => k_is)
    (case o_aB_BadEntry => k_is)
    (case o_b1_BadEntry => k_is)
    (case o_b2_BadEntry => k_is)
    (case o_b3_BadEntry => k_is)
    (case o_b4_BadEntry => k_is)
    (case o_a_Ring => k_is)
    (case o_l_Ring => k_is)
    (case o_r_Ring => decide +kernel)
    (case o_s_Ring => k_is)
    (case o_e_Ring => k_is)
    (case o_t_Ring => k_is)
    (case o_k_Ring => k_is)
    (case o_no_Ring => k_is)
    (case o_ii_Ring => k_is)
    (case o_ti_Ring => k_is)
    (case o_il_Ring => k_is)
    (case o_c_Ring => k_is)
    (case o_ik_Ring => k_is)
    (case o_aB_Ring => k_is)
    (case o_b1_Ring => k_is)
    (case o_b2_Ring => k_is)
    (case o_b3_Ring => k_is)
    (case o_b4_Ring => k_is)
    (case o_a_InUse => k_is)
    (case o_l_InUse => k_is)
    (case o_r_InUse => decide +kernel)
    (case o_s_InUse => k_is)
    (case o_e_InUse => k_is)
    (case o_t_InUse => k_is)
    (case o_k_InUse => k_is)
    (case o_no_InUse => k_is)
    (case o_ii_InUse => k_is)
    (case o_ti_InUse => k_is)
    (case o_il_InUse => k_is)
    (case o_c_InUse => k_is)
    (case o_ik_InUse => k_is)
    (case o_aB_InUse => k_is)
    (case o_b1_InUse => k_is)
    (case o_b2_InUse => k_is)
    (case o_b3_InUse => k_is)
    (case o_b4_InUse => k_is)
    (case o_a_UnknownName => k_is)
    (case o_l_UnknownName => k_is)
    (case o_r_UnknownName => decide +kernel)
    (case o_s_UnknownName => k_is)
    (case o_e_UnknownName => k_is)
    (case o_t_UnknownName => k_is)
    (case o_k_UnknownName => k_is)
    (case o_no_UnknownName => k_is)
    (case o_ii_UnknownName => k_is)
    (case o_ti_UnknownName => k_is)
    (case o_il_UnknownName => k_is)
    (case o_c_UnknownName => k_is)
    (case o_ik_UnknownName => k_is)
    (case o_aB_UnknownName => k_is)
    (case o_b1_UnknownName => k_is)
    (case o_b2_UnknownName => k_is)
    (case o_b3_UnknownName => k_is)
    (case o_b4_UnknownName => k_is)
    (case o_a_BadSize => k_is)
    (case o_l_BadSize => k_is)
    (case o_r_BadSize => decide +kernel)
    (case o_s_BadSize => k_is)
    (case o_e_BadSize => k_is)
    (case o_t_BadSize => k_is)
    (case o_k_BadSize => k_is)
    (case o_no_BadSize => k_is)
    (case o_ii_BadSize => k_is)
    (case o_ti_BadSize => k_is)
    (case o_il_BadSize => k_is)
    (case o_c_BadSize => k_is)
    (case o_ik_BadSize => k_is)
    (case o_aB_BadSize => k_is)
    (case o_b1_BadSize => k_is)
    (case o_b2_BadSize => k_is)
    (case o_b3_BadSize => k_is)
    (case o_b4_BadSize => k_is)
    (case o_a_BadWord => k_is)
    (case o_l_BadWord => k_is)
    (case o_r_BadWord => decide +kernel)
    (case o_s_BadWord => k_is)
    (case o_e_BadWord => k_is)
    (case o_t_BadWord => k_is)
    (case o_k_BadWord => k_is)
    (case o_no_BadWord => k_is)
    (case o_ii_BadWord => k_is)
    (case o_ti_BadWord => k_is)
    (case o_il_BadWord => k_is)
    (case o_c_BadWord => k_is)
    (case o_ik_BadWord => k_is)
    (case o_aB_BadWord => k_is)
    (case o_b1_BadWord => k_is)
    (case o_b2_BadWord => k_is)
    (case o_b3_BadWord => k_is)
    (case o_b4_BadWord => k_is)
    (case a__law_pool => k_is); (case l__law_pool => k_is); (case c__law_pool => k_is); (case k__law_pool => k_is)
    (case a__law_stream => k_is); (case l__law_stream => k_is); (case c__law_stream => k_is); (case k__law_stream => k_is)
    (case a__law_pick => k_is); (case l__law_pick => k_is); (case c__law_pick => k_is); (case k__law_pick => k_is)
    (case a__law_letters => k_is); (case l__law_letters => k_is); (case c__law_letters => k_is); (case k__law_letters => k_is)
    (case a__law_kinds => k_is); (case l__law_kinds => k_is); (case c__law_kinds => k_is); (case k__law_kinds => k_is)
    (case a_law => k_is); (case l_law => k_is); (case c_law => k_is); (case k_law => k_is)
