import PyProof.Rows.All
import Wide.All
import OpenK.AllK
import Wide.FinOn
import HandS.ForMost
import HandS.ExcInit
import HandS.Exc
import HandS.IsInst
import HandS.Wide
import HandS.Replace
import HandS.SortRule
import HandS.TupLe
import HandS.ExcOwn
import HandS.TryOnly
import HandS.ExcIs
import HandS.HotCalls
import HandS.Gcd
import HandS.FStr
import HandS.ExcField
import HandS.ExcValue
import KE.KExcIs
import HandS.Style
import HandS.TryMany
import HandS.AnyAll
import HandS.GenList
import HandS.Conv
import PySem.Challenge.RW_hallofwords_k58_sources_and_drawn_words
set_option Elab.async false
set_option linter.all false
set_option maxRecDepth 100000
set_option maxHeartbeats 4000000
set_option autoImplicit false
/-! DL: a layer of plain data over the hand layer: what stands in the slots is data (frozen), a list of one's own, or the pool. -/
namespace DL
open PySem PySem.Spec L2

/-! ### data in a frozen heap -/
/-- an error's own fields: numbers and texts -/
inductive FldF : List (Str × V) → List PyData → Prop
  | nil : FldF [] []
  | int {f : Str} {i : Int} {fs : List (Str × V)} {xs : List PyData} : FldF fs xs → FldF ((f, .int i) :: fs) (.tuple [.str f, .int i] :: xs)
  | str {f x : Str} {fs : List (Str × V)} {xs : List PyData} : FldF fs xs → FldF ((f, .str x) :: fs) (.tuple [.str f, .str x] :: xs)
/-- an error that is held as a value: its fields as they stand -/
def XoAt (F : Hp) (d : Option Addr) (fs : List (Str × V)) : Prop := (d = none ∧ fs = []) ∨ ∃ dd, d = some dd ∧ F dd = some (exd dd fs)
theorem XoAt.up {F F' : Hp} {d : Option Addr} {fs : List (Str × V)} (e : Same F F') (h : XoAt F d fs) : XoAt F' d fs := by
  rcases h with h | ⟨dd, h1, h2⟩
  · exact .inl h
  · exact .inr ⟨dd, h1, e _ _ h2⟩
mutual
inductive Dq (K : PySem.W.Frag) (F : Hp) : V → PyData → Prop
  | non : Dq K F .non .none
  | bl (b : Bool) : Dq K F (.bl b) (.bool b)
  | int (i : Int) : Dq K F (.int i) (.int i)
  | str (x : Str) : Dq K F (.str x) (.str x)
  | lst {a : Addr} {xs : List V} {ds : List PyData} : F a = some (.lst xs) → DqA K F xs ds → Dq K F (.ref a) (.list ds)
  | tup {a : Addr} {xs : List V} {ds : List PyData} : SqT K F a xs → DqA K F xs ds → Dq K F (.ref a) (.tuple ds)
  | rng {a : Addr} {lo hi : Int} : F a = some (.rng lo hi) → Dq K F (.ref a) (.dict [(.int lo, .int hi)])
  | er (a : Addr) : Dq K F (.ref a) (.dict [(.none, .int (a : Nat))])
  | xo {a C : Addr} {d : Option Addr} {fs : List (Str × V)} {xs : List PyData} {n : Str} : PySem.W.nsIn K mainGlobals n = some (some (.ref C)) → F a = some (exo a C d) → XoAt F d fs → FldF fs xs → Dq K F (.ref a) (.dict [(.str n, .list xs)])
  | ef {a dd : Addr} {fs : List (Str × V)} {xs : List PyData} : F dd = some (.xd fs) → FldF fs xs → Dq K F (.ref a) (.dict [(.int (a : Nat), .int (dd : Nat)), (.none, .list xs)])
inductive DqA (K : PySem.W.Frag) (F : Hp) : List V → List PyData → Prop
  | nil : DqA K F [] []
  | cons {v : V} {vs : List V} {d : PyData} {ds : List PyData} : Dq K F v d → DqA K F vs ds → DqA K F (v :: vs) (d :: ds)
end
section
variable {K : PySem.W.Frag} {F F' H H' G : Hp}
theorem same_sqt {a : Addr} {xs : List V} (e : Same F F') (h : SqT K F a xs) : SqT K F' a xs := by
  rcases h with (h | ⟨o, h⟩) | h
  · exact .inl (.inl (e _ _ h))
  · exact .inl (.inr ⟨o, e _ _ h⟩)
  · exact .inr h
mutual
theorem Dq.up (e : Same F F') : ∀ (d : PyData) (v : V), Dq K F v d → Dq K F' v d
  | .none, _, h => by cases h; exact .non
  | .bool b, _, h => by cases h; exact .bl b
  | .int i, _, h => by cases h; exact .int i
  | .str x, _, h => by cases h; exact .str x
  | .list ds, _, h => by
    cases h with
    | lst h1 h2 => exact .lst (e _ _ h1) (DqA.up e ds _ h2)
  | .tuple ds, _, h => by
    cases h with
    | tup h1 h2 => exact .tup (same_sqt e h1) (DqA.up e ds _ h2)
  | .dict _, _, h => by
    cases h with
    | rng h1 => exact .rng (e _ _ h1)
    | er a => exact .er a
    | xo h1 h2 h3 h4 => exact .xo h1 (e _ _ h2) (h3.up e) h4
    | ef h1 h2 => exact .ef (e _ _ h1) h2
theorem DqA.up (e : Same F F') : ∀ (ds : List PyData) (vs : List V), DqA K F vs ds → DqA K F' vs ds
  | [], _, h => by cases h; exact .nil
  | d :: ds, _, h => by
    cases h with
    | cons h1 h2 => exact .cons (Dq.up e d _ h1) (DqA.up e ds _ h2)
end
theorem Dq.mono {v : V} {d : PyData} (h : Dq K F v d) (e : Same F F') : Dq K F' v d := Dq.up e d v h
theorem DqA.mono {vs : List V} {ds : List PyData} (h : DqA K F vs ds) (e : Same F F') : DqA K F' vs ds := DqA.up e ds vs h
mutual
theorem Dq.dpUp : ∀ (d : PyData) (v : V), Dq K F v d → d.hasDict = false → Dp K F v d
  | .none, _, h, _ => by cases h; exact .non
  | .bool b, _, h, _ => by cases h; exact .bl b
  | .int i, _, h, _ => by cases h; exact .int i
  | .str x, _, h, _ => by cases h; exact .str x
  | .list ds, _, h, n => by
    cases h with
    | lst h1 h2 => exact .lst (SqL.of h1) (DqA.dpUp ds _ h2 (by simpa [PyData.hasDict] using n))
  | .tuple ds, _, h, n => by
    cases h with
    | tup h1 h2 => exact .tup h1 (DqA.dpUp ds _ h2 (by simpa [PyData.hasDict] using n))
  | .dict _, _, h, n => by simp [PyData.hasDict] at n
theorem DqA.dpUp : ∀ (ds : List PyData) (vs : List V), DqA K F vs ds → PyData.hasDictAll ds = false → DpAll K F vs ds
  | [], _, h, _ => by cases h; exact .nil
  | d :: ds, _, h, n => by
    cases h with
    | cons h1 h2 =>
      simp only [PyData.hasDictAll, Bool.or_eq_false_iff] at n
      exact .cons (Dq.dpUp d _ h1 n.1) (DqA.dpUp ds _ h2 n.2)
end
theorem Dq.dp {v : V} {d : PyData} (h : Dq K F v d) (n : d.hasDict = false) : Dp K F v d := Dq.dpUp d v h n
theorem DqA.length : ∀ {vs : List V} {ds : List PyData}, DqA K F vs ds → vs.length = ds.length
  | [], [], _ => rfl
  | _ :: vs, _ :: ds, h => by
    cases h with
    | cons h1 h2 => rw [List.length_cons, List.length_cons, DqA.length h2]
  | [], _ :: _, h => by cases h
  | _ :: _, [], h => by cases h
theorem DqA.get : ∀ {vs : List V} {ds : List PyData} {i : Nat} {d : PyData}, DqA K F vs ds → ds[i]? = some d → ∃ v, vs[i]? = some v ∧ Dq K F v d
  | _, [], i, d, _, h => by simp at h
  | _, d0 :: ds, 0, d, h, e => by
    cases h with
    | cons h1 h2 =>
      simp at e
      subst e
      exact ⟨_, rfl, h1⟩
  | _, d0 :: ds, i + 1, d, h, e => by
    cases h with
    | cons h1 h2 =>
      obtain ⟨v, a, b⟩ := DqA.get (i := i) h2 (by simpa using e)
      exact ⟨v, by simpa using a, b⟩
theorem DqA.getv : ∀ {vs : List V} {ds : List PyData} {i : Nat} {v : V}, DqA K F vs ds → vs[i]? = some v → ∃ d, ds[i]? = some d ∧ Dq K F v d := fun {vs ds i v} h e => by
  have hl := h.length
  have hi : i < ds.length := by rw [← hl]; exact (List.getElem?_eq_some_iff.mp e).1
  obtain ⟨u, a, b⟩ := h.get (List.getElem?_eq_getElem hi)
  rw [e] at a
  cases a
  exact ⟨_, List.getElem?_eq_getElem hi, b⟩
theorem DqA.append : ∀ {vs ws : List V} {ds es : List PyData}, DqA K F vs ds → DqA K F ws es → DqA K F (vs ++ ws) (ds ++ es)
  | [], _, [], _, _, h => h
  | _ :: _, _, _ :: _, _, h, g => by
    cases h with
    | cons h1 h2 => exact .cons h1 (DqA.append h2 g)
  | [], _, _ :: _, _, h, _ => by cases h
  | _ :: _, _, [], _, h, _ => by cases h
theorem DqA.take : ∀ {vs : List V} {ds : List PyData} (n : Nat), DqA K F vs ds → DqA K F (vs.take n) (ds.take n)
  | _, _, 0, _ => .nil
  | [], [], _ + 1, _ => .nil
  | _ :: _, _ :: _, n + 1, h => by
    cases h with
    | cons h1 h2 => exact .cons h1 (DqA.take n h2)
  | [], _ :: _, _ + 1, h => by cases h
  | _ :: _, [], _ + 1, h => by cases h
theorem DqA.drop : ∀ {vs : List V} {ds : List PyData} (n : Nat), DqA K F vs ds → DqA K F (vs.drop n) (ds.drop n)
  | _, _, 0, h => h
  | [], [], _ + 1, _ => .nil
  | _ :: _, _ :: _, n + 1, h => by
    cases h with
    | cons h1 h2 => exact DqA.drop n h2
  | [], _ :: _, _ + 1, h => by cases h
  | _ :: _, [], _ + 1, h => by cases h
theorem DqA.set : ∀ {vs : List V} {ds : List PyData} {v : V} {d : PyData} (n : Nat), DqA K F vs ds → Dq K F v d → DqA K F (vs.set n v) (ds.set n d)
  | [], [], _, _, _, _, _ => .nil
  | _ :: _, _ :: _, _, _, 0, h, g => by
    cases h with
    | cons h1 h2 => exact .cons g h2
  | _ :: _, _ :: _, _, _, n + 1, h, g => by
    cases h with
    | cons h1 h2 => exact .cons h1 (DqA.set n h2 g)
  | [], _ :: _, _, _, _, h, _ => by cases h
  | _ :: _, [], _, _, _, h, _ => by cases h
theorem DqA.ints {vs : List V} {ns : List Int} (h : DqA K F vs (ns.map PyData.int)) : vs = ns.map V.int := by
  induction ns generalizing vs with
  | nil => cases h; rfl
  | cons n ns ih =>
    cases h with
    | cons h1 h2 =>
      cases h1
      rw [ih h2]
      rfl
theorem DqA.of_ints (ns : List Int) : DqA K F (ns.map V.int) (ns.map PyData.int) := by
  induction ns with
  | nil => exact .nil
  | cons n ns ih => exact .cons (.int n) ih
theorem DqA.bls {vs : List V} {ns : List Bool} (h : DqA K F vs (ns.map PyData.bool)) : vs = ns.map V.bl := by
  induction ns generalizing vs with
  | nil => cases h; rfl
  | cons n ns ih =>
    cases h with
    | cons h1 h2 =>
      cases h1
      rw [ih h2]
      rfl
theorem DqA.strs {vs : List V} {ns : List Str} (h : DqA K F vs (ns.map PyData.str)) : vs = ns.map V.str := by
  induction ns generalizing vs with
  | nil => cases h; rfl
  | cons n ns ih =>
    cases h with
    | cons h1 h2 =>
      cases h1
      rw [ih h2]
      rfl
theorem DqA.of_strs (ns : List Str) : DqA K F (ns.map V.str) (ns.map PyData.str) := by
  induction ns with
  | nil => exact .nil
  | cons n ns ih => exact .cons (.str n) ih

/-! ### what a step may do to the heaps -/
structure Fresh (F H F' H' : Hp) : Prop where
  ff : Same F F'
  fh : Same F' H'
  hh : Same H H'
  fr : ∀ b o, H b = some o → F b = none → F' b = none
theorem Fresh.refl (e : Same F H) : Fresh F H F H := ⟨Same.refl F, e, Same.refl H, fun _ _ _ h => h⟩
theorem Fresh.trans {F2 H2 : Hp} (a : Fresh F H F' H') (b : Fresh F' H' F2 H2) : Fresh F H F2 H2 :=
  ⟨a.ff.trans b.ff, b.fh, a.hh.trans b.hh, fun c o h n => b.fr c o (a.hh c o h) (a.fr c o h n)⟩
theorem same_new {p : Addr} {o : HO} (h : H p = none) : Same H (upd H p o) := fun b u e => by
  rw [upd_ne (ne_of_none e h)]
  exact e
theorem Fresh.new {p : Addr} {o : HO} (e : Same F H) (h : H p = none) : Fresh F H (upd F p o) (upd H p o) := by
  refine ⟨same_new (e.free h), fun b u q => ?_, same_new h, fun b u q n => ?_⟩
  · by_cases hb : b = p
    · rw [hb, upd_same] at q ⊢
      exact q
    · rw [upd_ne hb] at q ⊢
      exact e b u q
  · rw [upd_ne (ne_of_none q h)]
    exact n
/-- a new object that is not frozen -/
theorem Fresh.newH {p : Addr} {o : HO} (e : Same F H) (h : H p = none) : Fresh F H F (upd H p o) :=
  ⟨Same.refl F, e.trans (same_new h), same_new h, fun _ _ _ n => n⟩
end

/-! ### what stands in the slots -/
inductive Sl where
  | un
  | d (x : PyData)
  | o (xs : List PyData)
  | pl
  | sc (ns : List Int)
  | tb (p : Addr) (qs : List Addr) (xss : List (List PyData))
@[simp] def tads : Sl → List Addr
  | .tb p qs _ => p :: qs
  | _ => []
/-- a table's rows: lists of one's own -/
inductive RowsOk (K : PySem.W.Frag) (G : Hp) (P : Option Addr) (F H : Hp) : List Addr → List (List PyData) → Prop
  | nil : RowsOk K G P F H [] []
  | cons {q : Addr} {vs : List V} {xs : List PyData} {qs : List Addr} {xss : List (List PyData)} : F q = none → G q = none → P ≠ some q → H q = some (.lst vs) → DqA K F vs xs → RowsOk K G P F H qs xss → RowsOk K G P F H (q :: qs) (xs :: xss)
structure S where
  e : List Sl
  q : List Int
@[simp] def S.put (s : S) (i : Nat) (x : Sl) : S := ⟨s.e.set i x, s.q⟩
def SlOk (K : PySem.W.Frag) (G : Hp) (P : Option Addr) (F H : Hp) (σ : St) (i : Nat) : Sl → Prop
  | .un => True
  | .d x => ∃ v, σ[i]? = some (some v) ∧ Dq K F v x
  | .o xs => ∃ p vs, σ[i]? = some (some (.ref p)) ∧ F p = none ∧ G p = none ∧ P ≠ some p ∧ H p = some (.lst vs) ∧ DqA K F vs xs
  | .pl => ∃ a, P = some a ∧ σ[i]? = some (some (.ref a))
  | .sc ns => ∃ a, σ[i]? = some (some (.ref a)) ∧ SqL K F a (ns.map V.int)
  | .tb p qs xss => σ[i]? = some (some (.ref p)) ∧ F p = none ∧ G p = none ∧ P ≠ some p ∧ H p = some (.lst (qs.map V.ref)) ∧ (p :: qs).Nodup ∧ RowsOk K G P F H qs xss
/-- r is held by slot j -/
def Occ (σ : St) (j : Nat) (y : Sl) (r : Addr) : Prop := r ∈ tads y ∨ ((∃ ys, y = .o ys) ∧ σ[j]? = some (some (.ref r)))
/-- the defs whose code objects' tables may grow (generator expressions) -/
def tabNames : List Str := ["check_source"]
/-- b is the table of such a def's code object -/
def TabK (K : PySem.W.Frag) (b : Addr) : Prop := ∃ (x : Str) (f c : Addr) (o : Obj) (fd : FuncData) (e : Value) (dd : Option Addr) (vs : Array Value) (sl : Array (Option Value)),
  x ∈ tabNames ∧ PySem.W.nsIn K mainGlobals x = some (some (.ref f)) ∧ K.lookup f = some o ∧ o.data = .func fd ∧ fd.code = .ref c ∧ K.lookup c = some ⟨e, dd, .fields vs, sl⟩ ∧ vs[11]? = some (.ref b) ∧ K.lookup b = none
/-- what stands there -/
def tabPh (b : Addr) (h : Heap) : Prop := ∃ ps : Array Value, h.get? b = some { cls := .none, data := .fields ps } ∧ TriplesOk ps.toList
/-- what the base knows of the module of the builtins -/
def BmOk (mg : Str → Option Value) (base : Heap) : Prop := ∃ (bm : Addr) (ob : Obj), mg "__builtins__" = some (.ref bm) ∧ bm ≠ builtinsNs ∧ bm ≠ mainGlobals ∧ base.get? bm = some ob ∧ ob.cls = .type "module" ∧ ob.dict = some builtinsNs ∧ ob.data = .plain
def TabsAt (K : PySem.W.Frag) (G : Hp) : Prop := ∀ b, TabK K b → G b = some (.ext (tabPh b))
structure Rep (K : PySem.W.Frag) (G : Hp) (P : Option Addr) (F H : Hp) (σ : St) (s : S) : Prop where
  same : Same F H
  keep : Same G H
  apart : ∀ b o, G b = some o → F b = none
  sl : ∀ (i : Nat) (x : Sl), s.e[i]? = some x → SlOk K G P F H σ i x
  sep : ∀ (i j : Nat) (xs ys : List PyData) (p : Addr), s.e[i]? = some (.o xs) → s.e[j]? = some (.o ys) → σ[i]? = some (some (.ref p)) → σ[j]? = some (some (.ref p)) → i = j
  pool : ∀ a, P = some a → F a = none ∧ G a = none ∧ H a = some (.lst (s.q.map V.int))
  len : σ.length = s.e.length
  tbs : ∀ (i j : Nat) (x y : Sl) (r : Addr), s.e[i]? = some x → s.e[j]? = some y → r ∈ tads x → i ≠ j → ¬ Occ σ j y r
  tab : TabsAt K G
section
variable {K : PySem.W.Frag} {G F F' G' H H' : Hp} {P P' : Option Addr} {σ σ' : St} {s : S}
theorem RowsOk.up (e : Same F F') : ∀ {qs : List Addr} {xss : List (List PyData)}, RowsOk K G P F H qs xss → (∀ r o, r ∈ qs → F r = none → G r = none → P ≠ some r → H r = some o → F' r = none ∧ G' r = none ∧ P' ≠ some r ∧ H' r = some o) → RowsOk K G' P' F' H' qs xss
  | [], _, h, _ => by cases h; exact .nil
  | q :: qs, _, h, f => by
    cases h with
    | cons h1 h2 h3 h4 h5 h6 =>
      obtain ⟨a, b, c, d⟩ := f q _ List.mem_cons_self h1 h2 h3 h4
      exact .cons a b c d (h5.mono e) (RowsOk.up e h6 fun r o hr => f r o (List.mem_cons_of_mem _ hr))
theorem RowsOk.at' : ∀ {qs : List Addr} {xss : List (List PyData)}, RowsOk K G P F H qs xss → ∀ r, r ∈ qs → F r = none ∧ G r = none ∧ P ≠ some r ∧ ∃ o, H r = some o
  | [], _, _, r, hr => by cases hr
  | q :: qs, _, h, r, hr => by
    cases h with
    | cons h1 h2 h3 h4 h5 h6 =>
      rcases List.mem_cons.mp hr with rfl | hr
      · exact ⟨h1, h2, h3, _, h4⟩
      · exact RowsOk.at' h6 r hr
theorem SlOk.tbUp {i : Nat} {p : Addr} {qs : List Addr} {xss : List (List PyData)} (h : SlOk K G P F H σ i (.tb p qs xss)) (hσ : σ'[i]? = σ[i]?) (e : Same F F')
    (f : ∀ r o, r ∈ p :: qs → F r = none → G r = none → P ≠ some r → H r = some o → F' r = none ∧ G' r = none ∧ P' ≠ some r ∧ H' r = some o) : SlOk K G' P' F' H' σ' i (.tb p qs xss) := by
  obtain ⟨h1, h2, h3, h4, h5, h6, h7⟩ := h
  obtain ⟨a, b, c, d⟩ := f p _ List.mem_cons_self h2 h3 h4 h5
  exact ⟨by rw [hσ]; exact h1, a, b, c, d, h6, h7.up e fun r o hr => f r o (List.mem_cons_of_mem _ hr)⟩
theorem tad_at {i : Nat} {x : Sl} {r : Addr} (h : SlOk K G P F H σ i x) (hr : r ∈ tads x) : F r = none ∧ G r = none ∧ P ≠ some r ∧ ∃ o, H r = some o := by
  cases x with
  | tb p qs xss =>
    obtain ⟨h1, h2, h3, h4, h5, h6, h7⟩ := h
    rcases List.mem_cons.mp hr with rfl | hr
    · exact ⟨h2, h3, h4, _, h5⟩
    · exact h7.at' r hr
  | _ => cases hr
theorem occ_o {j : Nat} {y : Sl} {r : Addr} {ys : List PyData} (hy : y = .o ys) (h : σ[j]? = some (some (.ref r))) : Occ σ j y r := .inr ⟨⟨ys, hy⟩, h⟩
theorem Rep.fresh (R : Rep K G P F H σ s) (f : Fresh F H F' H') : Rep K G P F' H' σ s where
  same := f.fh
  keep := R.keep.trans f.hh
  apart := fun b o g => f.fr b o (R.keep b o g) (R.apart b o g)
  sl := fun i x hx => by
    have h := R.sl i x hx
    cases x with
    | un => exact True.intro
    | d x =>
      obtain ⟨v, a, b⟩ := h
      exact ⟨v, a, b.mono f.ff⟩
    | o xs =>
      obtain ⟨p, vs, h1, h2, h3, h4, h5, h6⟩ := h
      exact ⟨p, vs, h1, f.fr p _ h5 h2, h3, h4, f.hh p _ h5, h6.mono f.ff⟩
    | pl => exact h
    | sc ns =>
      obtain ⟨a, h1, h2⟩ := h
      exact ⟨a, h1, f.ff.seq h2⟩
    | tb p qs xss => exact h.tbUp rfl f.ff fun r o _ h1 h2 h3 h4 => ⟨f.fr r o h4 h1, h2, h3, f.hh r o h4⟩
  sep := R.sep
  pool := fun a ha => by
    obtain ⟨h1, h2, h3⟩ := R.pool a ha
    exact ⟨f.fr a _ h3 h1, h2, f.hh a _ h3⟩
  len := R.len
  tbs := R.tbs
  tab := R.tab
theorem set_get {α : Type} {l : List α} {i j : Nat} {x y : α} (h : (l.set i x)[j]? = some y) : (j = i ∧ y = x) ∨ (j ≠ i ∧ l[j]? = some y) := by
  by_cases e : i = j
  · subst e
    by_cases hl : i < l.length
    · rw [List.getElem?_set_self hl] at h
      cases h
      exact .inl ⟨rfl, rfl⟩
    · rw [List.getElem?_eq_none (by rw [List.length_set]; omega)] at h
      cases h
  · rw [List.getElem?_set_ne e] at h
    exact .inr ⟨fun z => e z.symm, h⟩
/-- a slot's list is frozen -/
theorem Rep.freeze {i : Nat} {xs : List PyData} (R : Rep K G P F H σ s) (h : s.e[i]? = some (.o xs)) : ∃ p vs, σ[i]? = some (some (.ref p)) ∧ H p = some (.lst vs) ∧ F p = none ∧
    Rep K G P (upd F p (.lst vs)) H σ (s.put i (.d (.list xs))) ∧ Dq K (upd F p (.lst vs)) (.ref p) (.list xs) := by
  obtain ⟨p, vs, h1, h2, h3, h4, h5, h6⟩ := R.sl i _ h
  have sF : Same F (upd F p (.lst vs)) := same_new h2
  have dq : Dq K (upd F p (.lst vs)) (.ref p) (.list xs) := .lst upd_same (h6.mono sF)
  refine ⟨p, vs, h1, h5, h2, ⟨fun b o q => ?_, R.keep, fun b o g => ?_, fun j x hx => ?_, fun j k ys zs r hj hk e1 e2 => ?_, fun a ha => ?_, by rw [R.len]; exact (List.length_set).symm, fun j k x y r hj hk hr jk oc => ?_, R.tab⟩, dq⟩
  · by_cases hb : b = p
    · rw [hb, upd_same] at q
      cases q
      rw [hb]
      exact h5
    · rw [upd_ne hb] at q
      exact R.same b o q
  · rw [upd_ne (fun z => by rw [z, h3] at g; cases g)]
    exact R.apart b o g
  · rcases set_get hx with ⟨rfl, rfl⟩ | ⟨ne, hx⟩
    · exact ⟨_, h1, dq⟩
    · have q := R.sl j x hx
      cases x with
      | un => exact True.intro
      | d x =>
        obtain ⟨v, a, b⟩ := q
        exact ⟨v, a, b.mono sF⟩
      | o ys =>
        obtain ⟨p', vs', g1, g2, g3, g4, g5, g6⟩ := q
        have np : p' ≠ p := fun z => ne (R.sep j i ys xs p hx h (by rw [← z]; exact g1) h1)
        exact ⟨p', vs', g1, by rw [upd_ne np]; exact g2, g3, g4, g5, g6.mono sF⟩
      | pl => exact q
      | sc ns =>
        obtain ⟨a, g1, g2⟩ := q
        exact ⟨a, g1, sF.seq g2⟩
      | tb p' qs xss => exact q.tbUp rfl sF fun r o hr g1 g2 g3 g4 => ⟨by rw [upd_ne (fun z => R.tbs j i _ _ r hx h hr ne (occ_o rfl (by rw [z]; exact h1)))]; exact g1, g2, g3, g4⟩
  · rcases set_get hj with ⟨_, z⟩ | ⟨_, hj⟩
    · cases z
    · rcases set_get hk with ⟨_, z⟩ | ⟨_, hk⟩
      · cases z
      · exact R.sep j k ys zs r hj hk e1 e2
  · obtain ⟨g1, g2, g3⟩ := R.pool a ha
    exact ⟨by rw [upd_ne (fun z => h4 (by rw [← z]; exact ha))]; exact g1, g2, g3⟩
  · rcases set_get hj with ⟨_, rfl⟩ | ⟨_, hj⟩
    · cases hr
    · rcases set_get hk with ⟨_, rfl⟩ | ⟨_, hk⟩
      · rcases oc with z | ⟨⟨_, z⟩, _⟩
        · cases z
        · cases z
      · exact R.tbs j k x y r hj hk hr jk oc
/-- what is new at p -/
structure Nu (G : Hp) (P : Option Addr) (F : Hp) (σ : St) (s : S) (p : Addr) : Prop where
  f : F p = none
  g : G p = none
  np : P ≠ some p
  sl : ∀ (i : Nat) (xs : List PyData), s.e[i]? = some (.o xs) → σ[i]? ≠ some (some (.ref p))
  tb : ∀ (i : Nat) (x : Sl), s.e[i]? = some x → p ∉ tads x
theorem Rep.nu {p : Addr} (R : Rep K G P F H σ s) (h : H p = none) : Nu G P F σ s p where
  f := R.same.free h
  g := R.keep.free h
  np := fun z => by
    rw [(R.pool p z).2.2] at h
    cases h
  sl := fun i xs hx e => by
    obtain ⟨q, vs, h1, h2, h3, h4, h5, h6⟩ := R.sl i _ hx
    rw [e] at h1
    cases h1
    rw [h5] at h
    cases h
  tb := fun i x hx z => by
    obtain ⟨_, _, _, o, q⟩ := tad_at (R.sl i x hx) z
    rw [h] at q
    cases q
/-- a new list is frozen -/
theorem Rep.take {p : Addr} {vs : List V} {xs : List PyData} (R : Rep K G P F H σ s) (n : Nu G P F σ s p) (h : H p = some (.lst vs)) (d : DqA K F vs xs) :
    Rep K G P (upd F p (.lst vs)) H σ s ∧ Dq K (upd F p (.lst vs)) (.ref p) (.list xs) := by
  have sF : Same F (upd F p (.lst vs)) := same_new n.f
  refine ⟨⟨fun b o q => ?_, R.keep, fun b o g => ?_, fun j x hx => ?_, R.sep, fun a ha => ?_, R.len, R.tbs, R.tab⟩, .lst upd_same (d.mono sF)⟩
  · by_cases hb : b = p
    · rw [hb, upd_same] at q
      cases q
      rw [hb]
      exact h
    · rw [upd_ne hb] at q
      exact R.same b o q
  · rw [upd_ne (fun z => by rw [z, n.g] at g; cases g)]
    exact R.apart b o g
  · have q := R.sl j x hx
    cases x with
    | un => exact True.intro
    | d x =>
      obtain ⟨v, a, b⟩ := q
      exact ⟨v, a, b.mono sF⟩
    | o ys =>
      obtain ⟨p', vs', g1, g2, g3, g4, g5, g6⟩ := q
      have np : p' ≠ p := fun z => n.sl j ys hx (by rw [← z]; exact g1)
      exact ⟨p', vs', g1, by rw [upd_ne np]; exact g2, g3, g4, g5, g6.mono sF⟩
    | pl => exact q
    | sc ns =>
      obtain ⟨a, g1, g2⟩ := q
      exact ⟨a, g1, sF.seq g2⟩
    | tb p' qs xss => exact q.tbUp rfl sF fun r o hr g1 g2 g3 g4 => ⟨by rw [upd_ne (fun z => n.tb j _ hx (by rw [← z]; exact hr))]; exact g1, g2, g3, g4⟩
  · obtain ⟨g1, g2, g3⟩ := R.pool a ha
    exact ⟨by rw [upd_ne (fun z => n.np (by rw [← z]; exact ha))]; exact g1, g2, g3⟩
theorem set_self {σ : St} {i : Nat} {v : V} (h : i < σ.length) : (σ.set i (some v))[i]? = some (some v) := List.getElem?_set_self h
/-- data stored -/
theorem put_len {σ : St} {s : S} {i : Nat} {v : Option V} {x : Sl} (h : σ.length = s.e.length) : (σ.set i v).length = (s.put i x).e.length := by
  show (σ.set i v).length = (s.e.set i x).length
  rw [List.length_set, List.length_set, h]
theorem put_lt {s : S} {i : Nat} {x y : Sl} (h : (s.put i x).e[i]? = some y) : i < s.e.length := by
  have h2 := (List.getElem?_eq_some_iff.mp h).1
  have e : (s.put i x).e.length = s.e.length := List.length_set
  omega
theorem Rep.setD {i : Nat} {v : V} {x : PyData} (R : Rep K G P F H σ s) (d : Dq K F v x) : Rep K G P F H (σ.set i (some v)) (s.put i (.d x)) := by
  refine ⟨R.same, R.keep, R.apart, fun j y hy => ?_, fun j k ys zs r hj hk e1 e2 => ?_, R.pool, put_len R.len, fun j k y z r hj hk hr jk oc => ?_, R.tab⟩
  · have hy0 := hy
    rcases set_get hy with ⟨rfl, rfl⟩ | ⟨ne, hy⟩
    · exact ⟨v, set_self (by rw [R.len]; exact put_lt hy0), d⟩
    · have q := R.sl j y hy
      cases y with
      | un => exact True.intro
      | d y =>
        obtain ⟨u, a, b⟩ := q
        exact ⟨u, by rw [List.getElem?_set_ne (Ne.symm ne)]; exact a, b⟩
      | o ys =>
        obtain ⟨p', vs', g1, g2⟩ := q
        exact ⟨p', vs', by rw [List.getElem?_set_ne (Ne.symm ne)]; exact g1, g2⟩
      | pl =>
        obtain ⟨a, h1, h2⟩ := q
        exact ⟨a, h1, by rw [List.getElem?_set_ne (Ne.symm ne)]; exact h2⟩
      | sc ns =>
        obtain ⟨a, h1, h2⟩ := q
        exact ⟨a, by rw [List.getElem?_set_ne (Ne.symm ne)]; exact h1, h2⟩
      | tb p' qs xss => exact q.tbUp (List.getElem?_set_ne (Ne.symm ne)) (Same.refl F) fun r o hr g1 g2 g3 g4 => ⟨g1, g2, g3, g4⟩
  · rcases set_get hj with ⟨_, z⟩ | ⟨nj, hj⟩
    · cases z
    · rcases set_get hk with ⟨_, z⟩ | ⟨nk, hk⟩
      · cases z
      · rw [List.getElem?_set_ne (Ne.symm nj)] at e1
        rw [List.getElem?_set_ne (Ne.symm nk)] at e2
        exact R.sep j k ys zs r hj hk e1 e2
  · rcases set_get hj with ⟨_, rfl⟩ | ⟨_, hj⟩
    · cases hr
    · rcases set_get hk with ⟨_, rfl⟩ | ⟨nk, hk⟩
      · rcases oc with z | ⟨⟨_, z⟩, _⟩
        · cases z
        · cases z
      · refine R.tbs j k y z r hj hk hr jk ?_
        rcases oc with q | ⟨q, q2⟩
        · exact .inl q
        · rw [List.getElem?_set_ne (Ne.symm nk)] at q2
          exact .inr ⟨q, q2⟩
/-- a new list stored, one's own -/
theorem Rep.setO {i : Nat} {p : Addr} {vs : List V} {xs : List PyData} (R : Rep K G P F H σ s) (n : Nu G P F σ s p) (h : H p = some (.lst vs)) (d : DqA K F vs xs) : Rep K G P F H (σ.set i (some (.ref p))) (s.put i (.o xs)) := by
  refine ⟨R.same, R.keep, R.apart, fun j y hy => ?_, fun j k ys zs r hj hk e1 e2 => ?_, R.pool, put_len R.len, fun j k y z r hj hk hr jk oc => ?_, R.tab⟩
  · have hy0 := hy
    rcases set_get hy with ⟨rfl, rfl⟩ | ⟨ne, hy⟩
    · exact ⟨p, vs, set_self (by rw [R.len]; exact put_lt hy0), n.f, n.g, n.np, h, d⟩
    · have q := R.sl j y hy
      cases y with
      | un => exact True.intro
      | d y =>
        obtain ⟨u, a, b⟩ := q
        exact ⟨u, by rw [List.getElem?_set_ne (Ne.symm ne)]; exact a, b⟩
      | o ys =>
        obtain ⟨p', vs', g1, g2⟩ := q
        exact ⟨p', vs', by rw [List.getElem?_set_ne (Ne.symm ne)]; exact g1, g2⟩
      | pl =>
        obtain ⟨a, h1, h2⟩ := q
        exact ⟨a, h1, by rw [List.getElem?_set_ne (Ne.symm ne)]; exact h2⟩
      | sc ns =>
        obtain ⟨a, h1, h2⟩ := q
        exact ⟨a, by rw [List.getElem?_set_ne (Ne.symm ne)]; exact h1, h2⟩
      | tb p' qs xss => exact q.tbUp (List.getElem?_set_ne (Ne.symm ne)) (Same.refl F) fun r o hr g1 g2 g3 g4 => ⟨g1, g2, g3, g4⟩
  · have hj0 := hj
    have hk0 := hk
    rcases set_get hj with ⟨rfl, z⟩ | ⟨nj, hj2⟩
    · rcases set_get hk with ⟨rfl, z2⟩ | ⟨nk, hk2⟩
      · rfl
      · rw [List.getElem?_set_ne (Ne.symm nk)] at e2
        rw [set_self (by rw [R.len]; exact put_lt hj0)] at e1
        cases e1
        exact absurd e2 (n.sl k zs hk2)
    · rw [List.getElem?_set_ne (Ne.symm nj)] at e1
      rcases set_get hk with ⟨rfl, z2⟩ | ⟨nk, hk2⟩
      · rw [set_self (by rw [R.len]; exact put_lt hk0)] at e2
        cases e2
        exact absurd e1 (n.sl j ys hj2)
      · rw [List.getElem?_set_ne (Ne.symm nk)] at e2
        exact R.sep j k ys zs r hj2 hk2 e1 e2
  · rcases set_get hj with ⟨_, rfl⟩ | ⟨_, hj2⟩
    · cases hr
    · have hk0 := hk
      rcases set_get hk with ⟨rfl, rfl⟩ | ⟨nk, hk⟩
      · rcases oc with z | ⟨_, z⟩
        · cases z
        · rw [set_self (by rw [R.len]; exact put_lt hk0)] at z
          cases z
          exact n.tb j y hj2 hr
      · refine R.tbs j k y z r hj2 hk hr jk ?_
        rcases oc with q | ⟨q, q2⟩
        · exact .inl q
        · rw [List.getElem?_set_ne (Ne.symm nk)] at q2
          exact .inr ⟨q, q2⟩
/-- a slot's own list changed -/
theorem Rep.wrO {i : Nat} {p : Addr} {ws : List V} {xs ys : List PyData} (R : Rep K G P F H σ s) (h : s.e[i]? = some (.o xs)) (e : σ[i]? = some (some (.ref p))) (d : DqA K F ws ys) :
    Rep K G P F (upd H p (.lst ws)) σ (s.put i (.o ys)) := by
  obtain ⟨p0, vs0, h1, h2, h3, h4, h5, h6⟩ := R.sl i _ h
  rw [e] at h1
  cases h1
  refine ⟨fun b o q => ?_, fun b o q => ?_, R.apart, fun j y hy => ?_, fun j k us zs r hj hk e1 e2 => ?_, fun a ha => ?_, by rw [R.len]; exact (List.length_set).symm, fun j k y z r hj hk hr jk oc => ?_, R.tab⟩
  · rw [upd_ne (fun z => by rw [z, h2] at q; cases q)]
    exact R.same b o q
  · rw [upd_ne (fun z => by rw [z, h3] at q; cases q)]
    exact R.keep b o q
  · rcases set_get hy with ⟨rfl, rfl⟩ | ⟨ne, hy⟩
    · exact ⟨p, ws, e, h2, h3, h4, upd_same, d⟩
    · have q := R.sl j y hy
      cases y with
      | un => exact True.intro
      | d y => exact q
      | o us =>
        obtain ⟨p', vs', g1, g2, g3, g4, g5, g6⟩ := q
        have np : p' ≠ p := fun z => ne (R.sep j i us xs p hy h (by rw [← z]; exact g1) e)
        exact ⟨p', vs', g1, g2, g3, g4, by rw [upd_ne np]; exact g5, g6⟩
      | pl => exact q
      | sc ns => exact q
      | tb p' qs xss => exact SlOk.tbUp (F := F) (F' := F) q rfl (Same.refl F) fun r o hr g1 g2 g3 g4 => ⟨g1, g2, g3, by rw [upd_ne (fun z => R.tbs j i _ _ r hy h hr ne (occ_o rfl (by rw [z]; exact e)))]; exact g4⟩
  · have hj' : ∃ us', s.e[j]? = some (.o us') := by
      rcases set_get hj with ⟨rfl, _⟩ | ⟨_, hj⟩
      · exact ⟨_, h⟩
      · exact ⟨_, hj⟩
    have hk' : ∃ us', s.e[k]? = some (.o us') := by
      rcases set_get hk with ⟨rfl, _⟩ | ⟨_, hk⟩
      · exact ⟨_, h⟩
      · exact ⟨_, hk⟩
    obtain ⟨a, ha⟩ := hj'
    obtain ⟨b, hb⟩ := hk'
    exact R.sep j k a b r ha hb e1 e2
  · obtain ⟨g1, g2, g3⟩ := R.pool a ha
    exact ⟨g1, g2, by rw [upd_ne (fun z => h4 (by rw [← z]; exact ha))]; exact g3⟩
  · rcases set_get hj with ⟨_, rfl⟩ | ⟨_, hj⟩
    · cases hr
    · rcases set_get hk with ⟨e4, e5⟩ | ⟨nk, hk⟩
      · rcases oc with z | ⟨_, z⟩
        · rw [e5] at z
          cases z
        · exact R.tbs j i y _ r hj h hr (by rw [← e4]; exact jk) (occ_o rfl (by rw [← e4]; exact z))
      · exact R.tbs j k y z r hj hk hr jk oc
/-- a table's rows as frozen data -/
theorem Rep.rowsD : ∀ {qs : List Addr} {xss : List (List PyData)} {F1 : Hp}, RowsOk K G P F H qs xss → Same F F1 → qs.Nodup → (∀ q, q ∈ qs → F1 q = none) → (∀ b o, F1 b = some o → H b = some o) →
    ∃ F2, Same F1 F2 ∧ (∀ b o, F2 b = some o → H b = some o) ∧ DqA K F2 (qs.map V.ref) (xss.map .list) ∧ ∀ b, b ∉ qs → F2 b = F1 b
  | [], _, F1, h, e, nd, hn, hs => by
    cases h
    exact ⟨F1, Same.refl F1, hs, .nil, fun _ _ => rfl⟩
  | q :: qs, _, F1, h, e, nd, hn, hs => by
    cases h with
    | @cons _ vs xs _ xss h1 h2 h3 h4 h5 h6 =>
      have nq : q ∉ qs := (List.nodup_cons.mp nd).1
      have e1 : Same F1 (upd F1 q (.lst vs)) := same_new (hn q List.mem_cons_self)
      obtain ⟨F2, a, b, c, d⟩ := Rep.rowsD (F1 := upd F1 q (.lst vs)) h6 (e.trans e1) (List.nodup_cons.mp nd).2 (fun r hr => by
        rw [upd_ne (fun z => nq (by rw [← z]; exact hr))]
        exact hn r (List.mem_cons_of_mem _ hr)) (fun b o z => by
        by_cases hb : b = q
        · rw [hb, upd_same] at z
          cases z
          rw [hb]
          exact h4
        · rw [upd_ne hb] at z
          exact hs b o z)
      exact ⟨F2, e1.trans a, b, .cons (.lst (a _ _ upd_same) (h5.mono ((e.trans e1).trans a))) c, fun r hr => by
        rw [d r (fun z => hr (List.mem_cons_of_mem _ z)), upd_ne (fun z => hr (by rw [z]; exact List.mem_cons_self))]⟩
/-- a slot's table is frozen -/
theorem Rep.freezeT {i : Nat} {p : Addr} {qs : List Addr} {xss : List (List PyData)} (R : Rep K G P F H σ s) (h : s.e[i]? = some (.tb p qs xss)) : σ[i]? = some (some (.ref p)) ∧
    ∃ F', Same F F' ∧ Rep K G P F' H σ (s.put i (.d (.list (xss.map .list)))) ∧ Dq K F' (.ref p) (.list (xss.map .list)) := by
  have q0 := R.sl i _ h
  obtain ⟨h1, h2, h3, h4, h5, h6, h7⟩ := q0
  refine ⟨h1, ?_⟩
  have np : p ∉ qs := (List.nodup_cons.mp h6).1
  obtain ⟨F2, a, b, c, d⟩ := Rep.rowsD (F1 := F) h7 (Same.refl F) (List.nodup_cons.mp h6).2 (fun q hq => (h7.at' q hq).1) R.same
  have pF2 : F2 p = none := by rw [d p np]; exact h2
  have e3 : Same F2 (upd F2 p (.lst (qs.map V.ref))) := same_new pF2
  have e : Same F (upd F2 p (.lst (qs.map V.ref))) := a.trans e3
  have out : ∀ r, r ∉ p :: qs → (upd F2 p (.lst (qs.map V.ref))) r = F r := fun r hr => by
    rw [upd_ne (fun z => hr (by rw [z]; exact List.mem_cons_self)), d r (fun z => hr (List.mem_cons_of_mem _ z))]
  have dq : Dq K (upd F2 p (.lst (qs.map V.ref))) (.ref p) (.list (xss.map .list)) := .lst upd_same (c.mono e3)
  refine ⟨_, e, ⟨fun b' o q => ?_, R.keep, fun b' o g => ?_, fun j x hx => ?_, fun j k ys zs r hj hk e1 e2 => ?_, fun a' ha => ?_, by rw [R.len]; exact (List.length_set).symm, fun j k x y r hj hk hr jk oc => ?_, R.tab⟩, dq⟩
  · by_cases hb : b' = p
    · rw [hb, upd_same] at q
      cases q
      rw [hb]
      exact h5
    · rw [upd_ne hb] at q
      exact b b' o q
  · rw [out b' (fun z => by
      obtain ⟨_, q2, _⟩ := tad_at (R.sl i _ h) z
      rw [q2] at g
      cases g)]
    exact R.apart b' o g
  · rcases set_get hx with ⟨rfl, rfl⟩ | ⟨ne, hx⟩
    · exact ⟨_, h1, dq⟩
    · have q := R.sl j x hx
      cases x with
      | un => exact True.intro
      | d x =>
        obtain ⟨v, a, b⟩ := q
        exact ⟨v, a, b.mono e⟩
      | o ys =>
        obtain ⟨p', vs', g1, g2, g3, g4, g5, g6⟩ := q
        exact ⟨p', vs', g1, by rw [out p' (fun z => R.tbs i j _ _ p' h hx z (Ne.symm ne) (occ_o rfl g1))]; exact g2, g3, g4, g5, g6.mono e⟩
      | pl => exact q
      | sc ns =>
        obtain ⟨a, g1, g2⟩ := q
        exact ⟨a, g1, e.seq g2⟩
      | tb p' qs' xss' => exact q.tbUp rfl e fun r o hr g1 g2 g3 g4 => ⟨by rw [out r (fun z => R.tbs i j _ _ r h hx z (Ne.symm ne) (.inl hr))]; exact g1, g2, g3, g4⟩
  · rcases set_get hj with ⟨_, z⟩ | ⟨_, hj⟩
    · cases z
    · rcases set_get hk with ⟨_, z⟩ | ⟨_, hk⟩
      · cases z
      · exact R.sep j k ys zs r hj hk e1 e2
  · obtain ⟨g1, g2, g3⟩ := R.pool a' ha
    exact ⟨by rw [out a' (fun z => (tad_at (R.sl i _ h) z).2.2.1 (by rw [ha]))]; exact g1, g2, g3⟩
  · rcases set_get hj with ⟨_, rfl⟩ | ⟨_, hj⟩
    · cases hr
    · rcases set_get hk with ⟨_, rfl⟩ | ⟨_, hk⟩
      · rcases oc with z | ⟨⟨_, z⟩, _⟩
        · cases z
        · cases z
      · exact R.tbs j k x y r hj hk hr jk oc
end

/-! ### readings by data -/
abbrev DE := S → (PyData → S → Prop) → Prop
abbrev DA := S → (List PyData → S → Prop) → Prop
abbrev DT := S → (Bool → S → Prop) → Prop
def tE (K : PySem.W.Frag) (w : DE) : TE := fun σ H Q => ∃ G P F s Φ, Rep K G P F H σ s ∧ w s Φ ∧ ∀ v F' H' s' x, Rep K G P F' H' σ s' → Same F F' → Dq K F' v x → Φ x s' → Q v H'
def tA (K : PySem.W.Frag) (w : DA) : TA := fun σ H Q => ∃ G P F s Φ, Rep K G P F H σ s ∧ w s Φ ∧ ∀ vs F' H' s' xs, Rep K G P F' H' σ s' → Same F F' → DqA K F' vs xs → Φ xs s' → Q vs H'
def tT (K : PySem.W.Frag) (w : DT) : TT := fun σ H Q => ∃ G P F s Φ, Rep K G P F H σ s ∧ w s Φ ∧ ∀ b F' H' s', Rep K G P F' H' σ s' → Same F F' → Φ b s' → Q b H'
/-- a new list -/
def tL (K : PySem.W.Frag) (w : DA) : TE := fun σ H Q => ∃ G P F s Φ, Rep K G P F H σ s ∧ w s Φ ∧
  ∀ p vs F' H' s' xs, Rep K G P F' H' σ s' → Same F F' → Nu G P F' σ s' p → H' p = some (.lst vs) → DqA K F' vs xs → Φ xs s' → Q (.ref p) H'
abbrev XE (X : Cx) (e : Expr) (w : DE) : Prop := PE X e (tE X.K w)
abbrev XA (X : Cx) (es : List Expr) (w : DA) : Prop := PA X es (tA X.K w)
abbrev XT (X : Cx) (e : Expr) (w : DT) : Prop := PT X e (tT X.K w)
abbrev XW (X : Cx) (e : Expr) (w : DT) : Prop := PW X e (tT X.K w)
abbrev XL (X : Cx) (e : Expr) (w : DA) : Prop := PE X e (tL X.K w)
section
variable {X : Cx} {e a b c : Expr} {es rest : List Expr}
theorem pe_imp {t t' : TE} (h : PE X e t) (i : ∀ σ H Q, t' σ H Q → t σ H Q) : PE X e t' := ⟨fun pins s σ H Q I q => h.run pins s σ H Q I (i _ _ _ q)⟩
theorem pa_imp {t t' : TA} (h : PA X es t) (i : ∀ σ H Q, t' σ H Q → t σ H Q) : PA X es t' := ⟨fun pos pins s σ H Q I q => h.run pos pins s σ H Q I (i _ _ _ q)⟩
theorem pt_imp {t t' : TT} (h : PT X e t) (i : ∀ σ H Q, t' σ H Q → t σ H Q) : PT X e t' := ⟨fun pins s σ H Q I q => h.run pins s σ H Q I (i _ _ _ q)⟩
theorem pw_imp {t t' : TT} (h : PW X e t) (i : ∀ σ H Q, t' σ H Q → t σ H Q) : PW X e t' := ⟨fun wh pins s σ H Q I q => h.run wh pins s σ H Q I (i _ _ _ q)⟩

/-! names, constants -/
@[simp] def wC (x : PyData) : DE := fun s Φ => Φ x s
@[simp] def wVar (i : Nat) : DE := fun s Φ => match s.e[i]? with
  | some (.d x) => Φ x s
  | some (.o xs) => Φ (.list xs) (s.put i (.d (.list xs)))
  | some (.tb _ _ xss) => Φ (.list (xss.map .list)) (s.put i (.d (.list (xss.map .list))))
  | _ => False
theorem c_of {K : PySem.W.Frag} {v : V} {x : PyData} (d : ∀ F, Dq K F v x) (σ : St) (H : Hp) (Q : VK) (h : tE K (wC x) σ H Q) : Q v H := by
  obtain ⟨G, P, F, s, Φ, R, h, k⟩ := h
  exact k v F H s x R (Same.refl F) (d F) h
theorem xe_int {i j pos} : XE X (.Constant (.int i) j pos) (wC (.int i)) := pe_imp pe_int (c_of fun _ => .int i)
theorem xe_bl {i j pos} : XE X (.Constant (.bool i) j pos) (wC (.bool i)) := pe_imp pe_bl (c_of fun _ => .bl i)
theorem xe_non {j pos} : XE X (.Constant .none j pos) (wC .none) := pe_imp pe_non (c_of fun _ => .non)
theorem xe_str {x j pos} : XE X (.Constant (.str x) j pos) (wC (.str x)) := pe_imp pe_str (c_of fun _ => .str x)
theorem xe_var (i : Nat) {x : Str} {pos : Pos} (hN : X.N[i]? = some x := by rfl) (hv : Vis X.env.scope x := by first | exact Or.inl rfl | exact Or.inr (Or.inl rfl) | exact Or.inr (Or.inr rfl)) (hd : (x == ("__debug__" : Str)) = false := by decide)
    (hcd : (x == ("__classdict__" : Str)) = false := by decide) : XE X (.Name x pos) (wVar i) := by
  refine pe_imp (pe_var hN hv hd hcd) fun σ H Q h => ?_
  obtain ⟨G, P, F, s, Φ, R, h, k⟩ := h
  unfold wVar at h
  cases hs : s.e[i]? with
  | none =>
    rw [hs] at h
    exact h.elim
  | some x =>
    rw [hs] at h
    cases x with
    | un => exact h.elim
    | pl => exact h.elim
    | sc ns => exact h.elim
    | d x =>
      obtain ⟨v, a, b⟩ := R.sl i _ hs
      exact ⟨v, a, k v F H s x R (Same.refl F) b h⟩
    | o xs =>
      obtain ⟨p, vs, h1, h2, h3, R', d⟩ := R.freeze hs
      exact ⟨_, h1, k _ _ H _ _ R' (same_new h3) d h⟩
    | tb p qs xss =>
      obtain ⟨h1, F', e, R', d⟩ := R.freezeT hs
      exact ⟨_, h1, k _ _ H _ _ R' e d h⟩
/-- a constant of the module -/
theorem xe_glob {x : Str} {v : V} {u : Value} {d : PyData} {pos : Pos} (hg : Gl X x) (hm : X.mg x = some u) (r : RelV v u) (hd : ∀ F, Dq X.K F v d) (hdb : (x == ("__debug__" : Str)) = false := by decide) : XE X (.Name x pos) (wC d) :=
  pe_imp (pe_glob hg hm r hdb) (c_of hd)

/-! operations -/
abbrev W2 := PyData → PyData → (PyData → Prop) → Prop
structure Op2 (K : PySem.W.Frag) (r : R2) (w : W2) : Prop where
  run : ∀ {F H : Hp} {x y : V} {dx dy : PyData} (Q : VK) (Φ : PyData → Prop), Same F H → Dq K F x dx → Dq K F y dy → w dx dy Φ → (∀ v F' H' d, Fresh F H F' H' → Dq K F' v d → Φ d → Q v H') → r x y H Q
def rOr (r r' : R2) : R2 := fun x y H Q => r x y H Q ∨ r' x y H Q
theorem opr_or {f : Value → Value → Sem Value} {r r' : R2} (h : OpR X f r) (h' : OpR X f r') : OpR X f (rOr r r') := fun pins s σ H x y v u Q I rx ry q => by
  rcases q with q | q
  · exact h pins s σ H x y v u Q I rx ry q
  · exact h' pins s σ H x y v u Q I rx ry q
theorem Op2.inl {K : PySem.W.Frag} {r r' : R2} {w : W2} (h : Op2 K r w) : Op2 K (rOr r r') w := ⟨fun Q Φ a b c d e => .inl (h.run Q Φ a b c d e)⟩
theorem Op2.inr {K : PySem.W.Frag} {r r' : R2} {w : W2} (h : Op2 K r' w) : Op2 K (rOr r r') w := ⟨fun Q Φ a b c d e => .inr (h.run Q Φ a b c d e)⟩
theorem Op2.or {K : PySem.W.Frag} {r r' : R2} {w w' v : W2} (h : Op2 K r w) (h' : Op2 K r' w') (i : ∀ x y Φ, v x y Φ → w x y Φ ∨ w' x y Φ) : Op2 K (rOr r r') v := ⟨fun Q Φ a b c d e => by
  rcases i _ _ _ d with d | d
  · exact .inl (h.run Q Φ a b c d e)
  · exact .inr (h'.run Q Φ a b c d e)⟩
@[simp] def wBin (w : W2) (wa wb : DE) : DE := fun s Φ => wa s fun x s1 => wb s1 fun y s2 => w x y fun z => Φ z s2
theorem bin_of {K : PySem.W.Frag} {r : R2} {w : W2} {wa wb : DE} (O : Op2 K r w) (σ : St) (H : Hp) (Q : VK) (h : tE K (wBin w wa wb) σ H Q) : tOp r (tE K wa) (tE K wb) σ H Q := by
  obtain ⟨G, P, F, s, Φ, R, h, k⟩ := h
  refine ⟨G, P, F, s, _, R, h, fun x F1 H1 s1 dx R1 e1 d1 h1 => ⟨G, P, F1, s1, _, R1, h1, fun y F2 H2 s2 dy R2 e2 d2 h2 => ?_⟩⟩
  exact O.run Q _ R2.same (d1.mono e2) d2 h2 fun v F3 H3 d f dq q => k v F3 H3 s2 d (R2.fresh f) ((e1.trans e2).trans f.ff) dq q
theorem xe_op {op : Operator} {r : R2} {w : W2} {wa wb : DE} {pos : Pos} (ho : OpR X (binaryOp op) r) (O : Op2 X.K r w) (ha : XE X a wa) (hb : XE X b wb) : XE X (.BinOp a op b pos) (wBin w wa wb) :=
  pe_imp (pe_op ho ha hb) (bin_of O)
theorem xe_cmp {op : CmpOp} {r : R2} {w : W2} {wa wb : DE} {pos : Pos} (ho : OpR X (compareOp op) r) (O : Op2 X.K r w) (ha : XE X a wa) (hb : XE X b wb) (hm : behindInMarks op b = false := by first | exact nobehind _ (by decide) (by decide) | rfl) :
    XE X (.Compare a [op] [b] pos) (wBin w wa wb) := pe_imp (pe_cmpR ho ha hb hm) (bin_of O)
theorem xe_ixR {r : R2} {w : W2} {wa wb : DE} {pos : Pos} (ho : IxR X r) (O : Op2 X.K r w) (ha : XE X a wa) (hb : XE X b wb) (hs : PlainIx b := by exact fun _ _ => rfl) : XE X (.Subscript a b pos) (wBin w wa wb) :=
  pe_imp (pe_ix ho ha hb hs) (bin_of O)
abbrev W1 := PyData → (PyData → Prop) → Prop
structure Op1 (K : PySem.W.Frag) (r : V → Hp → VK → Prop) (w : W1) : Prop where
  run : ∀ {F H : Hp} {x : V} {dx : PyData} (Q : VK) (Φ : PyData → Prop), Same F H → Dq K F x dx → w dx Φ → (∀ v F' H' d, Fresh F H F' H' → Dq K F' v d → Φ d → Q v H') → r x H Q
@[simp] def wUn (w : W1) (wa : DE) : DE := fun s Φ => wa s fun x s1 => w x fun z => Φ z s1
theorem xe_un {op : UnaryOp} {r : V → Hp → VK → Prop} {w : W1} {wa : DE} {pos : Pos} (ho : UnR X (unaryOp op) r) (O : Op1 X.K r w) (ha : XE X a wa) : XE X (.UnaryOp op a pos) (wUn w wa) :=
  pe_imp (pe_un ho ha) fun σ H Q h => by
    obtain ⟨G, P, F, s, Φ, R, h, k⟩ := h
    refine ⟨G, P, F, s, _, R, h, fun x F1 H1 s1 dx R1 e1 d1 h1 => ?_⟩
    exact O.run Q _ R1.same d1 h1 fun v F3 H3 d f dq q => k v F3 H3 s1 d (R1.fresh f) (e1.trans f.ff) dq q

/-! argument lists, displays -/
@[simp] def wNil : DA := fun s Φ => Φ [] s
@[simp] def wCons (wa : DE) (wr : DA) : DA := fun s Φ => wa s fun x s1 => wr s1 fun xs s2 => Φ (x :: xs) s2
theorem xa_nil : XA X [] wNil := pa_imp pa_nil fun σ H Q h => by
  obtain ⟨G, P, F, s, Φ, R, h, k⟩ := h
  exact k [] F H s [] R (Same.refl F) .nil h
theorem xa_cons {wa : DE} {wr : DA} (ha : XE X e wa) (hr : XA X es wr) (hs : starEach (e :: es) X.env = (false, eval e X.env) :: starEach es X.env := by rfl) : XA X (e :: es) (wCons wa wr) :=
  pa_imp (pa_cons ha hr hs) fun σ H Q h => by
    obtain ⟨G, P, F, s, Φ, R, h, k⟩ := h
    refine ⟨G, P, F, s, _, R, h, fun x F1 H1 s1 dx R1 e1 d1 h1 => ⟨G, P, F1, s1, _, R1, h1, fun xs F2 H2 s2 ds R2 e2 d2 h2 => ?_⟩⟩
    exact k _ F2 H2 s2 _ R2 (e1.trans e2) (.cons (d1.mono e2) d2) h2
@[simp] def wTup (w : DA) : DE := fun s Φ => w s fun xs s1 => xs.length ≤ sizeLine ∧ Φ (.tuple xs) s1
theorem xe_tup {x1 pos} {w : DA} (h : XA X es w) : XE X (.Tuple es x1 pos) (wTup w) := pe_imp (pe_tup h) fun σ H Q h => by
  obtain ⟨G, P, F, s, Φ, R, h, k⟩ := h
  refine ⟨G, P, F, s, _, R, h, fun xs F1 H1 s1 ds R1 e1 d1 h1 => ⟨by rw [d1.length]; exact h1.1, fun p hp => ?_⟩⟩
  have f := Fresh.new (o := .tup xs) R1.same hp
  exact k _ _ _ s1 _ (R1.fresh f) (e1.trans f.ff) (.tup (SqT.of upd_same) (d1.mono f.ff)) h1.2
@[simp] def wLst (w : DA) : DA := fun s Φ => w s fun xs s1 => xs.length ≤ sizeLine ∧ Φ xs s1
theorem nu_new {K : PySem.W.Frag} {G F H : Hp} {P : Option Addr} {σ : St} {s : S} {p : Addr} {o : HO} (R : Rep K G P F H σ s) (hp : H p = none) : Rep K G P F (upd H p o) σ s ∧ Nu G P F σ s p :=
  ⟨R.fresh (Fresh.newH R.same hp), R.nu hp⟩
theorem xl_lst {pos} {w : DA} (h : XA X es w) : XL X (.List es pos) (wLst w) := pe_imp (pe_lst h) fun σ H Q h => by
  obtain ⟨G, P, F, s, Φ, R, h, k⟩ := h
  refine ⟨G, P, F, s, _, R, h, fun xs F1 H1 s1 ds R1 e1 d1 h1 => ⟨by rw [d1.length]; exact h1.1, fun p hp => ?_⟩⟩
  obtain ⟨R2, n⟩ := nu_new (o := .lst xs) R1 hp
  exact k _ _ _ _ s1 _ R2 e1 n upd_same d1 h1.2
/-- a new list as data -/
@[simp] def wFz (w : DA) : DE := fun s Φ => w s fun xs s1 => Φ (.list xs) s1
theorem fz_of {K : PySem.W.Frag} {w : DA} (σ : St) (H : Hp) (Q : VK) (h : tE K (wFz w) σ H Q) : tL K w σ H Q := by
  obtain ⟨G, P, F, s, Φ, R, h, k⟩ := h
  refine ⟨G, P, F, s, _, R, h, fun p vs F1 H1 s1 xs R1 e1 n hp d1 h1 => ?_⟩
  obtain ⟨R2, dq⟩ := R1.take n hp d1
  exact k _ _ _ s1 _ R2 (e1.trans (same_new n.f)) dq h1
theorem xl_fz {w : DA} (h : XL X e w) : XE X e (wFz w) := pe_imp h fz_of

/-! operations that make a list -/
abbrev W2L := PyData → PyData → (List PyData → Prop) → Prop
structure Op2L (K : PySem.W.Frag) (r : R2) (w : W2L) : Prop where
  run : ∀ {F H : Hp} {x y : V} {dx dy : PyData} (Q : VK) (Φ : List PyData → Prop), Same F H → Dq K F x dx → Dq K F y dy → w dx dy Φ → (∀ p vs ds, H p = none → DqA K F vs ds → Φ ds → Q (.ref p) (upd H p (.lst vs))) → r x y H Q
@[simp] def wBinL (w : W2L) (wa wb : DE) : DA := fun s Φ => wa s fun x s1 => wb s1 fun y s2 => w x y fun z => Φ z s2
theorem binL_of {K : PySem.W.Frag} {r : R2} {w : W2L} {wa wb : DE} (O : Op2L K r w) (σ : St) (H : Hp) (Q : VK) (h : tL K (wBinL w wa wb) σ H Q) : tOp r (tE K wa) (tE K wb) σ H Q := by
  obtain ⟨G, P, F, s, Φ, R, h, k⟩ := h
  refine ⟨G, P, F, s, _, R, h, fun x F1 H1 s1 dx R1 e1 d1 h1 => ⟨G, P, F1, s1, _, R1, h1, fun y F2 H2 s2 dy R2 e2 d2 h2 => ?_⟩⟩
  refine O.run Q _ R2.same (d1.mono e2) d2 h2 fun p vs ds hp dq q => ?_
  obtain ⟨R3, n⟩ := nu_new (o := .lst vs) R2 hp
  exact k p vs F2 _ s2 ds R3 (e1.trans e2) n upd_same dq q
theorem xl_op {op : Operator} {r : R2} {w : W2L} {wa wb : DE} {pos : Pos} (ho : OpR X (binaryOp op) r) (O : Op2L X.K r w) (ha : XE X a wa) (hb : XE X b wb) : XL X (.BinOp a op b pos) (wBinL w wa wb) :=
  pe_imp (pe_op ho ha hb) (binL_of O)
/-- one that makes a list, as one that gives data -/
theorem Op2L.op2 {K : PySem.W.Frag} {r : R2} {w : W2L} (O : Op2L K r w) : Op2 K r (fun x y Φ => w x y fun xs => Φ (.list xs)) := ⟨fun {F H x y dx dy} Q Φ e d1 d2 h k => O.run Q _ e d1 d2 h fun p vs ds hp dq q => by
  have f := Fresh.new (o := .lst vs) e hp
  exact k _ _ _ _ f (.lst upd_same (dq.mono f.ff)) q⟩

/-! tests -/
@[simp] def wTst (w : DE) : DT := fun s Φ => w s fun x s1 => match x with
  | .bool b => Φ b s1
  | _ => False
theorem tst_of {K : PySem.W.Frag} {w : DE} (σ : St) (H : Hp) (Q : Bool → Hp → Prop) (h : tT K (wTst w) σ H Q) : tE K w σ H fun x H1 => ∃ k, x = .bl k ∧ Q k H1 := by
  obtain ⟨G, P, F, s, Φ, R, h, k⟩ := h
  refine ⟨G, P, F, s, _, R, h, fun x F1 H1 s1 dx R1 e1 d1 h1 => ?_⟩
  cases dx with
  | bool b =>
    cases d1
    exact ⟨b, rfl, k b F1 H1 s1 R1 e1 h1⟩
  | _ => exact h1.elim
theorem xt_val {w : DE} (h : XE X e w) (he : ∀ whole, isTrue e X.env whole = (do let v ← whole; standAt e.pos; holding [v] (truthy v)) := by intro _; rfl) : XT X e (wTst w) := pt_imp (pt_val h he) tst_of
theorem xt_cmp {op : CmpOp} {r : R2} {w : W2} {wa wb : DE} {pos : Pos} (ho : OpR X (compareOp op) r) (O : Op2 X.K r w) (ha : XE X a wa) (hb : XE X b wb) (hm : behindInMarks op b = false := by first | exact nobehind _ (by decide) (by decide) | rfl) :
    XT X (.Compare a [op] [b] pos) (wTst (wBin w wa wb)) := pt_imp (pt_cmpR ho ha hb hm) fun σ H Q h => by
  obtain ⟨G, P, F, s, Φ, R, h, k⟩ := tst_of σ H Q h
  exact bin_of O σ H _ ⟨G, P, F, s, Φ, R, h, k⟩
@[simp] def wNot (w : DT) : DT := fun s Φ => w s fun b s1 => Φ (!b) s1
theorem xt_not {w : DT} {pos : Pos} (h : XT X a w) : XT X (.UnaryOp .Not a pos) (wNot w) := pt_imp (pt_not h) fun σ H Q h => by
  obtain ⟨G, P, F, s, Φ, R, h, k⟩ := h
  exact ⟨G, P, F, s, _, R, h, fun b F1 H1 s1 R1 e1 h1 => k (!b) F1 H1 s1 R1 e1 h1⟩
@[simp] def wAnd (w u : DT) : DT := fun s Φ => w s fun b s1 => if b = true then u s1 Φ else Φ false s1
@[simp] def wOr (w u : DT) : DT := fun s Φ => w s fun b s1 => if b = true then Φ true s1 else u s1 Φ
theorem and_of {K : PySem.W.Frag} {w u : DT} (σ : St) (H : Hp) (Q : Bool → Hp → Prop) (h : tT K (wAnd w u) σ H Q) : tAnd (tT K w) (tT K u) σ H Q := by
  obtain ⟨G, P, F, s, Φ, R, h, k⟩ := h
  refine ⟨G, P, F, s, _, R, h, fun b F1 H1 s1 R1 e1 h1 => ?_⟩
  cases b with
  | true =>
    rw [if_pos rfl] at h1 ⊢
    exact ⟨G, P, F1, s1, _, R1, h1, fun b F2 H2 s2 R2 e2 h2 => k b F2 H2 s2 R2 (e1.trans e2) h2⟩
  | false =>
    rw [if_neg Bool.false_ne_true] at h1 ⊢
    exact k false F1 H1 s1 R1 e1 h1
theorem or_of {K : PySem.W.Frag} {w u : DT} (σ : St) (H : Hp) (Q : Bool → Hp → Prop) (h : tT K (wOr w u) σ H Q) : tOr (tT K w) (tT K u) σ H Q := by
  obtain ⟨G, P, F, s, Φ, R, h, k⟩ := h
  refine ⟨G, P, F, s, _, R, h, fun b F1 H1 s1 R1 e1 h1 => ?_⟩
  cases b with
  | false =>
    rw [if_neg Bool.false_ne_true] at h1 ⊢
    exact ⟨G, P, F1, s1, _, R1, h1, fun b F2 H2 s2 R2 e2 h2 => k b F2 H2 s2 R2 (e1.trans e2) h2⟩
  | true =>
    rw [if_pos rfl] at h1 ⊢
    exact k true F1 H1 s1 R1 e1 h1
theorem xw_and1 {w : DT} {pos : Pos} (h : XT X a w) : XW X (.BoolOp .And [a] pos) w := pw_and1 h
theorem xw_or1 {w : DT} {pos : Pos} (h : XT X a w) : XW X (.BoolOp .Or [a] pos) w := pw_or1 h
theorem xw_and {w u : DT} {pos : Pos} (ha : XT X a w) (hb : XW X (.BoolOp .And (b :: rest) pos) u) : XW X (.BoolOp .And (a :: b :: rest) pos) (wAnd w u) := pw_imp (pw_and ha hb) and_of
theorem xw_or {w u : DT} {pos : Pos} (ha : XT X a w) (hb : XW X (.BoolOp .Or (b :: rest) pos) u) : XW X (.BoolOp .Or (a :: b :: rest) pos) (wOr w u) := pw_imp (pw_or ha hb) or_of
theorem xw_t {w : DT} (h : XW X e w) : XT X e w := PW.pt h
/-! the same as values: True and False -/
@[simp] def wAndV (w u : DE) : DE := fun s Φ => w s fun x s1 => match x with
  | .bool b => if b = true then u s1 Φ else Φ (.bool false) s1
  | _ => False
@[simp] def wOrV (w u : DE) : DE := fun s Φ => w s fun x s1 => match x with
  | .bool b => if b = true then Φ (.bool true) s1 else u s1 Φ
  | _ => False
@[simp] def wNotV (w : DE) : DE := fun s Φ => w s fun x s1 => match x with
  | .bool b => Φ (.bool (!b)) s1
  | _ => False
theorem xe_one {op} {w : DE} {pos : Pos} (h : XE X a w) : XE X (.BoolOp op [a] pos) w := pe_one h
theorem xe_and {w u : DE} {pos : Pos} (ha : XE X a w) (hb : XE X (.BoolOp .And (b :: rest) pos) u) : XE X (.BoolOp .And (a :: b :: rest) pos) (wAndV w u) := pe_imp (pe_and ha hb) fun σ H Q h => by
  obtain ⟨G, P, F, s, Φ, R, h, k⟩ := h
  refine ⟨G, P, F, s, _, R, h, fun x F1 H1 s1 dx R1 e1 d1 h1 => ?_⟩
  cases dx with
  | bool b =>
    cases d1
    refine ⟨b, rfl, ?_⟩
    cases b with
    | true =>
      rw [if_pos rfl]
      exact ⟨G, P, F1, s1, _, R1, h1, fun y F2 H2 s2 dy R2 e2 d2 h2 => k y F2 H2 s2 dy R2 (e1.trans e2) d2 h2⟩
    | false =>
      rw [if_neg Bool.false_ne_true]
      exact k _ F1 H1 s1 _ R1 e1 (.bl false) h1
  | _ => exact h1.elim
theorem xe_or {w u : DE} {pos : Pos} (ha : XE X a w) (hb : XE X (.BoolOp .Or (b :: rest) pos) u) : XE X (.BoolOp .Or (a :: b :: rest) pos) (wOrV w u) := pe_imp (pe_or ha hb) fun σ H Q h => by
  obtain ⟨G, P, F, s, Φ, R, h, k⟩ := h
  refine ⟨G, P, F, s, _, R, h, fun x F1 H1 s1 dx R1 e1 d1 h1 => ?_⟩
  cases dx with
  | bool b =>
    cases d1
    refine ⟨b, rfl, ?_⟩
    cases b with
    | false =>
      rw [if_neg Bool.false_ne_true]
      exact ⟨G, P, F1, s1, _, R1, h1, fun y F2 H2 s2 dy R2 e2 d2 h2 => k y F2 H2 s2 dy R2 (e1.trans e2) d2 h2⟩
    | true =>
      rw [if_pos rfl]
      exact k _ F1 H1 s1 _ R1 e1 (.bl true) h1
  | _ => exact h1.elim
theorem xe_not {w : DE} {pos : Pos} (ha : XE X a w) : XE X (.UnaryOp .Not a pos) (wNotV w) := pe_imp (pe_not ha) fun σ H Q h => by
  obtain ⟨G, P, F, s, Φ, R, h, k⟩ := h
  refine ⟨G, P, F, s, _, R, h, fun x F1 H1 s1 dx R1 e1 d1 h1 => ?_⟩
  cases dx with
  | bool b =>
    cases d1
    exact ⟨b, rfl, k _ F1 H1 s1 _ R1 e1 (.bl _) h1⟩
  | _ => exact h1.elim
@[simp] def wIfE (t : DT) (w u : DE) : DE := fun s Φ => t s fun b s1 => if b = true then w s1 Φ else u s1 Φ
theorem xe_if {t : DT} {w u : DE} {pos : Pos} (hc : XT X c t) (ha : XE X a w) (hb : XE X b u) : XE X (.IfExp c a b pos) (wIfE t w u) := pe_imp (pe_ifExp hc ha hb) fun σ H Q h => by
  obtain ⟨G, P, F, s, Φ, R, h, k⟩ := h
  refine ⟨G, P, F, s, _, R, h, fun b F1 H1 s1 R1 e1 h1 => ?_⟩
  cases b with
  | true =>
    rw [if_pos rfl] at h1 ⊢
    exact ⟨G, P, F1, s1, _, R1, h1, fun y F2 H2 s2 dy R2 e2 d2 h2 => k y F2 H2 s2 dy R2 (e1.trans e2) d2 h2⟩
  | false =>
    rw [if_neg Bool.false_ne_true] at h1 ⊢
    exact ⟨G, P, F1, s1, _, R1, h1, fun y F2 H2 s2 dy R2 e2 d2 h2 => k y F2 H2 s2 dy R2 (e1.trans e2) d2 h2⟩

/-! calls of built-in functions and types -/
abbrev WN := List PyData → (PyData → Prop) → Prop
structure OpN (K : PySem.W.Frag) (r : List V → Hp → VK → Prop) (w : WN) : Prop where
  run : ∀ {F H : Hp} {xs : List V} {ds : List PyData} (Q : VK) (Φ : PyData → Prop), Same F H → DqA K F xs ds → w ds Φ → (∀ v F' H' d, Fresh F H F' H' → Dq K F' v d → Φ d → Q v H') → r xs H Q
@[simp] def wCB (w : WN) (wa : DA) : DE := fun s Φ => wa s fun xs s1 => w xs fun z => Φ z s1
theorem cb_of {K : PySem.W.Frag} {r : List V → Hp → VK → Prop} {w : WN} {wa : DA} (O : OpN K r w) (σ : St) (H : Hp) (Q : VK) (h : tE K (wCB w wa) σ H Q) : tCB r (tA K wa) σ H Q := by
  obtain ⟨G, P, F, s, Φ, R, h, k⟩ := h
  refine ⟨G, P, F, s, _, R, h, fun xs F1 H1 s1 ds R1 e1 d1 h1 => ?_⟩
  exact O.run Q _ R1.same d1 h1 fun v F3 H3 d f dq q => k v F3 H3 s1 d (R1.fresh f) (e1.trans f.ff) dq q
theorem xe_callB {x : Str} {p pos : Pos} {id : String} {r : List V → Hp → VK → Prop} {w : WN} {wa : DA} (hc : CallR X (.builtin id) r) (O : OpN X.K r w) (hg : Gl X x) (hm : X.mg x = none) (hv : bootBuiltins x = some (.builtin id)) (ha : XA X (e :: es) wa)
    (hn : x ≠ "__name__" := by decide) (hdb : (x == ("__debug__" : Str)) = false := by decide) (he : starEach (e :: es) X.env = (false, eval e X.env) :: starEach es X.env := by rfl) (hpl : (backTo pos (starEach es X.env)).any (·.1) = false := by rfl) :
    XE X (.Call (.Name x p) (e :: es) [] pos) (wCB w wa) := pe_imp (pe_callB hc hg hm hv ha hn hdb he hpl) (cb_of O)
theorem xe_callTy {x : Str} {p pos : Pos} {T : String} {r : List V → Hp → VK → Prop} {w : WN} {wa : DA} (hc : CallR X (.type T) r) (O : OpN X.K r w) (hg : Gl X x) (hm : X.mg x = none) (hv : bootBuiltins x = some (.type T)) (ha : XA X (e :: es) wa)
    (hn : x ≠ "__name__" := by decide) (hdb : (x == ("__debug__" : Str)) = false := by decide) (he : starEach (e :: es) X.env = (false, eval e X.env) :: starEach es X.env := by rfl) (hpl : (backTo pos (starEach es X.env)).any (·.1) = false := by rfl) :
    XE X (.Call (.Name x p) (e :: es) [] pos) (wCB w wa) := pe_imp (pe_callTy hc hg hm hv ha hn hdb he hpl) (cb_of O)
end
end DL
/-! DL, second part: statements, loops, comprehensions, defs. -/
namespace DL
open PySem PySem.Spec L2

structure EN where
  nx : S → Prop
  rt : PyData → S → Prop
  bk : S → Prop := fun _ => False
  ct : S → Prop := fun _ => False
  rl : List PyData → S → Prop := fun _ _ => False
  ex : Str → List PyData → S → Prop := fun _ _ _ => False
/-- a wish about what is raised: the class's name, the error's own data -/
abbrev XWish := Str → List PyData → Hp → L2.St → Hp → Prop
/-- what X takes -/
def wishOf (X : Cx) : WX := fun cls d σ H => ∀ u s', L2.XE X (fun c e σ' H' => c = cls ∧ e = d ∧ σ' = σ ∧ H' = H) u s' → X.xe u s'
theorem takes_wish (X : Cx) : Takes X (wishOf X) := fun u s' ⟨a, B, sI, pins, σ, H, cls, d, e, I, nb, up, sky, na, os, ag, w⟩ => w u s' ⟨a, B, sI, pins, σ, H, cls, d, e, I, nb, up, sky, na, os, ag, rfl, rfl, rfl, rfl⟩
theorem wish_of {X : Cx} {W : WX} (t : Takes X W) {cls : Value} {d : Option Addr} {σ : L2.St} {H : Hp} (w : W cls d σ H) : wishOf X cls d σ H := fun u s' ⟨a, B, sI, pins, σ1, H1, cls1, d1, e, I, nb, up, sky, na, os, ag, e1, e2, e3, e4⟩ => by
  subst e1
  subst e2
  subst e3
  subst e4
  exact t u s' ⟨a, B, sI, pins, _, _, _, _, e, I, nb, up, sky, na, os, ag, w⟩
/-- a wish over data: an error without fields, or with fields told by its own dict -/
def Wsh (mg : Str → Option Value) (W : Value → Option Addr → Prop) (c : Str) (xs : List PyData) (F : Hp) : Prop := ∀ C, mg c = some (.ref C) → (xs = [] → W (.ref C) none) ∧ (xs ≠ [] → ∀ d fs, F d = some (.xd fs) → FldF fs xs → W (.ref C) (some d))
theorem Wsh.imp {mg : Str → Option Value} {W W' : Value → Option Addr → Prop} {c : Str} {xs : List PyData} {F : Hp} (h : Wsh mg W c xs F) (i : ∀ cls d, W cls d → W' cls d) : Wsh mg W' c xs F := fun C gC =>
  ⟨fun e => i _ _ ((h C gC).1 e), fun e d fs a b => i _ _ ((h C gC).2 e d fs a b)⟩
def wX (X : Cx) : XWish := fun c xs F σ H => Wsh X.mg (fun cls d => wishOf X cls d σ H) c xs F
abbrev DS := EN → S → Prop
/-- what is known of the ends -/
structure Beh (K : PySem.W.Frag) (G : Hp) (P : Option Addr) (F : Hp) (Φ : EN) (D : Ends) (W : XWish) : Prop where
  nx : ∀ σ' F' H' s', Rep K G P F' H' σ' s' → Same F F' → Φ.nx s' → D.nx σ' H'
  rt : ∀ v σ' F' H' s' x, Rep K G P F' H' σ' s' → Same F F' → Dq K F' v x → Φ.rt x s' → D.rt v H'
  bk : ∀ σ' F' H' s', Rep K G P F' H' σ' s' → Same F F' → Φ.bk s' → D.bk σ' H'
  ct : ∀ σ' F' H' s', Rep K G P F' H' σ' s' → Same F F' → Φ.ct s' → D.ct σ' H'
  rl : ∀ p vs σ' F' H' s' xs, Rep K G P F' H' σ' s' → Same F F' → Nu G P F' σ' s' p → H' p = some (.lst vs) → DqA K F' vs xs → Φ.rl xs s' → D.rt (.ref p) H'
  ex : ∀ c xs σ' F' H' s', Rep K G P F' H' σ' s' → Same F F' → Φ.ex c xs s' → W c xs F' σ' H'
theorem Beh.up {K : PySem.W.Frag} {G F F' : Hp} {P : Option Addr} {Φ : EN} {D : Ends} {W : XWish} (b : Beh K G P F Φ D W) (e : Same F F') : Beh K G P F' Φ D W :=
  ⟨fun σ' F2 H' s' R e2 => b.nx σ' F2 H' s' R (e.trans e2), fun v σ' F2 H' s' x R e2 => b.rt v σ' F2 H' s' x R (e.trans e2), fun σ' F2 H' s' R e2 => b.bk σ' F2 H' s' R (e.trans e2), fun σ' F2 H' s' R e2 => b.ct σ' F2 H' s' R (e.trans e2),
    fun p vs σ' F2 H' s' xs R e2 => b.rl p vs σ' F2 H' s' xs R (e.trans e2), fun c xs σ' F2 H' s' R e2 => b.ex c xs σ' F2 H' s' R (e.trans e2)⟩
def tS (K : PySem.W.Frag) (W : XWish) (w : DS) : TS := fun D σ H => ∃ G P F s Φ, Rep K G P F H σ s ∧ w Φ s ∧ Beh K G P F Φ D W
abbrev XS (X : Cx) (st : Stmt) (w : DS) : Prop := PS X st (tS X.K (wX X) w)
abbrev XSs (X : Cx) (st : List Stmt) (w : DS) : Prop := PSs X st (tS X.K (wX X) w)
section
variable {X : Cx} {st : Stmt} {sts rest : List Stmt} {e : Expr} {pos : Pos}
theorem ps_imp {t t' : TS} (h : PS X st t) (i : ∀ D σ H, t' D σ H → t D σ H) : PS X st t' := ⟨fun pins s σ H D I q => h.run pins s σ H D I (i _ _ _ q)⟩
theorem pss_imp {t t' : TS} (h : PSs X sts t) (i : ∀ D σ H, t' D σ H → t D σ H) : PSs X sts t' := ⟨fun pins s σ H D I q => h.run pins s σ H D I (i _ _ _ q)⟩
@[simp] def wNext : DS := fun Φ s => Φ.nx s
@[simp] def wSeq (w u : DS) : DS := fun Φ s => w { Φ with nx := u Φ } s
theorem xs_nil : XSs X [] wNext := pss_imp pss_nil fun D σ H h => by
  obtain ⟨G, P, F, s, Φ, R, h, b⟩ := h
  exact b.nx σ F H s R (Same.refl F) h
theorem xs_one {w : DS} (h : XS X st w) : XSs X [st] w := pss_one h
theorem xs_cons {w u : DS} (h : XS X st w) (hr : XSs X rest u) : XSs X (st :: rest) (wSeq w u) := pss_imp (pss_cons h hr) fun D σ H h => by
  obtain ⟨G, P, F, s, Φ, R, h, b⟩ := h
  exact ⟨G, P, F, s, _, R, h, ⟨fun σ' F' H' s' R' e q => ⟨G, P, F', s', Φ, R', q, b.up e⟩, b.rt, b.bk, b.ct, b.rl, b.ex⟩⟩
theorem xs_pass : XS X (.Pass pos) wNext := ps_imp ps_pass fun D σ H h => by
  obtain ⟨G, P, F, s, Φ, R, h, b⟩ := h
  exact b.nx σ F H s R (Same.refl F) h
@[simp] def wBk : DS := fun Φ s => Φ.bk s
@[simp] def wCt : DS := fun Φ s => Φ.ct s
theorem xs_break : XS X (.Break pos) wBk := ps_imp ps_break fun D σ H h => by
  obtain ⟨G, P, F, s, Φ, R, h, b⟩ := h
  exact b.bk σ F H s R (Same.refl F) h
theorem xs_continue : XS X (.Continue pos) wCt := ps_imp ps_continue fun D σ H h => by
  obtain ⟨G, P, F, s, Φ, R, h, b⟩ := h
  exact b.ct σ F H s R (Same.refl F) h
@[simp] def wExp (w : DE) : DS := fun Φ s => w s fun _ s1 => Φ.nx s1
theorem xs_expr {w : DE} (h : XE X e w) (hs : swapsWith e none pos.line X.env = pure false := by rfl) : XS X (.Expr e pos) (wExp w) := ps_imp (ps_expr h hs) fun D σ H h => by
  obtain ⟨G, P, F, s, Φ, R, h, b⟩ := h
  exact ⟨G, P, F, s, _, R, h, fun v F' H' s' x R' e _ q => b.nx σ F' H' s' R' e q⟩
@[simp] def wRet (w : DE) : DS := fun Φ s => w s Φ.rt
theorem xs_ret {w : DE} (h : XE X e w) : XS X (.Return (some e) pos) (wRet w) := ps_imp (ps_ret h) fun D σ H h => by
  obtain ⟨G, P, F, s, Φ, R, h, b⟩ := h
  exact ⟨G, P, F, s, _, R, h, fun v F' H' s' x R' e d q => b.rt v σ F' H' s' x R' e d q⟩
/-- return of a new list -/
@[simp] def wRetL (w : DA) : DS := fun Φ s => w s Φ.rl
theorem xs_retL {w : DA} (h : XL X e w) : XS X (.Return (some e) pos) (wRetL w) := ps_imp (ps_ret h) fun D σ H h => by
  obtain ⟨G, P, F, s, Φ, R, h, b⟩ := h
  exact ⟨G, P, F, s, _, R, h, fun p vs F' H' s' xs R' e n hp d q => b.rl p vs σ F' H' s' xs R' e n hp d q⟩
@[simp] def wRetN : DS := fun Φ s => Φ.rt .none s
theorem xs_retN : XS X (.Return none pos) wRetN := ps_imp ps_retN fun D σ H h => by
  obtain ⟨G, P, F, s, Φ, R, h, b⟩ := h
  exact b.rt _ σ F H s _ R (Same.refl F) .non h
@[simp] def wIfS (t : DT) (w u : DS) : DS := fun Φ s => t s fun b s1 => if b = true then w Φ s1 else u Φ s1
theorem xs_if {c : Expr} {a b : List Stmt} {t : DT} {w u : DS} (hc : XT X c t) (ha : XSs X a w) (hb : XSs X b u) : XS X (.If c a b pos) (wIfS t w u) := ps_imp (ps_if hc ha hb) fun D σ H h => by
  obtain ⟨G, P, F, s, Φ, R, h, b⟩ := h
  refine ⟨G, P, F, s, _, R, h, fun k F' H' s' R' e q => ?_⟩
  cases k with
  | true =>
    rw [if_pos rfl] at q ⊢
    exact ⟨G, P, F', s', Φ, R', q, b.up e⟩
  | false =>
    rw [if_neg Bool.false_ne_true] at q ⊢
    exact ⟨G, P, F', s', Φ, R', q, b.up e⟩

/-! assignments -/
@[simp] def wSet (i : Nat) (w : DE) : DS := fun Φ s => w s fun x s1 => Φ.nx (s1.put i (.d x))
theorem set_of {K : PySem.W.Frag} {W : XWish} {i : Nat} {w : DE} (D : Ends) (σ : L2.St) (H : Hp) (h : tS K W (wSet i w) D σ H) : tAsg (tE K w) (gName i) D σ H := by
  obtain ⟨G, P, F, s, Φ, R, h, b⟩ := h
  exact ⟨G, P, F, s, _, R, h, fun v F' H' s' x R' e d q => b.nx _ F' H' _ (R'.setD d) e q⟩
theorem xs_set {i : Nat} {x : Str} {w : DE} {pos' : Pos} (hN : X.N.Nodup) (hi : X.N[i]? = some x) (hx : Loc X.env.scope x) (h : XE X e w) (hs : swapsWith e (some (.Name x pos')) pos.line X.env = pure false := by rfl)
    (hf : X.fn x = true ∨ X.env.scope.names.lookup x = some .local := by first | exact .inl rfl | exact .inr rfl | assumption) : XS X (.Assign [.Name x pos'] e pos) (wSet i w) := ps_imp (ps_set hN hi hx h hs hf) set_of
@[simp] def wSetO (i : Nat) (w : DA) : DS := fun Φ s => w s fun x s1 => Φ.nx (s1.put i (.o x))
theorem setO_of {K : PySem.W.Frag} {W : XWish} {i : Nat} {w : DA} (D : Ends) (σ : L2.St) (H : Hp) (h : tS K W (wSetO i w) D σ H) : tAsg (tL K w) (gName i) D σ H := by
  obtain ⟨G, P, F, s, Φ, R, h, b⟩ := h
  exact ⟨G, P, F, s, _, R, h, fun p vs F' H' s' x R' e n hp d q => b.nx _ F' H' _ (R'.setO n hp d) e q⟩
theorem xs_setO {i : Nat} {x : Str} {w : DA} {pos' : Pos} (hN : X.N.Nodup) (hi : X.N[i]? = some x) (hx : Loc X.env.scope x) (h : XL X e w) (hs : swapsWith e (some (.Name x pos')) pos.line X.env = pure false := by rfl)
    (hf : X.fn x = true ∨ X.env.scope.names.lookup x = some .local := by first | exact .inl rfl | exact .inr rfl | assumption) : XS X (.Assign [.Name x pos'] e pos) (wSetO i w) := ps_imp (ps_set hN hi hx h hs hf) setO_of
/-- name += e -/
@[simp] def wAug (i : Nat) (f : Int → Int → Int) (w : DE) : DS := fun Φ s => match s.e[i]? with
  | some (.d (.int a)) => w s fun x s1 => match x with
    | .int b => Φ.nx (s1.put i (.d (.int (f a b))))
    | _ => False
  | _ => False
theorem xs_aug {i : Nat} {x : Str} {w : DE} {op : Operator} {f : Int → Int → Int} {pos' : Pos} (hN : X.N.Nodup) (hi : X.N[i]? = some x) (hx : Loc X.env.scope x) (h : XE X e w) (ho : PIp X op (ipI f))
    (hf : X.fn x = true ∨ X.env.scope.names.lookup x = some .local := by first | exact .inl rfl | exact .inr rfl | assumption) : XS X (.AugAssign (.Name x pos') op e pos) (wAug i f w) := ps_imp (ps_aug hN hi hx h ho hf) fun D σ H h => by
  obtain ⟨G, P, F, s, Φ, R, h, b⟩ := h
  unfold wAug at h
  cases hs : s.e[i]? with
  | none =>
    rw [hs] at h
    exact h.elim
  | some z =>
    rw [hs] at h
    cases z with
    | d z =>
      cases z with
      | int a =>
        obtain ⟨v, e1, e2⟩ := R.sl i _ hs
        cases e2
        refine ⟨_, e1, G, P, F, s, _, R, h, fun y F' H' s' y' R' e d q => ?_⟩
        cases y' with
        | int c =>
          cases d
          exact ⟨a, c, rfl, rfl, b.nx _ F' H' _ (R'.setD (.int _)) e q⟩
        | _ => exact q.elim
      | _ => exact h.elim
    | _ => exact h.elim

/-! one's own lists -/
@[simp] def ownAt (s : S) (i : Nat) (k : List PyData → Prop) : Prop := match s.e[i]? with
  | some (.o xs) => k xs
  | _ => False
theorem ownAt_of {s : S} {i : Nat} {k : List PyData → Prop} (h : ownAt s i k) : ∃ xs, s.e[i]? = some (.o xs) ∧ k xs := by
  unfold ownAt at h
  cases hs : s.e[i]? with
  | none =>
    rw [hs] at h
    exact h.elim
  | some z =>
    rw [hs] at h
    cases z with
    | o xs => exact ⟨xs, rfl, h⟩
    | _ => exact h.elim
/-- return of one's own list -/
@[simp] def wRetO (i : Nat) : DS := fun Φ s => ownAt s i fun xs => Φ.rl xs (s.put i .un)
theorem Rep.out {K : PySem.W.Frag} {G F H : Hp} {P : Option Addr} {σ : L2.St} {s : S} {i : Nat} {xs : List PyData} (R : Rep K G P F H σ s) (h : s.e[i]? = some (.o xs)) :
    ∃ p vs, σ[i]? = some (some (.ref p)) ∧ H p = some (.lst vs) ∧ DqA K F vs xs ∧ Rep K G P F H σ (s.put i .un) ∧ Nu G P F σ (s.put i .un) p := by
  obtain ⟨p, vs, h1, h2, h3, h4, h5, h6⟩ := R.sl i _ h
  refine ⟨p, vs, h1, h5, h6, ⟨R.same, R.keep, R.apart, fun j x hx => ?_, fun j k ys zs r hj hk e1 e2 => ?_, R.pool, by rw [R.len]; exact (List.length_set).symm, fun j k x y r hj hk hr jk oc => ?_, R.tab⟩, ⟨h2, h3, h4, fun j ys hj e => ?_, fun j x hj hr => ?_⟩⟩
  · rcases set_get hx with ⟨_, rfl⟩ | ⟨_, hx⟩
    · exact True.intro
    · exact R.sl j x hx
  · rcases set_get hj with ⟨_, z⟩ | ⟨_, hj⟩
    · cases z
    · rcases set_get hk with ⟨_, z⟩ | ⟨_, hk⟩
      · cases z
      · exact R.sep j k ys zs r hj hk e1 e2
  · rcases set_get hj with ⟨_, rfl⟩ | ⟨_, hj⟩
    · cases hr
    · rcases set_get hk with ⟨_, rfl⟩ | ⟨_, hk⟩
      · rcases oc with z | ⟨⟨_, z⟩, _⟩
        · cases z
        · cases z
      · exact R.tbs j k x y r hj hk hr jk oc
  · rcases set_get hj with ⟨_, z⟩ | ⟨ne, hj⟩
    · cases z
    · exact ne (R.sep j i ys xs p hj h e h1)
  · rcases set_get hj with ⟨_, rfl⟩ | ⟨ne, hj⟩
    · cases hr
    · exact R.tbs j i x _ p hj h hr ne (occ_o rfl h1)
theorem xs_retO {i : Nat} {x : Str} {xp : Pos} (hv : PE X (.Name x xp) (tVar i)) : XS X (.Return (some (.Name x xp)) pos) (wRetO i) := ps_imp (ps_ret hv) fun D σ H h => by
  obtain ⟨G, P, F, s, Φ, R, h, b⟩ := h
  obtain ⟨xs, h0, h⟩ := ownAt_of h
  obtain ⟨p, vs, e1, e2, e3, R2, n⟩ := R.out h0
  exact ⟨_, e1, b.rl p vs σ F H _ xs R2 (Same.refl F) n e2 e3 h⟩
/-- the script's items and length -/
@[simp] def scAt (s : S) (i : Nat) (k : List Int → Prop) : Prop := match s.e[i]? with
  | some (.sc ns) => k ns
  | _ => False
theorem scAt_of {s : S} {i : Nat} {k : List Int → Prop} (h : scAt s i k) : ∃ ns, s.e[i]? = some (.sc ns) ∧ k ns := by
  unfold scAt at h
  cases hs : s.e[i]? with
  | none =>
    rw [hs] at h
    exact h.elim
  | some z =>
    rw [hs] at h
    cases z with
    | sc ns => exact ⟨ns, rfl, h⟩
    | _ => exact h.elim
@[simp] def wScLen (i : Nat) : DE := fun s Φ => scAt s i fun ns => Φ (.int ns.length) s
theorem xe_scLen {i : Nat} {x : Str} {xp p1 : Pos} (hg : Gl X "len") (hm : X.mg "len" = none) (hv : PE X (.Name x xp) (tVar i)) (he : starEach [.Name x xp] X.env = (false, eval (.Name x xp) X.env) :: starEach [] X.env := by rfl)
    (hpl : (backTo pos (starEach [] X.env)).any (·.1) = false := by rfl) : XE X (.Call (.Name "len" p1) [.Name x xp] [] pos) (wScLen i) :=
  pe_imp (pe_callB call_len_seq hg hm (by decide +kernel) (pa_cons hv pa_nil he) (by decide) (by decide) he hpl) fun σ H Q h => by
    obtain ⟨G, P, F, s, Φ, R, h, kk⟩ := h
    obtain ⟨ns, h0, h⟩ := scAt_of h
    obtain ⟨a, g1, g2⟩ := R.sl i _ h0
    refine ⟨_, g1, a, _, rfl, .inl (R.same.seq g2), ?_⟩
    rw [List.length_map]
    exact kk _ F H s _ R (Same.refl F) (.int _) h
@[simp] def wScIx (i : Nat) (wb : DE) : DE := fun s Φ => wb s fun k s1 => scAt s1 i fun ns => match k with
  | .int k => 0 ≤ k ∧ k < ns.length ∧ Φ (.int (ns.getD k.toNat 0)) s1
  | _ => False
/-- x.append(e) -/
@[simp] def wApp (i : Nat) (w : DE) : DS := fun Φ s => ownAt s i fun _ => w s fun x s1 => ownAt s1 i fun xs => xs.length < sizeLine ∧ Φ.nx (s1.put i (.o (xs ++ [x])))
theorem app_of {K : PySem.W.Frag} {W : XWish} {i : Nat} {w : DE} (D : Ends) (σ : L2.St) (H : Hp) (h : tS K W (wApp i w) D σ H) : tDrop (tBM K "list" rAppend (tVar i) (tCons (tE K w) tNil)) D σ H := by
  obtain ⟨G, P, F, s, Φ, R, h, b⟩ := h
  obtain ⟨xs0, h0, h⟩ := ownAt_of h
  obtain ⟨p, vs, e1, _, _, _, e5, _⟩ := R.sl i _ h0
  refine ⟨_, e1, .inl ⟨rfl, _, SqL.of e5⟩, G, P, F, s, _, R, h, fun y F' H' s' x R' e d q => ?_⟩
  obtain ⟨xs, h1, hl, q⟩ := ownAt_of q
  obtain ⟨p', vs', g1, _, _, _, g5, g6⟩ := R'.sl i _ h1
  rw [e1] at g1
  cases g1
  exact ⟨_, vs', y, rfl, rfl, g5, by rw [g6.length]; exact hl, b.nx _ F' _ _ (R'.wrO h1 e1 (g6.append (.cons d .nil))) e q⟩
theorem xs_append {i : Nat} {x : Str} {xp p1 p2 : Pos} {a : Expr} {w : DE} (hv : PE X (.Name x xp) (tVar i)) (h : XE X a w)
    (hbase : attributeBase (.Name x xp) "append" X.env (eval (.Name x xp) X.env) = eval (.Name x xp) X.env := by rfl)
    (hfew : ((backTo p2 (starEach [a] X.env)).all (fun x => !x.1) && (backToKw p2 (keywordEach [] X.env)).all (fun x => x.1.isSome) && decide ([a].length + ([] : List Keyword).length + (if ([] : List Keyword).isEmpty then 0 else 1) < 30)) = true := by rfl)
    (hline : (p1.endLine == p2.line) = true := by rfl) (hs : starEach [a] X.env = (false, eval a X.env) :: starEach [] X.env := by rfl) (hplain : (backTo p2 (starEach [] X.env)).any (·.1) = false := by rfl)
    (hsw : swapsWith (.Call (.Attribute (.Name x xp) "append" p1) [a] [] p2) none pos.line X.env = pure false := by rfl) : XS X (.Expr (.Call (.Attribute (.Name x xp) "append" p1) [a] [] p2) pos) (wApp i w) :=
  ps_imp (ps_expr (pe_bm PySem.F.plainAttrs_list PySem.F.slot_list_append PySem.F.type_list_append mt_append hv (pa_cons h pa_nil hs) hbase hfew hline hs hplain) hsw) app_of
/-- x[k] = e -/
@[simp] def wItem (i : Nat) (wi we : DE) : DS := fun Φ s => we s fun x s1 => ownAt s1 i fun _ => wi s1 fun k s2 => ownAt s2 i fun xs => match k with
  | .int k => match ixN xs.length k with
    | some j => Φ.nx (s2.put i (.o (xs.set j x)))
    | none => False
  | _ => False
theorem xs_item {i : Nat} {x : Str} {xp p1 : Pos} {a k : Expr} {wi we : DE} (hv : PE X (.Name x xp) (tVar i)) (hk : XE X k wi) (h : XE X a we)
    (hs : swapsWithSole [.Subscript (.Name x xp) k p1] a pos.line X.env = pure false := by rfl) (hw : swappedStores [.Subscript (.Name x xp) k p1] a X.env = pure none := by rfl)
    (hasg : ∀ u, assign (.Subscript (.Name x xp) k p1) X.env u = (do let ov ← holding [u] (eval (.Name x xp) X.env); let iv ← holding [u, ov] (eval k X.env); standAt p1; holding [u, ov, iv] (setItem ov iv u); release [u, ov, iv] []) := by intro _; rfl) : XS X (.Assign [.Subscript (.Name x xp) k p1] a pos) (wItem i wi we) :=
  ps_imp (ps_asg h (pg_sub hv hk set_list hasg) hs hw) fun D σ H h => by
    obtain ⟨G, P, F, s, Φ, R, h, b⟩ := h
    refine ⟨G, P, F, s, _, R, h, fun v F1 H1 s1 x R1 e1 d1 q1 => ?_⟩
    obtain ⟨xs0, h0, q1⟩ := ownAt_of q1
    obtain ⟨p, vs, g1, _, _, _, g5, _⟩ := R1.sl i _ h0
    refine ⟨_, g1, G, P, F1, s1, _, R1, q1, fun u F2 H2 s2 y R2 e2 d2 q2 => ?_⟩
    obtain ⟨xs, h1, q2⟩ := ownAt_of q2
    obtain ⟨p', vs', k1, _, _, _, k5, k6⟩ := R2.sl i _ h1
    rw [g1] at k1
    cases k1
    cases y with
    | int k =>
      cases d2
      dsimp only at q2
      cases hj : ixN xs.length k with
      | none =>
        rw [hj] at q2
        exact q2.elim
      | some j =>
        rw [hj] at q2
        exact ⟨_, vs', k, j, rfl, rfl, k5, by rw [k6.length]; exact hj, b.nx _ F2 _ _ (R2.wrO h1 g1 (k6.set j (d1.mono e2))) (e1.trans e2) q2⟩
    | _ => exact q2.elim
/-- x[k], x one's own -/
@[simp] def wOwnIx (i : Nat) (wb : DE) : DE := fun s Φ => ownAt s i fun _ => wb s fun k s1 => ownAt s1 i fun xs => match k with
  | .int k => match atI xs k with
    | some d => Φ d s1
    | none => False
  | _ => False
theorem atI_get {α : Type} {xs : List α} {k : Int} {d : α} (h : atI xs k = some d) : ∃ j, ixN xs.length k = some j ∧ xs[j]? = some d := by
  unfold atI at h
  cases e : ixN xs.length k with
  | none =>
    rw [e] at h
    cases h
  | some j =>
    rw [e] at h
    exact ⟨j, rfl, h⟩
theorem atI_up {K : PySem.W.Frag} {F : Hp} {vs : List V} {xs : List PyData} {k : Int} {d : PyData} (h : DqA K F vs xs) (e : atI xs k = some d) : ∃ v, atI vs k = some v ∧ Dq K F v d := by
  obtain ⟨j, e1, e2⟩ := atI_get e
  obtain ⟨v, a, b⟩ := h.get e2
  refine ⟨v, ?_, b⟩
  unfold atI
  rw [h.length, e1]
  exact a
theorem xe_ownIx {i : Nat} {x : Str} {xp : Pos} {k : Expr} {wb : DE} (hv : PE X (.Name x xp) (tVar i)) (hk : XE X k wb) (hs : PlainIx k := by exact fun _ _ => rfl) : XE X (.Subscript (.Name x xp) k pos) (wOwnIx i wb) :=
  pe_imp (pe_ix ix_list hv hk hs) fun σ H Q h => by
    obtain ⟨G, P, F, s, Φ, R, h, kk⟩ := h
    obtain ⟨xs0, h0, h⟩ := ownAt_of h
    obtain ⟨p, vs, g1, _⟩ := R.sl i _ h0
    refine ⟨_, g1, G, P, F, s, _, R, h, fun u F2 H2 s2 y R2 e2 d2 q2 => ?_⟩
    obtain ⟨xs, h1, q2⟩ := ownAt_of q2
    obtain ⟨p', vs', k1, _, _, _, k5, k6⟩ := R2.sl i _ h1
    rw [g1] at k1
    cases k1
    cases y with
    | int k =>
      cases d2
      dsimp only at q2
      cases hj : atI xs k with
      | none =>
        rw [hj] at q2
        exact q2.elim
      | some d =>
        rw [hj] at q2
        obtain ⟨v, a, b⟩ := atI_up k6 hj
        exact ⟨_, vs', k, v, rfl, rfl, SqL.of k5, a, kk v F2 H2 s2 d R2 e2 b q2⟩
    | _ => exact q2.elim
/-- len(x), x one's own -/
@[simp] def wOwnLen (i : Nat) : DE := fun s Φ => ownAt s i fun xs => Φ (.int xs.length) s
theorem xe_ownLen {i : Nat} {x : Str} {xp p1 : Pos} (hg : Gl X "len") (hm : X.mg "len" = none) (hv : PE X (.Name x xp) (tVar i)) (he : starEach [.Name x xp] X.env = (false, eval (.Name x xp) X.env) :: starEach [] X.env := by rfl)
    (hpl : (backTo pos (starEach [] X.env)).any (·.1) = false := by rfl) : XE X (.Call (.Name "len" p1) [.Name x xp] [] pos) (wOwnLen i) :=
  pe_imp (pe_callB call_len_seq hg hm (by decide +kernel) (pa_cons hv pa_nil he) (by decide) (by decide) he hpl) fun σ H Q h => by
    obtain ⟨G, P, F, s, Φ, R, h, kk⟩ := h
    obtain ⟨xs, h0, h⟩ := ownAt_of h
    obtain ⟨p, vs, g1, _, _, _, g5, g6⟩ := R.sl i _ h0
    refine ⟨_, g1, p, vs, rfl, .inl (SqL.of g5), ?_⟩
    rw [g6.length]
    exact kk _ F H s _ R (Same.refl F) (.int _) h
end

/-! ### what is walked -/
/-- J yields xs -/
def Yl (K : PySem.W.Frag) (F : Hp) (J : It) (xs : List PyData) : Prop := ∀ F1 H1, Same F F1 → Same F1 H1 → ∀ i : Nat,
  (∀ x, xs[i]? = some x → J.go i H1 ∧ ∀ v H2, J.yld i H1 v H2 → ∃ F2, Fresh F1 H1 F2 H2 ∧ Dq K F2 v x) ∧ (xs.length ≤ i → J.stop i H1)
theorem Yl.up {K : PySem.W.Frag} {F F' : Hp} {J : It} {xs : List PyData} (h : Yl K F J xs) (e : Same F F') : Yl K F' J xs := fun F1 H1 a b i => h F1 H1 (e.trans a) b i
abbrev DI := S → (List PyData → S → Prop) → Prop
def tI (K : PySem.W.Frag) (w : DI) : TI := fun σ H R => ∃ G P F s Φ, Rep K G P F H σ s ∧ w s Φ ∧ ∀ J F' H' s' xs, Rep K G P F' H' σ s' → Same F F' → Yl K F' J xs → Φ xs s' → R J H'
abbrev XI (X : Cx) (tg iter : Expr) (w : DI) : Prop := PI X tg iter (tI X.K w)
theorem pi_imp {X : Cx} {tg iter : Expr} {t t' : TI} (h : PI X tg iter t) (i : ∀ σ H R, t' σ H R → t σ H R) : PI X tg iter t' := ⟨fun pins s σ H R I q => h.run pins s σ H R I (i _ _ _ q)⟩
section
variable {K : PySem.W.Frag} {F : Hp}
theorem sql_det {H : Hp} {a : Addr} {xs ys : List V} (h : H a = some (.lst xs)) (g : Rd H a (.lst ys)) : xs = ys := by
  rcases g with g | ⟨o, g⟩
  · rw [h] at g
    cases g
    rfl
  · rw [h] at g
    cases g
end
end DL
/-! DL, third part: what is walked, targets, loops, comprehensions. -/
namespace DL
open PySem PySem.Spec L2

section
variable {X : Cx} {tg : Expr} {e e2 : Expr} {pos : Pos}
theorem yl_list {K : PySem.W.Frag} {F : Hp} {a : Addr} {vs : List V} {xs : List PyData} (h : F a = some (.lst vs)) (d : DqA K F vs xs) : Yl K F (Itl K a) xs := fun F1 H1 e1 e2 i => by
  have hH : SqL K H1 a vs := SqL.of (e2 _ _ (e1 _ _ h))
  refine ⟨fun x hx => ?_, fun hl => ⟨vs, hH, by rw [d.length]; exact hl⟩⟩
  obtain ⟨v, a1, a2⟩ := d.get hx
  refine ⟨⟨vs, v, hH, a1⟩, fun u H2 q => ?_⟩
  obtain ⟨rfl, q⟩ := q
  have q2 := q vs hH
  rw [a1] at q2
  cases q2
  exact ⟨F1, Fresh.refl e2, a2.mono e1⟩
theorem yl_tup {K : PySem.W.Frag} {F : Hp} {a : Addr} {vs : List V} {xs : List PyData} (h : SqT K F a vs) (d : DqA K F vs xs) : Yl K F (Itt K a) xs := fun F1 H1 e1 e2 i => by
  have hH : SqT K H1 a vs := same_sqt e2 (same_sqt e1 h)
  refine ⟨fun x hx => ?_, fun hl => ⟨vs, hH, by rw [d.length]; exact hl⟩⟩
  obtain ⟨v, a1, a2⟩ := d.get hx
  refine ⟨⟨vs, v, hH, a1⟩, fun u H2 q => ?_⟩
  obtain ⟨rfl, q⟩ := q
  have q2 := q vs hH
  rw [a1] at q2
  cases q2
  exact ⟨F1, Fresh.refl e2, a2.mono e1⟩
/-- the signs of a text, each a text -/
def signsOf (z : Str) : List PyData := z.cps.toList.map fun c => .str ⟨#[c]⟩
theorem signsOf_len (z : Str) : (signsOf z).length = z.cps.size := by
  unfold signsOf
  rw [List.length_map, Array.length_toList]
theorem yl_str {K : PySem.W.Frag} {F : Hp} {z : Str} : Yl K F (Its z) (signsOf z) := fun F1 H1 e1 e2 i => by
  refine ⟨fun x hx => ?_, fun hl => by rw [signsOf_len] at hl; exact hl⟩
  have hi : i < z.cps.size := by rw [← signsOf_len]; exact (List.getElem?_eq_some_iff.mp hx).1
  refine ⟨hi, fun u H2 q => ?_⟩
  obtain ⟨rfl, c, hc, rfl⟩ := q
  have hx' : x = .str ⟨#[c]⟩ := by
    unfold signsOf at hx
    rw [List.getElem?_map, Array.getElem?_toList, hc] at hx
    cases hx
    rfl
  rw [hx']
  exact ⟨F1, Fresh.refl e2, .str _⟩
/-- ints from lo on -/
def rangeD (lo : Int) (n : Nat) : List PyData := (List.range n).map fun (i : Nat) => PyData.int (lo + (i : Int))
theorem rangeD_len (lo : Int) (n : Nat) : (rangeD lo n).length = n := by
  unfold rangeD
  rw [List.length_map, List.length_range]
theorem rangeD_get {lo : Int} {n i : Nat} {x : PyData} (h : (rangeD lo n)[i]? = some x) : i < n ∧ x = .int (lo + (i : Int)) := by
  have hi : i < n := by rw [← rangeD_len lo n]; exact (List.getElem?_eq_some_iff.mp h).1
  unfold rangeD at h
  rw [List.getElem?_map, List.getElem?_range hi] at h
  cases h
  exact ⟨hi, rfl⟩
theorem yl_range {K : PySem.W.Frag} {F : Hp} {lo : Int} {n : Nat} : Yl K F (Itr lo n) (rangeD lo n) := fun F1 H1 e1 e2 i => by
  refine ⟨fun x hx => ?_, fun hl => by rw [rangeD_len] at hl; exact hl⟩
  obtain ⟨hi, rfl⟩ := rangeD_get hx
  refine ⟨hi, fun u H2 q => ?_⟩
  obtain ⟨rfl, rfl⟩ := q
  exact ⟨F1, Fresh.refl e2, .int _⟩
def small62 (i : Int) : Prop := -(2 ^ 62) ≤ i ∧ i < 2 ^ 62
/-- a list, a tuple, a text, a range -/
def iAny (K : PySem.W.Frag) (tl : TE) : TI := fun σ H R => tl σ H fun x H1 => (∃ a, x = .ref a ∧ (∃ xs, SqL K H1 a xs) ∧ R (Itl K a) H1) ∨ (∃ a, x = .ref a ∧ (∃ xs, SqT K H1 a xs) ∧ R (Itt K a) H1) ∨ (∃ z, x = .str z ∧ R (Its z) H1) ∨ ∃ a lo hi, x = .ref a ∧ H1 a = some (.rng lo hi) ∧ (small62 lo ∧ small62 hi) ∧ R (Itr lo (hi - lo).toNat) H1
theorem pi_any {tl : TE} (hl : PE X e tl) : PI X tg e (iAny X.K tl) := by
  refine ⟨fun pins s σ H R I h => thn (hl.run pins s σ H _ I h) fun v s1 ⟨x, H1, J1, r1, q1⟩ => ?_⟩
  have fp1 : ∀ {b : Addr}, b ∈ [s1.heap.objs.size] → FpOk X pins H1 b := fun {b} hb => by
    rw [show b = s1.heap.objs.size by simpa using hb]
    exact J1.fpOk (Nat.le_refl _) (J1.hok.fresh (Nat.le_refl _))
  rcases q1 with ⟨a, rfl, ⟨xs, hq⟩, q⟩ | ⟨a, rfl, ⟨xs, hq⟩, q⟩ | ⟨z, rfl, q⟩ | ⟨a, lo, hi, rfl, ha, ⟨⟨h1, h2⟩, h3, h4⟩, q⟩
  · cases r1
    obtain ⟨its, rv, pl, hz⟩ := J1.list hq
    exact wpAny_pyIter_list pl.isList ⟨s1.heap.objs.size, [s1.heap.objs.size], _, Itl X.K a, H1, rfl, J1.kept (t' := s1.toks) (fun b o z => Heap.get?_push_of_some _ z), turn_list a s1.heap.objs.size, ⟨_, Heap.get?_push_size _ rfl, rfl, rfl⟩, fun b hb => fp1 hb, q⟩
  · cases r1
    obtain ⟨its, rv, pl, hz⟩ := J1.tuple hq
    exact wpAny_pyIter_tuple (show s1.heap.IsTuple a its.toArray from pl) ⟨s1.heap.objs.size, [s1.heap.objs.size], _, Itt X.K a, H1, rfl, J1.kept (t' := s1.toks) (fun b o z => Heap.get?_push_of_some _ z), turn_tuple a s1.heap.objs.size, ⟨_, Heap.get?_push_size _ rfl, rfl, rfl⟩, fun b hb => fp1 hb, q⟩
  · obtain ⟨t, rfl⟩ := r1
    cases hall : z.cps.all (· < 128)
    · exact wpAny_pyIter_wide hall (pi_one (tk := s1.toks) J1 _ (turn_str _ z t "str_iterator" (.inr rfl)) ⟨_, Heap.get?_push_size _ rfl, rfl, rfl⟩ q)
    · exact wpAny_pyIter_ascii hall (pi_one (tk := s1.toks) J1 _ (turn_str _ z t "str_ascii_iterator" (.inl rfl)) ⟨_, Heap.get?_push_size _ rfl, rfl, rfl⟩ q)
  · cases r1
    obtain ⟨t1, t2, t3, ho⟩ := J1.hok a _ ha
    refine wpAny_pyIter_range ho (small_one h1 h2 h3 h4) ⟨s1.heap.objs.size, [s1.heap.objs.size], _, Itr lo (hi - lo).toNat, H1, rfl, J1.kept (t' := s1.toks) (fun b o z => Heap.get?_push_of_some _ z), turn_range _ lo (hi - lo).toNat, ?_, fun b hb => fp1 hb, q⟩
    have e1 : lo + ((0 : Nat) : Int) * 1 = lo := by simp
    have e2 : (((hi - lo).toNat : Nat) : Int) - ((0 : Nat) : Int) = Builtin.Range.rangeSize lo hi 1 := by rw [rangeSize_one]; split <;> omega
    show IsRangeIter _ _ (lo + ((0 : Nat) : Int) * 1) ((((hi - lo).toNat : Nat) : Int) - ((0 : Nat) : Int)) 1
    rw [e1, e2]
    exact Heap.get?_push_size _ rfl
/-- the items of data -/
@[simp] def itP : PyData → (List PyData → Prop) → Prop
  | .list xs, k => k xs
  | .tuple xs, k => k xs
  | .str z, k => k (signsOf z)
  | .dict [(.int lo, .int hi)], k => (small62 lo ∧ small62 hi) ∧ k (rangeD lo (hi - lo).toNat)
  | _, _ => False
@[simp] def optP {α : Type} (o : Option α) (k : α → Prop) : Prop := match o with
  | some a => k a
  | none => False
@[simp] def wIt (w : DE) : DI := fun s Φ => w s fun x s1 => itP x fun xs => Φ xs s1
theorem xi_any {w : DE} (h : XE X e w) : XI X tg e (wIt w) := pi_imp (pi_any h) fun σ H R h => by
  obtain ⟨G, P, F, s, Φ, RR, h, k⟩ := h
  refine ⟨G, P, F, s, _, RR, h, fun v F1 H1 s1 x R1 e1 d1 q => ?_⟩
  match x, d1, q with
  | .list xs, .lst h1 h2, q => exact .inl ⟨_, rfl, ⟨_, SqL.of (R1.same _ _ h1)⟩, k _ F1 H1 s1 xs R1 e1 (yl_list h1 h2) q⟩
  | .tuple xs, .tup h1 h2, q => exact .inr (.inl ⟨_, rfl, ⟨_, same_sqt R1.same h1⟩, k _ F1 H1 s1 xs R1 e1 (yl_tup h1 h2) q⟩)
  | .str z, .str _, q => exact .inr (.inr (.inl ⟨_, rfl, k _ F1 H1 s1 (signsOf z) R1 e1 yl_str q⟩))
  | .dict [(.int lo, .int hi)], .rng h1, q => exact .inr (.inr (.inr ⟨_, lo, hi, rfl, R1.same _ _ h1, q.1, k _ F1 H1 s1 _ R1 e1 yl_range q.2⟩))
  | .dict [(.none, .int _)], .er a, q => exact q.elim
  | .dict [(.str _, .list _)], .xo _ _ _ _, q => exact q.elim
  | .dict [(.int _, .int _), (.none, .list _)], .ef _ _, q => exact q.elim
def rangeC (lo c : Int) (n : Nat) : List PyData := (List.range n).map fun (i : Nat) => PyData.int (lo + (i : Int) * c)
theorem rangeC_len (lo c : Int) (n : Nat) : (rangeC lo c n).length = n := by
  unfold rangeC
  rw [List.length_map, List.length_range]
theorem yl_rangeC {K : PySem.W.Frag} {F : Hp} {lo c : Int} {n : Nat} : Yl K F (Itc lo c n) (rangeC lo c n) := fun F1 H1 e1 e2 i => by
  refine ⟨fun x hx => ?_, fun hl => by rw [rangeC_len] at hl; exact hl⟩
  have hi : i < n := by rw [← rangeC_len lo c n]; exact (List.getElem?_eq_some_iff.mp hx).1
  have hx' : x = .int (lo + (i : Int) * c) := by
    unfold rangeC at hx
    rw [List.getElem?_map, List.getElem?_range hi] at hx
    cases hx
    rfl
  refine ⟨hi, fun u H2 q => ?_⟩
  obtain ⟨rfl, rfl⟩ := q
  rw [hx']
  exact ⟨F1, Fresh.refl e2, .int _⟩
@[simp] def wRng1 (w : DA) : DI := fun s Φ => w s fun xs s1 => match xs with
  | [.int n] => small62 n ∧ Φ (rangeD 0 n.toNat) s1
  | _ => False
@[simp] def wRng2 (w : DA) : DI := fun s Φ => w s fun xs s1 => match xs with
  | [.int i, .int j] => (small62 i ∧ small62 j) ∧ Φ (rangeD i (j - i).toNat) s1
  | _ => False
/-- range(i, j, -1) -/
@[simp] def wRngDn (w : DA) : DI := fun s Φ => w s fun xs s1 => match xs with
  | [.int i, .int j, .int c] => c = -1 ∧ (small62 i ∧ small62 j) ∧ Φ (rangeC i (-1) (i - j).toNat) s1
  | _ => False
theorem xi_range1 {w : DA} {p : Pos} (hg : Gl X "range") (hm : X.mg "range" = none) (ha : XA X [e] w) (hs : starEach [e] X.env = [(false, eval e X.env)] := by rfl) : XI X tg (.Call (.Name "range" p) [e] [] pos) (wRng1 w) := pi_imp (pi_range1 hg hm ha hs) fun σ H R h => by
  obtain ⟨G, P, F, s, Φ, RR, h, k⟩ := h
  refine ⟨G, P, F, s, _, RR, h, fun vs F1 H1 s1 xs R1 e1 d1 q => ?_⟩
  match xs, d1, q with
  | [.int n], .cons (.int _) .nil, q => exact ⟨n, rfl, q.1.1, q.1.2, k _ F1 H1 s1 _ R1 e1 yl_range q.2⟩
theorem xi_range2 {w : DA} {p : Pos} (hg : Gl X "range") (hm : X.mg "range" = none) (ha : XA X [e, e2] w) (hs : starEach [e, e2] X.env = [(false, eval e X.env), (false, eval e2 X.env)] := by rfl) (hs2 : starEach [e2] X.env = [(false, eval e2 X.env)] := by rfl) :
    XI X tg (.Call (.Name "range" p) [e, e2] [] pos) (wRng2 w) := pi_imp (pi_range2 hg hm ha hs hs2) fun σ H R h => by
  obtain ⟨G, P, F, s, Φ, RR, h, k⟩ := h
  refine ⟨G, P, F, s, _, RR, h, fun vs F1 H1 s1 xs R1 e1 d1 q => ?_⟩
  match xs, d1, q with
  | [.int i, .int j], .cons (.int _) (.cons (.int _) .nil), q => exact ⟨i, j, rfl, ⟨q.1.1.1, q.1.1.2, q.1.2.1, q.1.2.2⟩, k _ F1 H1 s1 _ R1 e1 yl_range q.2⟩
theorem xi_rangeDn {e3 : Expr} {w : DA} {p : Pos} (hg : Gl X "range") (hm : X.mg "range" = none) (ha : XA X [e, e2, e3] w) (hs : starEach [e, e2, e3] X.env = (false, eval e X.env) :: starEach [e2, e3] X.env := by rfl) (hpl : (backTo pos (starEach [e2, e3] X.env)).any (·.1) = false := by rfl) :
    XI X tg (.Call (.Name "range" p) [e, e2, e3] [] pos) (wRngDn w) := pi_imp (pi_range3 hg hm ha hs hpl) fun σ H R h => by
  obtain ⟨G, P, F, s, Φ, RR, h, k⟩ := h
  refine ⟨G, P, F, s, _, RR, h, fun vs F1 H1 s1 xs R1 e1 d1 q => ?_⟩
  match xs, d1, q with
  | [.int i, .int j, .int c], .cons (.int _) (.cons (.int _) (.cons (.int _) .nil)), q =>
    obtain ⟨rfl, q⟩ := q
    exact ⟨i, j, -1, (i - j).toNat, rfl, RgC.neg q.1.1.1 q.1.1.2 q.1.2.1 q.1.2.2, k _ F1 H1 s1 _ R1 e1 yl_rangeC q.2⟩
/-- pairs with their places -/
def enumD (xs : List PyData) : List PyData := (List.range xs.length).map fun (i : Nat) => PyData.tuple [.int (i : Int), xs.getD i .none]
def zipD (xs ys : List PyData) : List PyData := (xs.zip ys).map fun p => .tuple [p.1, p.2]
theorem enumD_len (xs : List PyData) : (enumD xs).length = xs.length := by
  unfold enumD
  rw [List.length_map, List.length_range]
theorem enumD_get {xs : List PyData} {i : Nat} {x : PyData} (h : (enumD xs)[i]? = some x) : ∃ y, xs[i]? = some y ∧ x = .tuple [.int (i : Int), y] := by
  have hi : i < xs.length := by rw [← enumD_len xs]; exact (List.getElem?_eq_some_iff.mp h).1
  unfold enumD at h
  rw [List.getElem?_map, List.getElem?_range hi] at h
  refine ⟨xs[i], List.getElem?_eq_getElem hi, ?_⟩
  have e : xs.getD i .none = xs[i] := by
    rw [List.getD_eq_getElem?_getD, List.getElem?_eq_getElem hi]
    rfl
  rw [Option.map_some, e] at h
  exact (Option.some.inj h).symm
theorem yl_enum {K : PySem.W.Frag} {F : Hp} {a : Addr} {vs : List V} {xs : List PyData} (h : F a = some (.lst vs)) (d : DqA K F vs xs) : Yl K F (Ite K a) (enumD xs) := fun F1 H1 e1 e2 i => by
  have hH : SqL K H1 a vs := SqL.of (e2 _ _ (e1 _ _ h))
  refine ⟨fun x hx => ?_, fun hl => ⟨vs, hH, by rw [d.length]; rw [enumD_len] at hl; exact hl⟩⟩
  obtain ⟨y, hy, rfl⟩ := enumD_get hx
  obtain ⟨v, a1, a2⟩ := d.get hy
  refine ⟨⟨vs, v, hH, a1⟩, fun u H2 q => ?_⟩
  obtain ⟨T, x, rfl, nT, rfl, q⟩ := q
  have q2 := q vs hH
  rw [a1] at q2
  cases q2
  have f := Fresh.new (o := .tup [.int (i : Nat), v]) e2 nT
  exact ⟨_, f, .tup (SqT.of upd_same) (.cons (.int _) (.cons ((a2.mono e1).mono f.ff) .nil))⟩
theorem zipD_get {xs ys : List PyData} {i : Nat} {x : PyData} (h : (zipD xs ys)[i]? = some x) : ∃ y z, xs[i]? = some y ∧ ys[i]? = some z ∧ x = .tuple [y, z] := by
  unfold zipD at h
  rw [List.getElem?_map] at h
  cases e : (xs.zip ys)[i]? with
  | none =>
    rw [e] at h
    cases h
  | some p =>
    rw [e] at h
    cases h
    obtain ⟨y, z⟩ := p
    obtain ⟨h1, h2⟩ := List.getElem?_zip_eq_some.mp e
    exact ⟨y, z, h1, h2, rfl⟩
theorem yl_zip {K : PySem.W.Frag} {F : Hp} {a b : Addr} {vs us : List V} {xs ys : List PyData} (h : F a = some (.lst vs)) (d : DqA K F vs xs) (g : F b = some (.lst us)) (d' : DqA K F us ys) : Yl K F (Itz K a b) (zipD xs ys) := fun F1 H1 e1 e2 i => by
  have hH : SqL K H1 a vs := SqL.of (e2 _ _ (e1 _ _ h))
  have gH : SqL K H1 b us := SqL.of (e2 _ _ (e1 _ _ g))
  refine ⟨fun x hx => ?_, fun hl => ⟨vs, us, hH, gH, ?_⟩⟩
  · obtain ⟨y, z, hy, hz, rfl⟩ := zipD_get hx
    obtain ⟨v, a1, a2⟩ := d.get hy
    obtain ⟨u, b1, b2⟩ := d'.get hz
    refine ⟨⟨vs, us, v, u, hH, gH, a1, b1⟩, fun w H2 q => ?_⟩
    obtain ⟨T, x, y', rfl, nT, rfl, q, q'⟩ := q
    have q2 := q vs hH
    rw [a1] at q2
    cases q2
    have q3 := q' us gH
    rw [b1] at q3
    cases q3
    have f := Fresh.new (o := .tup [v, u]) e2 nT
    exact ⟨_, f, .tup (SqT.of upd_same) (.cons ((a2.mono e1).mono f.ff) (.cons ((b2.mono e1).mono f.ff) .nil))⟩
  · unfold zipD at hl
    rw [List.length_map, List.length_zip] at hl
    rw [d.length, d'.length]
    omega
@[simp] def wEnum (w : DA) : DI := fun s Φ => w s fun xs s1 => match xs with
  | [.list xs] => Φ (enumD xs) s1
  | _ => False
@[simp] def wZip (w : DA) : DI := fun s Φ => w s fun xs s1 => match xs with
  | [.list xs, .list ys] => Φ (zipD xs ys) s1
  | _ => False
theorem xi_enum {elts : List Expr} {kk : Nat} {w : DA} {p tpos : Pos} (hg : Gl X "enumerate") (hm : X.mg "enumerate" = none) (ha : XA X [e] w) (hs : starEach [e] X.env = [(false, eval e X.env)] := by rfl) :
    XI X (.Tuple elts kk tpos) (.Call (.Name "enumerate" p) [e] [] pos) (wEnum w) := pi_imp (pi_enum hg hm ha hs) fun σ H R h => by
  obtain ⟨G, P, F, s, Φ, RR, h, k⟩ := h
  refine ⟨G, P, F, s, _, RR, h, fun vs F1 H1 s1 xs R1 e1 d1 q => ?_⟩
  match xs, d1, q with
  | [.list xs], .cons (.lst h1 h2) .nil, q => exact ⟨_, _, rfl, SqL.of (R1.same _ _ h1), k _ F1 H1 s1 _ R1 e1 (yl_enum h1 h2) q⟩
theorem xi_zip {elts : List Expr} {kk : Nat} {w : DA} {p tpos : Pos} (hg : Gl X "zip") (hm : X.mg "zip" = none) (ha : XA X [e, e2] w) (hs : starEach [e, e2] X.env = (false, eval e X.env) :: starEach [e2] X.env := by rfl) (hpl : (backTo pos (starEach [e2] X.env)).any (·.1) = false := by rfl) :
    XI X (.Tuple elts kk tpos) (.Call (.Name "zip" p) [e, e2] [] pos) (wZip w) := pi_imp (pi_zip hg hm ha hs hpl) fun σ H R h => by
  obtain ⟨G, P, F, s, Φ, RR, h, k⟩ := h
  refine ⟨G, P, F, s, _, RR, h, fun vs F1 H1 s1 xs R1 e1 d1 q => ?_⟩
  match xs, d1, q with
  | [.list xs, .list ys], .cons (.lst h1 h2) (.cons (.lst h3 h4) .nil), q => exact ⟨_, _, _, _, rfl, SqL.of (R1.same _ _ h1), SqL.of (R1.same _ _ h3), k _ F1 H1 s1 _ R1 e1 (yl_zip h1 h2 h3 h4) q⟩
end

/-! ### targets -/
abbrev DG := PyData → S → (S → Prop) → Prop
/-- is: the slots that are stored -/
def tG (K : PySem.W.Frag) (is : List Nat) (w : DG) : TG := fun v σ H Q => ∃ G P F s x Φ, Rep K G P F H σ s ∧ Dq K F v x ∧ w x s Φ ∧
  ∀ σ' s', Rep K G P F H σ' s' → (∀ i, i ∉ is → σ'[i]? = σ[i]?) → σ'.length = σ.length → Φ s' → Q σ' H
def tGs (K : PySem.W.Frag) (is : List Nat) (w : List PyData → S → (S → Prop) → Prop) : TGs := fun vs σ H Q => ∃ G P F s xs Φ, Rep K G P F H σ s ∧ DqA K F vs xs ∧ w xs s Φ ∧
  ∀ σ' s', Rep K G P F H σ' s' → (∀ i, i ∉ is → σ'[i]? = σ[i]?) → σ'.length = σ.length → Φ s' → Q σ' H
abbrev XG (X : Cx) (tg : Expr) (is : List Nat) (w : DG) : Prop := PG X tg (tG X.K is w)
abbrev XGs (X : Cx) (tgs : List Expr) (is : List Nat) (w : List PyData → S → (S → Prop) → Prop) : Prop := PGs X tgs (tGs X.K is w)
section
variable {X : Cx} {pos : Pos}
theorem pg_imp {tg : Expr} {t t' : TG} (h : PG X tg t) (i : ∀ v σ H Q, t' v σ H Q → t v σ H Q) : PG X tg t' := ⟨fun pins s σ H v u Q I r q => h.run pins s σ H v u Q I r (i _ _ _ _ q)⟩
theorem pgs_imp {tg : List Expr} {t t' : TGs} (h : PGs X tg t) (i : ∀ v σ H Q, t' v σ H Q → t v σ H Q) : PGs X tg t' := ⟨fun pins s σ H v u Q I r q => h.run pins s σ H v u Q I r (i _ _ _ _ q)⟩
@[simp] def gNm (i : Nat) : DG := fun x s Φ => Φ (s.put i (.d x))
theorem xg_name {i : Nat} {x : Str} (hN : X.N.Nodup) (hi : X.N[i]? = some x) (hx : Loc X.env.scope x) (hf : X.fn x = true ∨ X.env.scope.names.lookup x = some .local := by first | exact .inl rfl | exact .inr rfl | assumption) : XG X (.Name x pos) [i] (gNm i) :=
  pg_imp (pg_name hN hi hx hf) fun v σ H Q h => by
    obtain ⟨G, P, F, s, x, Φ, R, d, h, k⟩ := h
    refine k _ _ (R.setD d) (fun j hj => ?_) List.length_set h
    rw [List.getElem?_set_ne]
    exact fun z => hj (by simp [z])
@[simp] def gNl : List PyData → S → (S → Prop) → Prop := fun xs s Φ => xs = [] ∧ Φ s
@[simp] def gCs (w : DG) (u : List PyData → S → (S → Prop) → Prop) : List PyData → S → (S → Prop) → Prop := fun xs s Φ => match xs with
  | x :: r => w x s fun s1 => u r s1 Φ
  | [] => False
theorem xgs_nil : XGs X [] [] gNl := pgs_imp pgs_nil fun vs σ H Q h => by
  obtain ⟨G, P, F, s, xs, Φ, R, d, ⟨rfl, h⟩, k⟩ := h
  cases d
  exact ⟨rfl, k σ s R (fun _ _ => rfl) rfl h⟩
theorem xgs_cons {e : Expr} {es : List Expr} {is js : List Nat} {w : DG} {u : List PyData → S → (S → Prop) → Prop} (h1 : XG X e is w) (h2 : XGs X es js u)
    (hs : (assignEach (e :: es) X.env).map (·.2) = assign e X.env :: (assignEach es X.env).map (·.2) := by rfl) : XGs X (e :: es) (is ++ js) (gCs w u) := pgs_imp (pgs_cons h1 h2 hs) fun vs σ H Q h => by
  obtain ⟨G, P, F, s, xs, Φ, R, d, h, k⟩ := h
  cases xs with
  | nil => exact h.elim
  | cons x r =>
    cases d with
    | cons d1 d2 =>
      refine ⟨_, _, rfl, G, P, F, s, x, _, R, d1, h, fun σ1 s1 R1 q1 l1 h1 => ⟨G, P, F, s1, r, Φ, R1, d2, h1, fun σ2 s2 R2 q2 l2 h2 => k σ2 s2 R2 (fun i hi => ?_) (l2.trans l1) h2⟩⟩
      rw [q2 i (fun z => hi (List.mem_append_right _ z)), q1 i (fun z => hi (List.mem_append_left _ z))]
end
end DL
/-! DL, fourth part: targets of tuples, loops, comprehensions. -/
namespace DL
open PySem PySem.Spec L2

section
variable {X : Cx} {pos : Pos}
@[simp] def gTp (n : Nat) (w : List PyData → S → (S → Prop) → Prop) : DG := fun x s Φ => match x with
  | .tuple xs => xs.length = n ∧ w xs s Φ
  | _ => False
theorem xg_tup {es : List Expr} {k n : Nat} {is : List Nat} {w : List PyData → S → (S → Prop) → Prop} (hc : X.calm = true) (h : XGs X es is w) (hn : (assignEach es X.env).length = n := by rfl) (hst : (assignEach es X.env).findIdx? (·.1) = none := by rfl) :
    XG X (.Tuple es k pos) is (gTp n w) := pg_imp (pg_tup hc h hn hst) fun v σ H Q h => by
  obtain ⟨G, P, F, s, x, Φ, R, d, h, k⟩ := h
  cases x with
  | tuple xs =>
    cases d with
    | tup h1 h2 => exact ⟨_, _, rfl, same_sqt R.same h1, by rw [h2.length]; exact h.1, G, P, F, s, xs, Φ, R, h2, h.2, k⟩
  | _ => exact h.elim
/-- a, b = e -/
@[simp] def wAsgT (w : DE) (wg : DG) : DS := fun Φ s => w s fun x s1 => wg x s1 Φ.nx
theorem xs_asgT {tg e : Expr} {is : List Nat} {w : DE} {wg : DG} (he : XE X e w) (hg : XG X tg is wg) (hs : swapsWithSole [tg] e pos.line X.env = pure false := by rfl) (hw : swappedStores [tg] e X.env = pure none := by rfl)
    (h1 : (assignEach [tg] X.env).map (·.2) = [assign tg X.env] := by rfl) : XS X (.Assign [tg] e pos) (wAsgT w wg) :=
  ps_imp (ps_asg he hg hs hw h1) fun D σ H h => by
    obtain ⟨G, P, F, s, Φ, R, h, b⟩ := h
    exact ⟨G, P, F, s, _, R, h, fun v F' H' s' x R' e d q => ⟨G, P, F', s', x, _, R', d, q, fun σ2 s2 R2 _ _ q2 => b.nx σ2 F' H' s2 R2 e q2⟩⟩
/-- a, b = e1, e2, both plain names -/
@[simp] def wPar (i j : Nat) (w : DA) : DS := fun Φ s => w s fun xs s1 => match xs with
  | [x, y] => Φ.nx ((s1.put i (.d x)).put j (.d y))
  | _ => False
theorem xs_par {i j : Nat} {x y : Str} {a b : Expr} {w : DA} {px py pt : Pos} {kt k2 : Nat} {pt2 : Pos} (hc : X.calm = true) (hN : X.N.Nodup) (hi : X.N[i]? = some x) (hj : X.N[j]? = some y) (hij : i ≠ j)
    (hx : X.env.scope.names.lookup x = some .local) (hy : X.env.scope.names.lookup y = some .local) (ha : XA X [a, b] w)
    (hw : swappedStores [.Tuple [.Name x px, .Name y py] kt pt] (.Tuple [a, b] k2 pt2) X.env = pure (some [x, y]))
    (hsole : swapsWithSole [.Tuple [.Name x px, .Name y py] kt pt] (.Tuple [a, b] k2 pt2) pos.line X.env = pure false := by rfl) : XS X (.Assign [.Tuple [.Name x px, .Name y py] kt pt] (.Tuple [a, b] k2 pt2) pos) (wPar i j w) :=
  ps_imp (ps_par hc hN hi hj hij hx hy ha hw hsole) fun D σ H h => by
    obtain ⟨G, P, F, s, Φ, R, h, b⟩ := h
    refine ⟨G, P, F, s, _, R, h, fun vs F' H' s' xs R' e d q => ?_⟩
    match xs, d, q with
    | [x, y], .cons d1 (.cons d2 .nil), q => exact ⟨_, _, rfl, b.nx _ F' H' _ ((R'.setD d1).setD d2) e q⟩

/-! loops -/
def loopW (wg : DG) (wb : DS) (Φ : EN) : List PyData → S → Prop
  | [], s => Φ.nx s
  | x :: xs, s => wg x s fun s1 => wb { nx := loopW wg wb Φ xs, rt := Φ.rt, bk := Φ.nx, ct := loopW wg wb Φ xs, rl := Φ.rl, ex := Φ.ex } s1
@[simp] def wFor (wi : DI) (wg : DG) (wb : DS) : DS := fun Φ s => wi s fun xs s1 => loopW wg wb Φ xs s1
theorem xs_for {tg iter : Expr} {body : List Stmt} {is : List Nat} {wi : DI} {wg : DG} {wb : DS} (hp : PassesOwn (model X.prog X.w) X.A X.env X.xe) (hc : X.calm = true) (hi : XI X tg iter wi) (hg : XG X tg is wg) (hb : XSs X body wb)
    (hs : ∀ x, foldedSetIterable iter X.env x = pure x := by intro _; rfl) : XS X (.For tg iter body [] pos) (wFor wi wg wb) := ps_imp (ps_for hp hc hi hg hb hs) fun D σ H h => by
  obtain ⟨G, P, F, s, Φ, R, h, b⟩ := h
  refine ⟨G, P, F, s, _, R, h, fun J F1 H1 s1 xs R1 e1 Y q => ?_⟩
  refine ⟨fun i m σ2 H2 => m = xs.length - i ∧ i ≤ xs.length ∧ ∃ F2 s2, Rep X.K G P F2 H2 σ2 s2 ∧ Same F1 F2 ∧ loopW wg wb Φ (xs.drop i) s2, ⟨_, rfl, Nat.zero_le _, F1, s1, R1, Same.refl F1, by simpa using q⟩, ?_⟩
  rintro i m σ2 H2 ⟨rfl, hi, F2, s2, R2, e2, q2⟩
  by_cases hl : i < xs.length
  · obtain ⟨go, yl⟩ := (Y F2 H2 e2 R2.same i).1 xs[i] (List.getElem?_eq_getElem hl)
    refine .inr ⟨go, fun σ3 H3 => ∃ F3 s3, Rep X.K G P F3 H3 σ3 s3 ∧ Same F1 F3 ∧ loopW wg wb Φ (xs.drop (i + 1)) s3, fun σ3 H3 ⟨F3, s3, R3, e3, q3⟩ => ⟨xs.length - (i + 1), by omega, rfl, hl, F3, s3, R3, e3, q3⟩, fun v H3 hy => ?_⟩
    obtain ⟨F3, f, dx⟩ := yl v H3 hy
    rw [List.drop_eq_getElem_cons hl] at q2
    refine ⟨G, P, F3, s2, xs[i], _, R2.fresh f, dx, q2, fun σ4 s4 R4 _ _ q4 => ?_⟩
    have e13 : Same F1 F3 := e2.trans f.ff
    exact ⟨G, P, F3, s4, _, R4, q4, ⟨fun σ5 F5 H5 s5 R5 e5 q5 => ⟨F5, s5, R5, e13.trans e5, q5⟩, fun v5 σ5 F5 H5 s5 x5 R5 e5 d5 q5 => b.rt v5 σ5 F5 H5 s5 x5 R5 ((e1.trans e13).trans e5) d5 q5,
      fun σ5 F5 H5 s5 R5 e5 q5 => b.nx σ5 F5 H5 s5 R5 ((e1.trans e13).trans e5) q5, fun σ5 F5 H5 s5 R5 e5 q5 => ⟨F5, s5, R5, e13.trans e5, q5⟩, fun p5 vs5 σ5 F5 H5 s5 xs5 R5 e5 n5 h5 d5 q5 => b.rl p5 vs5 σ5 F5 H5 s5 xs5 R5 ((e1.trans e13).trans e5) n5 h5 d5 q5, fun c5 x5 σ5 F5 H5 s5 R5 e5 q5 => b.ex c5 x5 σ5 F5 H5 s5 R5 ((e1.trans e13).trans e5) q5⟩⟩
  · refine .inl ⟨(Y F2 H2 e2 R2.same i).2 (by omega), ?_⟩
    rw [List.drop_eq_nil_of_le (by omega)] at q2
    exact b.nx σ2 F2 H2 s2 R2 (e1.trans e2) q2
def whN (wt : DT) (wb : DS) (Φ : EN) : Nat → S → Prop
  | 0, _ => False
  | n + 1, s => wt s fun b s1 => if b = true then wb { nx := whN wt wb Φ n, rt := Φ.rt, bk := Φ.nx, ct := whN wt wb Φ n, rl := Φ.rl, ex := Φ.ex } s1 else Φ.nx s1
def wWhile (wt : DT) (wb : DS) : DS := fun Φ s => ∃ n, whN wt wb Φ n s
theorem xs_while {c : Expr} {body : List Stmt} {wt : DT} {wb : DS} (hp : PassesOwn (model X.prog X.w) X.A X.env X.xe) (hc : XT X c wt) (hb : XSs X body wb) : XS X (.While c body [] pos) (wWhile wt wb) := ps_imp (ps_while hp hc hb) fun D σ H h => by
  obtain ⟨G, P, F, s, Φ, R, ⟨n, h⟩, b⟩ := h
  refine ⟨fun m σ2 H2 => ∃ F2 s2, Rep X.K G P F2 H2 σ2 s2 ∧ Same F F2 ∧ whN wt wb Φ m s2, ⟨n, F, s, R, Same.refl F, h⟩, ?_⟩
  rintro m σ2 H2 ⟨F2, s2, R2, e2, q2⟩
  cases m with
  | zero => exact q2.elim
  | succ m =>
    refine ⟨G, P, F2, s2, _, R2, q2, fun k F3 H3 s3 R3 e3 q3 => ?_⟩
    cases k with
    | true =>
      rw [if_pos rfl] at q3 ⊢
      refine ⟨fun σ4 H4 => ∃ F4 s4, Rep X.K G P F4 H4 σ4 s4 ∧ Same F F4 ∧ whN wt wb Φ m s4, fun σ4 H4 z => ⟨m, Nat.lt_succ_self m, z⟩, G, P, F3, s3, _, R3, q3, ?_⟩
      have e13 : Same F F3 := e2.trans e3
      exact ⟨fun σ5 F5 H5 s5 R5 e5 q5 => ⟨F5, s5, R5, e13.trans e5, q5⟩, fun v5 σ5 F5 H5 s5 x5 R5 e5 d5 q5 => b.rt v5 σ5 F5 H5 s5 x5 R5 (e13.trans e5) d5 q5, fun σ5 F5 H5 s5 R5 e5 q5 => b.nx σ5 F5 H5 s5 R5 (e13.trans e5) q5,
        fun σ5 F5 H5 s5 R5 e5 q5 => ⟨F5, s5, R5, e13.trans e5, q5⟩, fun p5 vs5 σ5 F5 H5 s5 xs5 R5 e5 n5 h5 d5 q5 => b.rl p5 vs5 σ5 F5 H5 s5 xs5 R5 (e13.trans e5) n5 h5 d5 q5, fun c5 x5 σ5 F5 H5 s5 R5 e5 q5 => b.ex c5 x5 σ5 F5 H5 s5 R5 (e13.trans e5) q5⟩
    | false =>
      rw [if_neg Bool.false_ne_true] at q3 ⊢
      exact b.nx σ2 F3 H3 s3 R3 (e2.trans e3) q3
end

/-! ### comprehensions -/
@[simp] def noOwn (vs : List Nat) (e : List Sl) : Bool := vs.all fun i => match e[i]? with
  | some (.o _) => false
  | some (.tb _ _ _) => false
  | _ => true
theorem noOwn_tb {vs : List Nat} {e : List Sl} (h : (vs.all fun i => match e[i]? with
  | some (.o _) => false
  | some (.tb _ _ _) => false
  | _ => true) = true) {i : Nat} (hi : i ∈ vs) {p : Addr} {qs : List Addr} {xs : List (List PyData)} (q : e[i]? = some (.tb p qs xs)) : False := by
  have z := List.all_eq_true.mp h i hi
  rw [q] at z
  cases z
theorem noOwn_at {vs : List Nat} {e : List Sl} (h : noOwn vs e = true) {i : Nat} (hi : i ∈ vs) {xs : List PyData} (q : e[i]? = some (.o xs)) : False := by
  have z := List.all_eq_true.mp h i hi
  rw [q] at z
  cases z
@[simp] def wipeE (e : List Sl) : List Nat → List Sl
  | [] => e
  | v :: vs => (wipeE e vs).set v .un
theorem wipeE_len (e : List Sl) : ∀ vs, (wipeE e vs).length = e.length
  | [] => rfl
  | v :: vs => by
    show ((wipeE e vs).set v .un).length = e.length
    rw [List.length_set, wipeE_len e vs]
theorem wipeE_out {e : List Sl} {i : Nat} : ∀ {vs : List Nat}, i ∉ vs → (wipeE e vs)[i]? = e[i]?
  | [], _ => rfl
  | v :: vs, h => by
    show ((wipeE e vs).set v .un)[i]? = e[i]?
    rw [List.getElem?_set_ne (fun z => h (by simp [z])), wipeE_out (fun z => h (List.mem_cons_of_mem _ z))]
theorem wipeE_in {e : List Sl} {i : Nat} {x : Sl} : ∀ {vs : List Nat}, i ∈ vs → (wipeE e vs)[i]? = some x → x = .un
  | [], h, _ => by cases h
  | v :: vs, h, q => by
    have q' : ((wipeE e vs).set v .un)[i]? = some x := q
    rcases set_get q' with ⟨_, z⟩ | ⟨ne, z⟩
    · exact z
    · rcases List.mem_cons.mp h with z2 | z2
      · exact absurd z2 ne
      · exact wipeE_in z2 z
theorem wipe_in {σ : L2.St} {i : Nat} : ∀ {vs : List Nat}, i ∈ vs → i < σ.length → (wipe σ vs)[i]? = some none
  | [], h, _ => by cases h
  | v :: vs, h, hl => by
    show ((wipe σ vs).set v none)[i]? = some none
    by_cases e : v = i
    · rw [e, List.getElem?_set_self (by rw [wipe_length]; exact hl)]
    · rw [List.getElem?_set_ne e]
      rcases List.mem_cons.mp h with z | z
      · exact absurd z.symm e
      · exact wipe_in z hl
theorem wipe_off {σ : L2.St} {i : Nat} : ∀ {vs : List Nat}, i ∉ vs → (wipe σ vs)[i]? = σ[i]?
  | [], _ => rfl
  | v :: vs, h => by
    show ((wipe σ vs).set v none)[i]? = σ[i]?
    rw [List.getElem?_set_ne (fun z => h (by simp [z])), wipe_off (fun z => h (List.mem_cons_of_mem _ z))]
theorem wipe_same {σ τ : L2.St} {vs : List Nat} (hl : τ.length = σ.length) (h : ∀ i, i ∉ vs → τ[i]? = σ[i]?) : wipe τ vs = wipe σ vs := by
  refine List.ext_getElem? fun i => ?_
  by_cases hi : i ∈ vs
  · by_cases hb : i < σ.length
    · rw [wipe_in hi hb, wipe_in hi (by rw [hl]; exact hb)]
    · rw [List.getElem?_eq_none (by rw [wipe_length, hl]; omega), List.getElem?_eq_none (by rw [wipe_length]; omega)]
  · rw [wipe_off hi, wipe_off hi, h i hi]
def lcW (vs : List Nat) (e0 : List Sl) (wg : DG) (wt : DT) (we : DE) (Φ : List PyData → List Int → Prop) : List PyData → List PyData → List Int → Prop
  | [], acc, q => Φ acc q
  | x :: xs, acc, q => wg x ⟨wipeE e0 vs, q⟩ fun s1 => wipeE s1.e vs = wipeE e0 vs ∧ wt s1 fun b s2 => s2.e = s1.e ∧
    (if b = true then we s2 fun y s3 => s3.e = s1.e ∧ acc.length < sizeLine ∧ lcW vs e0 wg wt we Φ xs (acc ++ [y]) s3.q else lcW vs e0 wg wt we Φ xs acc s2.q)
@[simp] def wLc (vs : List Nat) (wi : DI) (wg : DG) (wt : DT) (we : DE) : DA := fun s Φ => wi s fun xs s1 => noOwn vs s1.e = true ∧ lcW vs s1.e wg wt we (fun ys q => Φ ys ⟨s1.e, q⟩) xs [] s1.q
/-- tests of a comprehension -/
abbrev XTs (X : Cx) (ifs : List Expr) (w : DT) : Prop := PTs X ifs (tT X.K w)
@[simp] def wYes : DT := fun s Φ => Φ true s
section
variable {X : Cx} {pos : Pos}
theorem pts_imp {ifs : List Expr} {t t' : TT} (h : PTs X ifs t) (i : ∀ σ H Q, t' σ H Q → t σ H Q) : PTs X ifs t' := ⟨fun pins s σ H Q I q => h.run pins s σ H Q I (i _ _ _ q)⟩
theorem xts_nil : XTs X [] wYes := pts_imp pts_nil fun σ H Q h => by
  obtain ⟨G, P, F, s, Φ, R, h, k⟩ := h
  exact k true F H s R (Same.refl F) h
theorem xts_one {c : Expr} {w : DT} (h : XT X c w) : XTs X [c] w := pts_one h
section
variable {K : PySem.W.Frag} {G F H F' H' : Hp} {P : Option Addr} {σ τ : L2.St} {s : S} {vs : List Nat} {D : Addr} {acc : List V}
/-- into the block -/
theorem Rep.block (R : Rep K G P F H σ s) (n : Nu G P F σ s D) (hD : H D = some (.lst acc)) : Rep K (upd G D (.lst acc)) P F H (wipe σ vs) ⟨wipeE s.e vs, s.q⟩ := by
  have tG : TabsAt K (upd G D (.lst acc)) := fun b hb => by
    have q := R.tab b hb
    rw [upd_ne (fun z => by rw [z, n.g] at q; cases q)]
    exact q
  refine ⟨R.same, fun b o q => ?_, fun b o q => ?_, fun i x hx => ?_, fun i j xs ys p hi hj e1 e2 => ?_, fun a ha => ?_, ?_, fun i j x y r hi hj hr ij oc => ?_, tG⟩
  · by_cases hb : b = D
    · rw [hb, upd_same] at q
      cases q
      rw [hb]
      exact hD
    · rw [upd_ne hb] at q
      exact R.keep b o q
  · by_cases hb : b = D
    · rw [hb]
      exact n.f
    · rw [upd_ne hb] at q
      exact R.apart b o q
  · have hx : (wipeE s.e vs)[i]? = some x := hx
    by_cases hi : i ∈ vs
    · rw [wipeE_in hi hx]
      exact True.intro
    · rw [wipeE_out hi] at hx
      have q := R.sl i x hx
      cases x with
      | un => exact True.intro
      | d x =>
        obtain ⟨v, a, b⟩ := q
        exact ⟨v, by rw [wipe_off hi]; exact a, b⟩
      | o xs =>
        obtain ⟨p, us, h1, h2, h3, h4, h5, h6⟩ := q
        have np : p ≠ D := fun z => n.sl i xs hx (by rw [← z]; exact h1)
        exact ⟨p, us, by rw [wipe_off hi]; exact h1, h2, by rw [upd_ne np]; exact h3, h4, h5, h6⟩
      | pl =>
        obtain ⟨a, h1, h2⟩ := q
        exact ⟨a, h1, by rw [wipe_off hi]; exact h2⟩
      | sc ns =>
        obtain ⟨a, h1, h2⟩ := q
        exact ⟨a, by rw [wipe_off hi]; exact h1, h2⟩
      | tb p qs xss => exact q.tbUp (wipe_off hi) (Same.refl F) fun r o hr g1 g2 g3 g4 => ⟨g1, by rw [upd_ne (fun z => n.tb i _ hx (by rw [← z]; exact hr))]; exact g2, g3, g4⟩
  · have hi' : (wipeE s.e vs)[i]? = some (.o xs) := hi
    have hj' : (wipeE s.e vs)[j]? = some (.o ys) := hj
    have ni : i ∉ vs := fun z => by
      have := wipeE_in z hi'
      cases this
    have nj : j ∉ vs := fun z => by
      have := wipeE_in z hj'
      cases this
    rw [wipeE_out ni] at hi'
    rw [wipeE_out nj] at hj'
    rw [wipe_off ni] at e1
    rw [wipe_off nj] at e2
    exact R.sep i j xs ys p hi' hj' e1 e2
  · obtain ⟨g1, g2, g3⟩ := R.pool a ha
    exact ⟨g1, by rw [upd_ne (fun z => n.np (by rw [← z]; exact ha))]; exact g2, g3⟩
  · show (wipe σ vs).length = (wipeE s.e vs).length
    rw [wipe_length, wipeE_len, R.len]
  · have hi : (wipeE s.e vs)[i]? = some x := hi
    have hj : (wipeE s.e vs)[j]? = some y := hj
    have ni : i ∉ vs := fun z => by
      have := wipeE_in z hi
      subst this
      cases hr
    rw [wipeE_out ni] at hi
    by_cases nj : j ∈ vs
    · have := wipeE_in nj hj
      subst this
      rcases oc with z | ⟨⟨_, z⟩, _⟩
      · cases z
      · cases z
    · rw [wipeE_out nj] at hj
      refine R.tbs i j x y r hi hj hr ij ?_
      rcases oc with z | ⟨z, z2⟩
      · exact .inl z
      · rw [wipe_off nj] at z2
        exact .inr ⟨z, z2⟩
/-- out of the block, the new list longer (or not) -/
theorem Rep.unblock {s2 : S} {acc' : List V} (R : Rep K G P F H σ s) (n : Nu G P F σ s D) (hno : noOwn vs s.e = true) (e : Same F F') (R2 : Rep K (upd G D (.lst acc)) P F' H' τ s2) (he : wipeE s2.e vs = wipeE s.e vs) (hτ : ∀ i, i ∉ vs → τ[i]? = σ[i]?) :
    Rep K G P F' (upd H' D (.lst acc')) σ ⟨s.e, s2.q⟩ ∧ Nu G P F' σ ⟨s.e, s2.q⟩ D ∧ H' D = some (.lst acc) := by
  have hD : H' D = some (.lst acc) := R2.keep D _ upd_same
  have fD : F' D = none := R2.apart D _ upd_same
  refine ⟨⟨fun b o q => ?_, fun b o q => ?_, fun b o q => ?_, fun i x hx => ?_, R.sep, fun a ha => ?_, R.len, R.tbs, R.tab⟩, ⟨fD, n.g, n.np, n.sl, n.tb⟩, hD⟩
  · rw [upd_ne (fun z => by rw [z, fD] at q; cases q)]
    exact R2.same b o q
  · have nb : b ≠ D := fun z => by
      rw [z, n.g] at q
      cases q
    rw [upd_ne nb]
    exact R2.keep b o (by rw [upd_ne nb]; exact q)
  · have nb : b ≠ D := fun z => by
      rw [z, n.g] at q
      cases q
    exact R2.apart b o (by rw [upd_ne nb]; exact q)
  · have hx : s.e[i]? = some x := hx
    by_cases hi : i ∈ vs
    · have q := R.sl i x hx
      cases x with
      | un => exact True.intro
      | d x =>
        obtain ⟨v, a, b⟩ := q
        exact ⟨v, a, b.mono e⟩
      | o xs => exact (noOwn_at hno hi hx).elim
      | pl => exact q
      | sc ns =>
        obtain ⟨a, h1, h2⟩ := q
        exact ⟨a, h1, e.seq h2⟩
      | tb p qs xss => exact (noOwn_tb hno hi hx).elim
    · have hx2 : s2.e[i]? = some x := by rw [← wipeE_out hi, he, wipeE_out hi]; exact hx
      have q := R2.sl i x hx2
      cases x with
      | un => exact True.intro
      | d x =>
        obtain ⟨v, a, b⟩ := q
        exact ⟨v, by rw [← hτ i hi]; exact a, b⟩
      | o xs =>
        obtain ⟨p, us, h1, h2, h3, h4, h5, h6⟩ := q
        have np : p ≠ D := fun z => by
          rw [z, upd_same] at h3
          cases h3
        exact ⟨p, us, by rw [← hτ i hi]; exact h1, h2, by rw [upd_ne np] at h3; exact h3, h4, by rw [upd_ne np]; exact h5, h6⟩
      | pl =>
        obtain ⟨a, h1, h2⟩ := q
        exact ⟨a, h1, by rw [← hτ i hi]; exact h2⟩
      | sc ns =>
        obtain ⟨a, h1, h2⟩ := q
        exact ⟨a, by rw [← hτ i hi]; exact h1, h2⟩
      | tb p qs xss =>
        refine q.tbUp (by rw [hτ i hi]) (Same.refl F') fun r o hr g1 g2 g3 g4 => ?_
        have nr : r ≠ D := fun z => n.tb i _ hx (by rw [← z]; exact hr)
        exact ⟨g1, by rw [upd_ne nr] at g2; exact g2, g3, by rw [upd_ne nr]; exact g4⟩
  · obtain ⟨g1, g2, g3⟩ := R2.pool a ha
    have na : a ≠ D := fun z => n.np (by rw [← z]; exact ha)
    exact ⟨g1, by rw [upd_ne na] at g2; exact g2, by rw [upd_ne na]; exact g3⟩
end
theorem lc_of {K : PySem.W.Frag} {vs is : List Nat} {wi : DI} {wg : DG} {wt : DT} {we : DE} (hsub : ∀ i ∈ is, i ∈ vs) (σ : L2.St) (H : Hp) (Q : VK) (h : tL K (wLc vs wi wg wt we) σ H Q) : tLc (tI K wi) (tG K is wg) (tT K wt) (tE K we) vs σ H Q := by
  obtain ⟨G, P, F, s, Φ, R, h, k⟩ := h
  refine ⟨G, P, F, s, _, R, h, fun J F1 H1 s1 xs R1 e1 Y q D hD => ?_⟩
  obtain ⟨hno, q⟩ := q
  obtain ⟨R1', n1⟩ := nu_new (o := .lst []) R1 hD
  refine ⟨fun i m H2 => m = xs.length - i ∧ i ≤ xs.length ∧ ∃ F2 vacc acc q2, Same F1 F2 ∧ H2 D = some (.lst vacc) ∧ DqA K F2 vacc acc ∧ Rep K G P F2 H2 σ ⟨s1.e, q2⟩ ∧ Nu G P F2 σ ⟨s1.e, q2⟩ D ∧
    lcW vs s1.e wg wt we (fun ys q => Φ ys ⟨s1.e, q⟩) (xs.drop i) acc q2, ⟨_, rfl, Nat.zero_le _, F1, [], [], s1.q, Same.refl F1, upd_same, .nil, R1', n1, by simpa using q⟩, ?_⟩
  rintro i m H2 ⟨rfl, hi, F2, vacc, acc, q2, e2, hD2, dacc, R2, n2, w2⟩
  by_cases hl : i < xs.length
  · obtain ⟨go, yl⟩ := (Y F2 H2 e2 R2.same i).1 xs[i] (List.getElem?_eq_getElem hl)
    rw [List.drop_eq_getElem_cons hl] at w2
    refine .inr ⟨go, fun H3 => ∃ F2 vacc acc q2, Same F1 F2 ∧ H3 D = some (.lst vacc) ∧ DqA K F2 vacc acc ∧ Rep K G P F2 H3 σ ⟨s1.e, q2⟩ ∧ Nu G P F2 σ ⟨s1.e, q2⟩ D ∧
      lcW vs s1.e wg wt we (fun ys q => Φ ys ⟨s1.e, q⟩) (xs.drop (i + 1)) acc q2, fun H3 z => ⟨xs.length - (i + 1), by omega, rfl, hl, z⟩, fun v H3 hy => ?_⟩
    obtain ⟨F3, f, dx⟩ := yl v H3 hy
    have RB : Rep K (upd G D (.lst vacc)) P F3 H3 (wipe σ vs) ⟨wipeE s1.e vs, q2⟩ := (R2.block (vs := vs) n2 hD2).fresh f
    refine ⟨_, P, F3, _, xs[i], _, RB, dx, w2, fun σ4 s4 R4 ag l4 q4 => ?_⟩
    obtain ⟨we4, q4⟩ := q4
    have ag' : ∀ i, i ∉ vs → σ4[i]? = σ[i]? := fun j hj => by
      rw [ag j (fun z => hj (hsub j z)), wipe_off hj]
    refine ⟨wipe_same (by rw [l4, wipe_length]) ag', ?_⟩
    refine ⟨_, P, F3, s4, _, R4, q4, fun b F5 H5 s5 R5 e5 q5 => ?_⟩
    obtain ⟨es5, q5⟩ := q5
    have e25 : Same F2 F5 := f.ff.trans e5
    cases b with
    | true =>
      rw [if_pos rfl] at q5 ⊢
      refine ⟨_, P, F5, s5, _, R5, q5, fun y F6 H6 s6 dy R6 e6 d6 q6 => ?_⟩
      obtain ⟨es6, hz, q6⟩ := q6
      obtain ⟨R7, n7, hD7⟩ := R2.unblock (vs := vs) (acc' := vacc ++ [y]) n2 hno (e25.trans e6) R6 (by rw [es6]; exact we4) ag'
      exact ⟨vacc, hD7, by rw [dacc.length]; exact hz, F6, vacc ++ [y], acc ++ [dy], s6.q, e2.trans (e25.trans e6), upd_same, (dacc.mono (e25.trans e6)).append (.cons d6 .nil), R7, n7, q6⟩
    | false =>
      rw [if_neg Bool.false_ne_true] at q5 ⊢
      obtain ⟨R7, n7, hD7⟩ := R2.unblock (vs := vs) (acc' := vacc) n2 hno e25 R5 (by rw [es5]; exact we4) ag'
      have eu : upd H5 D (.lst vacc) = H5 := by
        funext b
        by_cases hb : b = D
        · rw [hb, upd_same, hD7]
        · rw [upd_ne hb]
      rw [eu] at R7
      exact ⟨F5, vacc, acc, s5.q, e2.trans e25, hD7, dacc.mono e25, R7, n7, q5⟩
  · refine .inl ⟨(Y F2 H2 e2 R2.same i).2 (by omega), ?_⟩
    rw [List.drop_eq_nil_of_le (by omega)] at w2
    exact k D vacc F2 H2 ⟨s1.e, q2⟩ acc R2 (e1.trans e2) n2 hD2 dacc w2
theorem xl_lc {elt tg iter : Expr} {ifs : List Expr} {scope : Scope} {own : List (Str × Nat)} {is : List Nat} {wi : DI} {wg : DG} {wt : DT} {we : DE} (hc : X.calm = true) (hN : X.N.Nodup) (hi : XI X tg iter wi) (ok : BlkOk X.N X.env.scope scope own) (hsub : ∀ i ∈ is, i ∈ own.map (·.2))
    (hg : ∀ (s : Shared) (H : Hp) (C : Addr) (cl : List (Str × Addr)) (fp : List Addr), XG (X.blk s H scope (compEnvC scope cl C X.env) fp) tg is wg) (ht : ∀ (s : Shared) (H : Hp) (C : Addr) (cl : List (Str × Addr)) (fp : List Addr), XTs (X.blk s H scope (compEnvC scope cl C X.env) fp) ifs wt)
    (he : ∀ (s : Shared) (H : Hp) (C : Addr) (cl : List (Str × Addr)) (fp : List Addr), XE (X.blk s H scope (compEnvC scope cl C X.env) fp) elt we) (hs : ∀ x, foldedSetIterable iter X.env x = pure x := by intro _; rfl) :
    XL X (.ListComp elt [⟨tg, iter, ifs, 0⟩] scope pos) (wLc (own.map (·.2)) wi wg wt we) := pe_imp (pe_lc hc hN hi ok hg ht he hs) (lc_of hsub)
/-- y = [..] on one line, y a plain name: one's own -/
theorem xs_setLcO {i : Nat} {y : Str} {py : Pos} {elt tg iter : Expr} {ifs : List Expr} {scope : Scope} {own : List (Str × Nat)} {spos : Pos} {is : List Nat} {wi : DI} {wg : DG} {wt : DT} {we : DE} (hc : X.calm = true) (hN : X.N.Nodup) (hy : X.N[i]? = some y) (hyl : X.env.scope.names.lookup y = some .local)
    (hsw : swapsWith (.ListComp elt [⟨tg, iter, ifs, 0⟩] scope pos) (some (.Name y py)) spos.line X.env = pure true) (hi : XI X tg iter wi) (ok : BlkOk X.N X.env.scope scope own) (hsub : ∀ i ∈ is, i ∈ own.map (·.2))
    (hg : ∀ (s : Shared) (H : Hp) (C : Addr) (cl : List (Str × Addr)) (fp : List Addr), XG (X.blk s H scope (compEnvC scope cl C X.env) fp) tg is wg) (ht : ∀ (s : Shared) (H : Hp) (C : Addr) (cl : List (Str × Addr)) (fp : List Addr), XTs (X.blk s H scope (compEnvC scope cl C X.env) fp) ifs wt)
    (he : ∀ (s : Shared) (H : Hp) (C : Addr) (cl : List (Str × Addr)) (fp : List Addr), XE (X.blk s H scope (compEnvC scope cl C X.env) fp) elt we) (hs : ∀ x, foldedSetIterable iter X.env x = pure x := by intro _; rfl) :
    XS X (.Assign [.Name y py] (.ListComp elt [⟨tg, iter, ifs, 0⟩] scope pos) spos) (wSetO i (wLc (own.map (·.2)) wi wg wt we)) := ps_imp (ps_setLc hc hN hy hyl hsw hi ok hg ht he hs) fun D σ H h => by
  obtain ⟨G, P, F, s, Φ, R, h, b⟩ := h
  exact lc_of hsub σ H _ ⟨G, P, F, s, _, R, h, fun p vs F' H' s' x R' e n hp d q => b.nx _ F' H' _ (R'.setO n hp d) e q⟩
/-- .. as data -/
theorem xs_setLc {i : Nat} {y : Str} {py : Pos} {elt tg iter : Expr} {ifs : List Expr} {scope : Scope} {own : List (Str × Nat)} {spos : Pos} {is : List Nat} {wi : DI} {wg : DG} {wt : DT} {we : DE} (hc : X.calm = true) (hN : X.N.Nodup) (hy : X.N[i]? = some y) (hyl : X.env.scope.names.lookup y = some .local)
    (hsw : swapsWith (.ListComp elt [⟨tg, iter, ifs, 0⟩] scope pos) (some (.Name y py)) spos.line X.env = pure true) (hi : XI X tg iter wi) (ok : BlkOk X.N X.env.scope scope own) (hsub : ∀ i ∈ is, i ∈ own.map (·.2))
    (hg : ∀ (s : Shared) (H : Hp) (C : Addr) (cl : List (Str × Addr)) (fp : List Addr), XG (X.blk s H scope (compEnvC scope cl C X.env) fp) tg is wg) (ht : ∀ (s : Shared) (H : Hp) (C : Addr) (cl : List (Str × Addr)) (fp : List Addr), XTs (X.blk s H scope (compEnvC scope cl C X.env) fp) ifs wt)
    (he : ∀ (s : Shared) (H : Hp) (C : Addr) (cl : List (Str × Addr)) (fp : List Addr), XE (X.blk s H scope (compEnvC scope cl C X.env) fp) elt we) (hs : ∀ x, foldedSetIterable iter X.env x = pure x := by intro _; rfl) :
    XS X (.Assign [.Name y py] (.ListComp elt [⟨tg, iter, ifs, 0⟩] scope pos) spos) (wSet i (wFz (wLc (own.map (·.2)) wi wg wt we))) := ps_imp (ps_setLc hc hN hy hyl hsw hi ok hg ht he hs) fun D σ H h => by
  obtain ⟨G, P, F, s, Φ, R, h, b⟩ := h
  refine lc_of hsub σ H _ ⟨G, P, F, s, _, R, h, fun p vs F' H' s' x R' e n hp d q => ?_⟩
  obtain ⟨R2, dq⟩ := R'.take n hp d
  exact b.nx _ _ H' _ (R2.setD dq) (e.trans (same_new n.f)) q
end
end DL
/-! DL, fifth part: defs, their promises (nothing under repr around), calls. -/
namespace DL
open PySem PySem.Spec PyProof.Rows L2

/-- a def's promise where no repr is under way -/
structure FnG (P : Program) (w : World) (K : PySem.W.Frag) (mg : Str → Option Value) (base : Heap) (CX : CXT) (k : Nat) (f : Addr) (fd : FuncData) (ps : List Str) (sp : Sp) : Prop where
  len : ∀ vs H Q E, sp vs H Q E → vs.length = ps.length
  go : ∀ (A : Around) (outer : List Env) (s : Shared) (H : Hp) (args : Args) (us : List Value) (vs : List V) (Q : VK) (E : XK), A.guards = some [] → Room k A → Env0 P w K mg base A outer s H → BindsTo s fd args (ps.zip us) →
    Vals vs us → sp vs H Q E → codeAny (model P w) A (.call (.ref f) args) (CR CX outer P w H s Q E) s
section
variable {P : Program} {w : World} {K : PySem.W.Frag} {mg : Str → Option Value} {base : Heap} {CX : CXT} {k : Nat} {f : Addr} {fd : FuncData} {ps : List Str} {sp : Sp}
theorem FnG.of (F : FnOk P w K mg base CX k f fd ps sp) : FnG P w K mg base CX k f fd ps sp := ⟨F.len, fun A outer s H args us vs Q E _ => F.run A outer s H args us vs Q E⟩
theorem FnG.mono {j : Nat} (F : FnG P w K mg base CX j f fd ps sp) (h : j ≤ k) : FnG P w K mg base CX k f fd ps sp := ⟨F.len, fun A outer s H args us vs Q E g hr => F.go A outer s H args us vs Q E g (hr.mono h)⟩
theorem FnG.imp {sp' : Sp} (F : FnG P w K mg base CX k f fd ps sp) (h : ∀ vs H Q E, sp' vs H Q E → sp vs H Q E) : FnG P w K mg base CX k f fd ps sp' :=
  ⟨fun vs H Q E q => F.len vs H Q E (h _ _ _ _ q), fun A outer s H args us vs Q E g hr he hb hv hs => F.go A outer s H args us vs Q E g hr he hb hv (h _ _ _ _ hs)⟩
/-- a def of the text by its body -/
theorem fng_of {qual x : Str} {st : Stmt} {N : List Str} (F : Fun K x qual st f fd) (Sc : FnScope N ps (defScope st)) (len : ∀ vs H Q E, sp vs H Q E → vs.length = ps.length)
    (hbody : ∀ (cdv : Value), fd.code = cdv → ∀ (A : Around) (outer : List Env) (s : Shared) (H : Hp) (vs : List V) (Q : VK) (E : XK), (A.deeper (envOfC qual (defScope st) s.heap.objs.size f cdv)).guards = some [] → Room k (A.deeper (envOfC qual (defScope st) s.heap.objs.size f cdv)) → sp vs H Q E →
      ∃ t, PSs (cxOf CX P w K mg base N qual (defScope st) f cdv A outer s H E) (defBody st) t ∧ t { nx := fun _ H' => Q .non H', rt := Q } (L2.start N vs) H) : FnG P w K mg base CX (k + 1) f fd ps sp := by
  obtain ⟨oc, od, kV, doc, pm, an, cdv, ct, osl, rfl, lk, hcd⟩ := F.ex
  refine ⟨len, fun A outer s H args us vs Q E g hr z hb r hsp => ?_⟩
  have names : ∀ y ∈ ps.zip us, (defScope st).names.lookup y.1 = some .local ∨ ((defScope st).names.lookup y.1 = some .cell ∧ ((cellsFrom (s.heap.objs.size + 1) (defScope st).names []).lookup y.1).isSome = true) := by
    rintro ⟨n, v⟩ hy
    rcases Sc.par n (List.of_mem_zip hy).1 with q | q
    · exact Or.inl q
    · exact Or.inr ⟨q, PySem.W.cellsFrom_some _ _ _ (Or.inl q)⟩
  have kin : K.In s.heap := z.mod.kin.keeps fun b o e => (z.bs b o e).1
  have nolim : s.heap.NoLimit := z.mod.nolimit.keeps fun b o e => (z.bs b o e).1
  refine codeAny_call_function hr.depth (kin _ _ lk) rfl Sc.co Sc.gen rfl (PySem.W.codeRec_of kin hcd) (hb _ _ _ _ (wpAny_newFunctionEnv_cells Sc.kind names fun env he s1 y => ?_))
  subst he
  obtain ⟨t, ht, hq⟩ := hbody cdv rfl A outer s H vs Q E (by show A.guards = some []; exact g) (hr.deeper _) hsp
  refine ⟨nolim.keeps y.toInCall.keep, codeAny_func (wpAny_mono (ht.run [] s1 (L2.start N vs) H _ (inv_start Sc hr.hd z (len _ _ _ _ hsp) r y) hq) (fun fl s' hs => ?_) fun e s' hs => hs)⟩
  cases fl with
  | ret u =>
    obtain ⟨v, σ', H', J, rv, q⟩ := hs
    exact (⟨v, H', J.os, J.bare, J.base, J.hok, rv, q⟩ : CE outer P w H s Q u s')
  | next =>
    obtain ⟨σ', H', J, q⟩ := hs
    exact (⟨V.non, H', J.os, J.bare, J.base, J.hok, rfl, q⟩ : CE outer P w H s Q .none s')
  | brk => exact hs.elim fun _ h => h.elim fun _ h => False.elim h.2
  | cont => exact hs.elim fun _ h => h.elim fun _ h => False.elim h.2
end
section
variable {X : Cx} {CX : CXT} {k : Nat} {f : Addr} {fd : FuncData} {ps : List Str} {sp : Sp} {dvs : List V} {ds : List Value} {E : XK} {x : Str} {p pos : Pos} {e : Expr} {es : List Expr} {t : TA}
/-- the call of such a def -/
theorem pe_callG (F : FnG X.prog X.w X.K X.mg X.base CX k f fd ps sp) (hgd : X.A.guards = some []) (hr : Room k X.A) (hg : Gl X x) (hm : X.mg x = some (.ref f)) (hk : PySem.W.keepIn X.K (.ref f) = true) (hb : Binds X.K fd ps ds) (hd : Vals dvs ds) (hx : Passes CX X E)
    (ha : PA X (e :: es) t) (hdb : (x == ("__debug__" : Str)) = false := by decide) (he : starEach (e :: es) X.env = (false, eval e X.env) :: starEach es X.env := by rfl) (hpl : (backTo pos (starEach es X.env)).any (·.1) = false := by rfl) :
    PE X (.Call (.Name x p) (e :: es) [] pos) (tCall sp dvs E t) := by
  refine ⟨fun pins s σ H Q I h => wpAny_Call_Name_kw (ld_glob I hg hm (PySem.W.callWith_K (h₀ := X.base) I.ok.mod.kin hk (thn (ha.run pos pins s σ H _ I h) fun us s1 ⟨vs, H1, J, r, q⟩ => ⟨J.kIn, ?_⟩) he hpl) hdb)⟩
  have rr : Vals (vs ++ dvs) (us ++ ds) := r.append hd
  refine wpAny_call (codeAny_mono (F.go X.A X.stack s1 H1 ⟨us, []⟩ (us ++ ds) (vs ++ dvs) Q E hgd hr J.env0 (hb s1 us J.kIn (by rw [← rr.length]; exact F.len _ _ _ _ q)) rr q) fun r s' hq => ?_)
  match r, hq with
  | .error e, hq => exact hx pins σ H1 s1 e s' J hq
  | .ok (.ret u), hq => exact J.after hq
  | .ok .next, hq => exact hq.elim
  | .ok .brk, hq => exact hq.elim
  | .ok .cont, hq => exact hq.elim
end

/-! ### promises over data -/
/-- a def of data: what it is handed stays, what it hands back is new or handed in -/
abbrev DSp := List PyData → (PyData → Prop) → Prop
/-- the tables are held, and are not frozen -/
def TabsF (K : PySem.W.Frag) (F H : Hp) : Prop := ∀ b, TabK K b → F b = none ∧ H b = some (.ext (tabPh b))
theorem Rep.tabF {K : PySem.W.Frag} {G F H : Hp} {P : Option Addr} {σ : L2.St} {s : S} (R : Rep K G P F H σ s) : TabsF K F H := fun b hb => ⟨R.apart b _ (R.tab b hb), R.keep b _ (R.tab b hb)⟩
def spD (K : PySem.W.Frag) (f : DSp) : Sp := fun vs H Q _ => ∃ F ds Φ, (Same F H ∧ TabsF K F H) ∧ DqA K F vs ds ∧ f ds Φ ∧ ∀ v F' H' x, Fresh F H F' H' → Dq K F' v x → Φ x → Q v H'
/-- .. whose first argument is the pool at a -/
structure FreshP (a : Addr) (F H F' H' : Hp) : Prop where
  ff : Same F F'
  fh : Same F' H'
  hh : ∀ b o, b ≠ a → H b = some o → H' b = some o
  fr : ∀ b o, H b = some o → F b = none → F' b = none
abbrev DSpP := List PyData → List Int → (PyData → List Int → Prop) → Prop
def spP (K : PySem.W.Frag) (f : DSpP) : Sp := fun vs H Q _ => ∃ a us F ds q Φ, vs = .ref a :: us ∧ (Same F H ∧ TabsF K F H) ∧ F a = none ∧ H a = some (.lst (q.map V.int)) ∧ DqA K F us ds ∧ f ds q Φ ∧
  ∀ v F' H' x q', FreshP a F H F' H' → H' a = some (.lst (q'.map V.int)) → Dq K F' v x → Φ x q' → Q v H'
/-- the part of H that is not frozen, nor at a -/
def partH (F H : Hp) (P : Option Addr) : Hp := fun b => if F b = none ∧ P ≠ some b then H b else none
section
variable {K : PySem.W.Frag} {F H : Hp} {P : Option Addr}
theorem partH_some {b : Addr} {o : HO} (h : partH F H P b = some o) : F b = none ∧ P ≠ some b ∧ H b = some o := by
  unfold partH at h
  by_cases c : F b = none ∧ P ≠ some b
  · rw [if_pos c] at h
    exact ⟨c.1, c.2, h⟩
  · rw [if_neg c] at h
    cases h
theorem partH_at {b : Addr} {o : HO} (h1 : F b = none) (h2 : P ≠ some b) (h : H b = some o) : partH F H P b = some o := by
  unfold partH
  rw [if_pos ⟨h1, h2⟩]
  exact h
theorem partH_none {b : Addr} (h : ¬ (F b = none ∧ P ≠ some b)) : partH F H P b = none := by
  unfold partH
  rw [if_neg h]
/-- the slots at the entry -/
@[simp] def startE (N : List Str) (ds : List Sl) : List Sl := ds ++ List.replicate (N.length - ds.length) .un
theorem start_get {N : List Str} {vs : List V} {i : Nat} {v : V} (h : vs[i]? = some v) : (L2.start N vs)[i]? = some (some v) := by
  unfold L2.start
  rw [List.getElem?_append_left (by rw [List.length_map]; exact (List.getElem?_eq_some_iff.mp h).1), List.getElem?_map, h]
  rfl
theorem startE_get {N : List Str} {ds : List Sl} {i : Nat} {x : Sl} (h : (startE N ds)[i]? = some x) : ds[i]? = some x ∨ x = .un := by
  unfold startE at h
  by_cases hi : i < ds.length
  · rw [List.getElem?_append_left hi] at h
    exact .inl h
  · rw [List.getElem?_append_right (by omega), List.getElem?_replicate] at h
    split at h
    · exact .inr (Option.some.inj h).symm
    · cases h
theorem tabs_part {K : PySem.W.Frag} {F H : Hp} {P : Option Addr} (t : TabsF K F H) (h : ∀ b, TabK K b → P ≠ some b) : TabsAt K (partH F H P) := fun b hb => partH_at (t b hb).1 (h b hb) (t b hb).2
theorem rep_startD {N : List Str} {vs : List V} {ds : List PyData} (e0 : Same F H ∧ TabsF K F H) (d : DqA K F vs ds) (q : List Int) : Rep K (partH F H none) none F H (L2.start N vs) ⟨startE N (ds.map .d), q⟩ := by
  obtain ⟨e, tf⟩ := e0
  refine ⟨e, fun b o h => (partH_some h).2.2, fun b o h => (partH_some h).1, fun i x hx => ?_, fun i j xs ys p hi hj _ _ => ?_, fun a ha => (by cases ha), ?_, fun i j x y r hi hj hr _ _ => ?_, tabs_part tf fun _ _ z => by cases z⟩
  · rcases startE_get hx with h | rfl
    · rw [List.getElem?_map] at h
      cases hd : ds[i]? with
      | none =>
        rw [hd] at h
        cases h
      | some y =>
        rw [hd] at h
        cases h
        obtain ⟨v, a, b⟩ := d.get hd
        exact ⟨v, start_get a, b⟩
    · exact True.intro
  · rcases startE_get hi with h | h
    · rw [List.getElem?_map] at h
      cases hd : ds[i]? with
      | none =>
        rw [hd] at h
        cases h
      | some y =>
        rw [hd] at h
        cases h
    · cases h
  · show (L2.start N vs).length = (startE N (ds.map .d)).length
    unfold L2.start startE
    rw [List.length_append, List.length_append, List.length_map, List.length_map, List.length_replicate, List.length_replicate, d.length]
  · rcases startE_get hi with h | rfl
    · rw [List.getElem?_map] at h
      cases hd : ds[i]? with
      | none =>
        rw [hd] at h
        cases h
      | some y =>
        rw [hd] at h
        cases h
        cases hr
    · cases hr
theorem rep_startP {N : List Str} {vs : List V} {ds : List PyData} {a : Addr} {q : List Int} (e0 : Same F H ∧ TabsF K F H) (d : DqA K F vs ds) (fa : F a = none) (ha : H a = some (.lst (q.map V.int))) :
    Rep K (partH F H (some a)) (some a) F H (L2.start N (.ref a :: vs)) ⟨startE N (.pl :: ds.map .d), q⟩ := by
  have look : ∀ {i : Nat} {x : Sl}, (.pl :: ds.map Sl.d : List Sl)[i]? = some x → (i = 0 ∧ x = .pl) ∨ ∃ j y, i = j + 1 ∧ x = .d y ∧ ds[j]? = some y := fun {i x} h => by
    cases i with
    | zero => exact .inl ⟨rfl, (Option.some.inj (by simpa using h)).symm⟩
    | succ j =>
      have h' : (ds.map Sl.d)[j]? = some x := by simpa using h
      rw [List.getElem?_map] at h'
      cases hd : ds[j]? with
      | none =>
        rw [hd] at h'
        cases h'
      | some y =>
        rw [hd] at h'
        cases h'
        exact .inr ⟨j, y, rfl, rfl, hd⟩
  obtain ⟨e, tf⟩ := e0
  refine ⟨e, fun b o h => (partH_some h).2.2, fun b o h => (partH_some h).1, fun i x hx => ?_, fun i j xs ys p hi hj _ _ => ?_, fun b hb => ?_, ?_, fun i j x y r hi hj hr _ _ => ?_, tabs_part tf fun b hb z => by
    cases z
    have q := (tf _ hb).2
    rw [ha] at q
    cases q⟩
  · rcases startE_get hx with h | rfl
    · rcases look h with ⟨rfl, rfl⟩ | ⟨j, y, rfl, rfl, hd⟩
      · exact ⟨a, rfl, start_get rfl⟩
      · obtain ⟨v, g, b⟩ := d.get hd
        exact ⟨v, start_get (by simpa using g), b⟩
    · exact True.intro
  · rcases startE_get hi with h | h
    · rcases look h with ⟨_, z⟩ | ⟨_, _, _, z, _⟩
      · cases z
      · cases z
    · cases h
  · cases hb
    exact ⟨fa, partH_none (fun z => z.2 rfl), ha⟩
  · show (L2.start N (.ref a :: vs)).length = (startE N (.pl :: ds.map .d)).length
    unfold L2.start startE
    rw [List.length_append, List.length_append, List.length_map, List.length_replicate, List.length_replicate, List.length_cons, List.length_cons, List.length_map, d.length]
  · rcases startE_get hi with h | rfl
    · rcases look h with ⟨rfl, rfl⟩ | ⟨j, y, rfl, rfl, hd⟩
      · cases hr
      · cases hr
    · cases hr
end
/-- the ends of a def of data -/
@[simp] def endD (Φ : PyData → Prop) : EN := { nx := fun _ => Φ .none, rt := fun x _ => Φ x }
@[simp] def endP (Φ : PyData → List Int → Prop) : EN := { nx := fun s => Φ .none s.q, rt := fun x s => Φ x s.q }
section
variable {P : Program} {w : World} {K : PySem.W.Frag} {mg : Str → Option Value} {base : Heap} {k : Nat} {f : Addr} {fd : FuncData} {ps : List Str} {qual x : Str} {st : Stmt} {N : List Str}
/-- a def over data by its body -/
theorem fn_D {sp : DSp} (F : Fun K x qual st f fd) (Sc : FnScope N ps (defScope st)) (len : ∀ ds Φ, sp ds Φ → ds.length = ps.length)
    (hbody : ∀ (cdv : Value) (A : Around) (outer : List Env) (s : Shared) (H : Hp) (E : XK), (A.deeper (envOfC qual (defScope st) s.heap.objs.size f cdv)).guards = some [] → Room k (A.deeper (envOfC qual (defScope st) s.heap.objs.size f cdv)) →
      ∃ wd, XSs (cxOf CX0 P w K mg base N qual (defScope st) f cdv A outer s H E).nox (defBody st) wd ∧ ∀ ds Φ, sp ds Φ → wd (endD Φ) ⟨startE N (ds.map .d), []⟩) : FnG P w K mg base CX0 (k + 1) f fd ps (spD K sp) := by
  refine fng_of F Sc (fun vs H Q E h => ?_) (fun cdv _ A outer s H vs Q E g hr h => ?_)
  · obtain ⟨F, ds, Φ, _, d, hs, _⟩ := h
    rw [d.length]
    exact len ds Φ hs
  · obtain ⟨wd, hX, hw⟩ := hbody cdv A outer s H E g hr
    refine ⟨_, hX.nox, ?_⟩
    obtain ⟨F, ds, Φ, e, d, hs, kk⟩ := h
    have fr : ∀ {σ' : L2.St} {F' H' : Hp} {s' : S}, Rep K (partH F H none) none F' H' σ' s' → Same F F' → Fresh F H F' H' := fun {σ' F' H' s'} R ee =>
      ⟨ee, R.same, fun b o hb => by
        cases hF : F b with
        | none => exact R.keep b o (partH_at hF (fun z => by cases z) hb)
        | some u =>
          have q := e.1 b u hF
          rw [hb] at q
          cases q
          exact R.same b o (ee b o hF), fun b o hb hF => R.apart b o (partH_at hF (fun z => by cases z) hb)⟩
    exact ⟨_, none, F, _, _, rep_startD e d [], hw ds Φ hs, fun σ' F' H' s' R ee q => kk _ F' H' .none (fr R ee) .non q, fun v σ' F' H' s' x R ee dx q => kk v F' H' x (fr R ee) dx q, fun _ _ _ _ _ _ q => q.elim, fun _ _ _ _ _ _ q => q.elim, fun _ _ _ _ _ _ _ _ _ _ _ _ q => q.elim, fun _ _ _ _ _ _ _ _ q => q.elim⟩
theorem fn_P {sp : DSpP} (F : Fun K x qual st f fd) (Sc : FnScope N ps (defScope st)) (len : ∀ ds q Φ, sp ds q Φ → ds.length + 1 = ps.length)
    (hbody : ∀ (cdv : Value) (A : Around) (outer : List Env) (s : Shared) (H : Hp) (E : XK), (A.deeper (envOfC qual (defScope st) s.heap.objs.size f cdv)).guards = some [] → Room k (A.deeper (envOfC qual (defScope st) s.heap.objs.size f cdv)) →
      ∃ wd, XSs (cxOf CX0 P w K mg base N qual (defScope st) f cdv A outer s H E).nox (defBody st) wd ∧ ∀ ds q Φ, sp ds q Φ → wd (endP Φ) ⟨startE N (.pl :: ds.map .d), q⟩) : FnG P w K mg base CX0 (k + 1) f fd ps (spP K sp) := by
  refine fng_of F Sc (fun vs H Q E h => ?_) (fun cdv _ A outer s H vs Q E g hr h => ?_)
  · obtain ⟨a, us, F, ds, q, Φ, rfl, _, _, _, d, hs, _⟩ := h
    rw [List.length_cons, d.length]
    exact len ds q Φ hs
  · obtain ⟨wd, hX, hw⟩ := hbody cdv A outer s H E g hr
    refine ⟨_, hX.nox, ?_⟩
    obtain ⟨a, us, F, ds, q, Φ, rfl, e, fa, ha, d, hs, kk⟩ := h
    have fr : ∀ {σ' : L2.St} {F' H' : Hp} {s' : S}, Rep K (partH F H (some a)) (some a) F' H' σ' s' → Same F F' → FreshP a F H F' H' := fun {σ' F' H' s'} R ee => by
      refine ⟨ee, R.same, fun b o nb hb => ?_, fun b o hb hF => ?_⟩
      · cases hF : F b with
        | none => exact R.keep b o (partH_at hF (fun z => nb (Option.some.inj z).symm) hb)
        | some u =>
          have q := e.1 b u hF
          rw [hb] at q
          cases q
          exact R.same b o (ee b o hF)
      · by_cases nb : b = a
        · rw [nb]
          exact (R.pool a rfl).1
        · exact R.apart b o (partH_at hF (fun z => nb (Option.some.inj z).symm) hb)
    exact ⟨_, some a, F, _, _, rep_startP e d fa ha, hw ds q Φ hs, fun σ' F' H' s' R ee q => kk _ F' H' .none s'.q (fr R ee) (R.pool a rfl).2.2 .non q, fun v σ' F' H' s' x R ee dx q => kk v F' H' x s'.q (fr R ee) (R.pool a rfl).2.2 dx q, fun _ _ _ _ _ _ q => q.elim, fun _ _ _ _ _ _ q => q.elim, fun _ _ _ _ _ _ _ _ _ _ _ _ q => q.elim, fun _ _ _ _ _ _ _ _ q => q.elim⟩
end
/-! ### calls -/
section
variable {X : Cx} {k : Nat} {f : Addr} {fd : FuncData} {ps : List Str} {x : Str} {p pos : Pos} {e : Expr} {es : List Expr}
@[simp] def wCall (sp : DSp) (wa : DA) : DE := fun s Φ => wa s fun ds s1 => sp ds fun r => Φ r s1
theorem xe_call {sp : DSp} {wa : DA} (F : FnG X.prog X.w X.K X.mg X.base CX0 k f fd ps (spD X.K sp)) (hgd : X.A.guards = some []) (hr : Room k X.A) (hg : Gl X x) (hm : X.mg x = some (.ref f)) (hk : PySem.W.keepIn X.K (.ref f) = true) (hb : Binds X.K fd ps [])
    (ha : XA X (e :: es) wa) (hdb : (x == ("__debug__" : Str)) = false := by decide) (he : starEach (e :: es) X.env = (false, eval e X.env) :: starEach es X.env := by rfl) (hpl : (backTo pos (starEach es X.env)).any (·.1) = false := by rfl) :
    XE X (.Call (.Name x p) (e :: es) [] pos) (wCall sp wa) := pe_imp (pe_callG F hgd hr hg hm hk hb .nil pass0 ha hdb he hpl) fun σ H Q h => by
  obtain ⟨G, P, F, s, Φ, R, h, kk⟩ := h
  refine ⟨G, P, F, s, _, R, h, fun vs F1 H1 s1 ds R1 e1 d1 q => ?_⟩
  show spD X.K sp (vs ++ []) H1 Q E0
  rw [List.append_nil]
  exact ⟨F1, ds, _, ⟨R1.same, R1.tabF⟩, d1, q, fun v F' H' x fr dx qx => kk v F' H' s1 x (R1.fresh fr) (e1.trans fr.ff) dx qx⟩
theorem Rep.freshP {K : PySem.W.Frag} {G F F' H H' : Hp} {a : Addr} {σ : L2.St} {s : S} {q' : List Int} (R : Rep K G (some a) F H σ s) (f : FreshP a F H F' H') (hq : H' a = some (.lst (q'.map V.int))) : Rep K G (some a) F' H' σ ⟨s.e, q'⟩ := by
  obtain ⟨p1, p2, p3⟩ := R.pool a rfl
  refine ⟨f.fh, fun b o g => f.hh b o (fun z => by rw [z, p2] at g; cases g) (R.keep b o g), fun b o g => f.fr b o (R.keep b o g) (R.apart b o g), fun i x hx => ?_, R.sep, fun b hb => ?_, R.len, R.tbs, R.tab⟩
  · have q := R.sl i x hx
    cases x with
    | un => exact True.intro
    | d x =>
      obtain ⟨v, a1, a2⟩ := q
      exact ⟨v, a1, a2.mono f.ff⟩
    | o xs =>
      obtain ⟨p, vs, h1, h2, h3, h4, h5, h6⟩ := q
      exact ⟨p, vs, h1, f.fr p _ h5 h2, h3, h4, f.hh p _ (fun z => h4 (by rw [z])) h5, h6.mono f.ff⟩
    | pl => exact q
    | sc ns =>
      obtain ⟨b, a1, a2⟩ := q
      exact ⟨b, a1, f.ff.seq a2⟩
    | tb p qs xss => exact q.tbUp rfl f.ff fun r o _ g1 g2 g3 g4 => ⟨f.fr r o g4 g1, g2, g3, f.hh r o (fun z => g3 (by rw [z])) g4⟩
  · cases hb
    exact ⟨f.fr a _ p3 p1, p2, hq⟩
@[simp] def poolAt (s : S) (i : Nat) (k : Prop) : Prop := match s.e[i]? with
  | some .pl => k
  | _ => False
theorem poolAt_of {s : S} {i : Nat} {k : Prop} (h : poolAt s i k) : s.e[i]? = some .pl ∧ k := by
  unfold poolAt at h
  cases hs : s.e[i]? with
  | none =>
    rw [hs] at h
    exact h.elim
  | some z =>
    rw [hs] at h
    cases z with
    | pl => exact ⟨rfl, h⟩
    | _ => exact h.elim
/-- f(pool, ..) -/
@[simp] def wCallP (i : Nat) (sp : DSpP) (wa : DA) : DE := fun s Φ => poolAt s i (wa s fun ds s1 => sp ds s1.q fun r q' => Φ r ⟨s1.e, q'⟩)
theorem xe_callP {i : Nat} {y : Str} {yp : Pos} {sp : DSpP} {wa : DA} (F : FnG X.prog X.w X.K X.mg X.base CX0 k f fd ps (spP X.K sp)) (hgd : X.A.guards = some []) (hr : Room k X.A) (hg : Gl X x) (hm : X.mg x = some (.ref f)) (hk : PySem.W.keepIn X.K (.ref f) = true) (hb : Binds X.K fd ps [])
    (hv : PE X (.Name y yp) (tVar i)) (ha : XA X es wa) (hdb : (x == ("__debug__" : Str)) = false := by decide) (he : starEach (.Name y yp :: es) X.env = (false, eval (.Name y yp) X.env) :: starEach es X.env := by rfl) (hpl : (backTo pos (starEach es X.env)).any (·.1) = false := by rfl) :
    XE X (.Call (.Name x p) (.Name y yp :: es) [] pos) (wCallP i sp wa) := pe_imp (pe_callG F hgd hr hg hm hk hb .nil pass0 (pa_cons hv ha he) hdb he hpl) fun σ H Q h => by
  obtain ⟨G, P, F, s, Φ, R, h, kk⟩ := h
  obtain ⟨hs, h⟩ := poolAt_of h
  obtain ⟨a, rfl, ha⟩ := R.sl i _ hs
  refine ⟨_, ha, G, some a, F, s, _, R, h, fun vs F1 H1 s1 ds R1 e1 d1 q => ?_⟩
  show spP X.K sp ((.ref a :: vs) ++ []) H1 Q E0
  rw [List.append_nil]
  obtain ⟨p1, p2, p3⟩ := R1.pool a rfl
  exact ⟨a, vs, F1, ds, s1.q, _, rfl, ⟨R1.same, R1.tabF⟩, p1, p3, d1, q, fun v F' H' x q' fr hq dx qx => kk v F' H' ⟨s1.e, q'⟩ x (R1.freshP fr hq) (e1.trans fr.ff) dx qx⟩
end
end DL
/-! DL, sixth part: operations by data. -/
namespace DL
open PySem PySem.Spec PyProof.Rows L2

section
variable {K : PySem.W.Frag}
/-- ints in, a plain value out -/
@[simp] def wII (C : Int → Int → Prop) (g : Int → Int → PyData) : W2 := fun x y Φ => match x, y with
  | .int a, .int b => C a b ∧ Φ (g a b)
  | _, _ => False
@[simp] def wI2 (g : Int → Int → PyData) : W2 := fun x y Φ => match x, y with
  | .int a, .int b => Φ (g a b)
  | _, _ => False
theorem op2_I {C : Int → Int → Prop} {g : Int → Int → V} {h : Int → Int → PyData} (e : ∀ F i j, Dq K F (g i j) (h i j)) : Op2 K (rI C g) (wII C h) := ⟨fun {F H x y dx dy} Q Φ s d1 d2 w k => by
  cases dx with
  | int a =>
    cases dy with
    | int b =>
      cases d1
      cases d2
      exact ⟨a, b, rfl, rfl, w.1, k _ F H _ (Fresh.refl s) (e F a b) w.2⟩
    | _ => exact w.elim
  | _ => exact w.elim⟩
theorem op2_I0 {g : Int → Int → V} {h : Int → Int → PyData} (e : ∀ F i j, Dq K F (g i j) (h i j)) : Op2 K (rI0 g) (wI2 h) := ⟨fun {F H x y dx dy} Q Φ s d1 d2 w k => by
  cases dx with
  | int a =>
    cases dy with
    | int b =>
      cases d1
      cases d2
      exact ⟨a, b, rfl, rfl, k _ F H _ (Fresh.refl s) (e F a b) w⟩
    | _ => exact w.elim
  | _ => exact w.elim⟩
/-! + -/
def rAddS : R2 := fun x y H Q => ∃ i j, x = .str i ∧ y = .str j ∧ i.length + j.length ≤ sizeLine ∧ Q (.str (i ++ j)) H
def rPlus (K : PySem.W.Frag) : R2 := rOr (rI0 fun i j => .int (i + j)) (rOr rAddS (rOr rCat (rCatT K)))
@[simp] def wAdd : W2 := fun x y Φ => match x, y with
  | .int a, .int b => Φ (.int (a + b))
  | .str a, .str b => a.length + b.length ≤ sizeLine ∧ Φ (.str (a ++ b))
  | .list a, .list b => a.length + b.length ≤ sizeLine ∧ Φ (.list (a ++ b))
  | .tuple a, .tuple b => a ≠ [] ∧ a.length + b.length ≤ sizeLine ∧ Φ (.tuple (a ++ b))
  | _, _ => False
theorem opr_plus {X : Cx} : OpR X (binaryOp .Add) (rPlus X.K) := opr_or op_add (opr_or op_add_str (opr_or op_cat op_catT))
theorem cat_run {F H : Hp} {x y : V} {a b : List PyData} (Q : VK) (Φ : List PyData → Prop) (s : Same F H) (d1 : Dq K F x (.list a)) (d2 : Dq K F y (.list b)) (w : a.length + b.length ≤ sizeLine ∧ Φ (a ++ b))
    (k : ∀ p vs ds, H p = none → DqA K F vs ds → Φ ds → Q (.ref p) (upd H p (.lst vs))) : rCat x y H Q := by
  cases d1 with
  | lst h1 h2 =>
    cases d2 with
    | lst g1 g2 => exact ⟨_, _, _, _, rfl, rfl, s _ _ h1, s _ _ g1, by rw [h2.length, g2.length]; exact w.1, fun p hp => k p _ _ hp (h2.append g2) w.2⟩
theorem op2_plus : Op2 K (rPlus K) wAdd := ⟨fun {F H x y dx dy} Q Φ s d1 d2 w k => by
  cases dx with
  | int a =>
    cases dy with
    | int b =>
      cases d1
      cases d2
      exact .inl ⟨a, b, rfl, rfl, k _ F H _ (Fresh.refl s) (.int _) w⟩
    | _ => exact w.elim
  | str a =>
    cases dy with
    | str b =>
      cases d1
      cases d2
      exact .inr (.inl ⟨a, b, rfl, rfl, w.1, k _ F H _ (Fresh.refl s) (.str _) w.2⟩)
    | _ => exact w.elim
  | list a =>
    cases dy with
    | list b =>
      refine .inr (.inr (.inl (cat_run Q (fun z => Φ (.list z)) s d1 d2 w fun p vs ds hp dq q => ?_)))
      have f := Fresh.new (o := .lst vs) s hp
      exact k _ _ _ _ f (.lst upd_same (dq.mono f.ff)) q
    | _ => exact w.elim
  | tuple a =>
    cases dy with
    | tuple b =>
      cases d1 with
      | tup h1 h2 =>
        cases d2 with
        | tup g1 g2 =>
          rename_i xs p2 ys
          obtain ⟨w1, w2, w3⟩ := w
          have l1 := h2.length
          have l2 := g2.length
          refine .inr (.inr (.inr ⟨_, _, _, _, rfl, rfl, same_sqt s h1, same_sqt s g1, fun z => w1 (by cases a with | nil => rfl | cons _ _ => rw [z] at l1; simp at l1), by omega, fun z => ?_, fun z p hp => ?_⟩))
          · have hb : b = [] := by
              cases b with
              | nil => rfl
              | cons _ _ => rw [z] at l2; simp at l2
            rw [hb, List.append_nil] at w3
            exact k _ F H _ (Fresh.refl s) (.tup h1 h2) w3
          · have f := Fresh.new (o := .tup (xs ++ ys)) s hp
            exact k _ _ _ _ f (.tup (SqT.of upd_same) ((h2.append g2).mono f.ff)) w3
    | _ => exact w.elim
  | _ => exact w.elim⟩
@[simp] def wCat : W2L := fun x y Φ => match x, y with
  | .list a, .list b => a.length + b.length ≤ sizeLine ∧ Φ (a ++ b)
  | _, _ => False
theorem op2L_cat : Op2L K rCat wCat := ⟨fun {F H x y dx dy} Q Φ s d1 d2 w k => by
  cases dx with
  | list a =>
    cases dy with
    | list b => exact cat_run Q Φ s d1 d2 w k
    | _ => exact w.elim
  | _ => exact w.elim⟩
/-! * -/
@[simp] def wRepL : W2L := fun x y Φ => match x, y with
  | .list a, .int k => (-(2 ^ 63) ≤ k ∧ k < 2 ^ 63 ∧ a.length * k.toNat ≤ sizeLine) ∧ Φ (List.replicate k.toNat a).flatten
  | _, _ => False
/-! comparisons -/
def eqD (x y : PyData) : Prop := SeqAt.shaped x = true ∧ SeqAt.shaped y = true
@[simp] def wEq (neg : Bool) : W2 := fun x y Φ => match x, y with
  | .int a, .int b => Φ (.bool (if neg then !decide (a = b) else decide (a = b)))
  | .str a, .str b => Φ (.bool (if neg then !decide (a = b) else decide (a = b)))
  | x, y => eqD x y ∧ Φ (.bool (if neg then !PyData.eqv x y else PyData.eqv x y))
def rEqA (K : PySem.W.Frag) : R2 := rOr rEq (rEqD K)
def rNeA (K : PySem.W.Frag) : R2 := rOr rNe (rNeD K)
theorem dec_inj {α β : Type} [DecidableEq α] [DecidableEq β] {f : α → β} (hf : ∀ a b, f a = f b → a = b) (a b : α) : decide (f a = f b) = decide (a = b) := by
  by_cases h : a = b
  · rw [h, decide_eq_true rfl, decide_eq_true rfl]
  · rw [decide_eq_false h, decide_eq_false (fun z => h (hf a b z))]
theorem op2_eq : Op2 K (rEqA K) (wEq false) := ⟨fun {F H x y dx dy} Q Φ s d1 d2 w k => by
  have gen : ∀ b, eqD dx dy → b = PyData.eqv dx dy → Φ (.bool b) → rEqA K x y H Q := fun b e hb q => by
    subst hb
    exact .inr ⟨dx, dy, (d1.mono s).dp (PyData.hasDict_of_canLay _ (SeqAt.canLay_of_shaped e.1)), (d2.mono s).dp (PyData.hasDict_of_canLay _ (SeqAt.canLay_of_shaped e.2)), e.1, e.2, k _ F H _ (Fresh.refl s) (.bl _) q⟩
  cases dx <;> cases dy <;> first
    | (cases d1; cases d2; exact .inl ⟨rfl, by rw [dec_inj (fun a b z => by injection z)]; exact k _ F H _ (Fresh.refl s) (.bl _) w⟩)
    | exact gen _ w.1 rfl w.2⟩
theorem op2_ne : Op2 K (rNeA K) (wEq true) := ⟨fun {F H x y dx dy} Q Φ s d1 d2 w k => by
  have gen : ∀ b, eqD dx dy → b = (!PyData.eqv dx dy) → Φ (.bool b) → rNeA K x y H Q := fun b e hb q => by
    subst hb
    exact .inr ⟨dx, dy, (d1.mono s).dp (PyData.hasDict_of_canLay _ (SeqAt.canLay_of_shaped e.1)), (d2.mono s).dp (PyData.hasDict_of_canLay _ (SeqAt.canLay_of_shaped e.2)), e.1, e.2, k _ F H _ (Fresh.refl s) (.bl _) q⟩
  cases dx <;> cases dy <;> first
    | (cases d1; cases d2; exact .inl ⟨rfl, by rw [dec_inj (fun a b z => by injection z)]; exact k _ F H _ (Fresh.refl s) (.bl _) w⟩)
    | exact gen _ w.1 rfl w.2⟩
theorem opr_eq {X : Cx} (hu : X.A.units + 64 < cLine) : OpR X (compareOp .Eq) (rEqA X.K) := opr_or op_eq (op_eqD hu)
theorem opr_ne {X : Cx} (hu : X.A.units + 64 < cLine) : OpR X (compareOp .NotEq) (rNeA X.K) := opr_or op_ne (op_neD hu)
/-! is None -/
@[simp] def isNon : PyData → Bool
  | .none => true
  | _ => false
theorem isNon_v {F : Hp} {v : V} {d : PyData} (h : Dq K F v d) : decide (v = .non) = isNon d := by
  cases h <;> simp [isNon]
@[simp] def wIsN (neg : Bool) : W2 := fun x y Φ => match y with
  | .none => Φ (.bool (if neg then !isNon x else isNon x))
  | _ => False
theorem op2_isN : Op2 K (fun x y H Q => y = .non ∧ Q (.bl (decide (x = .non))) H) (wIsN false) := ⟨fun {F H x y dx dy} Q Φ s d1 d2 w k => by
  cases dy with
  | none =>
    cases d2
    exact ⟨rfl, by rw [isNon_v d1]; exact k _ F H _ (Fresh.refl s) (.bl _) w⟩
  | _ => exact w.elim⟩
theorem op2_notN : Op2 K (fun x y H Q => y = .non ∧ Q (.bl (!decide (x = .non))) H) (wIsN true) := ⟨fun {F H x y dx dy} Q Φ s d1 d2 w k => by
  cases dy with
  | none =>
    cases d2
    exact ⟨rfl, by rw [isNon_v d1]; exact k _ F H _ (Fresh.refl s) (.bl _) w⟩
  | _ => exact w.elim⟩
/-! in, not in -/
def flatD : PyData → Bool
  | .none => true
  | .bool _ => true
  | .int _ => true
  | .str _ => true
  | _ => false
def eqF : PyData → PyData → Bool
  | .none, .none => true
  | .bool a, .bool b => a == b
  | .bool a, .int b => (if a then 1 else 0) == b
  | .int a, .bool b => a == (if b then 1 else 0)
  | .int a, .int b => a == b
  | .str a, .str b => a == b
  | _, _ => false
def inF (x : PyData) (xs : List PyData) : Bool := xs.any fun y => eqF y x
theorem flat_v {F : Hp} {v : V} {d : PyData} (h : Dq K F v d) (f : flatD d = true) : flatV v = true := by
  cases h <;> first | rfl | cases f
theorem flat_vs {F : Hp} : ∀ {vs : List V} {ds : List PyData}, DqA K F vs ds → ds.all flatD = true → vs.all flatV = true
  | [], [], _, _ => rfl
  | v :: vs, d :: ds, h, f => by
    cases h with
    | cons h1 h2 =>
      rw [List.all_cons, Bool.and_eq_true] at f ⊢
      exact ⟨flat_v h1 f.1, flat_vs h2 f.2⟩
  | [], _ :: _, h, _ => by cases h
  | _ :: _, [], h, _ => by cases h
theorem eqF_v {F : Hp} {v u : V} {d e : PyData} (h : Dq K F v d) (g : Dq K F u e) (f : flatD d = true) (f' : flatD e = true) : eqV v u = eqF d e := by
  cases h <;> cases g <;> first | rfl | cases f | cases f'
theorem inF_v {F : Hp} {v : V} {d : PyData} (h : Dq K F v d) (f : flatD d = true) : ∀ {vs : List V} {ds : List PyData}, DqA K F vs ds → ds.all flatD = true → inV v vs = inF d ds
  | [], [], _, _ => rfl
  | u :: vs, e :: ds, g, a => by
    cases g with
    | cons g1 g2 =>
      rw [List.all_cons, Bool.and_eq_true] at a
      have ih := inF_v h f g2 a.2
      unfold inV inF at ih ⊢
      rw [List.any_cons, List.any_cons, eqF_v g1 h a.1 f, ih]
  | [], _ :: _, g, _ => by cases g
  | _ :: _, [], g, _ => by cases g
def rSign : R2 := fun x y H Q => ∃ (c : Nat) (z : Str), x = .str ⟨#[c]⟩ ∧ y = .str z ∧ Q (.bl (decide (c ∈ z.cps.toList))) H
def rNSign : R2 := fun x y H Q => ∃ (c : Nat) (z : Str), x = .str ⟨#[c]⟩ ∧ y = .str z ∧ Q (.bl (!decide (c ∈ z.cps.toList))) H
@[simp] def wIn (neg : Bool) : W2 := fun x y Φ => match y with
  | .list xs => (flatD x = true ∧ xs.all flatD = true) ∧ Φ (.bool (if neg then !inF x xs else inF x xs))
  | .tuple xs => (flatD x = true ∧ xs.all flatD = true) ∧ Φ (.bool (if neg then !inF x xs else inF x xs))
  | .str z => match x with
    | .str s => ∃ c, s = ⟨#[c]⟩ ∧ Φ (.bool (if neg then !decide (c ∈ z.cps.toList) else decide (c ∈ z.cps.toList)))
    | _ => False
  | _ => False
theorem op2_in : Op2 K (rOr (rIn K false) rSign) (wIn false) := ⟨fun {F H x y dx dy} Q Φ s d1 d2 w k => by
  cases dy with
  | list xs =>
    cases d2 with
    | lst h1 h2 => exact .inl ⟨_, _, rfl, .inl (SqL.of (s _ _ h1)), flat_v d1 w.1.1, flat_vs h2 w.1.2, by rw [inF_v d1 w.1.1 h2 w.1.2]; exact k _ F H _ (Fresh.refl s) (.bl _) w.2⟩
  | tuple xs =>
    cases d2 with
    | tup h1 h2 => exact .inl ⟨_, _, rfl, .inr (same_sqt s h1), flat_v d1 w.1.1, flat_vs h2 w.1.2, by rw [inF_v d1 w.1.1 h2 w.1.2]; exact k _ F H _ (Fresh.refl s) (.bl _) w.2⟩
  | str z =>
    cases dx with
    | str t =>
      cases d1
      cases d2
      obtain ⟨c, rfl, w⟩ := w
      exact .inr ⟨c, z, rfl, rfl, k _ F H _ (Fresh.refl s) (.bl _) w⟩
    | _ => exact w.elim
  | _ => exact w.elim⟩
theorem op2_notIn : Op2 K (rOr (rIn K true) rNSign) (wIn true) := ⟨fun {F H x y dx dy} Q Φ s d1 d2 w k => by
  cases dy with
  | list xs =>
    cases d2 with
    | lst h1 h2 => exact .inl ⟨_, _, rfl, .inl (SqL.of (s _ _ h1)), flat_v d1 w.1.1, flat_vs h2 w.1.2, by rw [inF_v d1 w.1.1 h2 w.1.2]; exact k _ F H _ (Fresh.refl s) (.bl _) w.2⟩
  | tuple xs =>
    cases d2 with
    | tup h1 h2 => exact .inl ⟨_, _, rfl, .inr (same_sqt s h1), flat_v d1 w.1.1, flat_vs h2 w.1.2, by rw [inF_v d1 w.1.1 h2 w.1.2]; exact k _ F H _ (Fresh.refl s) (.bl _) w.2⟩
  | str z =>
    cases dx with
    | str t =>
      cases d1
      cases d2
      obtain ⟨c, rfl, w⟩ := w
      exact .inr ⟨c, z, rfl, rfl, k _ F H _ (Fresh.refl s) (.bl _) w⟩
    | _ => exact w.elim
  | _ => exact w.elim⟩
theorem opr_in {X : Cx} : OpR X (compareOp .In) (rOr (rIn X.K false) rSign) := opr_or op_in_seq op_in_sign
theorem opr_notIn {X : Cx} : OpR X (compareOp .NotIn) (rOr (rIn X.K true) rNSign) := opr_or op_notIn_seq op_notIn_sign
/-! places -/
@[simp] def wIx : W2 := fun x y Φ => match x, y with
  | .list xs, .int k => optP (atI xs k) Φ
  | .tuple xs, .int k => optP (atI xs k) Φ
  | .str z, .int k => z.length ≤ sizeLine ∧ optP (atI z.cps.toList k) fun c => Φ (.str ⟨#[c]⟩)
  | _, _ => False
theorem optP_of {α : Type} {o : Option α} {k : α → Prop} (h : optP o k) : ∃ a, o = some a ∧ k a := by
  cases o with
  | none => exact h.elim
  | some a => exact ⟨a, rfl, h⟩
theorem op2_ix : Op2 K (rIx K) wIx := ⟨fun {F H x y dx dy} Q Φ s d1 d2 w k => by
  cases dy with
  | int i =>
    cases d2
    cases dx with
    | list xs =>
      cases d1 with
      | lst h1 h2 =>
        obtain ⟨d, e, w⟩ := optP_of w
        obtain ⟨v, a, b⟩ := atI_up h2 e
        exact .inl ⟨_, _, i, v, rfl, rfl, SqL.of (s _ _ h1), a, k v F H d (Fresh.refl s) b w⟩
    | tuple xs =>
      cases d1 with
      | tup h1 h2 =>
        obtain ⟨d, e, w⟩ := optP_of w
        obtain ⟨v, a, b⟩ := atI_up h2 e
        exact .inr (.inl ⟨_, _, i, v, rfl, rfl, same_sqt s h1, a, k v F H d (Fresh.refl s) b w⟩)
    | str z =>
      cases d1
      obtain ⟨c, e, w2⟩ := optP_of w.2
      exact .inr (.inr ⟨z, i, c, rfl, rfl, w.1, e, k _ F H _ (Fresh.refl s) (.str _) w2⟩)
    | _ => exact w.elim
  | _ =>
    cases dx <;> exact w.elim⟩
end
/-! slices -/
section
variable {X : Cx} {e : Expr} {lo hi : Option Expr} {pos p2 : Pos}
abbrev DO := S → (Option Int → S → Prop) → Prop
def tO (K : PySem.W.Frag) (w : DO) : TO := fun σ H Q => ∃ G P F s Φ, Rep K G P F H σ s ∧ w s Φ ∧ ∀ o F' H' s', Rep K G P F' H' σ s' → Same F F' → Φ o s' → Q o H'
abbrev XO (X : Cx) (e : Option Expr) (w : DO) : Prop := PO X e (tO X.K w)
theorem po_imp {o : Option Expr} {t t' : TO} (h : PO X o t) (i : ∀ σ H Q, t' σ H Q → t σ H Q) : PO X o t' := ⟨fun pins s σ H Q I q => h.run pins s σ H Q I (i _ _ _ q)⟩
@[simp] def wNoP : DO := fun s Φ => Φ none s
@[simp] def wPart (w : DE) : DO := fun s Φ => w s fun x s1 => match x with
  | .int i => Φ (some i) s1
  | _ => False
theorem xo_none : XO X none wNoP := po_imp po_none fun σ H Q h => by
  obtain ⟨G, P, F, s, Φ, R, h, k⟩ := h
  exact k none F H s R (Same.refl F) h
theorem xo_some {w : DE} (h : XE X e w) : XO X (some e) (wPart w) := po_imp (po_some h) fun σ H Q h => by
  obtain ⟨G, P, F, s, Φ, R, h, k⟩ := h
  refine ⟨G, P, F, s, _, R, h, fun v F1 H1 s1 x R1 e1 d1 q => ?_⟩
  cases x with
  | int i =>
    cases d1
    exact ⟨i, rfl, k (some i) F1 H1 s1 R1 e1 q⟩
  | _ => exact q.elim
def cutD (xs : List PyData) (lo hi : Option Int) : List PyData := (xs.drop (HT.sIx xs.length 0 lo)).take (HT.sIx xs.length xs.length hi - HT.sIx xs.length 0 lo)
theorem cutD_up {K : PySem.W.Frag} {F : Hp} {vs : List V} {xs : List PyData} (h : DqA K F vs xs) (lo hi : Option Int) : DqA K F (cutV vs lo hi) (cutD xs lo hi) := by
  unfold cutV cutD
  rw [h.length]
  exact (h.drop _).take _
/-- a list's slice: a new list -/
@[simp] def wSlL (w : DE) (wl wh : DO) : DA := fun s Φ => w s fun x s1 => wl s1 fun l s2 => wh s2 fun u s3 => match x with
  | .list xs => Φ (cutD xs l u) s3
  | _ => False
theorem xl_slice {w : DE} {wl wh : DO} (he : XE X e w) (hl : XO X lo wl) (hh : XO X hi wh) : XL X (.Subscript e (.Slice lo hi none p2) pos) (wSlL w wl wh) := pe_imp (pe_slice sl_list he hl hh) fun σ H Q h => by
  obtain ⟨G, P, F, s, Φ, R, h, k⟩ := h
  refine ⟨G, P, F, s, _, R, h, fun v F1 H1 s1 x R1 e1 d1 q => ⟨G, P, F1, s1, _, R1, q, fun l F2 H2 s2 R2 e2 q2 => ⟨G, P, F2, s2, _, R2, q2, fun u F3 H3 s3 R3 e3 q3 => ?_⟩⟩⟩
  cases x with
  | list xs =>
    cases d1.mono (e2.trans e3) with
    | lst h1 h2 =>
      refine ⟨_, _, rfl, SqL.of (R3.same _ _ h1), fun p hp => ?_⟩
      obtain ⟨R4, n⟩ := nu_new (o := .lst (cutV _ l u)) R3 hp
      exact k p _ F3 _ s3 _ R4 ((e1.trans e2).trans e3) n upd_same (cutD_up h2 l u) q3
  | _ => exact q3.elim
/-- a text's slice, or a list's -/
@[simp] def wSl (w : DE) (wl wh : DO) : DE := fun s Φ => w s fun x s1 => wl s1 fun l s2 => wh s2 fun u s3 => match x with
  | .list xs => Φ (.list (cutD xs l u)) s3
  | .str z => z.length ≤ sizeLine ∧ Φ (.str (cutS z l u)) s3
  | _ => False
theorem xe_slice {w : DE} {wl wh : DO} (he : XE X e w) (hl : XO X lo wl) (hh : XO X hi wh) : XE X (.Subscript e (.Slice lo hi none p2) pos) (wSl w wl wh) := pe_imp (pe_slice (SlR.or sl_list sl_str) he hl hh) fun σ H Q h => by
  obtain ⟨G, P, F, s, Φ, R, h, k⟩ := h
  refine ⟨G, P, F, s, _, R, h, fun v F1 H1 s1 x R1 e1 d1 q => ⟨G, P, F1, s1, _, R1, q, fun l F2 H2 s2 R2 e2 q2 => ⟨G, P, F2, s2, _, R2, q2, fun u F3 H3 s3 R3 e3 q3 => ?_⟩⟩⟩
  cases x with
  | list xs =>
    cases d1.mono (e2.trans e3) with
    | @lst a0 vs0 _ h1 h2 =>
      refine .inl ⟨_, _, rfl, SqL.of (R3.same _ _ h1), fun p hp => ?_⟩
      have f := Fresh.new (o := .lst (cutV vs0 l u)) R3.same hp
      exact k _ _ _ s3 _ (R3.fresh f) (((e1.trans e2).trans e3).trans f.ff) (.lst upd_same ((cutD_up h2 l u).mono f.ff)) q3
  | str z =>
    cases d1
    exact .inr ⟨z, rfl, q3.1, k _ F3 H3 s3 _ R3 ((e1.trans e2).trans e3) (.str _) q3.2⟩
  | _ => exact q3.elim
end
/-! calls of built-ins -/
section
variable {K : PySem.W.Frag}
@[simp] def wN1 (g : PyData → (PyData → Prop) → Prop) : WN := fun ds Φ => match ds with
  | [x] => g x Φ
  | _ => False
@[simp] def wN2 (g : PyData → PyData → (PyData → Prop) → Prop) : WN := fun ds Φ => match ds with
  | [x, y] => g x y Φ
  | _ => False
theorem dqa1 {F : Hp} {vs : List V} {x : PyData} (h : DqA K F vs [x]) : ∃ v, vs = [v] ∧ Dq K F v x := by
  cases h with
  | cons h1 h2 =>
    cases h2
    exact ⟨_, rfl, h1⟩
theorem dqa2 {F : Hp} {vs : List V} {x y : PyData} (h : DqA K F vs [x, y]) : ∃ v u, vs = [v, u] ∧ Dq K F v x ∧ Dq K F u y := by
  cases h with
  | cons h1 h2 =>
    obtain ⟨u, rfl, h3⟩ := dqa1 h2
    exact ⟨_, _, rfl, h1, h3⟩
theorem opN1 {r : List V → Hp → VK → Prop} {g : PyData → (PyData → Prop) → Prop} (h : ∀ (F H : Hp) (v : V) (x : PyData) (Q : VK) (Φ : PyData → Prop), Same F H → Dq K F v x → g x Φ → (∀ v F' H' d, Fresh F H F' H' → Dq K F' v d → Φ d → Q v H') → r [v] H Q) : OpN K r (wN1 g) :=
  ⟨fun {F H xs ds} Q Φ s d w k => by
    match ds, d, w with
    | [x], d, w =>
      obtain ⟨v, rfl, d1⟩ := dqa1 d
      exact h F H v x Q Φ s d1 w k⟩
theorem opN2 {r : List V → Hp → VK → Prop} {g : PyData → PyData → (PyData → Prop) → Prop} (h : ∀ (F H : Hp) (v u : V) (x y : PyData) (Q : VK) (Φ : PyData → Prop), Same F H → Dq K F v x → Dq K F u y → g x y Φ → (∀ v F' H' d, Fresh F H F' H' → Dq K F' v d → Φ d → Q v H') → r [v, u] H Q) : OpN K r (wN2 g) :=
  ⟨fun {F H xs ds} Q Φ s d w k => by
    match ds, d, w with
    | [x, y], d, w =>
      obtain ⟨v, u, rfl, d1, d2⟩ := dqa2 d
      exact h F H v u x y Q Φ s d1 d2 w k⟩
@[simp] def gLen : PyData → (PyData → Prop) → Prop
  | .list xs, Φ => Φ (.int xs.length)
  | .tuple xs, Φ => Φ (.int xs.length)
  | .str z, Φ => z.length ≤ sizeLine ∧ Φ (.int z.length)
  | .dict [(.int lo, .int hi)], Φ => (small62 lo ∧ small62 hi) ∧ Φ (.int ((hi - lo).toNat : Nat))
  | _, _ => False
theorem call_lenA {X : Cx} : CallR X (.builtin "len") (fun xs H Q => (∃ x n, xs = [x] ∧ LenV X.K x H n ∧ Q (.int n) H) ∨ ∃ a lo hi, xs = [.ref a] ∧ H a = some (.rng lo hi) ∧ (small62 lo ∧ small62 hi) ∧ Q (.int ((hi - lo).toNat : Nat)) H) := by
  intro pins s σ H xs us Q I r h
  rcases h with h | ⟨a, lo, hi, rfl, ha, ⟨⟨h1, h2⟩, h3, h4⟩, q⟩
  · exact call_len pins s σ H xs us Q I r h
  · obtain ⟨u, rfl, rx⟩ := vals1 r
    obtain rfl : u = Value.ref a := rx
    obtain ⟨t1, t2, t3, ho⟩ := I.hok a _ ha
    refine call_len_range (n := (hi - lo).toNat) ho ?_ (by omega) ⟨.int ((hi - lo).toNat : Nat), H, I.tok _, ⟨_, rfl⟩, q⟩
    rw [rangeSize_one]
    split <;> omega
theorem opn_len : OpN K (fun xs H Q => (∃ x n, xs = [x] ∧ LenV K x H n ∧ Q (.int n) H) ∨ ∃ a lo hi, xs = [.ref a] ∧ H a = some (.rng lo hi) ∧ (small62 lo ∧ small62 hi) ∧ Q (.int ((hi - lo).toNat : Nat)) H) (wN1 gLen) := opN1 fun F H v x Q Φ s d w k => by
  match x, d, w with
  | .list xs, .lst h1 h2, w => exact .inl ⟨_, xs.length, rfl, .inl ⟨_, SqL.of (s _ _ h1), h2.length.symm⟩, k _ F H _ (Fresh.refl s) (.int _) w⟩
  | .tuple xs, .tup h1 h2, w => exact .inl ⟨_, xs.length, rfl, .inr ⟨_, same_sqt s h1, h2.length.symm⟩, k _ F H _ (Fresh.refl s) (.int _) w⟩
  | .str z, .str _, w => exact .inl ⟨_, z.length, rfl, ⟨w.1, rfl⟩, k _ F H _ (Fresh.refl s) (.int _) w.2⟩
  | .dict [(.int lo, .int hi)], .rng h1, w => exact .inr ⟨_, lo, hi, rfl, s _ _ h1, w.1, k _ F H _ (Fresh.refl s) (.int _) w.2⟩
  | .dict [(.none, .int _)], .er a, w => exact w.elim
  | .dict [(.str _, .list _)], .xo _ _ _ _, w => exact w.elim
  | .dict [(.int _, .int _), (.none, .list _)], .ef _ _, w => exact w.elim
/-- range(n), kept -/
@[simp] def gRng : PyData → (PyData → Prop) → Prop := fun x Φ => match x with
  | .int i => Φ (.dict [(.int 0, .int i)])
  | _ => False
theorem cr_range1 {X : Cx} : CallR X (.type "range") (fun vs H Q => ∃ j, vs = [V.int j] ∧ ∀ p, H p = none → Q (.ref p) (upd H p (.rng 0 j))) := by
  intro pins s σ H vs us Q I r h
  obtain ⟨j, rfl, q⟩ := h
  obtain ⟨u1, rfl, rj⟩ := vals1 r
  obtain ⟨t, rfl⟩ := rj
  refine call_range_1 ⟨.ref s.heap.objs.size, upd H s.heap.objs.size (.rng 0 j), I.laid (fun b o e => Heap.get?_push_of_some _ e) (Nat.le_refl _) ?_, rfl, q _ (I.hok.fresh (Nat.le_refl _))⟩
  exact ⟨_, _, _, Heap.get?_push_size _ rfl⟩
theorem opn_rng : OpN K (fun vs H Q => ∃ j, vs = [V.int j] ∧ ∀ p, H p = none → Q (.ref p) (upd H p (.rng 0 j))) (wN1 gRng) := opN1 fun F H v x Q Φ s d w k => by
  cases x with
  | int i =>
    cases d
    refine ⟨i, rfl, fun p hp => ?_⟩
    exact k _ _ _ _ (Fresh.new (o := .rng 0 i) s hp) (.rng upd_same) w
  | _ => exact w.elim
/-- a test by truth -/
@[simp] def wTru (w : DE) : DT := fun s Φ => w s fun x s1 => match x with
  | .bool b => Φ b s1
  | .none => Φ false s1
  | .int i => Φ (i != 0) s1
  | .str y => y.length ≤ sizeLine ∧ Φ ((y.length : Int) != 0) s1
  | .list xs => Φ (!xs.isEmpty) s1
  | .tuple xs => Φ (!xs.isEmpty) s1
  | _ => False
theorem dqa_empty {F : Hp} {vs : List V} {xs : List PyData} (d : DqA K F vs xs) : vs.isEmpty = xs.isEmpty := by
  cases d <;> rfl
theorem tru_of {w : DE} (σ : L2.St) (H : Hp) (Q : Bool → Hp → Prop) (h : tT K (wTru w) σ H Q) : tE K w σ H fun x H1 => ∃ k, TruV K x H1 k ∧ Q k H1 := by
  obtain ⟨G, P, F, s, Φ, R, h, k⟩ := h
  refine ⟨G, P, F, s, _, R, h, fun x F1 H1 s1 dx R1 e1 d1 h1 => ?_⟩
  match dx, d1, h1 with
  | .bool b, .bl _, h1 => exact ⟨b, rfl, k b F1 H1 s1 R1 e1 h1⟩
  | .none, .non, h1 => exact ⟨false, rfl, k _ F1 H1 s1 R1 e1 h1⟩
  | .int i, .int _, h1 => exact ⟨_, rfl, k _ F1 H1 s1 R1 e1 h1⟩
  | .str y, .str _, h1 => exact ⟨_, ⟨h1.1, rfl⟩, k _ F1 H1 s1 R1 e1 h1.2⟩
  | .list xs, .lst a b, h1 => exact ⟨_, .inl ⟨_, SqL.of (R1.same _ _ a), by rw [dqa_empty b]⟩, k _ F1 H1 s1 R1 e1 h1⟩
  | .tuple xs, .tup a b, h1 => exact ⟨_, .inr (.inl ⟨_, same_sqt R1.same a, by rw [dqa_empty b]⟩), k _ F1 H1 s1 R1 e1 h1⟩
theorem xt_tru {X : Cx} {e : Expr} {w : DE} (h : XE X e w) (he : ∀ whole, isTrue e X.env whole = (do let v ← whole; standAt e.pos; holding [v] (truthy v)) := by intro _; rfl) : XT X e (wTru w) := pt_imp (pt_truth h he) tru_of
@[simp] def gInt : PyData → (PyData → Prop) → Prop := fun x Φ => match x with
  | .int i => Φ (.int i)
  | .bool b => Φ (.int (if b then 1 else 0))
  | _ => False
theorem opn_int : OpN K (fun xs H Q => (∃ i, xs = [.int i] ∧ Q (.int i) H) ∨ ∃ k, xs = [.bl k] ∧ Q (.int (if k then 1 else 0)) H) (wN1 gInt) := opN1 fun F H v x Q Φ s d w k => by
  cases x with
  | int i =>
    cases d
    exact .inl ⟨i, rfl, k _ F H _ (Fresh.refl s) (.int _) w⟩
  | bool b =>
    cases d
    exact .inr ⟨b, rfl, k _ F H _ (Fresh.refl s) (.int _) w⟩
  | _ => exact w.elim
@[simp] def gStr : PyData → (PyData → Prop) → Prop := fun x Φ => match x with
  | .int i => i.natAbs.log2 < 1920 ∧ Φ (.str (toString i))
  | _ => False
theorem opn_str : OpN K (fun xs H Q => ∃ i, xs = [.int i] ∧ i.natAbs.log2 < 1920 ∧ Q (.str (toString i)) H) (wN1 gStr) := opN1 fun F H v x Q Φ s d w k => by
  cases x with
  | int i =>
    cases d
    exact ⟨i, rfl, w.1, k _ F H _ (Fresh.refl s) (.str _) w.2⟩
  | _ => exact w.elim
@[simp] def gMax : PyData → PyData → (PyData → Prop) → Prop := fun x y Φ => match x, y with
  | .int i, .int j => Φ (.int (if j > i then j else i))
  | _, _ => False
@[simp] def gMin : PyData → PyData → (PyData → Prop) → Prop := fun x y Φ => match x, y with
  | .int i, .int j => Φ (.int (if j < i then j else i))
  | _, _ => False
theorem opn_max2 : OpN K (fun xs H Q => ∃ i j, xs = [.int i, .int j] ∧ Q (.int (if j > i then j else i)) H) (wN2 gMax) := opN2 fun F H v u x y Q Φ s d1 d2 w k => by
  cases x with
  | int i =>
    cases y with
    | int j =>
      cases d1
      cases d2
      exact ⟨i, j, rfl, k _ F H _ (Fresh.refl s) (.int _) w⟩
    | _ => exact w.elim
  | _ => exact w.elim
theorem opn_min2 : OpN K (fun xs H Q => ∃ i j, xs = [.int i, .int j] ∧ Q (.int (if j < i then j else i)) H) (wN2 gMin) := opN2 fun F H v u x y Q Φ s d1 d2 w k => by
  cases x with
  | int i =>
    cases y with
    | int j =>
      cases d1
      cases d2
      exact ⟨i, j, rfl, k _ F H _ (Fresh.refl s) (.int _) w⟩
    | _ => exact w.elim
  | _ => exact w.elim
/-- list(x) as data -/
def signV (z : Str) : List V := z.cps.toList.map fun c => V.str ⟨#[c]⟩
theorem signV_vals : ∀ (cs : List Nat) (us : List Value), us.length = cs.length → (∀ (j c : Nat), cs[j]? = some c → ∃ t, us[j]? = some (Value.str ⟨#[c]⟩ t)) → Vals (cs.map fun c => V.str ⟨#[c]⟩) us
  | [], [], _, _ => .nil
  | c :: cs, u :: us, hl, h => by
    obtain ⟨t, ht⟩ := h 0 c rfl
    cases ht
    exact .cons ⟨t, rfl⟩ (signV_vals cs us (by simpa using hl) fun j c hj => by simpa using h (j + 1) c (by simpa using hj))
  | [], _ :: _, hl, _ => by simp at hl
  | _ :: _, [], hl, _ => by simp at hl
theorem signV_dq {K : PySem.W.Frag} {F : Hp} (z : Str) : DqA K F (signV z) (signsOf z) := by
  unfold signV signsOf
  induction z.cps.toList with
  | nil => exact .nil
  | cons c cs ih => exact .cons (.str _) ih
theorem cr_listA {X : Cx} {k : Nat} (hr : Room k X.A) : CallR X (.type "list") (fun xs H Q => (∃ p ys, xs = [.ref p] ∧ (SqL X.K H p ys ∨ SqT X.K H p ys) ∧ ∀ l, H l = none → Q (.ref l) (upd H l (.lst ys))) ∨ ∃ z, xs = [.str z] ∧ z.length ≤ sizeLine ∧ ∀ l, H l = none → Q (.ref l) (upd H l (.lst (signV z)))) := by
  intro pins s σ H xs us Q I r h
  rcases h with h | ⟨z, rfl, hz, q⟩
  · exact call_list_of pins s σ H xs us Q I r h
  · obtain ⟨u, rfl, rx⟩ := vals1 r
    obtain ⟨t, rfl⟩ := rx
    refine call_list_str hr.hd z t (fun h' tk acc' c' kp e hi => ?_) hz
    have hl : acc'.toList.length = z.cps.toList.length := by rw [Array.length_toList, Array.length_toList, hi.1]
    have hv : Vals (signV z) acc'.toList := signV_vals _ _ hl fun j c hj => by
      have hlt : j < acc'.size := by
        have := (List.getElem?_eq_some_iff.mp hj).1
        rw [← hl, Array.length_toList] at this
        exact this
      obtain ⟨c', u, h1, h2⟩ := hi.2 j acc'[j] (Array.getElem?_eq_getElem hlt)
      rw [Array.getElem?_toList] at hj ⊢
      rw [hj] at h1
      cases h1
      exact ⟨u, by rw [Array.getElem?_eq_getElem hlt, h2]⟩
    have hv2 : (signV z).length ≤ sizeLine := by
      unfold signV
      rw [List.length_map, Array.length_toList]
      exact hz
    refine ⟨.ref s.heap.objs.size, _, I.laid (t' := tk) kp (Nat.le_refl _) (show ObjOk X.prog X.w _ h' _ (.lst (signV z)) from ⟨hv2, acc'.toList, c', hv, by rw [Array.toArray_toList]; exact e⟩), rfl, q _ (I.hok.fresh (Nat.le_refl _))⟩
@[simp] def gList : PyData → (PyData → Prop) → Prop := fun x Φ => match x with
  | .list xs => Φ (.list xs)
  | .tuple xs => Φ (.list xs)
  | .str z => z.length ≤ sizeLine ∧ Φ (.list (signsOf z))
  | _ => False
theorem opn_list : OpN K (fun xs H Q => (∃ p ys, xs = [.ref p] ∧ (SqL K H p ys ∨ SqT K H p ys) ∧ ∀ l, H l = none → Q (.ref l) (upd H l (.lst ys))) ∨ ∃ z, xs = [.str z] ∧ z.length ≤ sizeLine ∧ ∀ l, H l = none → Q (.ref l) (upd H l (.lst (signV z)))) (wN1 gList) := opN1 fun F H v x Q Φ s d w k => by
  cases x with
  | list xs =>
    cases d with
    | @lst a0 vs0 _ h1 h2 =>
      refine .inl ⟨_, _, rfl, .inl (SqL.of (s _ _ h1)), fun l hl => ?_⟩
      have f := Fresh.new (o := .lst vs0) s hl
      exact k _ _ _ _ f (.lst upd_same (h2.mono f.ff)) w
  | tuple xs =>
    cases d with
    | @tup a0 vs0 _ h1 h2 =>
      refine .inl ⟨_, _, rfl, .inr (same_sqt s h1), fun l hl => ?_⟩
      have f := Fresh.new (o := .lst vs0) s hl
      exact k _ _ _ _ f (.lst upd_same (h2.mono f.ff)) w
  | str z =>
    cases d
    refine .inr ⟨_, rfl, w.1, fun l hl => ?_⟩
    have f := Fresh.new (o := .lst (signV z)) s hl
    exact k _ _ _ _ f (.lst upd_same (signV_dq z)) w.2
  | _ => exact w.elim
@[simp] def gTuple : PyData → (PyData → Prop) → Prop := fun x Φ => match x with
  | .list xs => Φ (.tuple xs)
  | .tuple xs => Φ (.tuple xs)
  | _ => False
theorem opn_tuple : OpN K (fun xs H Q => ∃ p ys, xs = [.ref p] ∧ ((SqL K H p ys ∧ ∀ l, H l = none → Q (.ref l) (upd H l (.tup ys))) ∨ (SqT K H p ys ∧ Q (.ref p) H))) (wN1 gTuple) := opN1 fun F H v x Q Φ s d w k => by
  cases x with
  | list xs =>
    cases d with
    | @lst a0 vs0 _ h1 h2 =>
      refine ⟨_, _, rfl, .inl ⟨SqL.of (s _ _ h1), fun l hl => ?_⟩⟩
      have f := Fresh.new (o := .tup vs0) s hl
      exact k _ _ _ _ f (.tup (SqT.of upd_same) (h2.mono f.ff)) w
  | tuple xs =>
    cases d with
    | tup h1 h2 => exact ⟨_, _, rfl, .inr ⟨same_sqt s h1, k _ F H _ (Fresh.refl s) (.tup h1 h2) w⟩⟩
  | _ => exact w.elim
/-- sums of ints, any, all: of lists of the kind -/
def gSum : PyData → (PyData → Prop) → Prop := fun x Φ => ∃ ns : List Int, x = .list (ns.map .int) ∧ Φ (.int ns.sum)
def gAny : PyData → (PyData → Prop) → Prop := fun x Φ => ∃ ns : List Bool, x = .list (ns.map .bool) ∧ Φ (.bool (ns.any id))
def gAll : PyData → (PyData → Prop) → Prop := fun x Φ => ∃ ns : List Bool, x = .list (ns.map .bool) ∧ Φ (.bool (ns.all id))
theorem opn_sum : OpN K (rSum K) (wN1 gSum) := opN1 fun F H v x Q Φ s d w k => by
  obtain ⟨ns, rfl, w⟩ := w
  cases d with
  | lst h1 h2 =>
    have e := h2.ints
    subst e
    exact ⟨_, ns, rfl, SqL.of (s _ _ h1), k _ F H _ (Fresh.refl s) (.int _) w⟩
theorem opn_any : OpN K (rAny K) (wN1 gAny) := opN1 fun F H v x Q Φ s d w k => by
  obtain ⟨ns, rfl, w⟩ := w
  cases d with
  | lst h1 h2 =>
    have e := h2.bls
    subst e
    exact ⟨_, ns, rfl, SqL.of (s _ _ h1), k _ F H _ (Fresh.refl s) (.bl _) w⟩
theorem opn_all : OpN K (rAll K) (wN1 gAll) := opN1 fun F H v x Q Φ s d w k => by
  obtain ⟨ns, rfl, w⟩ := w
  cases d with
  | lst h1 h2 =>
    have e := h2.bls
    subst e
    exact ⟨_, ns, rfl, SqL.of (s _ _ h1), k _ F H _ (Fresh.refl s) (.bl _) w⟩
/-- the greatest of a list of ints -/
def gMaxL : PyData → (PyData → Prop) → Prop := fun x Φ => ∃ ns : List Int, x = .list (ns.map .int) ∧ 0 < ns.length ∧ ∀ m, m ∈ ns → (∀ y, y ∈ ns → y ≤ m) → Φ (.int m)
theorem opn_maxL : OpN K (rMax K) (wN1 gMaxL) := opN1 fun F H v x Q Φ s d w k => by
  obtain ⟨ns, rfl, hl, w⟩ := w
  cases d with
  | lst h1 h2 =>
    have e := h2.ints
    subst e
    exact ⟨_, ns, rfl, SqL.of (s _ _ h1), hl, fun m hm hy => k _ F H _ (Fresh.refl s) (.int _) (w m hm hy)⟩
end
section
variable {X : Cx} {o e : Expr} {pos : Pos}
/-- sep.join(list of texts) -/
@[simp] def wJoin (wo we : DE) : DE := fun s Φ => wo s fun a s1 => match a with
  | .str a => we s1 fun y s2 => ∃ ys : List Str, y = .list (ys.map .str) ∧ (ys.map (·.length)).sum + ys.length * a.length ≤ 16777216 ∧ Φ (.str (Txt.join a ys)) s2
  | _ => False
theorem xe_join {apos : Pos} {wo we : DE} (ho : XE X o wo) (he : XE X e we) (hs : starEach [e] X.env = [(false, eval e X.env)] := by rfl) (hbase : attributeBase o "join" X.env (eval o X.env) = eval o X.env := by rfl) (hline : (apos.endLine == pos.line) = true := by rfl) :
    XE X (.Call (.Attribute o "join" apos) [e] [] pos) (wJoin wo we) := pe_imp (pe_join ho he hs hbase hline) fun σ H Q h => by
  obtain ⟨G, P, F, s, Φ, R, h, k⟩ := h
  refine ⟨G, P, F, s, _, R, h, fun v F1 H1 s1 x R1 e1 d1 q => ?_⟩
  cases x with
  | str a =>
    cases d1
    refine ⟨⟨a, rfl⟩, G, P, F1, s1, _, R1, q, fun u F2 H2 s2 y R2 e2 d2 q2 => ?_⟩
    obtain ⟨ys, rfl, hz, q2⟩ := q2
    cases d2 with
    | lst h1 h2 =>
      have e := h2.strs
      subst e
      exact ⟨a, _, ys, rfl, rfl, .inl (SqL.of (R2.same _ _ h1)), hz, k _ F2 H2 s2 _ R2 (e1.trans e2) (.str _) q2⟩
  | _ => exact q.elim
/-- isinstance(e, T) -/
@[simp] def kindD : PyData → String
  | .none => "NoneType"
  | .bool _ => "bool"
  | .int _ => "int"
  | .str _ => "str"
  | .list _ => "list"
  | .tuple _ => "tuple"
  | .dict _ => "range"
@[simp] def wIsI (T : String) (w : DE) : DE := fun s Φ => w s fun x s1 => match x with
  | .dict _ => False
  | x => optP (kitB (kindD x) T) fun b => Φ (.bool b) s1
theorem tyx_of {K : PySem.W.Frag} {F H : Hp} {v : V} {x : PyData} (s : Same F H) (d : Dq K F v x) (nr : ∀ kvs, x ≠ .dict kvs) : TyX K H v (.type (kindD x)) := by
  cases d with
  | non => exact .base .non
  | bl b => exact .base (.bl b)
  | int i => exact .base (.int i)
  | str z => exact .base (.str z)
  | lst h1 h2 => exact .base (.lst (s _ _ h1))
  | tup h1 h2 =>
    rcases h1 with (h | ⟨o, h⟩) | ⟨o, its, n, h, c, _⟩
    · exact .base (.tup (s _ _ h))
    · exact .fTuple (s _ _ h)
    · exact .kTuple h c
  | rng h => exact (nr _ rfl).elim
  | er a => exact (nr _ rfl).elim
  | xo _ _ _ _ => exact (nr _ rfl).elim
  | ef _ _ => exact (nr _ rfl).elim
theorem xe_isI {T : Str} {n : String} {p p1 : Pos} {w : DE} (hg : Gl X "isinstance") (hm : X.mg "isinstance" = none) (hgT : Gl X T) (hmT : X.mg T = none) (hvT : bootBuiltins T = some (.type n)) (h : XE X e w) (hn : T ≠ "__name__" := by decide) (hd : (T == ("__debug__" : Str)) = false := by decide)
    (he : starEach [e, .Name T p1] X.env = (false, eval e X.env) :: starEach [.Name T p1] X.env := by rfl) (he2 : starEach [.Name T p1] X.env = (false, eval (.Name T p1) X.env) :: starEach [] X.env := by rfl) (hpl : (backTo pos (starEach [.Name T p1] X.env)).any (·.1) = false := by rfl) :
    XE X (.Call (.Name "isinstance" p) [e, .Name T p1] [] pos) (wIsI n w) :=
  pe_imp (pe_callB call_isi hg hm (by decide +kernel) (pa_cons h (pa_cons (pe_bltn (v := .ty n) hgT hmT hvT rfl hn hd) pa_nil he2) he) (by decide) (by decide) he hpl) fun σ H Q h => by
    obtain ⟨G, P, F, s, Φ, R, h, k⟩ := h
    refine ⟨G, P, F, s, _, R, h, fun v F1 H1 s1 x R1 e1 d1 q => ?_⟩
    have q2 : (∀ kvs, x ≠ .dict kvs) ∧ optP (kitB (kindD x) n) fun b => Φ (.bool b) s1 := by
      cases x with
      | dict _ => exact q.elim
      | _ => exact ⟨fun _ z => (by cases z), q⟩
    obtain ⟨b, hb, q⟩ := optP_of q2.2
    exact ⟨v, .ty n, _, _, b, rfl, .ty n, tyx_of R1.same d1 q2.1, kit_ty hb, k _ F1 H1 s1 _ R1 e1 (.bl b) q⟩
end
end DL
/-! DL, seventh part: the script, the pool, new lists handed back, repr, the law. -/
namespace DL
open PySem PySem.Spec PyProof.Rows L2

section
variable {X : Cx} {pos : Pos}
theorem xe_scIx {i : Nat} {x : Str} {xp : Pos} {k : Expr} {wb : DE} (hv : PE X (.Name x xp) (tVar i)) (hk : XE X k wb) (hs : PlainIx k := by exact fun _ _ => rfl) : XE X (.Subscript (.Name x xp) k pos) (fun s Φ => scAt s i fun _ => wScIx i wb s Φ) :=
  pe_imp (pe_ix ix_list hv hk hs) fun σ H Q h => by
    obtain ⟨G, P, F, s, Φ, R, h, kk⟩ := h
    obtain ⟨ns0, h0, h⟩ := scAt_of h
    obtain ⟨a, g1, g2⟩ := R.sl i _ h0
    refine ⟨_, g1, G, P, F, s, _, R, h, fun u F2 H2 s2 y R2 e2 d2 q2 => ?_⟩
    obtain ⟨ns, h1, q2⟩ := scAt_of q2
    obtain ⟨b, k1, k2⟩ := R2.sl i _ h1
    rw [g1] at k1
    cases k1
    cases y with
    | int k =>
      cases d2
      obtain ⟨z0, z1, q2⟩ := q2
      have hk : k.toNat < ns.length := by omega
      have ha : atI (ns.map V.int) k = some (V.int (ns.getD k.toNat 0)) := by
        refine at_of (j := k.toNat) (by omega) ?_
        rw [List.getElem?_map, List.getElem?_eq_getElem hk, List.getD_eq_getElem?_getD, List.getElem?_eq_getElem hk]
        rfl
      exact ⟨_, _, k, _, rfl, rfl, R2.same.seq k2, ha, kk _ F2 H2 s2 _ R2 e2 (.int _) q2⟩
    | _ => exact q2.elim
/-! the pool -/
theorem atI_map {α β : Type} {f : α → β} {xs : List α} {k : Int} {x : α} (h : atI xs k = some x) : atI (xs.map f) k = some (f x) := by
  obtain ⟨j, a, b⟩ := atI_get h
  unfold atI
  rw [List.length_map, a]
  show (xs.map f)[j]? = some (f x)
  rw [List.getElem?_map, b]
  rfl
@[simp] def wPlIx (i : Nat) (wb : DE) : DE := fun s Φ => poolAt s i (wb s fun k s1 => match k with
  | .int k => optP (atI s1.q k) fun n => Φ (.int n) s1
  | _ => False)
theorem xe_plIx {i : Nat} {x : Str} {xp : Pos} {k : Expr} {wb : DE} (hv : PE X (.Name x xp) (tVar i)) (hk : XE X k wb) (hs : PlainIx k := by exact fun _ _ => rfl) : XE X (.Subscript (.Name x xp) k pos) (wPlIx i wb) :=
  pe_imp (pe_ix ix_list hv hk hs) fun σ H Q h => by
    obtain ⟨G, P, F, s, Φ, R, h, kk⟩ := h
    obtain ⟨hs, h⟩ := poolAt_of h
    obtain ⟨a, rfl, g1⟩ := R.sl i _ hs
    refine ⟨_, g1, G, some a, F, s, _, R, h, fun u F2 H2 s2 y R2 e2 d2 q2 => ?_⟩
    cases y with
    | int k =>
      cases d2
      obtain ⟨n, hn, q2⟩ := optP_of q2
      exact ⟨_, _, k, _, rfl, rfl, SqL.of (R2.pool a rfl).2.2, atI_map hn, kk _ F2 H2 s2 _ R2 e2 (.int _) q2⟩
    | _ => exact q2.elim
@[simp] def wPlLen (i : Nat) : DE := fun s Φ => poolAt s i (Φ (.int s.q.length) s)
theorem xe_plLen {i : Nat} {x : Str} {xp p1 : Pos} (hg : Gl X "len") (hm : X.mg "len" = none) (hv : PE X (.Name x xp) (tVar i)) (he : starEach [.Name x xp] X.env = (false, eval (.Name x xp) X.env) :: starEach [] X.env := by rfl)
    (hpl : (backTo pos (starEach [] X.env)).any (·.1) = false := by rfl) : XE X (.Call (.Name "len" p1) [.Name x xp] [] pos) (wPlLen i) :=
  pe_imp (pe_callB call_len_seq hg hm (by decide +kernel) (pa_cons hv pa_nil he) (by decide) (by decide) he hpl) fun σ H Q h => by
    obtain ⟨G, P, F, s, Φ, R, h, kk⟩ := h
    obtain ⟨hs, h⟩ := poolAt_of h
    obtain ⟨a, rfl, g1⟩ := R.sl i _ hs
    refine ⟨_, g1, a, _, rfl, .inl (SqL.of (R.pool a rfl).2.2), ?_⟩
    rw [List.length_map]
    exact kk _ F H s _ R (Same.refl F) (.int _) h
/-- pool[k] = e -/
@[simp] def wPlSet (i : Nat) (wi we : DE) : DS := fun Φ s => we s fun x s1 => poolAt s1 i (wi s1 fun k s2 => match k, x with
  | .int k, .int n => optP (ixN s2.q.length k) fun j => Φ.nx ⟨s2.e, s2.q.set j n⟩
  | _, _ => False)
theorem xs_plSet {i : Nat} {x : Str} {xp p1 : Pos} {a k : Expr} {wi we : DE} (hv : PE X (.Name x xp) (tVar i)) (hk : XE X k wi) (h : XE X a we)
    (hs : swapsWithSole [.Subscript (.Name x xp) k p1] a pos.line X.env = pure false := by rfl) (hw : swappedStores [.Subscript (.Name x xp) k p1] a X.env = pure none := by rfl)
    (hasg : ∀ u, assign (.Subscript (.Name x xp) k p1) X.env u = (do let ov ← holding [u] (eval (.Name x xp) X.env); let iv ← holding [u, ov] (eval k X.env); standAt p1; holding [u, ov, iv] (setItem ov iv u); release [u, ov, iv] []) := by intro _; rfl) :
    XS X (.Assign [.Subscript (.Name x xp) k p1] a pos) (wPlSet i wi we) :=
  ps_imp (ps_asg h (pg_sub hv hk set_list hasg) hs hw) fun D σ H h => by
    obtain ⟨G, P, F, s, Φ, R, h, b⟩ := h
    refine ⟨G, P, F, s, _, R, h, fun v F1 H1 s1 x R1 e1 d1 q1 => ?_⟩
    obtain ⟨h0, q1⟩ := poolAt_of q1
    obtain ⟨a, rfl, g1⟩ := R1.sl i _ h0
    refine ⟨_, g1, G, some a, F1, s1, _, R1, q1, fun u F2 H2 s2 y R2 e2 d2 q2 => ?_⟩
    cases y with
    | int k =>
      cases x with
      | int n =>
        cases d1
        cases d2
        obtain ⟨j, hj, q2⟩ := optP_of q2
        obtain ⟨p1, p2, p3⟩ := R2.pool a rfl
        refine ⟨_, _, k, j, rfl, rfl, p3, by rw [List.length_map]; exact hj, b.nx _ F2 _ _ ?_ (e1.trans e2) q2⟩
        have f : FreshP a F2 H2 F2 (upd H2 a (.lst ((s2.q.map V.int).set j (.int n)))) := ⟨Same.refl F2, fun b o q => by rw [upd_ne (fun z => by rw [z, p1] at q; cases q)]; exact R2.same b o q, fun b o nb q => by rw [upd_ne nb]; exact q, fun b o _ q => q⟩
        exact R2.freshP f (by rw [upd_same, List.map_set])
      | _ => exact q2.elim
    | _ => exact q2.elim
end

/-! ### new lists handed back -/
structure FreshL (F H F' H' : Hp) (p : Addr) : Prop where
  fs : Fresh F H F' H'
  np : H p = none
  fp : F' p = none
abbrev DSpL := List PyData → (List PyData → Prop) → Prop
def spL (K : PySem.W.Frag) (f : DSpL) : Sp := fun vs H Q _ => ∃ F ds Φ, (Same F H ∧ TabsF K F H) ∧ DqA K F vs ds ∧ f ds Φ ∧ ∀ p us F' H' xs, FreshL F H F' H' p → H' p = some (.lst us) → DqA K F' us xs → Φ xs → Q (.ref p) H'
/-- the same of the script -/
abbrev DSpS := List Int → (List PyData → Prop) → Prop
def spS (K : PySem.W.Frag) (f : DSpS) : Sp := fun vs H Q _ => ∃ a ns F Φ, vs = [.ref a] ∧ (Same F H ∧ TabsF K F H) ∧ SqL K F a (ns.map V.int) ∧ f ns Φ ∧ ∀ p us F' H' xs, FreshL F H F' H' p → H' p = some (.lst us) → DqA K F' us xs → Φ xs → Q (.ref p) H'
@[simp] def endL (Φ : List PyData → Prop) : EN := { nx := fun _ => False, rt := fun _ _ => False, rl := fun xs _ => Φ xs }
section
variable {P : Program} {w : World} {K : PySem.W.Frag} {mg : Str → Option Value} {base : Heap} {k : Nat} {f : Addr} {fd : FuncData} {ps : List Str} {qual x : Str} {st : Stmt} {N : List Str}
theorem freshL_of {F H F' H' : Hp} {σ' : L2.St} {s' : S} {p : Addr} (e : Same F H ∧ TabsF K F H) (R : Rep K (partH F H none) none F' H' σ' s') (ee : Same F F') (n : Nu (partH F H none) none F' σ' s' p) : FreshL F H F' H' p := by
  have fr : Fresh F H F' H' := ⟨ee, R.same, fun b o hb => by
      cases hF : F b with
      | none => exact R.keep b o (partH_at hF (fun z => by cases z) hb)
      | some u =>
        have q := e.1 b u hF
        rw [hb] at q
        cases q
        exact R.same b o (ee b o hF), fun b o hb hF => R.apart b o (partH_at hF (fun z => by cases z) hb)⟩
  refine ⟨fr, ?_, n.f⟩
  cases hp : H p with
  | none => rfl
  | some o =>
    have hF : F p = none := by
      cases hF : F p with
      | none => rfl
      | some u =>
        have q := ee p u hF
        rw [n.f] at q
        cases q
    have q := n.g
    rw [partH_at hF (fun z => by cases z) hp] at q
    cases q
theorem fn_L {sp : DSpL} (F : Fun K x qual st f fd) (Sc : FnScope N ps (defScope st)) (len : ∀ ds Φ, sp ds Φ → ds.length = ps.length)
    (hbody : ∀ (cdv : Value) (A : Around) (outer : List Env) (s : Shared) (H : Hp) (E : XK), (A.deeper (envOfC qual (defScope st) s.heap.objs.size f cdv)).guards = some [] → Room k (A.deeper (envOfC qual (defScope st) s.heap.objs.size f cdv)) →
      ∃ wd, XSs (cxOf CX0 P w K mg base N qual (defScope st) f cdv A outer s H E).nox (defBody st) wd ∧ ∀ ds Φ, sp ds Φ → wd (endL Φ) ⟨startE N (ds.map .d), []⟩) : FnG P w K mg base CX0 (k + 1) f fd ps (spL K sp) := by
  refine fng_of F Sc (fun vs H Q E h => ?_) (fun cdv _ A outer s H vs Q E g hr h => ?_)
  · obtain ⟨F, ds, Φ, _, d, hs, _⟩ := h
    rw [d.length]
    exact len ds Φ hs
  · obtain ⟨wd, hX, hw⟩ := hbody cdv A outer s H E g hr
    refine ⟨_, hX.nox, ?_⟩
    obtain ⟨F, ds, Φ, e, d, hs, kk⟩ := h
    exact ⟨_, none, F, _, _, rep_startD e d [], hw ds Φ hs, fun _ _ _ _ _ _ q => q.elim, fun _ _ _ _ _ _ _ _ _ q => q.elim, fun _ _ _ _ _ _ q => q.elim, fun _ _ _ _ _ _ q => q.elim,
      fun p us σ' F' H' s' xs R ee n hp dx q => kk p us F' H' xs (freshL_of e R ee n) hp dx q, fun _ _ _ _ _ _ _ _ q => q.elim⟩
theorem rep_startS {F H : Hp} {ns : List Int} {a : Addr} {q : List Int} (e0 : Same F H ∧ TabsF K F H) (h : SqL K F a (ns.map V.int)) : Rep K (partH F H none) none F H (L2.start N [.ref a]) ⟨startE N [.sc ns], q⟩ := by
  have look : ∀ {i : Nat} {x : Sl}, ([.sc ns] : List Sl)[i]? = some x → i = 0 ∧ x = .sc ns := fun {i x} h => by
    cases i with
    | zero => exact ⟨rfl, (Option.some.inj (by simpa using h)).symm⟩
    | succ j => simp at h
  obtain ⟨e, tf⟩ := e0
  refine ⟨e, fun b o h => (partH_some h).2.2, fun b o h => (partH_some h).1, fun i x hx => ?_, fun i j xs ys p hi hj _ _ => ?_, fun a ha => (by cases ha), ?_, fun i j x y r hi hj hr _ _ => ?_, tabs_part tf fun _ _ z => by cases z⟩
  · rcases startE_get hx with h2 | rfl
    · obtain ⟨rfl, rfl⟩ := look h2
      exact ⟨a, start_get rfl, h⟩
    · exact True.intro
  · rcases startE_get hi with h2 | h2
    · obtain ⟨_, z⟩ := look h2
      cases z
    · cases h2
  · show (L2.start N [.ref a]).length = (startE N [.sc ns]).length
    unfold L2.start startE
    simp
  · rcases startE_get hi with h2 | rfl
    · obtain ⟨rfl, rfl⟩ := look h2
      cases hr
    · cases hr
theorem fn_S {sp : DSpS} (F : Fun K x qual st f fd) (Sc : FnScope N ps (defScope st)) (len : ps.length = 1)
    (hbody : ∀ (cdv : Value) (A : Around) (outer : List Env) (s : Shared) (H : Hp) (E : XK), (A.deeper (envOfC qual (defScope st) s.heap.objs.size f cdv)).guards = some [] → Room k (A.deeper (envOfC qual (defScope st) s.heap.objs.size f cdv)) →
      ∃ wd, XSs (cxOf CX0 P w K mg base N qual (defScope st) f cdv A outer s H E).nox (defBody st) wd ∧ ∀ ns Φ, sp ns Φ → wd (endL Φ) ⟨startE N [.sc ns], []⟩) : FnG P w K mg base CX0 (k + 1) f fd ps (spS K sp) := by
  refine fng_of F Sc (fun vs H Q E h => ?_) (fun cdv _ A outer s H vs Q E g hr h => ?_)
  · obtain ⟨a, ns, F, Φ, rfl, _⟩ := h
    exact len.symm
  · obtain ⟨wd, hX, hw⟩ := hbody cdv A outer s H E g hr
    refine ⟨_, hX.nox, ?_⟩
    obtain ⟨a, ns, F, Φ, rfl, e, d, hs, kk⟩ := h
    exact ⟨_, none, F, _, _, rep_startS e d, hw ns Φ hs, fun _ _ _ _ _ _ q => q.elim, fun _ _ _ _ _ _ _ _ _ q => q.elim, fun _ _ _ _ _ _ q => q.elim, fun _ _ _ _ _ _ q => q.elim,
      fun p us σ' F' H' s' xs R ee n hp dx q => kk p us F' H' xs (freshL_of e R ee n) hp dx q, fun _ _ _ _ _ _ _ _ q => q.elim⟩
end
section
variable {X : Cx} {k : Nat} {f : Addr} {fd : FuncData} {ps : List Str} {x : Str} {p pos : Pos} {e : Expr} {es : List Expr}
theorem Rep.nuL {K : PySem.W.Frag} {G F F' H H' : Hp} {P : Option Addr} {σ : L2.St} {s : S} {p : Addr} (R : Rep K G P F H σ s) (f : FreshL F H F' H' p) : Nu G P F' σ s p :=
  let n := R.nu f.np
  ⟨f.fp, n.g, n.np, n.sl, n.tb⟩
@[simp] def wCallL (sp : DSpL) (wa : DA) : DA := fun s Φ => wa s fun ds s1 => sp ds fun r => Φ r s1
theorem xl_call {sp : DSpL} {wa : DA} (F : FnG X.prog X.w X.K X.mg X.base CX0 k f fd ps (spL X.K sp)) (hgd : X.A.guards = some []) (hr : Room k X.A) (hg : Gl X x) (hm : X.mg x = some (.ref f)) (hk : PySem.W.keepIn X.K (.ref f) = true) (hb : Binds X.K fd ps [])
    (ha : XA X (e :: es) wa) (hdb : (x == ("__debug__" : Str)) = false := by decide) (he : starEach (e :: es) X.env = (false, eval e X.env) :: starEach es X.env := by rfl) (hpl : (backTo pos (starEach es X.env)).any (·.1) = false := by rfl) :
    XL X (.Call (.Name x p) (e :: es) [] pos) (wCallL sp wa) := pe_imp (pe_callG F hgd hr hg hm hk hb .nil pass0 ha hdb he hpl) fun σ H Q h => by
  obtain ⟨G, P, F, s, Φ, R, h, kk⟩ := h
  refine ⟨G, P, F, s, _, R, h, fun vs F1 H1 s1 ds R1 e1 d1 q => ?_⟩
  show spL X.K sp (vs ++ []) H1 Q E0
  rw [List.append_nil]
  exact ⟨F1, ds, _, ⟨R1.same, R1.tabF⟩, d1, q, fun p us F' H' xs fr hp dx qx => kk p us F' H' s1 xs (R1.fresh fr.fs) (e1.trans fr.fs.ff) (R1.nuL fr) hp dx qx⟩
/-- f(script) -/
@[simp] def wCallS (i : Nat) (sp : DSpS) : DA := fun s Φ => scAt s i fun ns => sp ns fun r => Φ r s
theorem xl_callS {i : Nat} {y : Str} {yp : Pos} {sp : DSpS} (F : FnG X.prog X.w X.K X.mg X.base CX0 k f fd ps (spS X.K sp)) (hgd : X.A.guards = some []) (hr : Room k X.A) (hg : Gl X x) (hm : X.mg x = some (.ref f)) (hk : PySem.W.keepIn X.K (.ref f) = true) (hb : Binds X.K fd ps [])
    (hv : PE X (.Name y yp) (tVar i)) (hdb : (x == ("__debug__" : Str)) = false := by decide) (he : starEach [.Name y yp] X.env = (false, eval (.Name y yp) X.env) :: starEach [] X.env := by rfl) (hpl : (backTo pos (starEach [] X.env)).any (·.1) = false := by rfl) :
    XL X (.Call (.Name x p) [.Name y yp] [] pos) (wCallS i sp) := pe_imp (pe_callG F hgd hr hg hm hk hb .nil pass0 (pa_cons hv pa_nil he) hdb he hpl) fun σ H Q h => by
  obtain ⟨G, P, F, s, Φ, R, h, kk⟩ := h
  obtain ⟨ns, h0, h⟩ := scAt_of h
  obtain ⟨a, g1, g2⟩ := R.sl i _ h0
  refine ⟨_, g1, ?_⟩
  show spS X.K sp ([.ref a] ++ []) H Q E0
  rw [List.append_nil]
  exact ⟨a, ns, F, _, rfl, ⟨R.same, R.tabF⟩, g2, h, fun p us F' H' xs fr hp dx qx => kk p us F' H' s xs (R.fresh fr.fs) fr.fs.ff (R.nuL fr) hp dx qx⟩
/-! repr -/
@[simp] def gRepr : PyData → (PyData → Prop) → Prop := fun x Φ => (match x with
  | .list _ => True
  | .tuple _ => True
  | _ => False) ∧ x.showable = true ∧ x.hasDict = false ∧ x.depth ≤ 60 ∧ x.shown.length ≤ sizeLine ∧ Φ (.str x.shown)
theorem call_repr {k : Nat} (hgd : X.A.guards = some []) (hr : Room k X.A) : CallR X (.builtin "repr") (fun xs H Q => ∃ a d, xs = [.ref a] ∧ Dp X.K H (.ref a) d ∧ d.showable = true ∧ d.hasDict = false ∧ d.depth ≤ 60 ∧ d.shown.length ≤ sizeLine ∧ Q (.str d.shown) H) := by
  intro pins s σ H xs us Q I r h
  obtain ⟨a, d, rfl, dp, h1, h2, h3, h4, q⟩ := h
  obtain ⟨u, rfl, ru⟩ := vals1 r
  obtain ⟨as, rd⟩ := Dp.reads I d (.ref a) u dp ru
  cases ru
  have hu := hr.units
  exact repr_of_reads' rd h1 (PyData.noDict_hsm h2) hgd (by omega) (fun _ _ z => z) (fun h' u tk kept => ⟨.str d.shown, H, I.kept (t' := tk) kept, ⟨u, rfl⟩, q⟩) h4
theorem opn_repr : OpN X.K (fun xs H Q => ∃ a d, xs = [.ref a] ∧ Dp X.K H (.ref a) d ∧ d.showable = true ∧ d.hasDict = false ∧ d.depth ≤ 60 ∧ d.shown.length ≤ sizeLine ∧ Q (.str d.shown) H) (wN1 gRepr) := opN1 fun F H v x Q Φ s d w k => by
  obtain ⟨w0, w1, w2, w3, w4, w5⟩ := w
  have d0 := (d.mono s).dp w2
  cases d with
  | lst h1 h2 => exact ⟨_, _, rfl, d0, w1, w2, w3, w4, k _ F H _ (Fresh.refl s) (.str _) w5⟩
  | tup h1 h2 => exact ⟨_, _, rfl, d0, w1, w2, w3, w4, k _ F H _ (Fresh.refl s) (.str _) w5⟩
  | _ => exact w0.elim
end
/-! ### the law: pool = _law_stream(script), then the rest over the pool -/
open Classical in
/-- the tables alone -/
noncomputable def tabG (K : PySem.W.Frag) : Hp := fun b => if TabK K b then some (.ext (tabPh b)) else none
open Classical in
/-- all but the tables -/
noncomputable def noTab (K : PySem.W.Frag) (H : Hp) : Hp := fun b => if TabK K b then none else H b
theorem tabG_in {K : PySem.W.Frag} {b : Addr} {o : HO} (h : tabG K b = some o) : TabK K b ∧ o = .ext (tabPh b) := by
  unfold tabG at h
  split at h
  · exact ⟨by assumption, (Option.some.inj h).symm⟩
  · cases h
theorem tabG_at {K : PySem.W.Frag} : TabsAt K (tabG K) := fun b hb => if_pos hb
theorem noTab_in {K : PySem.W.Frag} {H : Hp} {b : Addr} {o : HO} (h : noTab K H b = some o) : ¬ TabK K b ∧ H b = some o := by
  unfold noTab at h
  split at h
  · cases h
  · exact ⟨by assumption, h⟩
theorem noTab_out {K : PySem.W.Frag} {H : Hp} {b : Addr} (h : ¬ TabK K b) : noTab K H b = H b := if_neg h
theorem noTab_none {K : PySem.W.Frag} {H : Hp} {b : Addr} (h : TabK K b) : noTab K H b = none := if_pos h
theorem noTab_seq {K : PySem.W.Frag} {H : Hp} {a : Addr} {xs : List V} (t : TabsAt K H) (h : SqL K H a xs) : SqL K (noTab K H) a xs := by
  rcases h with (h | ⟨o, h⟩) | h
  · have n : ¬ TabK K a := fun z => by
      have q := t a z
      rw [h] at q
      cases q
    exact .inl (.inl (by rw [noTab_out n]; exact h))
  · have n : ¬ TabK K a := fun z => by
      have q := t a z
      rw [h] at q
      cases q
    exact .inl (.inr ⟨o, by rw [noTab_out n]; exact h⟩)
  · exact .inr h
theorem noTab_same {K : PySem.W.Frag} {H : Hp} (t : TabsAt K H) : Same (noTab K H) H ∧ TabsF K (noTab K H) H := ⟨fun b o h => (noTab_in h).2, fun b hb => ⟨noTab_none hb, t b hb⟩⟩
def spLaw (K : PySem.W.Frag) : Sp := fun vs H Q _ => ∃ (a : Addr) (ns : List Int), TabsAt K H ∧ vs = [.ref a] ∧ SqL K H a (ns.map V.int) ∧ ns.length ≤ 63 ∧ ∀ H', TabsAt K H' → Q (.bl true) H'
/-- a pool: at least 301 numbers from 0 on, all but the first one below 60 -/
structure PoolOk (q : List Int) : Prop where
  lo : 301 ≤ q.length
  hi : q.length ≤ 100000
  h0 : ∀ n ∈ q, 0 ≤ n
  nn : ∀ n ∈ q.drop 1, n < 60
def spStream : DSpS := fun ns Φ => ns.length ≤ 63 ∧ ∀ q, PoolOk q → Φ (q.map .int)
@[simp] def endTrue : EN := { nx := fun _ => False, rt := fun x _ => x = .bool true }
section
variable {P : Program} {w : World} {K : PySem.W.Frag} {mg : Str → Option Value} {base : Heap} {k kS : Nat} {f fS : Addr} {fd fdS : FuncData} {psS : List Str} {qual x : Str} {st : Stmt} {N : List Str}
theorem rep_law {F H F' H' : Hp} {a p : Addr} {ns q : List Int} (tF : TabsF K F H) (h : SqL K F a (ns.map V.int)) (fr : FreshL F H F' H' p) (hp : H' p = some (.lst (q.map V.int))) (hN : 2 ≤ N.length) :
    Rep K (tabG K) (some p) F' H' ((L2.start N [.ref a]).set 1 (some (.ref p))) ⟨(startE N [.sc ns]).set 1 .pl, q⟩ := by
  have hl : 1 < (L2.start N [.ref a]).length := by
    unfold L2.start
    simp
    omega
  have look : ∀ {i : Nat} {x : Sl}, ([.sc ns] : List Sl)[i]? = some x → i = 0 ∧ x = .sc ns := fun {i x} h => by
    cases i with
    | zero => exact ⟨rfl, (Option.some.inj (by simpa using h)).symm⟩
    | succ j => simp at h
  refine ⟨fr.fs.fh, fun b o z => ?_, fun b o z => ?_, fun i x hx => ?_, fun i j xs ys r hi hj _ _ => ?_, fun b hb => ?_, ?_, fun i j x y r hi hj hr _ _ => ?_, tabG_at⟩
  · obtain ⟨z1, rfl⟩ := tabG_in z
    exact fr.fs.hh b _ (tF b z1).2
  · obtain ⟨z1, rfl⟩ := tabG_in z
    exact fr.fs.fr b _ (tF b z1).2 (tF b z1).1
  · rcases set_get hx with ⟨rfl, rfl⟩ | ⟨ne, hx⟩
    · exact ⟨p, rfl, set_self hl⟩
    · rcases startE_get hx with h2 | rfl
      · obtain ⟨rfl, rfl⟩ := look h2
        exact ⟨a, by rw [List.getElem?_set_ne (by decide)]; exact start_get rfl, fr.fs.ff.seq h⟩
      · exact True.intro
  · rcases set_get hi with ⟨_, z⟩ | ⟨_, hi⟩
    · cases z
    · rcases startE_get hi with h2 | h2
      · obtain ⟨_, z⟩ := look h2
        cases z
      · cases h2
  · cases hb
    refine ⟨fr.fp, ?_, hp⟩
    by_cases z : TabK K p
    · have q := (tF p z).2
      rw [fr.np] at q
      cases q
    · exact if_neg z
  · show ((L2.start N [.ref a]).set 1 (some (.ref p))).length = ((startE N [.sc ns]).set 1 .pl).length
    rw [List.length_set, List.length_set]
    unfold L2.start startE
    simp
  · rcases set_get hi with ⟨rfl, rfl⟩ | ⟨ne, hi⟩
    · cases hr
    · rcases startE_get hi with h2 | rfl
      · obtain ⟨rfl, rfl⟩ := look h2
        cases hr
      · cases hr
/-- pool is the second name -/
theorem fn_law {y sx : Str} {yp p1 p2 cp pos : Pos} {rest : List Stmt} (F : Fun K x qual st f fd) (Sc : FnScope N ["script"] (defScope st)) (hN : 2 ≤ N.length)
    (hb0 : defBody st = .Assign [.Name y yp] (.Call (.Name sx p1) [.Name "script" p2] [] cp) pos :: rest)
    (GS : FnG P w K mg base CX0 kS fS fdS psS (spS K spStream)) (gS : mg sx = some (.ref fS)) (kpS : PySem.W.keepIn K (.ref fS) = true) (bS : Binds K fdS psS []) (hk : kS ≤ k)
    (hhead : ∀ (cdv : Value) (A : Around) (outer : List Env) (s : Shared) (H : Hp) (E : XK), (A.deeper (envOfC qual (defScope st) s.heap.objs.size f cdv)).guards = some [] → Room k (A.deeper (envOfC qual (defScope st) s.heap.objs.size f cdv)) →
      PS (cxOf CX0 P w K mg base N qual (defScope st) f cdv A outer s H E).nox (.Assign [.Name y yp] (.Call (.Name sx p1) [.Name "script" p2] [] cp) pos) (tAsg (tCall (spS K spStream) [] E0 (tCons (tVar 0) tNil)) (gName 1)))
    (hbody : ∀ (cdv : Value) (A : Around) (outer : List Env) (s : Shared) (H : Hp) (E : XK), (A.deeper (envOfC qual (defScope st) s.heap.objs.size f cdv)).guards = some [] → Room k (A.deeper (envOfC qual (defScope st) s.heap.objs.size f cdv)) →
      ∃ wd, XSs (cxOf CX0 P w K mg base N qual (defScope st) f cdv A outer s H E).nox rest wd ∧ ∀ ns q, PoolOk q → wd endTrue ⟨(startE N [.sc ns]).set 1 .pl, q⟩) : FnG P w K mg base CX0 (k + 1) f fd ["script"] (spLaw K) := by
  refine fng_of F Sc (fun vs H Q E h => ?_) (fun cdv _ A outer s H vs Q E g hr h => ?_)
  · obtain ⟨a, ns, _, rfl, _⟩ := h
    rfl
  · obtain ⟨wd, hX, hw⟩ := hbody cdv A outer s H E g hr
    have hs := hhead cdv A outer s H E g hr
    rw [hb0]
    refine ⟨_, (pss_cons hs hX).nox, ?_⟩
    obtain ⟨a, ns, tH, rfl, hS, hl, kk⟩ := h
    have key : ∀ Q' : VK, (∀ p us F' H' q, FreshL (noTab K H) H F' H' p → H' p = some (.lst us) → DqA K F' us (q.map .int) → PoolOk q → Q' (.ref p) H') → spS K spStream ([V.ref a] ++ []) H Q' E0 := fun Q' z => by
      rw [List.append_nil]
      exact ⟨a, ns, noTab K H, fun xs => ∃ q : List Int, PoolOk q ∧ xs = q.map .int, rfl, noTab_same tH, noTab_seq tH hS, ⟨hl, fun q hq => ⟨q, hq, rfl⟩⟩, fun p us F' H' xs fr hp dx ⟨q, hq, e⟩ => z p us F' H' q fr hp (by rw [← e]; exact dx) hq⟩
    refine ⟨.ref a, start_get rfl, ?_⟩
    dsimp only [tNil]
    refine key _ fun p us F' H' q fr hp dx hq => ?_
    have e := dx.ints
    subst e
    exact ⟨_, some p, F', _, endTrue, rep_law (noTab_same tH).2 (noTab_seq tH hS) fr hp hN, hw ns q hq, fun _ _ _ _ _ _ z => z.elim, fun v σ' F2 H2 s' x R ee dv z => by
      have z' : x = .bool true := z
      subst z'
      cases dv
      exact kk H2 fun b hb => R.keep b _ (R.tab b hb), fun _ _ _ _ _ _ z => z.elim, fun _ _ _ _ _ _ z => z.elim, fun _ _ _ _ _ _ _ _ _ _ _ _ z => z.elim, fun _ _ _ _ _ _ _ _ z => z.elim⟩
end
end DL
/-! DL, eighth part: short words for the derivations. -/
namespace DL
open PySem PySem.Spec PyProof.Rows L2

section
variable {K : PySem.W.Frag}
@[simp] def wSub : W2 := wI2 fun i j => .int (i - j)
@[simp] def wMul : W2 := wII CMul fun i j => .int (i * j)
@[simp] def wMulW : W2 := wII CMulW fun i j => .int (i * j)
@[simp] def wDiv : W2 := wII CDiv fun i j => .int (i / j)
@[simp] def wMod : W2 := wII (fun _ j => 0 < j) fun i j => .int (i % j)
@[simp] def wPow : W2 := wII CPow fun i j => .int (i ^ j.toNat)
@[simp] def wShl : W2 := wII CPow fun i j => .int (i * 2 ^ j.toNat)
@[simp] def wShr : W2 := wII (fun _ j => 0 ≤ j) fun i j => .int (i / 2 ^ j.toNat)
@[simp] def wBand : W2 := wI2 fun i j => .int (Builtin.bitAnd i j)
@[simp] def wBor : W2 := wI2 fun i j => .int (Builtin.bitOr i j)
@[simp] def wBxor : W2 := wI2 fun i j => .int (Builtin.bitXor i j)
@[simp] def wLt : W2 := wI2 fun i j => .bool (decide (i < j))
@[simp] def wLe : W2 := wI2 fun i j => .bool (decide (i ≤ j))
@[simp] def wGt : W2 := wI2 fun i j => .bool (decide (j < i))
@[simp] def wGe : W2 := wI2 fun i j => .bool (decide (j ≤ i))
theorem o_sub : Op2 K (rI0 fun i j => .int (i - j)) wSub := op2_I0 fun _ _ _ => .int _
theorem o_mul : Op2 K (rI CMul fun i j => .int (i * j)) wMul := op2_I fun _ _ _ => .int _
theorem o_mulW : Op2 K (rI CMulW fun i j => .int (i * j)) wMulW := op2_I fun _ _ _ => .int _
theorem o_div : Op2 K (rI CDiv fun i j => .int (i / j)) wDiv := op2_I fun _ _ _ => .int _
theorem o_mod : Op2 K (rI (fun _ j => 0 < j) fun i j => .int (i % j)) wMod := op2_I fun _ _ _ => .int _
theorem o_pow : Op2 K (rI CPow fun i j => .int (i ^ j.toNat)) wPow := op2_I fun _ _ _ => .int _
theorem o_shl : Op2 K (rI CPow fun i j => .int (i * 2 ^ j.toNat)) wShl := op2_I fun _ _ _ => .int _
theorem o_shr : Op2 K (rI (fun _ j => 0 ≤ j) fun i j => .int (i / 2 ^ j.toNat)) wShr := op2_I fun _ _ _ => .int _
theorem o_band : Op2 K (rI0 fun i j => .int (Builtin.bitAnd i j)) wBand := op2_I0 fun _ _ _ => .int _
theorem o_bor : Op2 K (rI0 fun i j => .int (Builtin.bitOr i j)) wBor := op2_I0 fun _ _ _ => .int _
theorem o_bxor : Op2 K (rI0 fun i j => .int (Builtin.bitXor i j)) wBxor := op2_I0 fun _ _ _ => .int _
theorem o_lt : Op2 K (rI0 fun i j => .bl (decide (i < j))) wLt := op2_I0 fun _ _ _ => .bl _
theorem o_le : Op2 K (rI0 fun i j => .bl (decide (i ≤ j))) wLe := op2_I0 fun _ _ _ => .bl _
theorem o_gt : Op2 K (rI0 fun i j => .bl (decide (j < i))) wGt := op2_I0 fun _ _ _ => .bl _
theorem o_ge : Op2 K (rI0 fun i j => .bl (decide (j ≤ i))) wGe := op2_I0 fun _ _ _ => .bl _
@[simp] def wNeg : W1 := fun x Φ => match x with
  | .int i => Φ (.int (-i))
  | _ => False
theorem o_neg : Op1 K (rU fun i => .int (-i)) wNeg := ⟨fun {F H x dx} Q Φ s d w k => by
  cases dx with
  | int i =>
    cases d
    exact ⟨i, rfl, k _ F H _ (Fresh.refl s) (.int _) w⟩
  | _ => exact w.elim⟩
end
section
variable {X : Cx} {a b c e : Expr} {pos : Pos}
/-- a def that stands, with its promise -/
structure Ca (P : Program) (w : World) (K : PySem.W.Frag) (mg : Str → Option Value) (base : Heap) (k : Nat) (x : Str) (ps : List Str) (sp : Sp) : Prop where
  ex : ∃ f fd, FnG P w K mg base CX0 k f fd ps sp ∧ mg x = some (.ref f) ∧ PySem.W.keepIn K (.ref f) = true ∧ Binds K fd ps []
theorem c_call {k kX : Nat} {x : Str} {ps : List Str} {p : Pos} {es : List Expr} {sp : DSp} {wa : DA} (C : Ca X.prog X.w X.K X.mg X.base k x ps (spD X.K sp)) (hgd : X.A.guards = some []) (hr : Room kX X.A) (hk : k ≤ kX) (hg : Gl X x) (ha : XA X (e :: es) wa)
    (hdb : (x == ("__debug__" : Str)) = false := by decide) (he : starEach (e :: es) X.env = (false, eval e X.env) :: starEach es X.env := by rfl) (hpl : (backTo pos (starEach es X.env)).any (·.1) = false := by rfl) : XE X (.Call (.Name x p) (e :: es) [] pos) (wCall sp wa) := by
  obtain ⟨f, fd, F, gm, kp, b⟩ := C.ex
  exact xe_call F hgd (hr.mono hk) hg gm kp b ha hdb he hpl
theorem c_callP {k kX i : Nat} {x y : Str} {ps : List Str} {p yp : Pos} {es : List Expr} {sp : DSpP} {wa : DA} (C : Ca X.prog X.w X.K X.mg X.base k x ps (spP X.K sp)) (hgd : X.A.guards = some []) (hr : Room kX X.A) (hk : k ≤ kX) (hg : Gl X x) (hv : PE X (.Name y yp) (tVar i)) (ha : XA X es wa)
    (hdb : (x == ("__debug__" : Str)) = false := by decide) (he : starEach (.Name y yp :: es) X.env = (false, eval (.Name y yp) X.env) :: starEach es X.env := by rfl) (hpl : (backTo pos (starEach es X.env)).any (·.1) = false := by rfl) :
    XE X (.Call (.Name x p) (.Name y yp :: es) [] pos) (wCallP i sp wa) := by
  obtain ⟨f, fd, F, gm, kp, b⟩ := C.ex
  exact xe_callP F hgd (hr.mono hk) hg gm kp b hv ha hdb he hpl
theorem c_callL {k kX : Nat} {x : Str} {ps : List Str} {p : Pos} {es : List Expr} {sp : DSpL} {wa : DA} (C : Ca X.prog X.w X.K X.mg X.base k x ps (spL X.K sp)) (hgd : X.A.guards = some []) (hr : Room kX X.A) (hk : k ≤ kX) (hg : Gl X x) (ha : XA X (e :: es) wa)
    (hdb : (x == ("__debug__" : Str)) = false := by decide) (he : starEach (e :: es) X.env = (false, eval e X.env) :: starEach es X.env := by rfl) (hpl : (backTo pos (starEach es X.env)).any (·.1) = false := by rfl) : XL X (.Call (.Name x p) (e :: es) [] pos) (wCallL sp wa) := by
  obtain ⟨f, fd, F, gm, kp, b⟩ := C.ex
  exact xl_call F hgd (hr.mono hk) hg gm kp b ha hdb he hpl
theorem c_callS {k kX i : Nat} {x y : Str} {ps : List Str} {p yp : Pos} {sp : DSpS} (C : Ca X.prog X.w X.K X.mg X.base k x ps (spS X.K sp)) (hgd : X.A.guards = some []) (hr : Room kX X.A) (hk : k ≤ kX) (hg : Gl X x) (hv : PE X (.Name y yp) (tVar i))
    (hdb : (x == ("__debug__" : Str)) = false := by decide) (he : starEach [.Name y yp] X.env = (false, eval (.Name y yp) X.env) :: starEach [] X.env := by rfl) (hpl : (backTo pos (starEach [] X.env)).any (·.1) = false := by rfl) : XL X (.Call (.Name x p) [.Name y yp] [] pos) (wCallS i sp) := by
  obtain ⟨f, fd, F, gm, kp, b⟩ := C.ex
  exact xl_callS F hgd (hr.mono hk) hg gm kp b hv hdb he hpl
/-- list(x), a new list -/
@[simp] def wListN (wa : DE) : DA := fun s Φ => wa s fun x s1 => match x with
  | .list xs => Φ xs s1
  | .tuple xs => Φ xs s1
  | _ => False
theorem xl_list {p : Pos} {wa : DE} (hg : Gl X "list") (hm : X.mg "list" = none) (ha : XE X e wa) (he : starEach [e] X.env = (false, eval e X.env) :: starEach [] X.env := by rfl) (hpl : (backTo pos (starEach [] X.env)).any (·.1) = false := by rfl) :
    XL X (.Call (.Name "list" p) [e] [] pos) (wListN wa) := pe_imp (pe_callTy call_list_of hg hm (by decide +kernel) (pa_cons ha pa_nil he) (by decide) (by decide) he hpl) fun σ H Q h => by
  obtain ⟨G, P, F, s, Φ, R, h, k⟩ := h
  refine ⟨G, P, F, s, _, R, h, fun v F1 H1 s1 x R1 e1 d1 q => ?_⟩
  cases x with
  | list xs =>
    cases d1 with
    | @lst a0 vs0 _ h1 h2 =>
      refine ⟨a0, vs0, rfl, .inl (SqL.of (R1.same _ _ h1)), fun l hl => ?_⟩
      obtain ⟨R2, n⟩ := nu_new (o := .lst vs0) R1 hl
      exact k l vs0 F1 _ s1 xs R2 e1 n upd_same h2 q
  | tuple xs =>
    cases d1 with
    | @tup a0 vs0 _ h1 h2 =>
      refine ⟨a0, vs0, rfl, .inr (same_sqt R1.same h1), fun l hl => ?_⟩
      obtain ⟨R2, n⟩ := nu_new (o := .lst vs0) R1 hl
      exact k l vs0 F1 _ s1 xs R2 e1 n upd_same h2 q
  | _ => exact q.elim
/-- chains: a < b < c -/
@[simp] def wChain (w w' : W2) (wa wb wc : DE) : DE := fun s Φ => wa s fun x s1 => wb s1 fun y s2 => w x y fun z => match z with
  | .bool b => if b = true then wc s2 fun u s3 => w' y u fun z2 => Φ z2 s3 else Φ (.bool false) s2
  | _ => False
end
end DL
/-! DL, ninth part: built-in names, constants, chains, repeated lists. -/
namespace DL
open PySem PySem.Spec PyProof.Rows L2

structure Bi (mg : Str → Option Value) : Prop where
  len : mg "len" = none
  int : mg "int" = none
  str : mg "str" = none
  bool : mg "bool" = none
  list : mg "list" = none
  tuple : mg "tuple" = none
  max : mg "max" = none
  min : mg "min" = none
  sum : mg "sum" = none
  any : mg "any" = none
  all : mg "all" = none
  repr : mg "repr" = none
  range : mg "range" = none
  enumerate : mg "enumerate" = none
  zip : mg "zip" = none
  isinstance : mg "isinstance" = none
  sorted : mg "sorted" = none
theorem bb_len : bootBuiltins "len" = some (.builtin "len") := by decide +kernel
theorem bb_max : bootBuiltins "max" = some (.builtin "max") := by decide +kernel
theorem bb_min : bootBuiltins "min" = some (.builtin "min") := by decide +kernel
theorem bb_sum : bootBuiltins "sum" = some (.builtin "sum") := by decide +kernel
theorem bb_any : bootBuiltins "any" = some (.builtin "any") := by decide +kernel
theorem bb_all : bootBuiltins "all" = some (.builtin "all") := by decide +kernel
theorem bb_repr : bootBuiltins "repr" = some (.builtin "repr") := by decide +kernel
theorem bb_int : bootBuiltins "int" = some (.type "int") := by decide +kernel
theorem bb_str : bootBuiltins "str" = some (.type "str") := by decide +kernel
theorem bb_bool : bootBuiltins "bool" = some (.type "bool") := by decide +kernel
theorem bb_list : bootBuiltins "list" = some (.type "list") := by decide +kernel
theorem bb_tuple : bootBuiltins "tuple" = some (.type "tuple") := by decide +kernel
theorem bb_range : bootBuiltins "range" = some (.type "range") := by decide +kernel
/-- a constant of the module's top -/
structure Gc (K : PySem.W.Frag) (mg : Str → Option Value) (x : Str) (d : PyData) where
  v : V
  u : Value
  mg : mg x = some u
  rel : RelV v u
  dq : ∀ F, Dq K F v d
@[simp] def wScIxA (i : Nat) (wb : DE) : DE := fun s Φ => scAt s i fun _ => wScIx i wb s Φ
section
variable {K : PySem.W.Frag}
theorem op2L_rep : Op2L K rRep wRepL := ⟨fun {F H x y dx dy} Q Φ s d1 d2 w k => by
  cases dx with
  | list a =>
    cases dy with
    | int n =>
      cases d2
      cases d1 with
      | @lst a0 vs _ h1 h2 =>
        have rep : ∀ m : Nat, DqA K F (List.replicate m vs).flatten (List.replicate m a).flatten := fun m => by
          induction m with
          | zero => exact .nil
          | succ m ih =>
            rw [List.replicate_succ, List.replicate_succ, List.flatten_cons, List.flatten_cons]
            exact h2.append ih
        exact ⟨a0, n, vs, rfl, rfl, s _ _ h1, w.1.1, w.1.2.1, by rw [h2.length]; exact w.1.2.2, fun p hp => k p _ _ hp (rep n.toNat) w.2⟩
    | _ => exact w.elim
  | _ => exact w.elim⟩
end
section
variable {X : Cx} {a b c : Expr} {pos : Pos}
theorem xe_chain {op op' : CmpOp} {r r' : R2} {w w' : W2} {wa wb wc : DE} (ho : OpR X (compareOp op) r) (O : Op2 X.K r w) (ho' : OpR X (compareOp op') r') (O' : Op2 X.K r' w') (ha : XE X a wa) (hb : XE X b wb) (hc : XE X c wc)
    (hm : lastMarks [op, op'] [b, c] = false := by with_unfolding_all rfl) : XE X (.Compare a [op, op'] [b, c] pos) (wChain w w' wa wb wc) := pe_imp (pe_chain ho ho' ha hb hc hm) fun σ H Q h => by
  obtain ⟨G, P, F, s, Φ, R, h, k⟩ := h
  refine ⟨G, P, F, s, _, R, h, fun x F1 H1 s1 dx R1 e1 d1 q1 => ⟨G, P, F1, s1, _, R1, q1, fun y F2 H2 s2 dy R2 e2 d2 q2 => ?_⟩⟩
  refine O.run _ _ R2.same (d1.mono e2) d2 q2 fun z F3 H3 dz f dzz q3 => ?_
  have R3 := R2.fresh f
  cases dz with
  | bool t =>
    cases dzz
    refine ⟨t, rfl, ?_⟩
    cases t with
    | true =>
      dsimp only at q3
      rw [if_pos rfl] at q3 ⊢
      refine ⟨G, P, F3, s2, _, R3, q3, fun u F4 H4 s4 du R4 e4 d4 q4 => ?_⟩
      exact O'.run _ _ R4.same (d2.mono (f.ff.trans e4)) d4 q4 fun z2 F5 H5 d5 f5 dq5 q5 => k z2 F5 H5 s4 d5 (R4.fresh f5) ((((e1.trans e2).trans f.ff).trans e4).trans f5.ff) dq5 q5
    | false =>
      dsimp only at q3
      rw [if_neg Bool.false_ne_true] at q3 ⊢
      exact k _ F3 H3 s2 _ R3 ((e1.trans e2).trans f.ff) (.bl false) q3
  | _ => exact q3.elim
end
end DL
/-! DL, tenth part: lemmas for the reading. -/
namespace DL
open PySem PySem.Spec PyProof.Rows L2
theorem ixN_lt {n : Nat} {k : Int} (h0 : 0 ≤ k) (h1 : k < n) : ixN n k = some k.toNat := by
  unfold ixN
  rw [if_pos h0, if_pos h1]
theorem atI_lt {α : Type} {xs : List α} {k : Int} (h0 : 0 ≤ k) (h1 : k < xs.length) : atI xs k = some (xs[k.toNat]'(by omega)) := by
  unfold atI
  rw [ixN_lt h0 h1]
  exact List.getElem?_eq_getElem (by omega)
theorem atI_zero {α : Type} {x : α} {xs : List α} : atI (x :: xs) 0 = some x := by
  rw [atI_lt (by omega) (by simp)]
  rfl
@[simp] theorem atI_cons0 {α : Type} (x : α) (xs : List α) : atI (x :: xs) 0 = some x := atI_zero
theorem ixN_zero {n : Nat} : ixN (n + 1) 0 = some 0 := by
  rw [ixN_lt (by omega) (by omega)]
  rfl
theorem sz_le {n : Nat} (h : n ≤ 16777216) : n ≤ sizeLine := by rw [sizeLine_eq]; exact h
theorem sz_lt {n : Nat} (h : n < 16777216) : n < sizeLine := by rw [sizeLine_eq]; exact h
theorem PoolOk.head {q : List Int} (h : PoolOk q) : ∃ a t, q = a :: t ∧ 0 ≤ a ∧ 300 ≤ t.length ∧ t.length < 100000 ∧ ∀ n ∈ t, 0 ≤ n ∧ n < 60 := by
  cases q with
  | nil => have := h.lo; simp at this
  | cons a t =>
    have h1 := h.lo
    have h2 := h.hi
    rw [List.length_cons] at h1 h2
    exact ⟨a, t, rfl, h.h0 a List.mem_cons_self, by omega, by omega, fun n hn => ⟨h.h0 n (List.mem_cons_of_mem _ hn), h.nn n hn⟩⟩
theorem PoolOk.mk' {a : Int} {t : List Int} (h0 : 0 ≤ a) (h1 : 300 ≤ t.length) (h2 : t.length < 100000) (h3 : ∀ n ∈ t, 0 ≤ n ∧ n < 60) : PoolOk (a :: t) where
  lo := by rw [List.length_cons]; omega
  hi := by rw [List.length_cons]; omega
  h0 := fun n hn => by
    rcases List.mem_cons.mp hn with rfl | hn
    · exact h0
    · exact (h3 n hn).1
  nn := fun n hn => (h3 n hn).2
/-- a loop over any list, an invariant by the items gone through: each turn for every end -/
theorem loop_inv {wg : DG} {wb : DS} {Φ : EN} (xs : List PyData) (Inv : List PyData → S → Prop) {s : S} (h0 : Inv [] s)
    (hs : ∀ pre x post s, xs = pre ++ x :: post → Inv pre s → ∀ Ψ : EN, (∀ s, Inv (pre ++ [x]) s → Ψ.nx s) → (∀ s, Inv (pre ++ [x]) s → Ψ.ct s) → Ψ.rt = Φ.rt → Ψ.bk = Φ.nx → Ψ.rl = Φ.rl → wg x s fun s1 => wb Ψ s1)
    (hd : ∀ s, Inv xs s → Φ.nx s) : loopW wg wb Φ xs s := by
  have key : ∀ (post pre : List PyData) (s : S), xs = pre ++ post → Inv pre s → loopW wg wb Φ post s := by
    intro post
    induction post with
    | nil =>
      intro pre s e q
      rw [List.append_nil] at e
      subst e
      exact hd s q
    | cons x post ih =>
      intro pre s e q
      have e2 : xs = (pre ++ [x]) ++ post := by rw [e, List.append_assoc]; rfl
      exact hs pre x post s e q _ (fun s2 z => ih _ s2 e2 z) (fun s2 z => ih _ s2 e2 z) rfl rfl rfl
  exact key xs [] s rfl h0
/-- .. over a range: the turn's number -/
theorem loop_rng {wg : DG} {wb : DS} {Φ : EN} {lo : Int} {n : Nat} (Inv : Nat → S → Prop) {s : S} (h0 : Inv 0 s)
    (hs : ∀ i s, i < n → Inv i s → ∀ Ψ : EN, (∀ s, Inv (i + 1) s → Ψ.nx s) → (∀ s, Inv (i + 1) s → Ψ.ct s) → Ψ.rt = Φ.rt → Ψ.bk = Φ.nx → Ψ.rl = Φ.rl → wg (.int (lo + (i : Int))) s fun s1 => wb Ψ s1)
    (hd : ∀ s, Inv n s → Φ.nx s) : loopW wg wb Φ (rangeD lo n) s := by
  refine loop_inv (rangeD lo n) (fun pre s => Inv pre.length s) h0 (fun pre x post s e q Ψ h1 h2 h3 h4 h5 => ?_) (fun s q => hd s (by rw [rangeD_len] at q; exact q))
  have hx : (rangeD lo n)[pre.length]? = some x := by rw [e]; simp
  obtain ⟨hi, rfl⟩ := rangeD_get hx
  exact hs pre.length s hi q Ψ (fun s z => h1 s (by simpa using z)) (fun s z => h2 s (by simpa using z)) h3 h4 h5
/-- a comprehension, an invariant by the items gone through, what is made and the pool -/
theorem lc_inv {vs : List Nat} {e0 : List Sl} {wg : DG} {wt : DT} {we : DE} {Φ : List PyData → List Int → Prop} (xs : List PyData) (Inv : List PyData → List PyData → List Int → Prop) {q : List Int} (h0 : Inv [] [] q)
    (hs : ∀ pre x post acc q, xs = pre ++ x :: post → Inv pre acc q → ∀ Ψ : List PyData → List Int → Prop, (∀ acc q, Inv (pre ++ [x]) acc q → Ψ acc q) → wg x ⟨wipeE e0 vs, q⟩ fun s1 => wipeE s1.e vs = wipeE e0 vs ∧ wt s1 fun b s2 => s2.e = s1.e ∧
      (if b = true then we s2 fun y s3 => s3.e = s1.e ∧ acc.length < sizeLine ∧ Ψ (acc ++ [y]) s3.q else Ψ acc s2.q))
    (hd : ∀ acc q, Inv xs acc q → Φ acc q) : lcW vs e0 wg wt we Φ xs [] q := by
  have key : ∀ (post pre acc : List PyData) (q : List Int), xs = pre ++ post → Inv pre acc q → lcW vs e0 wg wt we Φ post acc q := by
    intro post
    induction post with
    | nil =>
      intro pre acc q e z
      rw [List.append_nil] at e
      subst e
      exact hd acc q z
    | cons x post ih =>
      intro pre acc q e z
      have e2 : xs = (pre ++ [x]) ++ post := by rw [e, List.append_assoc]; rfl
      exact hs pre x post acc q e z (fun acc q => lcW vs e0 wg wt we Φ post acc q) (fun acc q z2 => ih _ acc q e2 z2)
  exact key xs [] [] q rfl h0
/-- a comprehension that only maps -/
theorem lc_map {vs : List Nat} {e0 : List Sl} {wg : DG} {we : DE} {Φ : List PyData → List Int → Prop} (xs : List PyData) (f : PyData → PyData) {q : List Int} (hl : xs.length ≤ 16777216)
    (hs : ∀ x, x ∈ xs → ∀ Θ : S → PyData → S → Prop, (∀ s1 s3, s3.e = s1.e → s3.q = q → Θ s1 (f x) s3) → wg x ⟨wipeE e0 vs, q⟩ fun s1 => wipeE s1.e vs = wipeE e0 vs ∧ we s1 (Θ s1))
    (hd : Φ (xs.map f) q) : lcW vs e0 wg wYes we Φ xs [] q := by
  refine lc_inv xs (fun pre acc q' => acc = pre.map f ∧ q' = q) ⟨rfl, rfl⟩ (fun pre x post acc q' e h Ψ k => ?_) (fun acc q' h => by rw [h.1, h.2]; exact hd)
  obtain ⟨rfl, rfl⟩ := h
  have hx : x ∈ xs := by rw [e]; simp
  have hlen : (pre.map f).length < sizeLine := sz_lt (by
    rw [e] at hl
    simp at hl ⊢
    omega)
  have r := hs x hx (fun s1 y s3 => s3.e = s1.e ∧ (pre.map f).length < sizeLine ∧ Ψ (pre.map f ++ [y]) s3.q) (fun s1 s3 h1 h2 => ⟨h1, hlen, k _ _ ⟨by simp, h2⟩⟩)
  simp only [wYes, true_and, if_true]
  exact r
end DL
/-! promises of what all laws draw with -/
namespace DL
open PySem PySem.Spec L2
def sp_pool : DSpS := fun ns Φ => ns.length ≤ 63 ∧ ∀ q : List Int, 300 ≤ q.length → q.length ≤ 90000 → (∀ n ∈ q, 0 ≤ n ∧ n < 60) → Φ (q.map .int)
def sp_pick : DSpP := fun ds q Φ => ∃ m, ds = [.int m] ∧ 0 < m ∧ PoolOk q ∧ ∀ n q', PoolOk q' → 0 ≤ n → n < m → n < 60 → Φ (.int n) q'
/-- letters: up to m signs from a to z -/
structure Letters (m : Int) (z : Str) : Prop where
  lo : 1 ≤ z.length
  hi : (z.length : Int) ≤ m
  az : ∀ c ∈ z.cps.toList, 97 ≤ c ∧ c ≤ 122
def sp_letters : DSpP := fun ds q Φ => ∃ m, ds = [.int m] ∧ 1 ≤ m ∧ m ≤ 6 ∧ PoolOk q ∧ ∀ z q', PoolOk q' → Letters m z → Φ (.str z) q'
end DL
/-! rules, what words they have, and the promises of law k17's defs -/
namespace DL
open PySem PySem.Spec L2
inductive All2 {α β : Type} (R : α → β → Prop) : List α → List β → Prop
  | nil : All2 R [] []
  | cons {a : α} {b : β} {as : List α} {bs : List β} : R a b → All2 R as bs → All2 R (a :: as) (b :: bs)
abbrev Rel := Nat → Nat → Prop
def Tidy (n : Nat) (P : Rel) : Prop := ∀ b e, P b e → b ≤ e ∧ e ≤ n
def rno : Rel := fun _ _ => False
def rid (n : Nat) : Rel := fun b e => b = e ∧ e ≤ n
def rup (n : Nat) : Rel := fun b e => b ≤ e ∧ e ≤ n
def rcomp (P Q : Rel) : Rel := fun b e => ∃ m, P b m ∧ Q m e
def ror (P Q : Rel) : Rel := fun b e => P b e ∨ Q b e
def rand (P Q : Rel) : Rel := fun b e => P b e ∧ Q b e
def rnot (n : Nat) (P : Rel) : Rel := fun b e => (b ≤ e ∧ e ≤ n) ∧ ¬ P b e
def rrow (n : Nat) : List Rel → Rel
  | [] => rid n
  | P :: Ps => rcomp P (rrow n Ps)
def rany : List Rel → Rel
  | [] => rno
  | P :: Ps => ror P (rany Ps)
def rall (n : Nat) : List Rel → Rel
  | [] => rup n
  | P :: Ps => rand P (rall n Ps)
/-- P so often, then Q -/
def rpow (P Q : Rel) : Nat → Rel
  | 0 => Q
  | k + 1 => rcomp P (rpow P Q k)
inductive Rstar (n : Nat) (P : Rel) : Nat → Nat → Prop
  | refl {b : Nat} : b ≤ n → Rstar n P b b
  | step {b m e : Nat} : P b m → b < m → Rstar n P m e → Rstar n P b e
def rtimes (n : Nat) (P : Rel) (lo : Nat) : Option Nat → Rel
  | none => rpow P (Rstar n P) lo
  | some hi => rpow P (rpow (ror P (rid n)) (rid n) (hi - lo)) lo
abbrev Den := Str → Rel
def Az (z : Str) : Prop := ∀ c ∈ z.cps.toList, 97 ≤ c ∧ c ≤ 122
def dOne (z : Str) : Den := fun w b e => e = b + 1 ∧ ∃ c, w.cps.toList[b]? = some c ∧ c ∈ z.cps.toList
def hiD : Option Nat → PyData
  | none => .none
  | some h => .int (h : Nat)
inductive Leaf : PyData → Den → Prop
  | no : Leaf (.tuple [.str "none"]) fun _ => rno
  | em : Leaf (.tuple [.str "empty"]) fun w => rid w.length
  | one {z : Str} : 1 ≤ z.length → z.length ≤ 6 → Az z → Leaf (.tuple [.str "one", .str z]) (dOne z)
inductive Node (R : PyData → Den → Prop) : PyData → Den → Prop
  | leaf {x : PyData} {D : Den} : Leaf x D → Node R x D
  | row {xs : List PyData} {Ds : List Den} : 1 ≤ xs.length → xs.length ≤ 6 → All2 R xs Ds → Node R (.tuple [.str "row", .list xs]) fun w => rrow w.length (Ds.map (· w))
  | ei {xs : List PyData} {Ds : List Den} : 1 ≤ xs.length → xs.length ≤ 6 → All2 R xs Ds → Node R (.tuple [.str "either", .list xs]) fun w => rany (Ds.map (· w))
  | bo {xs : List PyData} {Ds : List Den} : 1 ≤ xs.length → xs.length ≤ 6 → All2 R xs Ds → Node R (.tuple [.str "both", .list xs]) fun w => rall w.length (Ds.map (· w))
  | no {x : PyData} {D : Den} : R x D → Node R (.tuple [.str "not", x]) fun w => rnot w.length (D w)
  | ti {x : PyData} {D : Den} {lo : Nat} {hi : Option Nat} : R x D → lo ≤ 8 → (∀ h, hi = some h → lo ≤ h ∧ h ≤ 8) → Node R (.tuple [.str "times", x, .int (lo : Nat), hiD hi]) fun w => rtimes w.length (D w) lo hi
def Rul : Nat → PyData → Den → Prop
  | 0 => Leaf
  | d + 1 => Node (Rul d)
/-- whole numbers from a rule of their places -/
def mkI (n : Nat) (f : Nat → Nat) : List PyData := (List.range n).map fun b => .int (f b : Nat)
def MaskL (n : Nat) (P : Rel) (xs : List PyData) : Prop := ∃ f : Nat → Nat, xs = mkI (n + 1) f ∧ ∀ b, b ≤ n → ∀ e, (f b).testBit e = true ↔ P b e
def MaskD (n : Nat) (P : Rel) (x : PyData) : Prop := ∃ xs, x = .list xs ∧ MaskL n P xs
def mkT (n : Nat) (g : Nat → Nat → Nat) : List PyData := (List.range n).map fun b => .list (mkI n (g b))
structure TabOk (γ n : Nat) (P : Rel) (g : Nat → Nat → Nat) : Prop where
  iff : ∀ b e, b ≤ n → e ≤ n → (g b e ≠ 0 ↔ P b e)
  le : ∃ α β, α + β + 1 ≤ γ ∧ ∀ b e, b ≤ e → e ≤ n → g b e ≤ 2 ^ (α + β * (e - b))
def TabL (γ n : Nat) (P : Rel) (xs : List PyData) : Prop := ∃ g, xs = mkT (n + 1) g ∧ TabOk γ n P g
def TabD (γ n : Nat) (P : Rel) (x : PyData) : Prop := ∃ xs, x = .list xs ∧ TabL γ n P xs
def TreeD (γ n : Nat) (P : Rel) (x : PyData) : Prop := ∃ r t i s, x = .tuple [r, t, i, s] ∧ TabD γ n P t
def gam : Nat → Nat
  | 0 => 1
  | d + 1 => 9 * gam d + 9
def lenD : Nat → Nat
  | 0 => 4
  | d + 1 => 11 * lenD d
-- the program
def sp_rules_in : DSp := fun ds Φ => (∃ s xs, ds = [.tuple [.str s, .list xs]] ∧ (s = "row" ∨ s = "either" ∨ s = "both") ∧ xs.length ≤ 1000 ∧ Φ (.list xs)) ∨ ∃ s x ys, ds = [.tuple (.str s :: x :: ys)] ∧ (s = "not" ∨ s = "times") ∧ Φ (.list [x])
def sp_only_empty : DSp := fun ds Φ => ∃ n : Nat, ds = [.int (n + 1 : Nat)] ∧ n ≤ 31 ∧ ∀ x, MaskD n (rid n) x → Φ x
def sp_in_some : DSp := fun ds Φ => ∃ n xs Ps, ds = [.list xs] ∧ n ≤ 31 ∧ xs ≠ [] ∧ xs.length ≤ 1000 ∧ All2 (MaskD n) (α := Rel) Ps xs ∧ ∀ x, MaskD n (rany Ps) x → Φ x
def sp_in_all : DSp := fun ds Φ => ∃ n xs Ps, ds = [.list xs] ∧ n ≤ 31 ∧ xs ≠ [] ∧ xs.length ≤ 1000 ∧ All2 (MaskD n) (α := Rel) Ps xs ∧ (∀ P, P ∈ Ps → Tidy n P) ∧ ∀ x, MaskD n (rall n Ps) x → Φ x
def sp_in_turn : DSpL := fun ds Φ => ∃ n x y P Q, ds = [x, y] ∧ n ≤ 31 ∧ Tidy n P ∧ Tidy n Q ∧ MaskD n P x ∧ MaskD n Q y ∧ ∀ xs, MaskL n (rcomp P Q) xs → Φ xs
def sp_all_in_turn : DSp := fun ds Φ => ∃ n xs Ps, ds = [.list xs] ∧ n ≤ 31 ∧ xs ≠ [] ∧ xs.length ≤ 1000 ∧ All2 (MaskD n) (α := Rel) Ps xs ∧ (∀ P, P ∈ Ps → Tidy n P) ∧ ∀ x, MaskD n (rrow n Ps) x → Φ x
def sp_any_turns : DSpL := fun ds Φ => ∃ n x P, ds = [x] ∧ n ≤ 31 ∧ Tidy n P ∧ MaskD n P x ∧ ∀ xs, MaskL n (Rstar n P) xs → Φ xs
def sp_in_times : DSp := fun ds Φ => ∃ (n : Nat) (x : PyData) (P : Rel) (lo : Nat) (hi : Option Nat), ds = [x, .int (lo : Nat), hiD hi] ∧ n ≤ 31 ∧ Tidy n P ∧ MaskD n P x ∧ lo ≤ 8 ∧ (∀ h, hi = some h → lo ≤ h ∧ h ≤ 8) ∧ ∀ x, MaskD n (rtimes n P lo hi) x → Φ x
def sp_pieces_of (d : Nat) : DSp := fun ds Φ => ∃ x D w, ds = [x, .str w] ∧ Rul d x D ∧ w.length ≤ 31 ∧ ∀ y, MaskD w.length (D w) y → Φ y
def sp_is_piece : DSp := fun ds Φ => ∃ (n : Nat) (x : PyData) (P : Rel) (b e : Nat), ds = [x, .int (b : Nat), .int (e : Nat)] ∧ n ≤ 31 ∧ MaskD n P x ∧ b ≤ n ∧ e ≤ 31 ∧ ∀ k, (k = true ↔ P b e) → Φ (.bool k)
def sp_is_of (d : Nat) : DSp := fun ds Φ => ∃ l x D w, ds = [l, x, .str w] ∧ Rul d x D ∧ w.length ≤ 31 ∧ ∀ k, (k = true ↔ D w 0 w.length) → Φ (.bool k)
-- the law
def sp_signs : DSpP := fun ds q Φ => ∃ z, ds = [.str z] ∧ 1 ≤ z.length ∧ z.length ≤ 6 ∧ Az z ∧ PoolOk q ∧ ∀ y q', PoolOk q' → 1 ≤ y.length → y.length ≤ 6 → Az y → Φ (.str y) q'
def sp_words : DSp := fun ds Φ => ∃ (z : Str) (k : Nat), ds = [.str z, .int (k : Nat)] ∧ z.length ≤ 6 ∧ k ≤ 4 ∧ (2 ≤ z.length → k ≤ 2) ∧ ∀ xs, xs.length ≤ 200 → (∀ x ∈ xs, ∃ w : Str, x = .str w ∧ w.length ≤ 4) → Φ (.list xs)
def sp_is_so : DSp := fun ds Φ => ∃ a b, ds = [.bool a, .bool b] ∧ Φ (.bool (a == b))
def sp_leaf : DSpP := fun ds q Φ => ∃ z, ds = [.str z] ∧ 1 ≤ z.length ∧ z.length ≤ 6 ∧ Az z ∧ PoolOk q ∧ ∀ x D q', PoolOk q' → Leaf x D → Φ x q'
def sp_rule (d : Nat) : DSpP := fun ds q Φ => ∃ (z : Str) (r : Nat), ds = [.str z, .int (r : Nat), .int (d : Nat), .bool true] ∧ 1 ≤ r ∧ r ≤ 100 ∧ 1 ≤ z.length ∧ z.length ≤ 6 ∧ Az z ∧ PoolOk q ∧ ∀ x D q', PoolOk q' → Rul d x D → Φ x q'
def sp_any_rule : DSpP := fun ds q Φ => ∃ (z : Str), ds = [.str z, .bool true] ∧ 1 ≤ z.length ∧ z.length ≤ 6 ∧ Az z ∧ PoolOk q ∧ ∀ d x D q', PoolOk q' → d ≤ 4 → Rul d x D → Φ x q'
def sp_joined : DSpL := fun ds Φ => ∃ γ δ n x y P Q, ds = [x, y] ∧ n ≤ 31 ∧ γ + δ ≤ 15000 ∧ Tidy n P ∧ Tidy n Q ∧ TabD γ n P x ∧ TabD δ n Q y ∧ ∀ xs, TabL (γ + δ) n (rcomp P Q) xs → Φ xs
def sp_any : DSpL := fun ds Φ => ∃ γ n x P, ds = [x] ∧ n ≤ 31 ∧ γ ≤ 15000 ∧ Tidy n P ∧ TabD γ n P x ∧ ∀ xs, TabL (γ + 1) n (Rstar n P) xs → Φ xs
def sp_rests : DSp := fun ds Φ => (∃ γ n xs ts Ps t, ds = [.tuple [.str "row", .list ts], .list xs, t] ∧ n ≤ 31 ∧ TabD 1 n (rid n) t ∧ xs.length ≤ 6 ∧ All2 (TreeD γ n) (α := Rel) Ps xs ∧ (∀ P, P ∈ Ps → Tidy n P) ∧ 9 * γ + 9 ≤ 15000 ∧ ∀ y ys, TabD (9 * γ + 9) n (rrow n Ps) y → Φ (.list (y :: ys))) ∨
  ∃ (γ n : Nat) (x u t : PyData) (P : Rel) (lo : Nat) (hi : Option Nat), ds = [.tuple [.str "times", x, .int (lo : Nat), hiD hi], .list [u], t] ∧ n ≤ 31 ∧ TabD 1 n (rid n) t ∧ TreeD γ n P u ∧ Tidy n P ∧ 9 * γ + 9 ≤ 15000 ∧ lo ≤ 8 ∧ (∀ h, hi = some h → lo ≤ h ∧ h ≤ 8) ∧ ∀ y ys, TabD (9 * γ + 9) n (rtimes n P lo hi) y → Φ (.list (y :: ys))
def sp_tree (d : Nat) : DSp := fun ds Φ => ∃ x D w, ds = [x, .str w] ∧ Rul d x D ∧ d ≤ 4 ∧ w.length ≤ 31 ∧ ∀ y, TreeD (gam d) w.length (D w) y → Φ y
def sp_count (d : Nat) : DSp := fun ds Φ => ∃ x D w, ds = [x, .str w] ∧ Rul d x D ∧ d ≤ 4 ∧ w.length ≤ 31 ∧ ∀ m : Nat, (m ≠ 0 ↔ D w 0 w.length) → Φ (.int (m : Nat))
def sp_down (d : Nat) : DSpP := fun ds q Φ => ∃ (z : Str) (x : PyData) (D : Den), ds = [.str z, x] ∧ Rul d x D ∧ d ≤ 4 ∧ 1 ≤ z.length ∧ z.length ≤ 6 ∧ PoolOk q ∧ ∀ (w : Str) q', PoolOk q' → w.length ≤ lenD d → Φ (.str w) q'
def sp_near : DSpP := fun ds q Φ => ∃ (z w : Str), ds = [.str z, .str w] ∧ 1 ≤ z.length ∧ z.length ≤ 6 ∧ w.length ≤ 30 ∧ PoolOk q ∧ ∀ (y : Str) q', PoolOk q' → y.length ≤ 31 → Φ (.str y) q'
def lenRel (m : Option Nat) : Den := fun w b e => (b ≤ e ∧ e ≤ w.length) ∧ ∀ k, m = some k → e - b ≤ k
def Over (z w : Str) : Prop := ∀ c ∈ w.cps.toList, c ∈ z.cps.toList
def sp_nested : DSpP := fun ds q Φ => ∃ (z : Str), ds = [.str z] ∧ 1 ≤ z.length ∧ z.length ≤ 6 ∧ Az z ∧ PoolOk q ∧ ∀ m x D q', PoolOk q' → Rul 5 x D → (∀ w, Over z w → ∀ b e, D w b e ↔ lenRel m w b e) → Φ (.tuple [hiD m, x]) q'
def sp_deep : DSpP := fun ds q Φ => ∃ (z : Str), ds = [.str z] ∧ 1 ≤ z.length ∧ z.length ≤ 6 ∧ Az z ∧ PoolOk q ∧ ∀ q', PoolOk q' → Φ (.bool true) q'
end DL
namespace DL
open PySem PySem.Spec L2
def sp_piecesU : DSp := fun ds Φ => ∃ d, d ≤ 6 ∧ sp_pieces_of d ds Φ
def sp_isU : DSp := fun ds Φ => ∃ d, d ≤ 6 ∧ sp_is_of d ds Φ
def sp_ruleU : DSpP := fun ds q Φ => ∃ d, d ≤ 4 ∧ sp_rule d ds q Φ
def sp_treeU : DSp := fun ds Φ => ∃ d, d ≤ 4 ∧ sp_tree d ds Φ
def sp_countU : DSp := fun ds Φ => ∃ d, d ≤ 4 ∧ sp_count d ds Φ
def sp_downU : DSpP := fun ds q Φ => ∃ d, d ≤ 4 ∧ sp_down d ds q Φ
end DL
/-! DL: lemmas for lists of numbers, bits, tables -/
namespace DL
open PySem PySem.Spec PyProof.Rows L2
@[simp] theorem flatD_str (s : Str) : flatD (.str s) = true := rfl
@[simp] theorem flatD_int (s : Int) : flatD (.int s) = true := rfl
@[simp] theorem flatD_none : flatD .none = true := rfl
@[simp] theorem atI_cons1 {α : Type} (x y : α) (xs : List α) : atI (x :: y :: xs) 1 = some y := by
  rw [atI_lt (by omega) (by simp; omega)]
  rfl
@[simp] theorem atI_cons2 {α : Type} (x y z : α) (xs : List α) : atI (x :: y :: z :: xs) 2 = some z := by
  rw [atI_lt (by omega) (by simp; omega)]
  rfl
@[simp] theorem atI_cons3 {α : Type} (x y z t : α) (xs : List α) : atI (x :: y :: z :: t :: xs) 3 = some t := by
  rw [atI_lt (by omega) (by simp; omega)]
  rfl
theorem mkI_len (n : Nat) (f : Nat → Nat) : (mkI n f).length = n := by
  unfold mkI
  rw [List.length_map, List.length_range]
theorem mkT_len (n : Nat) (g : Nat → Nat → Nat) : (mkT n g).length = n := by
  unfold mkT
  rw [List.length_map, List.length_range]
theorem mkI_get {n : Nat} {f : Nat → Nat} {i : Nat} (h : i < n) : (mkI n f)[i]? = some (.int (f i : Nat)) := by
  unfold mkI
  rw [List.getElem?_map, List.getElem?_range h]
  rfl
theorem mkT_get {n : Nat} {g : Nat → Nat → Nat} {i : Nat} (h : i < n) : (mkT n g)[i]? = some (.list (mkI n (g i))) := by
  unfold mkT
  rw [List.getElem?_map, List.getElem?_range h]
  rfl
theorem atI_nat {α : Type} {xs : List α} {i : Nat} (h : i < xs.length) : atI xs (i : Int) = xs[i]? := by
  rw [atI_lt (by omega) (by omega)]
  exact (List.getElem?_eq_getElem (by simpa using h)).symm
theorem atI_mkI {n : Nat} {f : Nat → Nat} {i : Nat} (h : i < n) : atI (mkI n f) (i : Int) = some (.int (f i : Nat)) := by
  rw [atI_nat (by rw [mkI_len]; exact h), mkI_get h]
theorem atI_mkT {n : Nat} {g : Nat → Nat → Nat} {i : Nat} (h : i < n) : atI (mkT n g) (i : Int) = some (.list (mkI n (g i))) := by
  rw [atI_nat (by rw [mkT_len]; exact h), mkT_get h]
theorem mkI_congr {n : Nat} {f g : Nat → Nat} (h : ∀ i, i < n → f i = g i) : mkI n f = mkI n g := by
  unfold mkI
  exact List.map_congr_left fun i hi => by rw [h i (List.mem_range.mp hi)]
theorem mkT_congr {n : Nat} {f g : Nat → Nat → Nat} (h : ∀ i j, i < n → j < n → f i j = g i j) : mkT n f = mkT n g := by
  unfold mkT
  exact List.map_congr_left fun i hi => by rw [mkI_congr fun j hj => h i j (List.mem_range.mp hi) hj]
theorem mkI_app (n : Nat) (f : Nat → Nat) : mkI n f ++ [.int (f n : Nat)] = mkI (n + 1) f := by
  unfold mkI
  rw [List.range_succ, List.map_append]
  rfl
/-- a map with one place put anew -/
def setF {α : Type} (r : Nat → α) (i : Nat) (v : α) : Nat → α := fun b => if b = i then v else r b
@[simp] theorem setF_same {α : Type} (r : Nat → α) (i : Nat) (v : α) : setF r i v i = v := if_pos rfl
theorem setF_ne {α : Type} {r : Nat → α} {i b : Nat} {v : α} (h : b ≠ i) : setF r i v b = r b := if_neg h
theorem mkI_snoc (n : Nat) (f : Nat → Nat) (v : Nat) : mkI n f ++ [.int (v : Nat)] = mkI (n + 1) (setF f n v) := by
  rw [← mkI_app, setF_same, mkI_congr fun b (hb : b < n) => setF_ne (r := f) (v := v) (Nat.ne_of_lt hb)]
theorem mkT_snoc (n m : Nat) (f : Nat → Nat → Nat) (v : Nat → Nat) : ((List.range n).map fun b => PyData.list (mkI m (f b))) ++ [.list (mkI m v)] = (List.range (n + 1)).map fun b => PyData.list (mkI m (setF f n v b)) := by
  rw [List.range_succ, List.map_append, List.map_singleton, setF_same]
  congr 1
  exact List.map_congr_left fun i hi => by rw [setF_ne (Nat.ne_of_lt (List.mem_range.mp hi))]
theorem mkI_set {n i : Nat} {f : Nat → Nat} {v : Nat} (h : i < n) : (mkI n f).set i (.int (v : Nat)) = mkI n (setF f i v) := by
  apply List.ext_getElem?
  intro j
  rw [List.getElem?_set]
  by_cases hj : j < n
  · by_cases hij : i = j
    · subst hij
      rw [if_pos rfl, mkI_len, if_pos h, mkI_get hj, setF_same]
    · rw [if_neg hij, mkI_get hj, mkI_get hj, setF_ne (Ne.symm hij)]
  · rw [List.getElem?_eq_none (l := mkI n (setF f i v)) (by rw [mkI_len]; omega), if_neg (by omega), List.getElem?_eq_none (by rw [mkI_len]; omega)]
theorem mkT_set {n i : Nat} {g : Nat → Nat → Nat} {v : Nat → Nat} (h : i < n) : (mkT n g).set i (.list (mkI n v)) = mkT n (setF g i v) := by
  apply List.ext_getElem?
  intro j
  rw [List.getElem?_set]
  by_cases hj : j < n
  · by_cases hij : i = j
    · subst hij
      rw [if_pos rfl, mkT_len, if_pos h, mkT_get hj, setF_same]
    · rw [if_neg hij, mkT_get hj, mkT_get hj, setF_ne (Ne.symm hij)]
  · rw [List.getElem?_eq_none (l := mkT n (setF g i v)) (by rw [mkT_len]; omega), if_neg (by omega), List.getElem?_eq_none (by rw [mkT_len]; omega)]
theorem ixN_nat {n i : Nat} (h : i < n) : ixN n (i : Int) = some i := by
  rw [ixN_lt (by omega) (by omega), Int.toNat_natCast]
/-! loops by the number of the turn -/
theorem loop_ix {wg : DG} {wb : DS} {Φ : EN} (xs : List PyData) (Inv : Nat → S → Prop) {s : S} (h0 : Inv 0 s)
    (hs : ∀ i x s, xs[i]? = some x → Inv i s → ∀ Ψ : EN, (∀ s, Inv (i + 1) s → Ψ.nx s) → (∀ s, Inv (i + 1) s → Ψ.ct s) → Ψ.rt = Φ.rt → Ψ.bk = Φ.nx → Ψ.rl = Φ.rl → wg x s fun s1 => wb Ψ s1)
    (hd : ∀ s, Inv xs.length s → Φ.nx s) : loopW wg wb Φ xs s := by
  refine loop_inv xs (fun pre s => Inv pre.length s) h0 (fun pre x post s e q Ψ h1 h2 h3 h4 h5 => ?_) (fun s q => hd s q)
  exact hs pre.length x s (by rw [e]; simp) q Ψ (fun s z => h1 s (by simpa using z)) (fun s z => h2 s (by simpa using z)) h3 h4 h5
theorem loop_enumI {wg : DG} {wb : DS} {Φ : EN} {n : Nat} {f : Nat → Nat} (Inv : Nat → S → Prop) {s : S} (h0 : Inv 0 s)
    (hs : ∀ i s, i < n → Inv i s → ∀ Ψ : EN, (∀ s, Inv (i + 1) s → Ψ.nx s) → (∀ s, Inv (i + 1) s → Ψ.ct s) → Ψ.rt = Φ.rt → Ψ.bk = Φ.nx → Ψ.rl = Φ.rl → wg (.tuple [.int (i : Nat), .int (f i : Nat)]) s fun s1 => wb Ψ s1)
    (hd : ∀ s, Inv n s → Φ.nx s) : loopW wg wb Φ (enumD (mkI n f)) s := by
  refine loop_ix (enumD (mkI n f)) Inv h0 (fun i x s hx q Ψ h1 h2 h3 h4 h5 => ?_) (fun s q => hd s (by rw [enumD_len, mkI_len] at q; exact q))
  obtain ⟨y, hy, rfl⟩ := enumD_get hx
  have hi : i < n := by rw [← mkI_len n f]; exact (List.getElem?_eq_some_iff.mp hy).1
  rw [mkI_get hi] at hy
  cases hy
  exact hs i s hi q Ψ h1 h2 h3 h4 h5
/-- range(n - 1, -1, -1): from the last one down -/
theorem rangeC_get {lo c : Int} {n i : Nat} {x : PyData} (h : (rangeC lo c n)[i]? = some x) : i < n ∧ x = .int (lo + (i : Int) * c) := by
  have hi : i < n := by rw [← rangeC_len lo c n]; exact (List.getElem?_eq_some_iff.mp h).1
  unfold rangeC at h
  rw [List.getElem?_map, List.getElem?_range hi] at h
  cases h
  exact ⟨hi, rfl⟩
/-! comprehensions that map, by the number of the turn -/
theorem lc_ix {vs : List Nat} {e0 : List Sl} {wg : DG} {we : DE} {Φ : List PyData → List Int → Prop} (xs : List PyData) (F : Nat → PyData) {q : List Int} (hl : xs.length ≤ 16777216)
    (hs : ∀ i x, xs[i]? = some x → ∀ Θ : S → PyData → S → Prop, (∀ s1 s3, s3.e = s1.e → s3.q = q → Θ s1 (F i) s3) → wg x ⟨wipeE e0 vs, q⟩ fun s1 => wipeE s1.e vs = wipeE e0 vs ∧ we s1 (Θ s1))
    (hd : Φ ((List.range xs.length).map F) q) : lcW vs e0 wg wYes we Φ xs [] q := by
  refine lc_inv xs (fun pre acc q' => acc = (List.range pre.length).map F ∧ q' = q) ⟨rfl, rfl⟩ (fun pre x post acc q' e h Ψ k => ?_) (fun acc q' h => by rw [h.1, h.2]; exact hd)
  obtain ⟨rfl, rfl⟩ := h
  have hlen : ((List.range pre.length).map F).length < sizeLine := sz_lt (by
    rw [e] at hl
    simp at hl ⊢
    omega)
  have r := hs pre.length x (by rw [e]; simp) (fun s1 y s3 => s3.e = s1.e ∧ ((List.range pre.length).map F).length < sizeLine ∧ Ψ ((List.range pre.length).map F ++ [y]) s3.q)
    (fun s1 s3 h1 h2 => ⟨h1, hlen, k _ _ ⟨by rw [List.length_append, List.length_singleton, List.range_succ, List.map_append]; rfl, h2⟩⟩)
  simp only [wYes, true_and, if_true]
  exact r
theorem lc_rng {vs : List Nat} {e0 : List Sl} {wg : DG} {we : DE} {Φ : List PyData → List Int → Prop} {lo : Int} {n : Nat} (F : Nat → PyData) {q : List Int} (hl : n ≤ 16777216)
    (hs : ∀ i, i < n → ∀ Θ : S → PyData → S → Prop, (∀ s1 s3, s3.e = s1.e → s3.q = q → Θ s1 (F i) s3) → wg (.int (lo + (i : Int))) ⟨wipeE e0 vs, q⟩ fun s1 => wipeE s1.e vs = wipeE e0 vs ∧ we s1 (Θ s1))
    (hd : Φ ((List.range n).map F) q) : lcW vs e0 wg wYes we Φ (rangeD lo n) [] q := by
  refine lc_ix (rangeD lo n) F (by rw [rangeD_len]; exact hl) (fun i x hx Θ k => ?_) (by rw [rangeD_len]; exact hd)
  obtain ⟨hi, rfl⟩ := rangeD_get hx
  exact hs i hi Θ k
theorem lc_enumI {vs : List Nat} {e0 : List Sl} {wg : DG} {we : DE} {Φ : List PyData → List Int → Prop} {n : Nat} {f : Nat → Nat} (F : Nat → PyData) {q : List Int} (hl : n ≤ 16777216)
    (hs : ∀ i, i < n → ∀ Θ : S → PyData → S → Prop, (∀ s1 s3, s3.e = s1.e → s3.q = q → Θ s1 (F i) s3) → wg (.tuple [.int (i : Nat), .int (f i : Nat)]) ⟨wipeE e0 vs, q⟩ fun s1 => wipeE s1.e vs = wipeE e0 vs ∧ we s1 (Θ s1))
    (hd : Φ ((List.range n).map F) q) : lcW vs e0 wg wYes we Φ (enumD (mkI n f)) [] q := by
  refine lc_ix (enumD (mkI n f)) F (by rw [enumD_len, mkI_len]; exact hl) (fun i x hx Θ k => ?_) (by rw [enumD_len, mkI_len]; exact hd)
  obtain ⟨y, hy, rfl⟩ := enumD_get hx
  have hi : i < n := by rw [← mkI_len n f]; exact (List.getElem?_eq_some_iff.mp hy).1
  rw [mkI_get hi] at hy
  cases hy
  exact hs i hi Θ k
theorem lc_zipI {vs : List Nat} {e0 : List Sl} {wg : DG} {we : DE} {Φ : List PyData → List Int → Prop} {n : Nat} {f g : Nat → Nat} (F : Nat → PyData) {q : List Int} (hl : n ≤ 16777216)
    (hs : ∀ i, i < n → ∀ Θ : S → PyData → S → Prop, (∀ s1 s3, s3.e = s1.e → s3.q = q → Θ s1 (F i) s3) → wg (.tuple [.int (f i : Nat), .int (g i : Nat)]) ⟨wipeE e0 vs, q⟩ fun s1 => wipeE s1.e vs = wipeE e0 vs ∧ we s1 (Θ s1))
    (hd : Φ ((List.range n).map F) q) : lcW vs e0 wg wYes we Φ (zipD (mkI n f) (mkI n g)) [] q := by
  have hl2 : (zipD (mkI n f) (mkI n g)).length = n := by
    unfold zipD
    rw [List.length_map, List.length_zip, mkI_len, mkI_len, Nat.min_self]
  refine lc_ix (zipD (mkI n f) (mkI n g)) F (by rw [hl2]; exact hl) (fun i x hx Θ k => ?_) (by rw [hl2]; exact hd)
  have hi : i < n := by rw [← hl2]; exact (List.getElem?_eq_some_iff.mp hx).1
  obtain ⟨y, z, hy, hz, rfl⟩ := zipD_get hx
  rw [mkI_get hi] at hy hz
  cases hy
  cases hz
  exact hs i hi Θ k
/-! bits -/
theorem bitNot_eq (x : Int) : Builtin.bitNot x = -x - 1 := by
  unfold Builtin.bitNot
  omega
theorem band_nat (a b : Nat) : Builtin.bitAnd (a : Int) (b : Int) = ((a &&& b : Nat) : Int) := by simp [Builtin.bitAnd]
theorem bor_nat (a b : Nat) : Builtin.bitOr (a : Int) (b : Int) = ((a ||| b : Nat) : Int) := by
  have h1 : decide ((0 : Int) ≤ -(a : Int) - 1) = false := by simp; omega
  have h2 : decide ((0 : Int) ≤ -(b : Int) - 1) = false := by simp; omega
  have e1 : (-(-(a : Int) - 1) - 1).toNat = a := by omega
  have e2 : (-(-(b : Int) - 1) - 1).toNat = b := by omega
  unfold Builtin.bitOr Builtin.bitAnd
  simp only [bitNot_eq, h1, h2, e1, e2]
  omega
theorem bxor_nat (a b : Nat) : Builtin.bitXor (a : Int) (b : Int) = ((a ^^^ b : Nat) : Int) := by
  have e1 : ((a ^^^ b) ||| (a &&& b)) = (a ||| b) := Nat.eq_of_testBit_eq fun i => by
    simp only [Nat.testBit_or, Nat.testBit_xor, Nat.testBit_and]
    cases a.testBit i <;> cases b.testBit i <;> rfl
  have e2 : ((a ^^^ b) &&& (a &&& b)) = 0 := Nat.eq_of_testBit_eq fun i => by
    simp only [Nat.testBit_and, Nat.testBit_xor, Nat.zero_testBit]
    cases a.testBit i <;> cases b.testBit i <;> rfl
  have e3 := nat_or_add_and (a ^^^ b) (a &&& b)
  rw [e1, e2] at e3
  unfold Builtin.bitXor
  rw [bor_nat, band_nat]
  omega
theorem shr_nat (a k : Nat) : (a : Int) / 2 ^ k = ((a >>> k : Nat) : Int) := by
  rw [Nat.shiftRight_eq_div_pow]
  simp
theorem shl_nat (a k : Nat) : (a : Int) * 2 ^ k = ((a <<< k : Nat) : Int) := by
  rw [Nat.shiftLeft_eq]
  simp
theorem shr_one (a k : Nat) : Builtin.bitAnd ((a : Int) / 2 ^ k) 1 = if a.testBit k then 1 else 0 := by
  rw [shr_nat, show (1 : Int) = ((1 : Nat) : Int) from rfl, band_nat, Nat.and_one_is_mod, Nat.testBit_eq_decide_div_mod_eq, Nat.shiftRight_eq_div_pow]
  have := Nat.mod_two_eq_zero_or_one (a / 2 ^ k)
  by_cases h : a / 2 ^ k % 2 = 1
  · simp [h]
  · have h0 : a / 2 ^ k % 2 = 0 := by omega
    simp [h0]
/-! the kinds of rules differ -/
@[simp] theorem kd_none_empty : ¬ Str.ofString "none" = Str.ofString "empty" := by decide +kernel
@[simp] theorem kd_none_one : ¬ Str.ofString "none" = Str.ofString "one" := by decide +kernel
@[simp] theorem kd_none_row : ¬ Str.ofString "none" = Str.ofString "row" := by decide +kernel
@[simp] theorem kd_none_either : ¬ Str.ofString "none" = Str.ofString "either" := by decide +kernel
@[simp] theorem kd_none_both : ¬ Str.ofString "none" = Str.ofString "both" := by decide +kernel
@[simp] theorem kd_none_not : ¬ Str.ofString "none" = Str.ofString "not" := by decide +kernel
@[simp] theorem kd_none_times : ¬ Str.ofString "none" = Str.ofString "times" := by decide +kernel
@[simp] theorem kd_empty_none : ¬ Str.ofString "empty" = Str.ofString "none" := by decide +kernel
@[simp] theorem kd_empty_one : ¬ Str.ofString "empty" = Str.ofString "one" := by decide +kernel
@[simp] theorem kd_empty_row : ¬ Str.ofString "empty" = Str.ofString "row" := by decide +kernel
@[simp] theorem kd_empty_either : ¬ Str.ofString "empty" = Str.ofString "either" := by decide +kernel
@[simp] theorem kd_empty_both : ¬ Str.ofString "empty" = Str.ofString "both" := by decide +kernel
@[simp] theorem kd_empty_not : ¬ Str.ofString "empty" = Str.ofString "not" := by decide +kernel
@[simp] theorem kd_empty_times : ¬ Str.ofString "empty" = Str.ofString "times" := by decide +kernel
@[simp] theorem kd_one_none : ¬ Str.ofString "one" = Str.ofString "none" := by decide +kernel
@[simp] theorem kd_one_empty : ¬ Str.ofString "one" = Str.ofString "empty" := by decide +kernel
@[simp] theorem kd_one_row : ¬ Str.ofString "one" = Str.ofString "row" := by decide +kernel
@[simp] theorem kd_one_either : ¬ Str.ofString "one" = Str.ofString "either" := by decide +kernel
@[simp] theorem kd_one_both : ¬ Str.ofString "one" = Str.ofString "both" := by decide +kernel
@[simp] theorem kd_one_not : ¬ Str.ofString "one" = Str.ofString "not" := by decide +kernel
@[simp] theorem kd_one_times : ¬ Str.ofString "one" = Str.ofString "times" := by decide +kernel
@[simp] theorem kd_row_none : ¬ Str.ofString "row" = Str.ofString "none" := by decide +kernel
@[simp] theorem kd_row_empty : ¬ Str.ofString "row" = Str.ofString "empty" := by decide +kernel
@[simp] theorem kd_row_one : ¬ Str.ofString "row" = Str.ofString "one" := by decide +kernel
@[simp] theorem kd_row_either : ¬ Str.ofString "row" = Str.ofString "either" := by decide +kernel
@[simp] theorem kd_row_both : ¬ Str.ofString "row" = Str.ofString "both" := by decide +kernel
@[simp] theorem kd_row_not : ¬ Str.ofString "row" = Str.ofString "not" := by decide +kernel
@[simp] theorem kd_row_times : ¬ Str.ofString "row" = Str.ofString "times" := by decide +kernel
@[simp] theorem kd_either_none : ¬ Str.ofString "either" = Str.ofString "none" := by decide +kernel
@[simp] theorem kd_either_empty : ¬ Str.ofString "either" = Str.ofString "empty" := by decide +kernel
@[simp] theorem kd_either_one : ¬ Str.ofString "either" = Str.ofString "one" := by decide +kernel
@[simp] theorem kd_either_row : ¬ Str.ofString "either" = Str.ofString "row" := by decide +kernel
@[simp] theorem kd_either_both : ¬ Str.ofString "either" = Str.ofString "both" := by decide +kernel
@[simp] theorem kd_either_not : ¬ Str.ofString "either" = Str.ofString "not" := by decide +kernel
@[simp] theorem kd_either_times : ¬ Str.ofString "either" = Str.ofString "times" := by decide +kernel
@[simp] theorem kd_both_none : ¬ Str.ofString "both" = Str.ofString "none" := by decide +kernel
@[simp] theorem kd_both_empty : ¬ Str.ofString "both" = Str.ofString "empty" := by decide +kernel
@[simp] theorem kd_both_one : ¬ Str.ofString "both" = Str.ofString "one" := by decide +kernel
@[simp] theorem kd_both_row : ¬ Str.ofString "both" = Str.ofString "row" := by decide +kernel
@[simp] theorem kd_both_either : ¬ Str.ofString "both" = Str.ofString "either" := by decide +kernel
@[simp] theorem kd_both_not : ¬ Str.ofString "both" = Str.ofString "not" := by decide +kernel
@[simp] theorem kd_both_times : ¬ Str.ofString "both" = Str.ofString "times" := by decide +kernel
@[simp] theorem kd_not_none : ¬ Str.ofString "not" = Str.ofString "none" := by decide +kernel
@[simp] theorem kd_not_empty : ¬ Str.ofString "not" = Str.ofString "empty" := by decide +kernel
@[simp] theorem kd_not_one : ¬ Str.ofString "not" = Str.ofString "one" := by decide +kernel
@[simp] theorem kd_not_row : ¬ Str.ofString "not" = Str.ofString "row" := by decide +kernel
@[simp] theorem kd_not_either : ¬ Str.ofString "not" = Str.ofString "either" := by decide +kernel
@[simp] theorem kd_not_both : ¬ Str.ofString "not" = Str.ofString "both" := by decide +kernel
@[simp] theorem kd_not_times : ¬ Str.ofString "not" = Str.ofString "times" := by decide +kernel
@[simp] theorem kd_times_none : ¬ Str.ofString "times" = Str.ofString "none" := by decide +kernel
@[simp] theorem kd_times_empty : ¬ Str.ofString "times" = Str.ofString "empty" := by decide +kernel
@[simp] theorem kd_times_one : ¬ Str.ofString "times" = Str.ofString "one" := by decide +kernel
@[simp] theorem kd_times_row : ¬ Str.ofString "times" = Str.ofString "row" := by decide +kernel
@[simp] theorem kd_times_either : ¬ Str.ofString "times" = Str.ofString "either" := by decide +kernel
@[simp] theorem kd_times_both : ¬ Str.ofString "times" = Str.ofString "both" := by decide +kernel
@[simp] theorem kd_times_not : ¬ Str.ofString "times" = Str.ofString "not" := by decide +kernel
/-! relations -/
theorem tidy_rid (n : Nat) : Tidy n (rid n) := fun b e h => ⟨Nat.le_of_eq h.1, h.2⟩
theorem tidy_rno (n : Nat) : Tidy n rno := fun b e h => h.elim
theorem tidy_rup (n : Nat) : Tidy n (rup n) := fun b e h => h
theorem tidy_comp {n : Nat} {P Q : Rel} (h1 : Tidy n P) (h2 : Tidy n Q) : Tidy n (rcomp P Q) := fun b e ⟨m, x, y⟩ => ⟨Nat.le_trans (h1 _ _ x).1 (h2 _ _ y).1, (h2 _ _ y).2⟩
theorem tidy_or {n : Nat} {P Q : Rel} (h1 : Tidy n P) (h2 : Tidy n Q) : Tidy n (ror P Q) := fun b e h => h.elim (h1 b e) (h2 b e)
theorem tidy_and {n : Nat} {P Q : Rel} (h1 : Tidy n P) : Tidy n (rand P Q) := fun b e h => h1 b e h.1
theorem tidy_not {n : Nat} {P : Rel} : Tidy n (rnot n P) := fun b e h => h.1
theorem tidy_row {n : Nat} : ∀ {Ps : List Rel}, (∀ P, P ∈ Ps → Tidy n P) → Tidy n (rrow n Ps)
  | [], _ => tidy_rid n
  | P :: Ps, h => tidy_comp (h P List.mem_cons_self) (tidy_row fun Q hq => h Q (List.mem_cons_of_mem _ hq))
theorem tidy_any {n : Nat} : ∀ {Ps : List Rel}, (∀ P, P ∈ Ps → Tidy n P) → Tidy n (rany Ps)
  | [], _ => tidy_rno n
  | P :: Ps, h => tidy_or (h P List.mem_cons_self) (tidy_any fun Q hq => h Q (List.mem_cons_of_mem _ hq))
theorem tidy_all {n : Nat} : ∀ {Ps : List Rel}, (∀ P, P ∈ Ps → Tidy n P) → Tidy n (rall n Ps)
  | [], _ => tidy_rup n
  | P :: Ps, h => tidy_and (h P List.mem_cons_self)
theorem tidy_pow {n : Nat} {P Q : Rel} (h1 : Tidy n P) (h2 : Tidy n Q) : ∀ k, Tidy n (rpow P Q k)
  | 0 => h2
  | k + 1 => tidy_comp h1 (tidy_pow h1 h2 k)
theorem tidy_star {n : Nat} {P : Rel} (h : Tidy n P) : Tidy n (Rstar n P) := fun b e r => by
  induction r with
  | refl h0 => exact ⟨Nat.le_refl _, h0⟩
  | step h1 h2 h3 ih => exact ⟨by omega, ih.2⟩
theorem tidy_times {n : Nat} {P : Rel} (h : Tidy n P) (lo : Nat) (hi : Option Nat) : Tidy n (rtimes n P lo hi) := by
  cases hi with
  | none => exact tidy_pow h (tidy_star h) lo
  | some k => exact tidy_pow h (tidy_pow (tidy_or h (tidy_rid n)) (tidy_rid n) _) lo
theorem rel_ext {P Q : Rel} (h : ∀ b e, P b e ↔ Q b e) : P = Q := funext fun b => funext fun e => propext (h b e)
theorem comp_assoc (P Q R : Rel) : rcomp (rcomp P Q) R = rcomp P (rcomp Q R) := rel_ext fun b e =>
  ⟨fun ⟨m, ⟨k, h1, h2⟩, h3⟩ => ⟨k, h1, m, h2, h3⟩, fun ⟨k, h1, m, h2, h3⟩ => ⟨m, ⟨k, h1, h2⟩, h3⟩⟩
theorem id_comp {n : Nat} {P : Rel} (h : Tidy n P) : rcomp (rid n) P = P := rel_ext fun b e =>
  ⟨fun ⟨m, ⟨h1, h2⟩, h3⟩ => by rw [h1]; exact h3, fun h3 => ⟨b, ⟨rfl, by have := h _ _ h3; omega⟩, h3⟩⟩
theorem comp_id {n : Nat} {P : Rel} (h : Tidy n P) : rcomp P (rid n) = P := rel_ext fun b e =>
  ⟨fun ⟨m, h1, ⟨h2, h3⟩⟩ => by rw [← h2]; exact h1, fun h3 => ⟨e, h3, ⟨rfl, (h _ _ h3).2⟩⟩⟩
/-- a row folded from the left -/
theorem foldl_comp {n : Nat} : ∀ (Ps : List Rel) (P : Rel), Tidy n P → (∀ Q, Q ∈ Ps → Tidy n Q) → Ps.foldl rcomp P = rcomp P (rrow n Ps)
  | [], P, h, _ => (comp_id h).symm
  | Q :: Ps, P, h, hq => by
    rw [List.foldl_cons, foldl_comp Ps _ (tidy_comp h (hq Q List.mem_cons_self)) fun R hr => hq R (List.mem_cons_of_mem _ hr), comp_assoc]
    rfl
theorem row_rep {n : Nat} (P Q : Rel) (hq : Tidy n Q) : ∀ k, rcomp (rrow n (List.replicate k P)) Q = rpow P Q k
  | 0 => id_comp hq
  | k + 1 => by
    show rcomp (rcomp P _) Q = rcomp P _
    rw [comp_assoc, row_rep P Q hq k]
/-- all of a rule's words lie tidy -/
theorem tidy_leaf {x : PyData} {D : Den} (h : Leaf x D) (w : Str) : Tidy w.length (D w) := by
  cases h with
  | no => exact tidy_rno _
  | em => exact tidy_rid _
  | one h1 h2 h3 =>
    rintro b e ⟨rfl, c, h4, _⟩
    have := (List.getElem?_eq_some_iff.mp h4).1
    refine ⟨by omega, ?_⟩
    rw [Array.length_toList] at this
    exact this
theorem all2_mem {α β : Type} {R : α → β → Prop} {xs : List α} {ys : List β} (h : All2 R xs ys) : ∀ y, y ∈ ys → ∃ x, x ∈ xs ∧ R x y := by
  induction h with
  | nil => intro y hy; cases hy
  | cons a b ih =>
    intro y hy
    rcases List.mem_cons.mp hy with rfl | hy
    · exact ⟨_, List.mem_cons_self, a⟩
    · obtain ⟨x, hx, r⟩ := ih y hy
      exact ⟨x, List.mem_cons_of_mem _ hx, r⟩
theorem all2_len {α β : Type} {R : α → β → Prop} {xs : List α} {ys : List β} (h : All2 R xs ys) : xs.length = ys.length := by
  induction h with
  | nil => rfl
  | cons a b ih => rw [List.length_cons, List.length_cons, ih]
theorem tidy_rul : ∀ (d : Nat) {x : PyData} {D : Den}, Rul d x D → ∀ w : Str, Tidy w.length (D w)
  | 0, x, D, h, w => tidy_leaf h w
  | d + 1, x, D, h, w => by
    have step : ∀ {xs : List PyData} {Ds : List Den}, All2 (Rul d) xs Ds → ∀ P, P ∈ Ds.map (· w) → Tidy w.length P := fun h P hP => by
      obtain ⟨E, hE, rfl⟩ := List.mem_map.mp hP
      obtain ⟨x, _, hx⟩ := all2_mem h E hE
      exact tidy_rul d hx w
    cases h with
    | leaf h => exact tidy_leaf h w
    | row h1 h2 h3 => exact tidy_row (step h3)
    | ei h1 h2 h3 => exact tidy_any (step h3)
    | bo h1 h2 h3 => exact tidy_all (step h3)
    | no h => exact tidy_not
    | ti h h1 h2 => exact tidy_times (tidy_rul d h w) _ _
end DL
/-! DL: tables of one's own: lists of lists that are changed in place. -/
namespace DL
open PySem PySem.Spec PyProof.Rows L2
section
variable {K : PySem.W.Frag} {G G2 G3 F F' H H' : Hp} {P : Option Addr} {σ : L2.St} {s : S}
inductive RowsG (K : PySem.W.Frag) (G G2 F : Hp) : List Addr → List (List PyData) → Prop
  | nil : RowsG K G G2 F [] []
  | cons {q : Addr} {vs : List V} {xs : List PyData} {qs : List Addr} {xss : List (List PyData)} : G2 q = some (.lst vs) → G q = none → DqA K F vs xs → q ∉ qs → RowsG K G G2 F qs xss → RowsG K G G2 F (q :: qs) (xs :: xss)
theorem RowsG.up (e : Same G2 G3) (f : Same F F') : ∀ {qs : List Addr} {xss : List (List PyData)}, RowsG K G G2 F qs xss → RowsG K G G3 F' qs xss
  | [], _, h => by cases h; exact .nil
  | q :: qs, _, h => by
    cases h with
    | cons h1 h2 h3 h4 h5 => exact .cons (e _ _ h1) h2 (h3.mono f) h4 (RowsG.up e f h5)
theorem RowsG.has : ∀ {qs : List Addr} {xss : List (List PyData)}, RowsG K G G2 F qs xss → ∀ r, r ∈ qs → ∃ o, G2 r = some o
  | [], _, h, r, hr => by cases hr
  | q :: qs, _, h, r, hr => by
    cases h with
    | cons h1 h2 h3 h4 h5 =>
      rcases List.mem_cons.mp hr with rfl | hr
      · exact ⟨_, h1⟩
      · exact RowsG.has h5 r hr
theorem RowsG.snoc {p : Addr} {us : List V} {ys : List PyData} (hp : G2 p = some (.lst us)) (gp : G p = none) (d : DqA K F us ys) : ∀ {qs : List Addr} {xss : List (List PyData)}, RowsG K G G2 F qs xss → p ∉ qs → RowsG K G G2 F (qs ++ [p]) (xss ++ [ys])
  | [], _, h, n => by
    cases h
    exact .cons hp gp d (by intro z; cases z) .nil
  | q :: qs, _, h, n => by
    cases h with
    | cons h1 h2 h3 h4 h5 =>
      refine .cons h1 h2 h3 (fun z => ?_) (RowsG.snoc hp gp d h5 fun z => n (List.mem_cons_of_mem _ z))
      rcases List.mem_append.mp z with z | z
      · exact h4 z
      · rw [List.mem_singleton.mp z] at n
        exact n List.mem_cons_self
theorem RowsG.nodup : ∀ {qs : List Addr} {xss : List (List PyData)}, RowsG K G G2 F qs xss → qs.Nodup
  | [], _, h => List.nodup_nil
  | q :: qs, _, h => by
    cases h with
    | cons h1 h2 h3 h4 h5 => exact List.nodup_cons.mpr ⟨h4, RowsG.nodup h5⟩
theorem RowsG.ok (R : Rep K G2 P F H σ s) : ∀ {qs : List Addr} {xss : List (List PyData)}, RowsG K G G2 F qs xss → RowsOk K G P F H qs xss
  | [], _, h => by cases h; exact .nil
  | q :: qs, _, h => by
    cases h with
    | cons h1 h2 h3 h4 h5 =>
      refine .cons (R.apart _ _ h1) h2 (fun z => ?_) (R.keep _ _ h1) h3 (RowsG.ok R h5)
      rw [(R.pool q z).2.1] at h1
      cases h1
theorem Rep.weakG (R : Rep K G2 P F H σ s) (e : Same G G2) (t : TabsAt K G) : Rep K G P F H σ s where
  same := R.same
  keep := e.trans R.keep
  apart := fun b o g => R.apart b o (e b o g)
  sl := fun i x hx => by
    have q := R.sl i x hx
    cases x with
    | un => exact True.intro
    | d x => exact q
    | o xs =>
      obtain ⟨p, vs, h1, h2, h3, h4, h5, h6⟩ := q
      exact ⟨p, vs, h1, h2, e.free h3, h4, h5, h6⟩
    | pl => exact q
    | sc ns => exact q
    | tb p qs xss => exact q.tbUp rfl (Same.refl F) fun r o hr g1 g2 g3 g4 => ⟨g1, e.free g2, g3, g4⟩
  sep := R.sep
  pool := fun a ha => by
    obtain ⟨h1, h2, h3⟩ := R.pool a ha
    exact ⟨h1, e.free h2, h3⟩
  len := R.len
  tbs := R.tbs
  tab := t
theorem Rep.addG {p : Addr} {o : HO} (R : Rep K G P F H σ s) (h : H p = some o) (fp : F p = none) (np : P ≠ some p) (hsl : ∀ (i : Nat) (xs : List PyData), s.e[i]? = some (.o xs) → σ[i]? ≠ some (some (.ref p))) (htb : ∀ (i : Nat) (x : Sl), s.e[i]? = some x → p ∉ tads x) :
    Rep K (upd G p o) P F H σ s where
  same := R.same
  keep := fun b u q => by
    by_cases hb : b = p
    · rw [hb, upd_same] at q
      cases q
      rw [hb]
      exact h
    · rw [upd_ne hb] at q
      exact R.keep b u q
  apart := fun b u q => by
    by_cases hb : b = p
    · rw [hb]
      exact fp
    · rw [upd_ne hb] at q
      exact R.apart b u q
  sl := fun i x hx => by
    have q := R.sl i x hx
    cases x with
    | un => exact True.intro
    | d x => exact q
    | o xs =>
      obtain ⟨p', vs, h1, h2, h3, h4, h5, h6⟩ := q
      exact ⟨p', vs, h1, h2, by rw [upd_ne (fun z => hsl i xs hx (by rw [← z]; exact h1))]; exact h3, h4, h5, h6⟩
    | pl => exact q
    | sc ns => exact q
    | tb p' qs xss => exact q.tbUp rfl (Same.refl F) fun r o hr g1 g2 g3 g4 => ⟨g1, by rw [upd_ne (fun z => htb i _ hx (by rw [← z]; exact hr))]; exact g2, g3, g4⟩
  sep := R.sep
  pool := fun a ha => by
    obtain ⟨h1, h2, h3⟩ := R.pool a ha
    exact ⟨h1, by rw [upd_ne (fun z => np (by rw [← z]; exact ha))]; exact h2, h3⟩
  len := R.len
  tbs := R.tbs
  tab := fun b hb => by
    have q := R.tab b hb
    by_cases e : b = p
    · have q2 := R.keep b _ q
      rw [e] at q2 ⊢
      rw [upd_same, ← h, q2]
    · rw [upd_ne e]
      exact q
/-- a new table stored -/
theorem Rep.setT {i : Nat} {p : Addr} {qs : List Addr} {xss : List (List PyData)} (R : Rep K G P F H σ s) (n : ∀ r, r ∈ p :: qs → Nu G P F σ s r) (h : H p = some (.lst (qs.map V.ref))) (nd : (p :: qs).Nodup) (d : RowsOk K G P F H qs xss) :
    Rep K G P F H (σ.set i (some (.ref p))) (s.put i (.tb p qs xss)) := by
  refine ⟨R.same, R.keep, R.apart, fun j y hy => ?_, fun j k ys zs r hj hk e1 e2 => ?_, R.pool, put_len R.len, fun j k y z r hj hk hr jk oc => ?_, R.tab⟩
  · have hy0 := hy
    rcases set_get hy with ⟨rfl, rfl⟩ | ⟨ne, hy⟩
    · have n0 := n p List.mem_cons_self
      exact ⟨set_self (by rw [R.len]; exact put_lt hy0), n0.f, n0.g, n0.np, h, nd, d⟩
    · have q := R.sl j y hy
      cases y with
      | un => exact True.intro
      | d y =>
        obtain ⟨u, a, b⟩ := q
        exact ⟨u, by rw [List.getElem?_set_ne (Ne.symm ne)]; exact a, b⟩
      | o ys =>
        obtain ⟨p', vs', g1, g2⟩ := q
        exact ⟨p', vs', by rw [List.getElem?_set_ne (Ne.symm ne)]; exact g1, g2⟩
      | pl =>
        obtain ⟨a, h1, h2⟩ := q
        exact ⟨a, h1, by rw [List.getElem?_set_ne (Ne.symm ne)]; exact h2⟩
      | sc ns =>
        obtain ⟨a, h1, h2⟩ := q
        exact ⟨a, by rw [List.getElem?_set_ne (Ne.symm ne)]; exact h1, h2⟩
      | tb p' qs' xss' => exact q.tbUp (List.getElem?_set_ne (Ne.symm ne)) (Same.refl F) fun r o hr g1 g2 g3 g4 => ⟨g1, g2, g3, g4⟩
  · rcases set_get hj with ⟨_, z⟩ | ⟨nj, hj⟩
    · cases z
    · rcases set_get hk with ⟨_, z⟩ | ⟨nk, hk⟩
      · cases z
      · rw [List.getElem?_set_ne (Ne.symm nj)] at e1
        rw [List.getElem?_set_ne (Ne.symm nk)] at e2
        exact R.sep j k ys zs r hj hk e1 e2
  · have occ_off : ∀ {m : Nat} {w : Sl}, m ≠ i → Occ (σ.set i (some (.ref p))) m w r → Occ σ m w r := fun nm q => by
      rcases q with q | ⟨q, q2⟩
      · exact .inl q
      · rw [List.getElem?_set_ne (Ne.symm nm)] at q2
        exact .inr ⟨q, q2⟩
    have none_occ : ∀ {m : Nat} {w : Sl}, s.e[m]? = some w → r ∈ p :: qs → ¬ Occ σ m w r := fun hm hr q => by
      rcases q with q | ⟨⟨ws, rfl⟩, q2⟩
      · exact (n r hr).tb _ _ hm q
      · exact (n r hr).sl _ _ hm q2
    rcases set_get hj with ⟨e1, e2⟩ | ⟨nj, hj⟩
    · rw [e2] at hr
      rcases set_get hk with ⟨e3, e4⟩ | ⟨nk, hk⟩
      · exact jk (e1.trans e3.symm)
      · exact none_occ hk hr (occ_off nk oc)
    · rcases set_get hk with ⟨e3, e4⟩ | ⟨nk, hk⟩
      · rcases oc with q | ⟨⟨_, q⟩, _⟩
        · rw [e4] at q
          exact (n r q).tb j y hj hr
        · rw [e4] at q
          cases q
      · exact R.tbs j k y z r hj hk hr jk (occ_off nk oc)
/-- a comprehension that makes lists -/
theorem lcT_of {vs is : List Nat} {wi : DI} {wg : DG} {wt : DT} {wl : DA} (hsub : ∀ i ∈ is, i ∈ vs) (σ : L2.St) (H : Hp) (Q : VK) (h : ∃ G P F s Φ, Rep K G P F H σ s ∧ wLc vs wi wg wt (wFz wl) s Φ ∧
      ∀ p qs xss F' H' s', Rep K G P F' H' σ s' → Same F F' → (∀ r, r ∈ p :: qs → Nu G P F' σ s' r) → H' p = some (.lst (qs.map V.ref)) → (p :: qs).Nodup → RowsOk K G P F' H' qs xss → Φ (xss.map .list) s' → Q (.ref p) H') :
    tLc (tI K wi) (tG K is wg) (tT K wt) (tL K wl) vs σ H Q := by
  obtain ⟨G, P, F, s, Φ, R, h, k⟩ := h
  refine ⟨G, P, F, s, _, R, h, fun J F1 H1 s1 xs R1 e1 Y q D hD => ?_⟩
  obtain ⟨hno, q⟩ := q
  obtain ⟨R1', n1⟩ := nu_new (o := .lst []) R1 hD
  refine ⟨fun i m H2 => m = xs.length - i ∧ i ≤ xs.length ∧ ∃ F2 G2 qs xss q2, Same F1 F2 ∧ Same G G2 ∧ H2 D = some (.lst (qs.map V.ref)) ∧ RowsG K G G2 F2 qs xss ∧ Rep K G2 P F2 H2 σ ⟨s1.e, q2⟩ ∧ Nu G2 P F2 σ ⟨s1.e, q2⟩ D ∧ qs.length = xss.length ∧
    lcW vs s1.e wg wt (wFz wl) (fun ys q => Φ ys ⟨s1.e, q⟩) (xs.drop i) (xss.map .list) q2, ⟨_, rfl, Nat.zero_le _, F1, G, [], [], s1.q, Same.refl F1, Same.refl G, upd_same, .nil, R1', n1, rfl, by simpa using q⟩, ?_⟩
  rintro i m H2 ⟨rfl, hi, F2, G2, qs, xss, q2, e2, eG, hD2, rows, R2, n2, hlen, w2⟩
  by_cases hl : i < xs.length
  · obtain ⟨go, yl⟩ := (Y F2 H2 e2 R2.same i).1 xs[i] (List.getElem?_eq_getElem hl)
    rw [List.drop_eq_getElem_cons hl] at w2
    refine .inr ⟨go, fun H3 => ∃ F2 G2 qs xss q2, Same F1 F2 ∧ Same G G2 ∧ H3 D = some (.lst (qs.map V.ref)) ∧ RowsG K G G2 F2 qs xss ∧ Rep K G2 P F2 H3 σ ⟨s1.e, q2⟩ ∧ Nu G2 P F2 σ ⟨s1.e, q2⟩ D ∧ qs.length = xss.length ∧
      lcW vs s1.e wg wt (wFz wl) (fun ys q => Φ ys ⟨s1.e, q⟩) (xs.drop (i + 1)) (xss.map .list) q2, fun H3 z => ⟨xs.length - (i + 1), by omega, rfl, hl, z⟩, fun v H3 hy => ?_⟩
    obtain ⟨F3, f, dx⟩ := yl v H3 hy
    have RB : Rep K (upd G2 D (.lst (qs.map V.ref))) P F3 H3 (wipe σ vs) ⟨wipeE s1.e vs, q2⟩ := (R2.block (vs := vs) n2 hD2).fresh f
    refine ⟨_, P, F3, _, xs[i], _, RB, dx, w2, fun σ4 s4 R4 ag l4 q4 => ?_⟩
    obtain ⟨we4, q4⟩ := q4
    have ag' : ∀ i, i ∉ vs → σ4[i]? = σ[i]? := fun j hj => by
      rw [ag j (fun z => hj (hsub j z)), wipe_off hj]
    refine ⟨wipe_same (by rw [l4, wipe_length]) ag', ?_⟩
    refine ⟨_, P, F3, s4, _, R4, q4, fun b F5 H5 s5 R5 e5 q5 => ?_⟩
    obtain ⟨es5, q5⟩ := q5
    have e25 : Same F2 F5 := f.ff.trans e5
    cases b with
    | true =>
      rw [if_pos rfl] at q5 ⊢
      refine ⟨_, P, F5, s5, _, R5, q5, fun p us F6 H6 s6 ds R6 e6 n6 hp6 d6 q6 => ?_⟩
      obtain ⟨es6, hz, q6⟩ := q6
      have we6 : wipeE s6.e vs = wipeE s1.e vs := by rw [es6]; exact we4
      obtain ⟨R7, n7, hD7⟩ := R2.unblock (vs := vs) (acc' := qs.map V.ref ++ [.ref p]) n2 hno (e25.trans e6) R6 we6 ag'
      have pD : p ≠ D := fun z => by
        have g := n6.g
        rw [z, upd_same] at g
        cases g
      have gp : G2 p = none := by
        have g := n6.g
        rw [upd_ne pD] at g
        exact g
      have hsl : ∀ (j : Nat) (x : Sl), s1.e[j]? = some x → ((∃ ys, x = .o ys) → σ[j]? ≠ some (some (.ref p))) ∧ p ∉ tads x := fun j x hx => by
        by_cases hj : j ∈ vs
        · refine ⟨fun ⟨ys, z⟩ => (by rw [z] at hx; exact (noOwn_at hno hj hx).elim), fun z => ?_⟩
          cases x with
          | tb a b c => exact noOwn_tb hno hj hx
          | _ => cases z
        · have h6 : s6.e[j]? = some x := by rw [← wipeE_out hj, we6, wipeE_out hj]; exact hx
          refine ⟨fun ⟨ys, z⟩ => ?_, n6.tb j x h6⟩
          rw [z] at h6
          rw [← ag' j hj]
          exact n6.sl j ys h6
      have R8 : Rep K (upd G2 p (.lst us)) P F6 (upd H6 D (.lst (qs.map V.ref ++ [.ref p]))) σ ⟨s1.e, s6.q⟩ := R7.addG (by rw [upd_ne pD]; exact hp6) n6.f n6.np (fun j ys hj => (hsl j _ hj).1 ⟨ys, rfl⟩) (fun j x hx => (hsl j x hx).2)
      have eG2 : Same G2 (upd G2 p (.lst us)) := same_new gp
      have np : p ∉ qs := fun z => by
        obtain ⟨o, ho⟩ := rows.has p z
        rw [gp] at ho
        cases ho
      refine ⟨_, hD7, by rw [List.length_map, hlen]; rw [List.length_map] at hz; exact hz, F6, upd G2 p (.lst us), qs ++ [p], xss ++ [ds], s6.q, e2.trans (e25.trans e6), eG.trans eG2, by rw [upd_same, List.map_append]; rfl, ?_, R8, ⟨n7.f, by rw [upd_ne (Ne.symm pD)]; exact n7.g, n7.np, n7.sl, n7.tb⟩, by simp [hlen], ?_⟩
      · exact (rows.up eG2 (e25.trans e6)).snoc upd_same (eG.free gp) d6 np
      · rw [List.map_append]
        exact q6
    | false =>
      rw [if_neg Bool.false_ne_true] at q5 ⊢
      obtain ⟨R7, n7, hD7⟩ := R2.unblock (vs := vs) (acc' := qs.map V.ref) n2 hno e25 R5 (by rw [es5]; exact we4) ag'
      have eu : upd H5 D (.lst (qs.map V.ref)) = H5 := by
        funext b
        by_cases hb : b = D
        · rw [hb, upd_same, hD7]
        · rw [upd_ne hb]
      rw [eu] at R7
      exact ⟨F5, G2, qs, xss, s5.q, e2.trans e25, eG, hD7, rows.up (Same.refl G2) e25, R7, n7, hlen, q5⟩
  · refine .inl ⟨(Y F2 H2 e2 R2.same i).2 (by omega), ?_⟩
    rw [List.drop_eq_nil_of_le (by omega)] at w2
    have R3 := R2.weakG eG R.tab
    have dq : D ∉ qs := fun z => by
      obtain ⟨o, ho⟩ := rows.has D z
      rw [n2.g] at ho
      cases ho
    refine k D qs xss F2 H2 ⟨s1.e, q2⟩ R3 (e1.trans e2) (fun r hr => ?_) hD2 (List.nodup_cons.mpr ⟨dq, rows.nodup⟩) (rows.ok R2) w2
    rcases List.mem_cons.mp hr with rfl | hr
    · exact ⟨n2.f, eG.free n2.g, n2.np, n2.sl, n2.tb⟩
    · obtain ⟨o, ho⟩ := rows.has r hr
      obtain ⟨a1, a2, a3, _⟩ := (rows.ok R2).at' r hr
      refine ⟨a1, a2, a3, fun j ys hj z => ?_, fun j x hx z => ?_⟩
      · obtain ⟨p', vs', g1, g2, g3, _⟩ := R2.sl j _ hj
        rw [z] at g1
        cases g1
        rw [ho] at g3
        cases g3
      · have g := (tad_at (R2.sl j x hx) z).2.1
        rw [ho] at g
        cases g
end

section
variable {K : PySem.W.Frag} {G F H : Hp} {P : Option Addr} {σ : L2.St} {s : S}
@[simp] def wSetT (i : Nat) (w : DA) : DS := fun Φ s => w s fun ys s1 => ∃ yss : List (List PyData), ys = yss.map .list ∧ ∀ p qs, Φ.nx (s1.put i (.tb p qs yss))
theorem map_list_inj : ∀ {a b : List (List PyData)}, a.map PyData.list = b.map PyData.list → a = b
  | [], [], _ => rfl
  | _ :: _, _ :: _, h => by
    rw [List.map_cons, List.map_cons] at h
    injection h with h1 h2
    injection h1 with h1
    rw [h1, map_list_inj h2]
  | [], _ :: _, h => by cases h
  | _ :: _, [], h => by cases h
@[simp] def tbAt (s : S) (i : Nat) (k : Addr → List Addr → List (List PyData) → Prop) : Prop := match s.e[i]? with
  | some (.tb p qs xss) => k p qs xss
  | _ => False
theorem tbAt_of {s : S} {i : Nat} {k : Addr → List Addr → List (List PyData) → Prop} (h : tbAt s i k) : ∃ p qs xss, s.e[i]? = some (.tb p qs xss) ∧ k p qs xss := by
  unfold tbAt at h
  cases hs : s.e[i]? with
  | none =>
    rw [hs] at h
    exact h.elim
  | some z =>
    rw [hs] at h
    cases z with
    | tb p qs xss => exact ⟨p, qs, xss, rfl, h⟩
    | _ => exact h.elim
theorem RowsOk.len : ∀ {qs : List Addr} {xss : List (List PyData)}, RowsOk K G P F H qs xss → qs.length = xss.length
  | [], _, h => by cases h; rfl
  | q :: qs, _, h => by
    cases h with
    | cons h1 h2 h3 h4 h5 h6 => rw [List.length_cons, List.length_cons, RowsOk.len h6]
theorem RowsOk.get : ∀ {qs : List Addr} {xss : List (List PyData)} {j : Nat} {xs : List PyData}, RowsOk K G P F H qs xss → xss[j]? = some xs → ∃ q vs, qs[j]? = some q ∧ H q = some (.lst vs) ∧ DqA K F vs xs
  | [], _, j, xs, h, e => by
    cases h
    simp at e
  | q :: qs, _, 0, xs, h, e => by
    cases h with
    | cons h1 h2 h3 h4 h5 h6 =>
      simp at e
      subst e
      exact ⟨q, _, rfl, h4, h5⟩
  | q :: qs, _, j + 1, xs, h, e => by
    cases h with
    | cons h1 h2 h3 h4 h5 h6 =>
      obtain ⟨q', vs, a, b, c⟩ := RowsOk.get (j := j) h6 (by simpa using e)
      exact ⟨q', vs, by simpa using a, b, c⟩
theorem RowsOk.set {ws : List V} {ys : List PyData} {r : Addr} (d : DqA K F ws ys) : ∀ {qs : List Addr} {xss : List (List PyData)} {j : Nat}, RowsOk K G P F H qs xss → qs.Nodup → qs[j]? = some r → RowsOk K G P F (upd H r (.lst ws)) qs (xss.set j ys)
  | [], _, j, h, nd, e => by simp at e
  | q :: qs, _, 0, h, nd, e => by
    cases h with
    | cons h1 h2 h3 h4 h5 h6 =>
      simp at e
      subst e
      refine .cons h1 h2 h3 upd_same d (h6.up (Same.refl F) fun r o hr g1 g2 g3 g4 => ⟨g1, g2, g3, ?_⟩)
      rw [upd_ne (fun z => (List.nodup_cons.mp nd).1 (by rw [← z]; exact hr))]
      exact g4
  | q :: qs, _, j + 1, h, nd, e => by
    cases h with
    | cons h1 h2 h3 h4 h5 h6 =>
      have e' : qs[j]? = some r := by simpa using e
      refine .cons h1 h2 h3 ?_ h5 (RowsOk.set d h6 (List.nodup_cons.mp nd).2 e')
      rw [upd_ne (fun z => (List.nodup_cons.mp nd).1 (by rw [z]; exact List.mem_of_getElem? e'))]
      exact h4
/-- a row of a table changed -/
theorem Rep.wrT {i j : Nat} {p r : Addr} {qs : List Addr} {xss : List (List PyData)} {ws : List V} {ys : List PyData} (R : Rep K G P F H σ s) (h : s.e[i]? = some (.tb p qs xss)) (e : qs[j]? = some r) (d : DqA K F ws ys) :
    Rep K G P F (upd H r (.lst ws)) σ (s.put i (.tb p qs (xss.set j ys))) := by
  obtain ⟨h1, h2, h3, h4, h5, h6, h7⟩ := R.sl i _ h
  have rq : r ∈ qs := List.mem_of_getElem? e
  have rm : r ∈ tads (.tb p qs xss) := List.mem_cons_of_mem _ rq
  obtain ⟨f1, f2, f3, o0, f4⟩ := h7.at' r rq
  have pr : p ≠ r := fun z => (List.nodup_cons.mp h6).1 (by rw [z]; exact rq)
  refine ⟨fun b o q => ?_, fun b o q => ?_, R.apart, fun k y hy => ?_, fun k l us zs r' hj hk e1 e2 => ?_, fun a ha => ?_, by rw [R.len]; exact (List.length_set).symm, fun k l y z r' hj hk hr jk oc => ?_, R.tab⟩
  · rw [upd_ne (fun z => by rw [z, f1] at q; cases q)]
    exact R.same b o q
  · rw [upd_ne (fun z => by rw [z, f2] at q; cases q)]
    exact R.keep b o q
  · rcases set_get hy with ⟨rfl, rfl⟩ | ⟨ne, hy⟩
    · exact ⟨h1, h2, h3, h4, by rw [upd_ne pr]; exact h5, h6, h7.set d (List.nodup_cons.mp h6).2 e⟩
    · have q := R.sl k y hy
      cases y with
      | un => exact True.intro
      | d y => exact q
      | o us =>
        obtain ⟨p', vs', g1, g2, g3, g4, g5, g6⟩ := q
        have np : p' ≠ r := fun z => R.tbs i k _ _ r h hy rm (Ne.symm ne) (occ_o rfl (by rw [← z]; exact g1))
        exact ⟨p', vs', g1, g2, g3, g4, by rw [upd_ne np]; exact g5, g6⟩
      | pl => exact q
      | sc ns => exact q
      | tb p' qs' xss' => exact SlOk.tbUp (F := F) (F' := F) q rfl (Same.refl F) fun u o hr g1 g2 g3 g4 => ⟨g1, g2, g3, by rw [upd_ne (fun z => R.tbs i k _ _ r h hy rm (Ne.symm ne) (.inl (by rw [← z]; exact hr)))]; exact g4⟩
  · rcases set_get hj with ⟨_, z⟩ | ⟨nj, hj⟩
    · cases z
    · rcases set_get hk with ⟨_, z⟩ | ⟨nk, hk⟩
      · cases z
      · exact R.sep k l us zs r' hj hk e1 e2
  · obtain ⟨g1, g2, g3⟩ := R.pool a ha
    exact ⟨g1, g2, by rw [upd_ne (fun z => f3 (by rw [← z]; exact ha))]; exact g3⟩
  · rcases set_get hj with ⟨e1, e2⟩ | ⟨nj, hj⟩
    · rcases set_get hk with ⟨e3, e4⟩ | ⟨nk, hk⟩
      · exact jk (e1.trans e3.symm)
      · rw [e2] at hr
        exact R.tbs i l _ z r' h hk hr (by rw [← e1]; exact jk) oc
    · rcases set_get hk with ⟨e3, e4⟩ | ⟨nk, hk⟩
      · rcases oc with q | ⟨⟨_, q⟩, _⟩
        · rw [e4] at q
          exact R.tbs k i y _ r' hj h hr (by rw [← e3]; exact jk) (.inl q)
        · rw [e4] at q
          cases q
      · exact R.tbs k l y z r' hj hk hr jk oc
end
section
variable {X : Cx} {pos : Pos}
theorem xs_setTb {i : Nat} {y : Str} {py : Pos} {elt tg iter : Expr} {ifs : List Expr} {scope : Scope} {own : List (Str × Nat)} {spos : Pos} {is : List Nat} {wi : DI} {wg : DG} {wt : DT} {wl : DA} (hc : X.calm = true) (hN : X.N.Nodup) (hy : X.N[i]? = some y) (hyl : X.env.scope.names.lookup y = some .local)
    (hsw : swapsWith (.ListComp elt [⟨tg, iter, ifs, 0⟩] scope pos) (some (.Name y py)) spos.line X.env = pure true) (hi : XI X tg iter wi) (ok : BlkOk X.N X.env.scope scope own) (hsub : ∀ i ∈ is, i ∈ own.map (·.2))
    (hg : ∀ (s : Shared) (H : Hp) (C : Addr) (cl : List (Str × Addr)) (fp : List Addr), XG (X.blk s H scope (compEnvC scope cl C X.env) fp) tg is wg) (ht : ∀ (s : Shared) (H : Hp) (C : Addr) (cl : List (Str × Addr)) (fp : List Addr), XTs (X.blk s H scope (compEnvC scope cl C X.env) fp) ifs wt)
    (he : ∀ (s : Shared) (H : Hp) (C : Addr) (cl : List (Str × Addr)) (fp : List Addr), XL (X.blk s H scope (compEnvC scope cl C X.env) fp) elt wl) (hs : ∀ x, foldedSetIterable iter X.env x = pure x := by intro _; rfl) :
    XS X (.Assign [.Name y py] (.ListComp elt [⟨tg, iter, ifs, 0⟩] scope pos) spos) (wSetT i (wLc (own.map (·.2)) wi wg wt (wFz wl))) := ps_imp (ps_setLc hc hN hy hyl hsw hi ok hg ht he hs) fun D σ H h => by
  obtain ⟨G, P, F, s, Φ, R, h, b⟩ := h
  exact lcT_of hsub σ H _ ⟨G, P, F, s, _, R, h, fun p qs xss F' H' s' R' e n hp nd d q => by
    obtain ⟨yss, e1, q⟩ := q
    have e2 := map_list_inj e1
    subst e2
    exact b.nx _ F' H' _ (R'.setT n hp nd d) e (q p qs)⟩
/-- .. of a name that a block holds -/
theorem xs_setTbC {i : Nat} {y : Str} {py : Pos} {elt tg iter : Expr} {ifs : List Expr} {scope : Scope} {own : List (Str × Nat)} {spos : Pos} {is : List Nat} {wi : DI} {wg : DG} {wt : DT} {wl : DA} (hc : X.calm = true) (hN : X.N.Nodup) (hy : X.N[i]? = some y) (hx : Loc X.env.scope y)
    (hi : XI X tg iter wi) (ok : BlkOk X.N X.env.scope scope own) (hsub : ∀ i ∈ is, i ∈ own.map (·.2))
    (hg : ∀ (s : Shared) (H : Hp) (C : Addr) (cl : List (Str × Addr)) (fp : List Addr), XG (X.blk s H scope (compEnvC scope cl C X.env) fp) tg is wg) (ht : ∀ (s : Shared) (H : Hp) (C : Addr) (cl : List (Str × Addr)) (fp : List Addr), XTs (X.blk s H scope (compEnvC scope cl C X.env) fp) ifs wt)
    (he : ∀ (s : Shared) (H : Hp) (C : Addr) (cl : List (Str × Addr)) (fp : List Addr), XL (X.blk s H scope (compEnvC scope cl C X.env) fp) elt wl) (hs : ∀ x, foldedSetIterable iter X.env x = pure x := by intro _; rfl)
    (hsw : swapsWith (.ListComp elt [⟨tg, iter, ifs, 0⟩] scope pos) (some (.Name y py)) spos.line X.env = pure false := by rfl)
    (hf : X.fn y = true ∨ X.env.scope.names.lookup y = some .local := by first | exact .inl rfl | exact .inr rfl | assumption) :
    XS X (.Assign [.Name y py] (.ListComp elt [⟨tg, iter, ifs, 0⟩] scope pos) spos) (wSetT i (wLc (own.map (·.2)) wi wg wt (wFz wl))) := ps_imp (ps_set hN hy hx (pe_lc hc hN hi ok hg ht he hs) hsw hf) fun D σ H h => by
  obtain ⟨G, P, F, s, Φ, R, h, b⟩ := h
  exact lcT_of hsub σ H _ ⟨G, P, F, s, _, R, h, fun p qs xss F' H' s' R' e n hp nd d q => by
    obtain ⟨yss, e1, q⟩ := q
    have e2 := map_list_inj e1
    subst e2
    exact b.nx _ F' H' _ (R'.setT n hp nd d) e (q p qs)⟩
@[simp] def wTbLen (i : Nat) : DE := fun s Φ => tbAt s i fun _ _ xss => Φ (.int xss.length) s
theorem xe_tbLen {i : Nat} {x : Str} {xp p1 : Pos} (hg : Gl X "len") (hm : X.mg "len" = none) (hv : PE X (.Name x xp) (tVar i)) (he : starEach [.Name x xp] X.env = (false, eval (.Name x xp) X.env) :: starEach [] X.env := by rfl)
    (hpl : (backTo pos (starEach [] X.env)).any (·.1) = false := by rfl) : XE X (.Call (.Name "len" p1) [.Name x xp] [] pos) (wTbLen i) :=
  pe_imp (pe_callB call_len_seq hg hm (by decide +kernel) (pa_cons hv pa_nil he) (by decide) (by decide) he hpl) fun σ H Q h => by
    obtain ⟨G, P, F, s, Φ, R, h, kk⟩ := h
    obtain ⟨p, qs, xss, h0, h⟩ := tbAt_of h
    obtain ⟨h1, h2, h3, h4, h5, h6, h7⟩ := R.sl i _ h0
    refine ⟨_, h1, p, _, rfl, .inl (SqL.of h5), ?_⟩
    rw [List.length_map, h7.len]
    exact kk _ F H s _ R (Same.refl F) (.int _) h
/-- the row of a table -/
@[simp] def tbRow (s : S) (i : Nat) (k : PyData) (f : Addr → List Addr → List (List PyData) → Nat → List PyData → Prop) : Prop := tbAt s i fun p qs xss => match k with
  | .int k => optP (ixN xss.length k) fun j => optP xss[j]? fun xs => f p qs xss j xs
  | _ => False
theorem tbRow_of {K : PySem.W.Frag} {G F H : Hp} {P : Option Addr} {σ : L2.St} {s : S} {i : Nat} {k : PyData} {f : Addr → List Addr → List (List PyData) → Nat → List PyData → Prop} (R : Rep K G P F H σ s) (h : tbRow s i k f) : ∃ p qs xss k' j xs r vs, s.e[i]? = some (.tb p qs xss) ∧ k = .int k' ∧
    σ[i]? = some (some (.ref p)) ∧ H p = some (.lst (qs.map V.ref)) ∧ atI (qs.map V.ref) k' = some (.ref r) ∧ qs[j]? = some r ∧ xss[j]? = some xs ∧ H r = some (.lst vs) ∧ DqA K F vs xs ∧ f p qs xss j xs := by
  obtain ⟨p, qs, xss, h0, h⟩ := tbAt_of h
  obtain ⟨h1, h2, h3, h4, h5, h6, h7⟩ := R.sl i _ h0
  cases k with
  | int k =>
    obtain ⟨j, e1, h⟩ := optP_of h
    obtain ⟨xs, e2, h⟩ := optP_of h
    obtain ⟨r, vs, a, b, c⟩ := h7.get e2
    refine ⟨p, qs, xss, k, j, xs, r, vs, h0, rfl, h1, h5, ?_, a, e2, b, c, h⟩
    unfold atI
    rw [List.length_map, h7.len, e1]
    show (qs.map V.ref)[j]? = _
    rw [List.getElem?_map, a]
    rfl
  | _ => exact h.elim
@[simp] def wTbRowLen (i : Nat) (wk : DE) : DE := fun s Φ => tbAt s i fun _ _ _ => wk s fun k s1 => tbRow s1 i k fun _ _ _ _ xs => Φ (.int xs.length) s1
theorem xe_tbRowLen {i : Nat} {x : Str} {xp xp2 p1 : Pos} {k : Expr} {wk : DE} (hg : Gl X "len") (hm : X.mg "len" = none) (hv : PE X (.Name x xp) (tVar i)) (hk : XE X k wk) (hs : PlainIx k := by exact fun _ _ => rfl)
    (he : starEach [.Subscript (.Name x xp) k xp2] X.env = (false, eval (.Subscript (.Name x xp) k xp2) X.env) :: starEach [] X.env := by rfl)
    (hpl : (backTo pos (starEach [] X.env)).any (·.1) = false := by rfl) : XE X (.Call (.Name "len" p1) [.Subscript (.Name x xp) k xp2] [] pos) (wTbRowLen i wk) :=
  pe_imp (pe_callB call_len_seq hg hm (by decide +kernel) (pa_cons (pe_ix ix_list hv hk hs) pa_nil he) (by decide) (by decide) he hpl) fun σ H Q h => by
    obtain ⟨G, P, F, s, Φ, R, h, kk⟩ := h
    obtain ⟨p0, qs0, xss0, h0, h⟩ := tbAt_of h
    refine ⟨_, (R.sl i _ h0).1, G, P, F, s, _, R, h, fun u F2 H2 s2 y R2 e2 d2 q2 => ?_⟩
    obtain ⟨p, qs, xss, k', j, xs, r, vs, t0, rfl, t1, t2, t3, t4, t5, t6, t7, q⟩ := tbRow_of R2 q2
    cases d2
    have e := (R.sl i _ h0).1
    rw [t1] at e
    cases e
    refine ⟨_, _, k', _, rfl, rfl, SqL.of t2, t3, r, vs, rfl, .inl (SqL.of t6), ?_⟩
    rw [t7.length]
    exact kk _ F2 H2 s2 _ R2 e2 (.int _) q
/-- table[a][b] -/
@[simp] def wTbIx (i : Nat) (wa wb : DE) : DE := fun s Φ => tbAt s i fun _ _ _ => wa s fun a s1 => tbRow s1 i a fun _ _ _ j _ => wb s1 fun b s2 => s2.e[i]? = s1.e[i]? ∧ tbAt s2 i fun _ _ xss => match b with
  | .int b => optP xss[j]? fun xs => optP (atI xs b) fun x => Φ x s2
  | _ => False
theorem xe_tbIx {i : Nat} {x : Str} {xp xp2 : Pos} {a b : Expr} {wa wb : DE} (hv : PE X (.Name x xp) (tVar i)) (ha : XE X a wa) (hb : XE X b wb) (hsa : PlainIx a := by exact fun _ _ => rfl) (hsb : PlainIx b := by exact fun _ _ => rfl) :
    XE X (.Subscript (.Subscript (.Name x xp) a xp2) b pos) (wTbIx i wa wb) :=
  pe_imp (pe_ix ix_list (pe_ix ix_list hv ha hsa) hb hsb) fun σ H Q h => by
    obtain ⟨G, P, F, s, Φ, R, h, kk⟩ := h
    obtain ⟨p0, qs0, xss0, h0, h⟩ := tbAt_of h
    refine ⟨_, (R.sl i _ h0).1, G, P, F, s, _, R, h, fun u F2 H2 s2 y R2 e2 d2 q2 => ?_⟩
    obtain ⟨p, qs, xss, k', j, xs, r, vs, t0, rfl, t1, t2, t3, t4, t5, t6, t7, q⟩ := tbRow_of R2 q2
    cases d2
    have e := (R.sl i _ h0).1
    rw [t1] at e
    cases e
    refine ⟨_, _, k', _, rfl, rfl, SqL.of t2, t3, G, P, F2, s2, _, R2, q, fun w F3 H3 s3 z R3 e3 d3 q3 => ?_⟩
    obtain ⟨es, q3⟩ := q3
    obtain ⟨p4, qs4, xss4, h4, q3⟩ := tbAt_of q3
    rw [es, t0] at h4
    cases h4
    cases z with
    | int b =>
      cases d3
      obtain ⟨xs4, x1, q3⟩ := optP_of q3
      obtain ⟨x4, x2, q3⟩ := optP_of q3
      have hh := R3.sl i _ (es.trans t0)
      obtain ⟨_, _, _, _, _, _, rows⟩ := hh
      obtain ⟨r', vs', y1, y2, y3⟩ := rows.get x1
      rw [t4] at y1
      cases y1
      obtain ⟨v, z1, z2⟩ := atI_up y3 x2
      exact ⟨r, vs', b, v, rfl, rfl, SqL.of y2, z1, kk v F3 H3 s3 x4 R3 (e2.trans e3) z2 q3⟩
    | _ => exact q3.elim
/-- table[a][b] = e -/
@[simp] def wTbSet (i : Nat) (wa wb we : DE) : DS := fun Φ s => we s fun x s0 => tbAt s0 i fun _ _ _ => wa s0 fun a s1 => tbRow s1 i a fun _ _ _ j _ => wb s1 fun b s2 => s2.e[i]? = s1.e[i]? ∧ tbAt s2 i fun p qs xss => match b with
  | .int b => optP xss[j]? fun xs => optP (ixN xs.length b) fun l => Φ.nx (s2.put i (.tb p qs (xss.set j (xs.set l x))))
  | _ => False
theorem xs_tbSet {i : Nat} {x : Str} {xp xp2 p1 : Pos} {a b e : Expr} {wa wb we : DE} (hv : PE X (.Name x xp) (tVar i)) (ha : XE X a wa) (hb : XE X b wb) (h : XE X e we) (hsa : PlainIx a := by exact fun _ _ => rfl)
    (hs : swapsWithSole [.Subscript (.Subscript (.Name x xp) a xp2) b p1] e pos.line X.env = pure false := by rfl) (hw : swappedStores [.Subscript (.Subscript (.Name x xp) a xp2) b p1] e X.env = pure none := by rfl)
    (hasg : ∀ u, assign (.Subscript (.Subscript (.Name x xp) a xp2) b p1) X.env u = (do let ov ← holding [u] (eval (.Subscript (.Name x xp) a xp2) X.env); let iv ← holding [u, ov] (eval b X.env); standAt p1; holding [u, ov, iv] (setItem ov iv u); release [u, ov, iv] []) := by intro _; rfl) :
    XS X (.Assign [.Subscript (.Subscript (.Name x xp) a xp2) b p1] e pos) (wTbSet i wa wb we) :=
  ps_imp (ps_asg h (pg_sub (pe_ix ix_list hv ha hsa) hb set_list hasg) hs hw) fun D σ H h => by
    obtain ⟨G, P, F, s, Φ, R, h, bb⟩ := h
    refine ⟨G, P, F, s, _, R, h, fun v F1 H1 s1 dx R1 e1 d1 q1 => ?_⟩
    obtain ⟨p0, qs0, xss0, h0, q1⟩ := tbAt_of q1
    refine ⟨_, (R1.sl i _ h0).1, G, P, F1, s1, _, R1, q1, fun u F2 H2 s2 y R2 e2 d2 q2 => ?_⟩
    obtain ⟨p, qs, xss, k', j, xs, r, vs, t0, rfl, t1, t2, t3, t4, t5, t6, t7, q⟩ := tbRow_of R2 q2
    cases d2
    have e := (R1.sl i _ h0).1
    rw [t1] at e
    cases e
    refine ⟨_, _, k', _, rfl, rfl, SqL.of t2, t3, G, P, F2, s2, _, R2, q, fun w F3 H3 s3 z R3 e3 d3 q3 => ?_⟩
    obtain ⟨es, q3⟩ := q3
    obtain ⟨p4, qs4, xss4, h4, q3⟩ := tbAt_of q3
    have h40 := h4
    rw [es, t0] at h4
    cases h4
    cases z with
    | int b =>
      cases d3
      obtain ⟨xs4, x1, q3⟩ := optP_of q3
      obtain ⟨l, x2, q3⟩ := optP_of q3
      obtain ⟨_, _, _, _, _, _, rows⟩ := R3.sl i _ h40
      obtain ⟨r', vs', y1, y2, y3⟩ := rows.get x1
      rw [t4] at y1
      cases y1
      exact ⟨r, vs', b, l, rfl, rfl, y2, by rw [y3.length]; exact x2, bb.nx _ F3 _ _ (R3.wrT h40 t4 (y3.set l ((d1.mono e2).mono e3))) ((e1.trans e2).trans e3) q3⟩
    | _ => exact q3.elim
/-- table[a].append(e) -/
@[simp] def wTbApp (i : Nat) (wa we : DE) : DS := fun Φ s => tbAt s i fun _ _ _ => wa s fun a s1 => tbRow s1 i a fun _ _ _ j _ => we s1 fun x s2 => s2.e[i]? = s1.e[i]? ∧ tbAt s2 i fun p qs xss => optP xss[j]? fun xs => xs.length < sizeLine ∧ Φ.nx (s2.put i (.tb p qs (xss.set j (xs ++ [x]))))
theorem tbApp_of {K : PySem.W.Frag} {W : XWish} {i : Nat} {wa we : DE} (D : Ends) (σ : L2.St) (H : Hp) (h : tS K W (wTbApp i wa we) D σ H) : tDrop (tBM K "list" rAppend (tOp (rIxL K) (tVar i) (tE K wa)) (tCons (tE K we) tNil)) D σ H := by
  obtain ⟨G, P, F, s, Φ, R, h, bb⟩ := h
  obtain ⟨p0, qs0, xss0, h0, h⟩ := tbAt_of h
  refine ⟨_, (R.sl i _ h0).1, G, P, F, s, _, R, h, fun u F2 H2 s2 y R2 e2 d2 q2 => ?_⟩
  obtain ⟨p, qs, xss, k', j, xs, r, vs, t0, rfl, t1, t2, t3, t4, t5, t6, t7, q⟩ := tbRow_of R2 q2
  cases d2
  have e := (R.sl i _ h0).1
  rw [t1] at e
  cases e
  refine ⟨_, _, k', _, rfl, rfl, SqL.of t2, t3, .inl ⟨rfl, _, SqL.of t6⟩, G, P, F2, s2, _, R2, q, fun w F3 H3 s3 z R3 e3 d3 q3 => ?_⟩
  obtain ⟨es, q3⟩ := q3
  obtain ⟨p4, qs4, xss4, h4, q3⟩ := tbAt_of q3
  have h40 := h4
  rw [es, t0] at h4
  cases h4
  obtain ⟨xs4, x1, hl, q3⟩ := optP_of q3
  obtain ⟨_, _, _, _, _, _, rows⟩ := R3.sl i _ h40
  obtain ⟨r', vs', y1, y2, y3⟩ := rows.get x1
  rw [t4] at y1
  cases y1
  exact ⟨r, vs', w, rfl, rfl, y2, by rw [y3.length]; exact hl, bb.nx _ F3 _ _ (R3.wrT h40 t4 (y3.append (.cons d3 .nil))) (e2.trans e3) q3⟩
theorem xs_tbApp {i : Nat} {x : Str} {xp xp2 p1 p2 : Pos} {a e : Expr} {wa we : DE} (hv : PE X (.Name x xp) (tVar i)) (ha : XE X a wa) (h : XE X e we) (hsa : PlainIx a := by exact fun _ _ => rfl)
    (hbase : attributeBase (.Subscript (.Name x xp) a xp2) "append" X.env (eval (.Subscript (.Name x xp) a xp2) X.env) = eval (.Subscript (.Name x xp) a xp2) X.env := by rfl)
    (hfew : ((backTo p2 (starEach [e] X.env)).all (fun x => !x.1) && (backToKw p2 (keywordEach [] X.env)).all (fun x => x.1.isSome) && decide ([e].length + ([] : List Keyword).length + (if ([] : List Keyword).isEmpty then 0 else 1) < 30)) = true := by rfl)
    (hline : (p1.endLine == p2.line) = true := by rfl) (hs : starEach [e] X.env = (false, eval e X.env) :: starEach [] X.env := by rfl) (hplain : (backTo p2 (starEach [] X.env)).any (·.1) = false := by rfl)
    (hsw : swapsWith (.Call (.Attribute (.Subscript (.Name x xp) a xp2) "append" p1) [e] [] p2) none pos.line X.env = pure false := by rfl) : XS X (.Expr (.Call (.Attribute (.Subscript (.Name x xp) a xp2) "append" p1) [e] [] p2) pos) (wTbApp i wa we) :=
  ps_imp (ps_expr (pe_bm PySem.F.plainAttrs_list PySem.F.slot_list_append PySem.F.type_list_append mt_append (pe_ix ix_list hv ha hsa) (pa_cons h pa_nil hs) hbase hfew hline hs hplain) hsw) tbApp_of
end
end DL
/-! DL: places of signs in texts; lists turned about; a[b] += e -/
namespace DL
open PySem PySem.Spec PyProof.Rows L2
section
open Builtin Builtin.Str PySem.StrLaws
theorem occ_stays (s sub : Str) (hi : Nat) : ∀ (l : List Nat) (st : Array Nat × Nat), st.fst.size = 1 → (forIn l st (occBody s sub hi 1)).run.fst = st.fst
  | [], st, h => rfl
  | a :: l, st, h => by
    rw [List.forIn_cons]
    unfold occBody
    rw [if_neg (fun z => by have := z.1.1.1; omega)]
    exact occ_stays s sub hi l st h
theorem occ_first (s sub : Str) (hi m : Nat) (hm : m + sub.length ≤ hi ∧ subAt s sub m = true) : ∀ (n lo free : Nat), free ≤ lo → lo ≤ m → m < lo + n → (∀ k, lo ≤ k → k < m → ¬ (k + sub.length ≤ hi ∧ subAt s sub k = true)) →
    (forIn (List.range' lo n) ((#[] : Array Nat), free) (occBody s sub hi 1)).run.fst = #[m]
  | 0, lo, free, _, h1, h2, _ => by omega
  | n + 1, lo, free, hf, h1, h2, h3 => by
    rw [List.range'_succ, List.forIn_cons]
    by_cases e : lo = m
    · subst e
      unfold occBody
      rw [if_pos ⟨⟨⟨by simp, hf⟩, hm.1⟩, hm.2⟩]
      exact occ_stays s sub hi _ _ (by simp)
    · unfold occBody
      rw [if_neg (fun z => h3 lo (Nat.le_refl _) (by omega) ⟨z.1.2, z.2⟩)]
      exact occ_first s sub hi m hm n (lo + 1) free (by omega) (by omega) (by omega) fun k hk => h3 k (by omega)
theorem occ_idx {s : Str} {c : Nat} (h : c ∈ s.cps.toList) : occurrences s ⟨#[c]⟩ 0 s.length 1 = [s.cps.toList.idxOf c] := by
  have h1 : s.cps.toList[s.cps.toList.idxOf c]? = some c := by
    rw [List.getElem?_eq_getElem (List.idxOf_lt_length_iff.mpr h), List.getElem_idxOf]
  have h2 := (subAt_one s c _).mpr h1
  have hl : s.cps.toList.idxOf c < s.length := by
    have := List.idxOf_lt_length_iff.mpr h
    rw [Array.length_toList] at this
    exact this
  rw [occ_eq, occ_first s ⟨#[c]⟩ s.length _ h2 _ 0 0 (Nat.le_refl _) (Nat.zero_le _) (by omega) fun k _ hk z => ?_]
  have h3 := (subAt_one s c k).mp z
  have h4 := List.not_of_lt_findIdx (p := (· == c)) (xs := s.cps.toList) (i := k) (by simpa [List.idxOf] using hk)
  have h5 := (List.getElem?_eq_some_iff.mp h3)
  obtain ⟨h6, h7⟩ := h5
  simp [h7] at h4
end
/-- the place of a sign in a text -/
@[simp] def wIndex (wo we : DE) : DE := fun s Φ => wo s fun a s1 => match a with
  | .str a => we s1 fun b s2 => match b with
    | .str b => ∃ c, b = ⟨#[c]⟩ ∧ c ∈ a.cps.toList ∧ Φ (.int (a.cps.toList.idxOf c : Nat)) s2
    | _ => False
  | _ => False
section
variable {X : Cx} {pos : Pos}
theorem xe_index {o e : Expr} {apos : Pos} {wo we : DE} (ho : XE X o wo) (he : XE X e we)
    (hbase : attributeBase o "index" X.env (eval o X.env) = eval o X.env := by rfl)
    (hfew : ((backTo pos (starEach [e] X.env)).all (fun x => !x.1) && (backToKw pos (keywordEach [] X.env)).all (fun x => x.1.isSome) && decide ([e].length + ([] : List Keyword).length + (if ([] : List Keyword).isEmpty then 0 else 1) < 30)) = true := by rfl)
    (hline : (apos.endLine == pos.line) = true := by rfl) (hs : starEach [e] X.env = (false, eval e X.env) :: starEach [] X.env := by rfl) (hplain : (backTo pos (starEach [] X.env)).any (·.1) = false := by rfl) :
    XE X (.Call (.Attribute o "index" apos) [e] [] pos) (wIndex wo we) :=
  pe_imp (pe_bm PySem.F.plainAttrs_str PySem.F.slot_str_index PySem.F.type_str_index mt_sindex ho (pa_cons he pa_nil hs) hbase hfew hline hs hplain) fun σ H Q h => by
    obtain ⟨G, P, F, s, Φ, R, h, kk⟩ := h
    refine ⟨G, P, F, s, _, R, h, fun v F1 H1 s1 x R1 e1 d1 q1 => ?_⟩
    cases x with
    | str a =>
      cases d1
      refine ⟨rfl, G, P, F1, s1, _, R1, q1, fun u F2 H2 s2 y R2 e2 d2 q2 => ?_⟩
      cases y with
      | str b =>
        cases d2
        obtain ⟨c, rfl, hc, q2⟩ := q2
        exact ⟨a, _, _, [], rfl, rfl, occ_idx hc, kk _ F2 H2 s2 _ R2 (e1.trans e2) (.int _) q2⟩
      | _ => exact q2.elim
    | _ => exact q1.elim
/-- x.reverse() -/
@[simp] def wRev (i : Nat) : DS := fun Φ s => ownAt s i fun xs => Φ.nx (s.put i (.o xs.reverse))
theorem dqa_rev {K : PySem.W.Frag} {F : Hp} : ∀ {vs : List V} {xs : List PyData}, DqA K F vs xs → DqA K F vs.reverse xs.reverse
  | _, [], h => by cases h; exact .nil
  | _, _ :: _, h => by
    cases h with
    | cons h1 h2 =>
      rw [List.reverse_cons, List.reverse_cons]
      exact (dqa_rev h2).append (.cons h1 .nil)
theorem xs_rev {i : Nat} {x : Str} {xp p1 p2 : Pos} (hv : PE X (.Name x xp) (tVar i))
    (hbase : attributeBase (.Name x xp) "reverse" X.env (eval (.Name x xp) X.env) = eval (.Name x xp) X.env := by rfl) (hline : (p1.endLine == p2.line) = true := by rfl)
    (hsw : swapsWith (.Call (.Attribute (.Name x xp) "reverse" p1) [] [] p2) none pos.line X.env = pure false := by rfl) : XS X (.Expr (.Call (.Attribute (.Name x xp) "reverse" p1) [] [] p2) pos) (wRev i) :=
  ps_imp (ps_expr (pe_bm0 PySem.F.plainAttrs_list PySem.F.slot_list_reverse PySem.F.type_list_reverse mt_reverse hv hbase hline) hsw) fun D σ H h => by
    obtain ⟨G, P, F, s, Φ, R, h, b⟩ := h
    obtain ⟨xs, h0, h⟩ := ownAt_of h
    obtain ⟨p, vs, e1, _, _, _, e5, e6⟩ := R.sl i _ h0
    exact ⟨_, e1, .inl ⟨rfl, _, SqL.of e5⟩, p, vs, rfl, rfl, e5, b.nx _ F _ _ (R.wrO h0 e1 (dqa_rev e6)) (Same.refl F) h⟩
/-- sum(x), x one's own -/
@[simp] def wOwnSum (i : Nat) : DE := fun s Φ => ownAt s i fun xs => ∃ ns : List Int, xs = ns.map .int ∧ Φ (.int ns.sum) s
theorem xe_ownSum {i : Nat} {x : Str} {xp p1 : Pos} (hc : X.calm = true) (hg : Gl X "sum") (hm : X.mg "sum" = none) (hv : PE X (.Name x xp) (tVar i)) (he : starEach [.Name x xp] X.env = (false, eval (.Name x xp) X.env) :: starEach [] X.env := by rfl)
    (hpl : (backTo pos (starEach [] X.env)).any (·.1) = false := by rfl) : XE X (.Call (.Name "sum" p1) [.Name x xp] [] pos) (wOwnSum i) :=
  pe_imp (pe_callB (cr_sum hc) hg hm (by decide +kernel) (pa_cons hv pa_nil he) (by decide) (by decide) he hpl) fun σ H Q h => by
    obtain ⟨G, P, F, s, Φ, R, h, kk⟩ := h
    obtain ⟨xs, h0, ns, rfl, h⟩ := ownAt_of h
    obtain ⟨p, vs, g1, _, _, _, g5, g6⟩ := R.sl i _ h0
    have e := g6.ints
    subst e
    exact ⟨_, g1, p, ns, rfl, SqL.of g5, kk _ F H s _ R (Same.refl F) (.int _) h⟩
end
end DL
/-! DL: a[b] += e; lists of two fors; pairs in order; how often a sign stands in a text -/
namespace DL
open PySem PySem.Spec PyProof.Rows L2
section
open Builtin Builtin.Str PySem.StrLaws
theorem occ_cnt (s : Str) (c limit : Nat) : ∀ (n lo free : Nat) (st : Array Nat), free ≤ lo → st.size + n ≤ limit → lo + n = s.length + 1 →
    (forIn (List.range' lo n) (st, free) (occBody s ⟨#[c]⟩ s.length limit)).run.fst.size = st.size + (s.cps.toList.drop lo).count c
  | 0, lo, free, st, hf, hl, hn => by
    rw [List.drop_eq_nil_of_le (by
      have : s.cps.toList.length = s.length := Array.length_toList
      omega)]
    rfl
  | n + 1, lo, free, st, hf, hl, hn => by
    have hlen : s.cps.toList.length = s.length := Array.length_toList
    rw [List.range'_succ, List.forIn_cons]
    by_cases e : s.cps.toList[lo]? = some c
    · have h2 := (subAt_one s c lo).mpr e
      unfold occBody
      rw [if_pos ⟨⟨⟨by show st.size < limit; omega, hf⟩, h2.1⟩, h2.2⟩]
      have hlt := (List.getElem?_eq_some_iff.mp e)
      obtain ⟨hlt, e2⟩ := hlt
      have := occ_cnt s c limit n (lo + 1) (lo + 1) (st.push lo) (Nat.le_refl _) (by rw [Array.size_push]; omega) (by omega)
      rw [List.drop_eq_getElem_cons hlt, e2, List.count_cons_self]
      rw [Array.size_push] at this
      show (forIn (List.range' (lo + 1) n) (st.push lo, lo + 1) (occBody s ⟨#[c]⟩ s.length limit)).run.fst.size = _
      rw [this]
      omega
    · unfold occBody
      rw [if_neg (fun z => e ((subAt_one s c lo).mp ⟨z.1.2, z.2⟩))]
      have := occ_cnt s c limit n (lo + 1) free st (by omega) (by omega) (by omega)
      show (forIn (List.range' (lo + 1) n) (st, free) (occBody s ⟨#[c]⟩ s.length limit)).run.fst.size = _
      rw [this]
      by_cases hlt : lo < s.cps.toList.length
      · rw [List.drop_eq_getElem_cons hlt, List.count_cons_of_ne]
        intro z
        exact e (by rw [List.getElem?_eq_getElem hlt, z])
      · rw [List.drop_eq_nil_of_le (by omega), List.drop_eq_nil_of_le (by omega)]
theorem count_one (s : Str) (c : Nat) : Txt.count s ⟨#[c]⟩ = ((s.cps.toList.count c : Nat) : Int) := by
  show (((occurrences s ⟨#[c]⟩ 0 s.length (s.length + 1)).length : Nat) : Int) = _
  rw [occ_eq, Array.length_toList, occ_cnt s c _ _ 0 0 #[] (Nat.le_refl _) (by simp) (by simp)]
  simp
end
@[simp] def wCount (wo we : DE) : DE := fun s Φ => wo s fun a s1 => match a with
  | .str a => we s1 fun b s2 => match b with
    | .str b => ∃ c, b = ⟨#[c]⟩ ∧ Φ (.int (a.cps.toList.count c : Nat)) s2
    | _ => False
  | _ => False
section
variable {X : Cx} {pos : Pos}
theorem xe_count {o e : Expr} {apos : Pos} {wo we : DE} (ho : XE X o wo) (he : XE X e we)
    (hbase : attributeBase o "count" X.env (eval o X.env) = eval o X.env := by rfl)
    (hfew : ((backTo pos (starEach [e] X.env)).all (fun x => !x.1) && (backToKw pos (keywordEach [] X.env)).all (fun x => x.1.isSome) && decide ([e].length + ([] : List Keyword).length + (if ([] : List Keyword).isEmpty then 0 else 1) < 30)) = true := by rfl)
    (hline : (apos.endLine == pos.line) = true := by rfl) (hs : starEach [e] X.env = (false, eval e X.env) :: starEach [] X.env := by rfl) (hplain : (backTo pos (starEach [] X.env)).any (·.1) = false := by rfl) :
    XE X (.Call (.Attribute o "count" apos) [e] [] pos) (wCount wo we) :=
  pe_imp (pe_bm PySem.F.plainAttrs_str PySem.F.slot_str_count PySem.F.type_str_count mt_count ho (pa_cons he pa_nil hs) hbase hfew hline hs hplain) fun σ H Q h => by
    obtain ⟨G, P, F, s, Φ, R, h, kk⟩ := h
    refine ⟨G, P, F, s, _, R, h, fun v F1 H1 s1 x R1 e1 d1 q1 => ?_⟩
    cases x with
    | str a =>
      cases d1
      refine ⟨rfl, G, P, F1, s1, _, R1, q1, fun u F2 H2 s2 y R2 e2 d2 q2 => ?_⟩
      cases y with
      | str b =>
        cases d2
        obtain ⟨c, rfl, q2⟩ := q2
        refine ⟨a, _, rfl, rfl, ?_⟩
        rw [count_one]
        exact kk _ F2 H2 s2 _ R2 (e1.trans e2) (.int _) q2
      | _ => exact q2.elim
    | _ => exact q1.elim
end
/-! a[b] += e, a one's own -/
theorem pg_list {X : Cx} : PGet X (rIxL X.K) := by
  intro pins s σ H o i ov iv Q I r1 r2 h
  obtain ⟨p, xs, i, z, rfl, rfl, hq, he, q⟩ := h
  cases r1
  obtain ⟨t, rfl⟩ := r2
  obtain ⟨its, r, pl, hz⟩ := I.list hq
  obtain ⟨j, h1, h2, h3, h4, h5⟩ := L2.atI_get he
  obtain ⟨w, ew, rw'⟩ := r.get h2
  have hl := r.length
  have hn := line63
  have fin : EP X pins σ Q w s := ⟨z, H, I, rw', q⟩
  by_cases h0 : 0 ≤ i
  · have hj : i.toNat = j := by
      rw [seqIndex_of h0 h5] at h1
      exact Option.some.inj h1
    exact wpAny_getItem_list (Q := EP X pins σ Q) pl.isList h0 (by omega) (by rw [hj]; simpa using ew) fin
  · have hj : (i + (its.toArray.size : Int)).toNat = j := by
      rw [seqIndex_neg (by omega) h4] at h1
      rw [List.size_toArray, ← hl]
      exact Option.some.inj h1
    exact wpAny_getItem_list_neg (Q := EP X pins σ Q) pl.isList (by omega) (by rw [List.size_toArray] <;> omega) (by omega) (by rw [hj]; simpa using ew) fin
@[simp] def wAugO (i : Nat) (f : Int → Int → Int) (wi we : DE) : DS := fun Φ s => ownAt s i fun _ => wi s fun k s1 => ownAt s1 i fun xs => match k with
  | .int k => match atI xs k with
    | some (.int m) => we s1 fun y s2 => match y with
      | .int n => ownAt s2 i fun xs2 => optP (ixN xs2.length k) fun j => Φ.nx (s2.put i (.o (xs2.set j (.int (f m n)))))
      | _ => False
    | _ => False
  | _ => False
section
variable {X : Cx} {pos : Pos}
theorem xs_augO {i : Nat} {x : Str} {xp p1 : Pos} {k e : Expr} {wi we : DE} {op : Operator} {f : Int → Int → Int} (hv : PE X (.Name x xp) (tVar i)) (hk : XE X k wi) (h : XE X e we) (ho : PIp X op (ipI f))
    (ha : ∀ ov iv new, augStore k ov iv new = (do holding [new, ov, iv] (setItem ov iv new); release [new, ov, iv] []; pure .next) := by intros; rfl) : XS X (.AugAssign (.Subscript (.Name x xp) k p1) op e pos) (wAugO i f wi we) :=
  ps_imp (ps_augS hv hk pg_list h ho set_list ha) fun D σ H h => by
    obtain ⟨G, P, F, s, Φ, R, h, b⟩ := h
    obtain ⟨xs0, h0, h⟩ := ownAt_of h
    obtain ⟨p, vs, g1, _, _, _, g5, _⟩ := R.sl i _ h0
    refine ⟨_, g1, G, P, F, s, _, R, h, fun u F1 H1 s1 y R1 e1 d1 q1 => ?_⟩
    obtain ⟨xs, h1, q1⟩ := ownAt_of q1
    obtain ⟨p', vs', k1, _, _, _, k5, k6⟩ := R1.sl i _ h1
    rw [g1] at k1
    cases k1
    cases y with
    | int k =>
      cases d1
      dsimp only at q1
      cases hj : atI xs k with
      | none => rw [hj] at q1; exact q1.elim
      | some d =>
        rw [hj] at q1
        cases d with
        | int m =>
          obtain ⟨v, z1, z2⟩ := atI_up k6 hj
          cases z2
          refine ⟨p, vs', k, _, rfl, rfl, SqL.of k5, z1, G, P, F1, s1, _, R1, q1, fun w F2 H2 s2 z R2 e2 d2 q2 => ?_⟩
          cases z with
          | int n =>
            cases d2
            obtain ⟨xs2, h2, q2⟩ := ownAt_of q2
            obtain ⟨j, hj2, q2⟩ := optP_of q2
            obtain ⟨p2, vs2, l1, _, _, _, l5, l6⟩ := R2.sl i _ h2
            rw [g1] at l1
            cases l1
            exact ⟨m, n, rfl, rfl, p, vs2, k, j, rfl, rfl, l5, by rw [l6.length]; exact hj2, b.nx _ F2 _ _ (R2.wrO h2 g1 (l6.set j (.int _))) (e1.trans e2) q2⟩
          | _ => exact q2.elim
        | _ => exact q1.elim
    | _ => exact q1.elim
end
end DL
/-! DL: lists of two fors; pairs in order -/
namespace DL
open PySem PySem.Spec PyProof.Rows L2
section
variable {K : PySem.W.Frag} {G F H F' H' : Hp} {P : Option Addr} {σ τ : L2.St} {s : S} {vs : List Nat} {D : Addr} {acc : List V}
/-- a kept list, to be changed again -/
theorem Rep.openG (R : Rep K (upd G D (.lst acc)) P F H σ s) (g : G D = none) : Rep K G P F H σ s ∧ Nu G P F σ s D := by
  have tG : TabsAt K G := fun b hb => by
    have q := R.tab b hb
    by_cases e : b = D
    · rw [e, upd_same] at q
      cases q
    · rw [upd_ne e] at q
      exact q
  refine ⟨R.weakG (fun b o q => ?_) tG, ⟨R.apart D _ upd_same, g, fun z => ?_, fun i xs hx e => ?_, fun i x hx m => ?_⟩⟩
  · rw [upd_ne (fun z => by rw [z, g] at q; cases q)]
    exact q
  · have := (R.pool D z).2.1
    rw [upd_same] at this
    cases this
  · obtain ⟨p, us, h1, h2, h3, _⟩ := R.sl i _ hx
    rw [e] at h1
    cases h1
    rw [upd_same] at h3
    cases h3
  · have q := R.sl i x hx
    cases x with
    | tb p qs xss =>
      obtain ⟨h1, h2, h3, h4, h5, h6, h7⟩ := q
      rcases List.mem_cons.mp m with e | m
      · rw [← e, upd_same] at h3
        cases h3
      · have : ∀ {qs xss}, RowsOk K (upd G D (.lst acc)) P F H qs xss → D ∉ qs := by
          intro qs xss h
          induction h with
          | nil => intro z; cases z
          | cons a1 a2 a3 a4 a5 a6 ih =>
            intro z
            rcases List.mem_cons.mp z with e | z
            · rw [← e, upd_same] at a2
              cases a2
            · exact ih z
        exact this h7 m
    | _ => cases m
end
def lcW2 (vs vs1 : List Nat) (e0 : List Sl) (wg : DG) (wt : DT) (wi1 : DI) (wg1 : DG) (wt1 : DT) (we : DE) (Φ : List PyData → List Int → Prop) : List PyData → List PyData → List Int → Prop
  | [], acc, q => Φ acc q
  | x :: xs, acc, q => wg x ⟨wipeE e0 vs, q⟩ fun s1 => wipeE s1.e vs = wipeE e0 vs ∧ wt s1 fun b s2 => s2.e = s1.e ∧
    (if b = true then wi1 s2 fun ys s3 => s3.e = s1.e ∧ noOwn vs1 s1.e = true ∧ lcW vs1 s1.e wg1 wt1 we (fun acc q => lcW2 vs vs1 e0 wg wt wi1 wg1 wt1 we Φ xs acc q) ys acc s3.q
      else lcW2 vs vs1 e0 wg wt wi1 wg1 wt1 we Φ xs acc s2.q)
@[simp] def wLc2 (vs vs1 : List Nat) (wi : DI) (wg : DG) (wt : DT) (wi1 : DI) (wg1 : DG) (wt1 : DT) (we : DE) : DA := fun s Φ => wi s fun xs s1 => noOwn vs s1.e = true ∧ lcW2 vs vs1 s1.e wg wt wi1 wg1 wt1 we (fun ys q => Φ ys ⟨s1.e, q⟩) xs [] s1.q
theorem lc2_of {K : PySem.W.Frag} {vs vs1 is is1 : List Nat} {wi wi1 : DI} {wg wg1 : DG} {wt wt1 : DT} {we : DE} (hsub : ∀ i ∈ is, i ∈ vs) (hsub1 : ∀ i ∈ is1, i ∈ vs1) (hv : ∀ i ∈ vs1, i ∈ vs) (σ : L2.St) (H : Hp) (Q : VK) (h : tL K (wLc2 vs vs1 wi wg wt wi1 wg1 wt1 we) σ H Q) :
    tLc2 (tI K wi) (tG K is wg) (tT K wt) (tI K wi1) (tG K is1 wg1) (tT K wt1) (tE K we) vs vs1 σ H Q := by
  obtain ⟨G, P, F, s, Φ, R, h, k⟩ := h
  refine ⟨G, P, F, s, _, R, h, fun J F1 H1 s1 xs R1 e1 Y q D hD => ?_⟩
  obtain ⟨hno, q⟩ := q
  obtain ⟨R1', n1⟩ := nu_new (o := .lst []) R1 hD
  refine ⟨fun i m H2 => m = xs.length - i ∧ i ≤ xs.length ∧ ∃ F2 vacc acc q2, Same F1 F2 ∧ H2 D = some (.lst vacc) ∧ DqA K F2 vacc acc ∧ Rep K G P F2 H2 σ ⟨s1.e, q2⟩ ∧ Nu G P F2 σ ⟨s1.e, q2⟩ D ∧
    lcW2 vs vs1 s1.e wg wt wi1 wg1 wt1 we (fun ys q => Φ ys ⟨s1.e, q⟩) (xs.drop i) acc q2, ⟨_, rfl, Nat.zero_le _, F1, [], [], s1.q, Same.refl F1, upd_same, .nil, R1', n1, by simpa using q⟩, ?_⟩
  rintro i m H2 ⟨rfl, hi, F2, vacc, acc, q2, e2, hD2, dacc, R2, n2, w2⟩
  by_cases hl : i < xs.length
  · obtain ⟨go, yl⟩ := (Y F2 H2 e2 R2.same i).1 xs[i] (List.getElem?_eq_getElem hl)
    rw [List.drop_eq_getElem_cons hl] at w2
    refine .inr ⟨go, fun H3 => ∃ F2 vacc acc q2, Same F1 F2 ∧ H3 D = some (.lst vacc) ∧ DqA K F2 vacc acc ∧ Rep K G P F2 H3 σ ⟨s1.e, q2⟩ ∧ Nu G P F2 σ ⟨s1.e, q2⟩ D ∧
      lcW2 vs vs1 s1.e wg wt wi1 wg1 wt1 we (fun ys q => Φ ys ⟨s1.e, q⟩) (xs.drop (i + 1)) acc q2, fun H3 z => ⟨xs.length - (i + 1), by omega, rfl, hl, z⟩, fun v H3 hy => ?_⟩
    obtain ⟨F3, f, dx⟩ := yl v H3 hy
    have RB : Rep K (upd G D (.lst vacc)) P F3 H3 (wipe σ vs) ⟨wipeE s1.e vs, q2⟩ := (R2.block (vs := vs) n2 hD2).fresh f
    refine ⟨_, P, F3, _, xs[i], _, RB, dx, w2, fun σ4 s4 R4 ag l4 q4 => ?_⟩
    obtain ⟨we4, q4⟩ := q4
    have ag' : ∀ i, i ∉ vs → σ4[i]? = σ[i]? := fun j hj => by
      rw [ag j (fun z => hj (hsub j z)), wipe_off hj]
    refine ⟨wipe_same (by rw [l4, wipe_length]) ag', ?_⟩
    refine ⟨_, P, F3, s4, _, R4, q4, fun b F5 H5 s5 R5 e5 q5 => ?_⟩
    obtain ⟨es5, q5⟩ := q5
    have e25 : Same F2 F5 := f.ff.trans e5
    -- the outer turn's end
    have fin : ∀ {F6 H6 : Hp} {s6 : S} {vacc6 : List V} {acc6 : List PyData}, Same F2 F6 → Rep K (upd G D (.lst vacc6)) P F6 H6 σ4 s6 → s6.e = s4.e → DqA K F6 vacc6 acc6 → lcW2 vs vs1 s1.e wg wt wi1 wg1 wt1 we (fun ys q => Φ ys ⟨s1.e, q⟩) (xs.drop (i + 1)) acc6 s6.q →
        ∃ F2 vacc acc q2, Same F1 F2 ∧ H6 D = some (.lst vacc) ∧ DqA K F2 vacc acc ∧ Rep K G P F2 H6 σ ⟨s1.e, q2⟩ ∧ Nu G P F2 σ ⟨s1.e, q2⟩ D ∧ lcW2 vs vs1 s1.e wg wt wi1 wg1 wt1 we (fun ys q => Φ ys ⟨s1.e, q⟩) (xs.drop (i + 1)) acc q2 := by
      intro F6 H6 s6 vacc6 acc6 e26 R6 es6 d6 q6
      obtain ⟨R7, n7, hD7⟩ := R2.unblock (vs := vs) (acc' := vacc6) n2 hno e26 R6 (by rw [es6]; exact we4) ag'
      have eu : upd H6 D (.lst vacc6) = H6 := by
        funext b
        by_cases hb : b = D
        · rw [hb, upd_same, hD7]
        · rw [upd_ne hb]
      rw [eu] at R7
      exact ⟨F6, vacc6, acc6, s6.q, e2.trans e26, hD7, d6, R7, n7, q6⟩
    cases b with
    | true =>
      rw [if_pos rfl] at q5 ⊢
      refine ⟨_, P, F5, s5, _, R5, q5, fun J1 F6 H6 s6 ys R6 e6 Y1 q6 => ?_⟩
      obtain ⟨es6, hno1, q6⟩ := q6
      obtain ⟨R6o, n6⟩ := R6.openG n2.g
      have e26 : Same F2 F6 := e25.trans e6
      have R6o' : Rep K G P F6 H6 σ4 ⟨s4.e, s6.q⟩ := by rw [← es6]; exact R6o
      have n6' : Nu G P F6 σ4 ⟨s4.e, s6.q⟩ D := by rw [← es6]; exact n6
      refine ⟨fun j k H7 => k = ys.length - j ∧ j ≤ ys.length ∧ ∃ F7 vacc7 acc7 q7, Same F6 F7 ∧ H7 D = some (.lst vacc7) ∧ DqA K F7 vacc7 acc7 ∧ Rep K G P F7 H7 σ4 ⟨s4.e, q7⟩ ∧ Nu G P F7 σ4 ⟨s4.e, q7⟩ D ∧
        lcW vs1 s4.e wg1 wt1 we (fun acc q => lcW2 vs vs1 s1.e wg wt wi1 wg1 wt1 we (fun ys q => Φ ys ⟨s1.e, q⟩) (xs.drop (i + 1)) acc q) (ys.drop j) acc7 q7,
        ⟨_, rfl, Nat.zero_le _, F6, vacc, acc, s6.q, Same.refl F6, R6.keep D _ upd_same, dacc.mono e26, R6o', n6', by simpa using q6⟩, ?_⟩
      rintro j k H7 ⟨rfl, hj, F7, vacc7, acc7, q7, e7, hD7, d7, R7, n7, w7⟩
      by_cases hl1 : j < ys.length
      · obtain ⟨go1, yl1⟩ := (Y1 F7 H7 e7 R7.same j).1 ys[j] (List.getElem?_eq_getElem hl1)
        rw [List.drop_eq_getElem_cons hl1] at w7
        refine .inr ⟨go1, fun H8 => ∃ F7 vacc7 acc7 q7, Same F6 F7 ∧ H8 D = some (.lst vacc7) ∧ DqA K F7 vacc7 acc7 ∧ Rep K G P F7 H8 σ4 ⟨s4.e, q7⟩ ∧ Nu G P F7 σ4 ⟨s4.e, q7⟩ D ∧
          lcW vs1 s4.e wg1 wt1 we (fun acc q => lcW2 vs vs1 s1.e wg wt wi1 wg1 wt1 we (fun ys q => Φ ys ⟨s1.e, q⟩) (xs.drop (i + 1)) acc q) (ys.drop (j + 1)) acc7 q7,
          fun H8 z => ⟨ys.length - (j + 1), by omega, rfl, hl1, z⟩, fun v H8 hy8 => ?_⟩
        obtain ⟨F8, f8, dx8⟩ := yl1 v H8 hy8
        have RB8 : Rep K (upd G D (.lst vacc7)) P F8 H8 (wipe σ4 vs1) ⟨wipeE s4.e vs1, q7⟩ := (R7.block (vs := vs1) n7 hD7).fresh f8
        refine ⟨_, P, F8, _, ys[j], _, RB8, dx8, w7, fun σ9 s9 R9 ag9 l9 q9 => ?_⟩
        obtain ⟨we9, q9⟩ := q9
        have ag9' : ∀ i, i ∉ vs1 → σ9[i]? = σ4[i]? := fun j hj => by
          rw [ag9 j (fun z => hj (hsub1 j z)), wipe_off hj]
        refine ⟨wipe_same (by rw [l9, wipe_length]) ag9', ?_⟩
        refine ⟨_, P, F8, s9, _, R9, q9, fun b F10 H10 s10 R10 e10 q10 => ?_⟩
        obtain ⟨es10, q10⟩ := q10
        have e710 : Same F7 F10 := f8.ff.trans e10
        cases b with
        | true =>
          rw [if_pos rfl] at q10 ⊢
          refine ⟨_, P, F10, s10, _, R10, q10, fun y F11 H11 s11 dy R11 e11 d11 q11 => ?_⟩
          obtain ⟨es11, hz, q11⟩ := q11
          obtain ⟨R12, n12, hD12⟩ := R7.unblock (vs := vs1) (acc' := vacc7 ++ [y]) n7 hno1 (e710.trans e11) R11 (by rw [es11]; exact we9) ag9'
          exact ⟨vacc7, hD12, by rw [d7.length]; exact hz, F11, vacc7 ++ [y], acc7 ++ [dy], s11.q, e7.trans (e710.trans e11), upd_same, (d7.mono (e710.trans e11)).append (.cons d11 .nil), R12, n12, q11⟩
        | false =>
          rw [if_neg Bool.false_ne_true] at q10 ⊢
          obtain ⟨R12, n12, hD12⟩ := R7.unblock (vs := vs1) (acc' := vacc7) n7 hno1 e710 R10 (by rw [es10]; exact we9) ag9'
          have eu : upd H10 D (.lst vacc7) = H10 := by
            funext b
            by_cases hb : b = D
            · rw [hb, upd_same, hD12]
            · rw [upd_ne hb]
          rw [eu] at R12
          exact ⟨F10, vacc7, acc7, s10.q, e7.trans e710, hD12, d7.mono e710, R12, n12, q10⟩
      · refine .inl ⟨(Y1 F7 H7 e7 R7.same j).2 (by omega), ?_⟩
        rw [List.drop_eq_nil_of_le (show ys.length ≤ j from by omega)] at w7
        have RB7 : Rep K (upd G D (.lst vacc7)) P F7 H7 σ4 ⟨s4.e, q7⟩ := R7.block (vs := []) n7 hD7
        exact fin (e26.trans e7) RB7 rfl d7 w7
    | false =>
      rw [if_neg Bool.false_ne_true] at q5 ⊢
      exact fin e25 R5 es5 (dacc.mono e25) q5
  · refine .inl ⟨(Y F2 H2 e2 R2.same i).2 (by omega), ?_⟩
    rw [List.drop_eq_nil_of_le (by omega)] at w2
    exact k D vacc F2 H2 ⟨s1.e, q2⟩ acc R2 (e1.trans e2) n2 hD2 dacc w2
section
variable {X : Cx} {pos : Pos}
theorem xl_lc2 {elt tg iter tg1 iter1 : Expr} {ifs ifs1 : List Expr} {scope : Scope} {own : List (Str × Nat)} {vs1 is is1 : List Nat} {wi wi1 : DI} {wg wg1 : DG} {wt wt1 : DT} {we : DE} (hc : X.calm = true) (hN : X.N.Nodup) (hi : XI X tg iter wi) (ok : BlkOk X.N X.env.scope scope own) (hv : ∀ i ∈ vs1, i ∈ own.map (·.2)) (hsub : ∀ i ∈ is, i ∈ own.map (·.2)) (hsub1 : ∀ i ∈ is1, i ∈ vs1)
    (hg : ∀ (s : Shared) (H : Hp) (C : Addr) (cl : List (Str × Addr)) (fp : List Addr), XG (X.blk s H scope (compEnvC scope cl C X.env) fp) tg is wg) (ht : ∀ (s : Shared) (H : Hp) (C : Addr) (cl : List (Str × Addr)) (fp : List Addr), XTs (X.blk s H scope (compEnvC scope cl C X.env) fp) ifs wt)
    (hi1 : ∀ (s : Shared) (H : Hp) (C : Addr) (cl : List (Str × Addr)) (fp : List Addr), XI (X.blk s H scope (compEnvC scope cl C X.env) fp) tg1 iter1 wi1)
    (hg1 : ∀ (s : Shared) (H : Hp) (C : Addr) (cl : List (Str × Addr)) (fp : List Addr), XG (X.blk s H scope (compEnvC scope cl C X.env) fp) tg1 is1 wg1) (ht1 : ∀ (s : Shared) (H : Hp) (C : Addr) (cl : List (Str × Addr)) (fp : List Addr), XTs (X.blk s H scope (compEnvC scope cl C X.env) fp) ifs1 wt1)
    (he : ∀ (s : Shared) (H : Hp) (C : Addr) (cl : List (Str × Addr)) (fp : List Addr), XE (X.blk s H scope (compEnvC scope cl C X.env) fp) elt we) (hs : ∀ x, foldedSetIterable iter X.env x = pure x := by intro _; rfl) (hs1 : ∀ env x, foldedSetIterable iter1 env x = pure x := by intro _ _; rfl) :
    XL X (.ListComp elt [⟨tg, iter, ifs, 0⟩, ⟨tg1, iter1, ifs1, 0⟩] scope pos) (wLc2 (own.map (·.2)) vs1 wi wg wt wi1 wg1 wt1 we) :=
  pe_imp (pe_lc2 (vs1 := vs1) hc hN hi ok hv hg ht hi1 hg1 ht1 he hs hs1) (lc2_of hsub hsub1 hv)
end
/-! sorted(x), x a list of pairs of whole numbers -/
abbrev dPair (p : Int × Int) : PyData := .tuple [.int p.1, .int p.2]
abbrev lePair (p q : Int × Int) : Prop := p.1 < q.1 ∨ (p.1 = q.1 ∧ p.2 ≤ q.2)
@[simp] def wSortP (wa : DE) : DA := fun s Φ => wa s fun x s1 => match x with
  | .list xs => ∃ ps : List (Int × Int), xs = ps.map dPair ∧ ∀ qs : List (Int × Int), qs.Perm ps → qs.Pairwise lePair → Φ (qs.map dPair) s1
  | _ => False
open Classical in
noncomputable def kV (h : Heap) (u : Value) : Int × Int := if e : ∃ p : Int × Int, Srt.IsPair h u p.1 p.2 then e.choose else (0, 0)
theorem isPair_det {h : Heap} {u : Value} {i j m n : Int} (a : Srt.IsPair h u i j) (b : Srt.IsPair h u m n) : i = m ∧ j = n := by
  obtain ⟨a1, o1, t1, u1, n1, e1, g1, c1, d1⟩ := a
  obtain ⟨a2, o2, t2, u2, n2, e2, g2, c2, d2⟩ := b
  rw [e1] at e2
  cases e2
  rw [g1] at g2
  cases g2
  rw [d1] at d2
  injection d2 with d3 _
  have d4 := congrArg Array.toList d3
  simp at d4
  exact ⟨d4.1.1, d4.2.1⟩
theorem kV_eq {h : Heap} {u : Value} {i j : Int} (a : Srt.IsPair h u i j) : kV h u = (i, j) := by
  have e : ∃ p : Int × Int, Srt.IsPair h u p.1 p.2 := ⟨(i, j), a⟩
  unfold kV
  rw [dif_pos e]
  obtain ⟨h1, h2⟩ := isPair_det e.choose_spec a
  exact Prod.ext h1 h2
abbrev ZsOk (K : PySem.W.Frag) (H : Hp) (zs : List (V × (Int × Int))) : Prop := ∀ z ∈ zs, ∃ t, z.1 = V.ref t ∧ SqT K H t [.int z.2.1, .int z.2.2]
def rSortedQ (K : PySem.W.Frag) : List V → Hp → VK → Prop := fun vs H Q => ∃ (a : Addr) (zs : List (V × (Int × Int))), vs = [V.ref a] ∧ SqL K H a (zs.map (·.1)) ∧ ZsOk K H zs ∧
  ∀ (ws : List (V × (Int × Int))) p, ws.Perm zs → (ws.map (·.2)).Pairwise lePair → H p = none → Q (.ref p) (upd H p (.lst (ws.map (·.1))))
theorem zs_back {h : Heap} : ∀ {zs : List (V × (Int × Int))} {its : List Value}, Vals (zs.map (·.1)) its → (∀ z ∈ zs, ∃ t, z.1 = V.ref t ∧ Srt.IsPair h (.ref t) z.2.1 z.2.2) → zs = its.map (fun u => (backV u, kV h u)) ∧ ∀ u ∈ its, (∃ t, u = Value.ref t) ∧ Srt.IsPair h u (kV h u).1 (kV h u).2
  | [], its, r, _ => by
    cases r
    exact ⟨rfl, fun u hu => absurd hu (by simp)⟩
  | z :: zs, its, r, hz => by
    cases r with
    | @cons _ u _ us r1 r2 =>
      obtain ⟨t, e, ip⟩ := hz z List.mem_cons_self
      obtain ⟨h1, h2⟩ := zs_back r2 fun y hy => hz y (List.mem_cons_of_mem _ hy)
      have r1 : RelV z.1 u := r1
      rw [e] at r1
      have eu : u = Value.ref t := r1
      subst eu
      have ek := kV_eq ip
      refine ⟨?_, fun y hy => ?_⟩
      · rw [List.map_cons, ← h1, ek]
        show z :: zs = (V.ref t, _) :: zs
        rw [← e]
      · rcases List.mem_cons.mp hy with e2 | hy
        · rw [e2, ek]
          exact ⟨⟨t, rfl⟩, ip⟩
        · exact h2 y hy
theorem cr_sortedQ {X : Cx} : CallR X (.builtin "sorted") (rSortedQ X.K) := by
  intro pins s σ H vs us Q I r h
  obtain ⟨a, zs, rfl, hs, hx, q⟩ := h
  obtain ⟨its, rv, hl, hz⟩ := I.list hs
  obtain ⟨u, rfl, ru⟩ := vals1 r
  obtain rfl : u = Value.ref a := ru
  have hx' : ∀ z ∈ zs, ∃ t, z.1 = V.ref t ∧ Srt.IsPair s.heap (.ref t) z.2.1 z.2.2 := fun z m => by
    obtain ⟨t, e, ht⟩ := hx z m
    obtain ⟨its2, r2, ⟨o, ho, hc, n, hd⟩, _⟩ := I.tuple ht
    obtain ⟨u1, u2, rfl, ri, rj⟩ := vals2 r2
    obtain ⟨t1, rfl⟩ := ri
    obtain ⟨t2, rfl⟩ := rj
    exact ⟨t, e, t, o, t1, t2, n, rfl, ho, hc, hd⟩
  obtain ⟨e1, e2⟩ := zs_back rv hx'
  refine SrtO.sorted_pairsO (k := kV s.heap) hl.isList (by rw [← rv.length]; exact hz) (fun v hv => (e2 v hv).2) fun h' d out h1 h2 kp hd hn => ?_
  have h3 : ∀ u ∈ out, ∃ a, u = Value.ref a := fun u hu => (e2 u (h2.perm.mem_iff.mp hu)).1
  obtain ⟨n, hn⟩ := hn
  have em : (out.map (fun u => (backV u, kV s.heap u))).map (·.1) = out.map backV := by
    rw [List.map_map]
    rfl
  have key := q (out.map (fun u => (backV u, kV s.heap u))) d (by rw [e1]; exact h2.perm.map _) (by
    rw [List.map_map]
    refine List.pairwise_map.mpr (h1.imp fun {x y} hxy => ?_)
    have a := SrtO.lexB_no.mp hxy
    show lePair (kV s.heap x) (kV s.heap y)
    unfold lePair
    omega) (I.hok.fresh hd)
  rw [em] at key
  refine ⟨.ref d, upd H d (.lst (out.map backV)), I.laid (t' := s.toks) kp hd ⟨?_, out, n, vals_back h3, hn⟩, rfl, key⟩
  have hl2 : (out.map backV).length = (zs.map (·.1)).length := by
    rw [List.length_map, h2.perm.length_eq, rv.length]
  rw [hl2]
  exact hz
theorem dqa_pairs {K : PySem.W.Frag} {F : Hp} : ∀ {vs : List V} {ps : List (Int × Int)}, DqA K F vs (ps.map dPair) → ∃ zs : List (V × (Int × Int)), vs = zs.map (·.1) ∧ ps = zs.map (·.2) ∧ (∀ z ∈ zs, Dq K F z.1 (dPair z.2)) ∧ ZsOk K F zs
  | vs, [], h => by
    cases h
    exact ⟨[], rfl, rfl, fun z m => absurd m (by simp), fun z m => absurd m (by simp)⟩
  | vs, p :: ps, h => by
    cases h with
    | @cons v vs _ _ h1 h2 =>
      obtain ⟨zs, rfl, rfl, h3, h4⟩ := dqa_pairs h2
      refine ⟨(v, p) :: zs, rfl, rfl, fun z m => ?_, fun z m => ?_⟩
      · rcases List.mem_cons.mp m with e | m
        · rw [e]; exact h1
        · exact h3 z m
      · rcases List.mem_cons.mp m with e | m
        · rw [e]
          cases h1 with
          | @tup a xs _ g1 g2 =>
            obtain ⟨v1, v2, rfl, a1, a2⟩ := dqa2 g2
            cases a1
            cases a2
            exact ⟨a, rfl, g1⟩
        · exact h4 z m
theorem dqa_of_zs {K : PySem.W.Frag} {F : Hp} : ∀ {zs : List (V × (Int × Int))}, (∀ z ∈ zs, Dq K F z.1 (dPair z.2)) → DqA K F (zs.map (·.1)) ((zs.map (·.2)).map dPair)
  | [], _ => .nil
  | z :: zs, h => .cons (h z List.mem_cons_self) (dqa_of_zs fun y m => h y (List.mem_cons_of_mem _ m))
section
variable {X : Cx} {pos : Pos}
theorem bb_sorted : bootBuiltins "sorted" = some (.builtin "sorted") := by decide +kernel
theorem xl_sortP {e : Expr} {p : Pos} {wa : DE} (hg : Gl X "sorted") (hm : X.mg "sorted" = none) (ha : XE X e wa) (he : starEach [e] X.env = (false, eval e X.env) :: starEach [] X.env := by rfl) (hpl : (backTo pos (starEach [] X.env)).any (·.1) = false := by rfl) :
    XL X (.Call (.Name "sorted" p) [e] [] pos) (wSortP wa) := pe_imp (pe_callB cr_sortedQ hg hm bb_sorted (pa_cons ha pa_nil he) (by decide) (by decide) he hpl) fun σ H Q h => by
  obtain ⟨G, P, F, s, Φ, R, h, k⟩ := h
  refine ⟨G, P, F, s, _, R, h, fun v F1 H1 s1 x R1 e1 d1 q => ?_⟩
  cases x with
  | list xs =>
    obtain ⟨ps, rfl, q⟩ := q
    cases d1 with
    | @lst a0 vs0 _ h1 h2 =>
      obtain ⟨zs, rfl, rfl, h3, h4⟩ := dqa_pairs h2
      refine ⟨a0, zs, rfl, SqL.of (R1.same _ _ h1), fun z m => ?_, fun ws l pm pw hl => ?_⟩
      · obtain ⟨t, e, ht⟩ := h4 z m
        exact ⟨t, e, same_sqt R1.same ht⟩
      · obtain ⟨R2, n⟩ := nu_new (o := .lst (ws.map (·.1))) R1 hl
        exact k l _ F1 _ s1 _ R2 e1 n upd_same (dqa_of_zs fun z m => h3 z (pm.mem_iff.mp m)) (q (ws.map (·.2)) (pm.map _) pw)
  | _ => exact q.elim
end
end DL
/-! DL: what looks at one's own lists without freezing them; >= of tuples -/
namespace DL
open PySem PySem.Spec PyProof.Rows L2
section
variable {X : Cx} {pos : Pos}
/-- is one's own list not empty -/
@[simp] def wTruO (i : Nat) : DT := fun s Φ => ownAt s i fun xs => Φ (!xs.isEmpty) s
theorem xt_truO {i : Nat} {x : Str} {xp : Pos} (hv : PE X (.Name x xp) (tVar i)) (he : ∀ whole, isTrue (.Name x xp) X.env whole = (do let v ← whole; standAt (Expr.Name x xp).pos; holding [v] (truthy v)) := by intro _; rfl) : XT X (.Name x xp) (wTruO i) :=
  pt_imp (pt_truth hv he) fun σ H Q h => by
    obtain ⟨G, P, F, s, Φ, R, h, k⟩ := h
    obtain ⟨xs, h0, h⟩ := ownAt_of h
    obtain ⟨p, vs, g1, _, _, _, g5, g6⟩ := R.sl i _ h0
    exact ⟨_, g1, _, .inl ⟨_, SqL.of g5, by rw [dqa_empty g6]⟩, k _ F H s R (Same.refl F) h⟩
/-- own == e, own != e -/
@[simp] def wOwnEq (neg : Bool) (i : Nat) (we : DE) : DE := fun s Φ => ownAt s i fun _ => we s fun y s1 => ownAt s1 i fun xs => eqD (.list xs) y ∧ Φ (.bool (if neg then !PyData.eqv (.list xs) y else PyData.eqv (.list xs) y)) s1
theorem own_dp {K : PySem.W.Frag} {G F H : Hp} {P : Option Addr} {σ : L2.St} {s : S} {i : Nat} {xs : List PyData} {a : Addr} (R : Rep K G P F H σ s) (h0 : s.e[i]? = some (.o xs)) (ha : σ[i]? = some (some (.ref a))) (hd : (PyData.list xs).hasDict = false) : Dp K H (.ref a) (.list xs) := by
  obtain ⟨p, vs, g1, _, _, _, g5, g6⟩ := R.sl i _ h0
  rw [ha] at g1
  cases g1
  exact .lst (SqL.of g5) ((g6.mono R.same).dpUp _ _ (by simpa [PyData.hasDict] using hd))
theorem noDict {d : PyData} (h : SeqAt.shaped d = true) : d.hasDict = false := PyData.hasDict_of_canLay _ (SeqAt.canLay_of_shaped h)
theorem xe_ownEq {i : Nat} {x : Str} {xp : Pos} {b : Expr} {wb : DE} (hu : X.A.units + 64 < cLine) (hv : PE X (.Name x xp) (tVar i)) (hb : XE X b wb) (hm : behindInMarks .Eq b = false := by first | exact nobehind _ (by decide) (by decide) | rfl) :
    XE X (.Compare (.Name x xp) [.Eq] [b] pos) (wOwnEq false i wb) := pe_imp (pe_cmpR (op_eqD hu) hv hb hm) fun σ H Q h => by
  obtain ⟨G, P, F, s, Φ, R, h, k⟩ := h
  obtain ⟨xs0, h0, h⟩ := ownAt_of h
  obtain ⟨p, vs, g1, _, _, _, g5, g6⟩ := R.sl i _ h0
  refine ⟨_, g1, G, P, F, s, _, R, h, fun y F2 H2 s2 dy R2 e2 d2 q2 => ?_⟩
  obtain ⟨xs, h1, ⟨sh1, sh2⟩, q2⟩ := ownAt_of q2
  exact ⟨_, _, own_dp R2 h1 g1 (noDict sh1), (d2.mono R2.same).dp (noDict sh2), sh1, sh2, k _ F2 H2 s2 _ R2 e2 (.bl _) q2⟩
theorem xe_ownNe {i : Nat} {x : Str} {xp : Pos} {b : Expr} {wb : DE} (hu : X.A.units + 64 < cLine) (hv : PE X (.Name x xp) (tVar i)) (hb : XE X b wb) (hm : behindInMarks .NotEq b = false := by first | exact nobehind _ (by decide) (by decide) | rfl) :
    XE X (.Compare (.Name x xp) [.NotEq] [b] pos) (wOwnEq true i wb) := pe_imp (pe_cmpR (op_neD hu) hv hb hm) fun σ H Q h => by
  obtain ⟨G, P, F, s, Φ, R, h, k⟩ := h
  obtain ⟨xs0, h0, h⟩ := ownAt_of h
  obtain ⟨p, vs, g1, _, _, _, g5, g6⟩ := R.sl i _ h0
  refine ⟨_, g1, G, P, F, s, _, R, h, fun y F2 H2 s2 dy R2 e2 d2 q2 => ?_⟩
  obtain ⟨xs, h1, ⟨sh1, sh2⟩, q2⟩ := ownAt_of q2
  exact ⟨_, _, own_dp R2 h1 g1 (noDict sh1), (d2.mono R2.same).dp (noDict sh2), sh1, sh2, k _ F2 H2 s2 _ R2 e2 (.bl _) q2⟩
/-! calls that only look: one's own lists as arguments, a flat answer -/
def tAk (K : PySem.W.Frag) (w : DA) : TA := fun σ H Q => ∃ G P F s Φ, Rep K G P F H σ s ∧ w s Φ ∧ ∀ vs F' H' s' xs F2, Rep K G P F' H' σ s' → Same F F' → Same F' F2 → (Same F2 H' ∧ TabsF K F2 H') → DqA K F2 vs xs → Φ xs s' → Q vs H'
abbrev XAk (X : Cx) (es : List Expr) (w : DA) : Prop := PA X es (tAk X.K w)
variable {e : Expr} {es : List Expr}
theorem xk_nil : XAk X [] wNil := pa_imp pa_nil fun σ H Q h => by
  obtain ⟨G, P, F, s, Φ, R, h, k⟩ := h
  exact k [] F H s [] F R (Same.refl F) (Same.refl F) ⟨R.same, R.tabF⟩ .nil h
theorem xk_cons {wa : DE} {wr : DA} (ha : XE X e wa) (hr : XAk X es wr) (hs : starEach (e :: es) X.env = (false, eval e X.env) :: starEach es X.env := by rfl) : XAk X (e :: es) (wCons wa wr) :=
  pa_imp (pa_cons ha hr hs) fun σ H Q h => by
    obtain ⟨G, P, F, s, Φ, R, h, k⟩ := h
    refine ⟨G, P, F, s, _, R, h, fun x F1 H1 s1 dx R1 e1 d1 h1 => ⟨G, P, F1, s1, _, R1, h1, fun xs F2 H2 s2 ds F3 R2 e2 e3 e4 d2 h2 => ?_⟩⟩
    exact k _ F2 H2 s2 _ F3 R2 (e1.trans e2) e3 e4 (.cons (d1.mono (e2.trans e3)) d2) h2
@[simp] def wConsO (i : Nat) (wr : DA) : DA := fun s Φ => ownAt s i fun xs => wr s fun ds s1 => s1.e[i]? = s.e[i]? ∧ Φ (.list xs :: ds) s1
theorem xk_own {i : Nat} {x : Str} {xp : Pos} {wr : DA} (hv : PE X (.Name x xp) (tVar i)) (hr : XAk X es wr) (hs : starEach (.Name x xp :: es) X.env = (false, eval (.Name x xp) X.env) :: starEach es X.env := by rfl) : XAk X (.Name x xp :: es) (wConsO i wr) :=
  pa_imp (pa_cons hv hr hs) fun σ H Q h => by
    obtain ⟨G, P, F, s, Φ, R, h, k⟩ := h
    obtain ⟨xs, h0, h⟩ := ownAt_of h
    obtain ⟨p, vs, g1, _⟩ := R.sl i _ h0
    refine ⟨_, g1, G, P, F, s, _, R, h, fun us F2 H2 s2 ds F3 R2 e2 e3 e4 d2 h2 => ?_⟩
    obtain ⟨es, h2⟩ := h2
    obtain ⟨p', vs', k1, _, _, _, k5, k6⟩ := R2.sl i _ (es.trans h0)
    rw [g1] at k1
    cases k1
    cases hp : F3 p with
    | none =>
      have e5 : Same F3 (upd F3 p (.lst vs')) := same_new hp
      refine k _ F2 H2 s2 _ (upd F3 p (.lst vs')) R2 e2 (e3.trans e5) ⟨fun b o q => ?_, fun b hb => ⟨by
        rw [upd_ne (fun z => by
          have q := (e4.2 b hb).2
          rw [z, k5] at q
          cases q)]
        exact (e4.2 b hb).1, (e4.2 b hb).2⟩⟩ (.cons (.lst upd_same (k6.mono (e3.trans e5))) (d2.mono e5)) h2
      by_cases hb : b = p
      · rw [hb, upd_same] at q
        cases q
        rw [hb]
        exact k5
      · rw [upd_ne hb] at q
        exact e4.1 b o q
    | some o =>
      have ho := e4.1 p o hp
      rw [k5] at ho
      cases ho
      exact k _ F2 H2 s2 _ F3 R2 e2 e3 e4 (.cons (.lst hp (k6.mono e3)) d2) h2
theorem flat_up {K : PySem.W.Frag} {F F' : Hp} {v : V} {d : PyData} (h : Dq K F v d) (f : flatD d = true) : Dq K F' v d := by
  cases h with
  | non => exact .non
  | bl b => exact .bl b
  | int i => exact .int i
  | str x => exact .str x
  | _ => cases f
@[simp] def wCallK (sp : DSp) (wa : DA) : DE := fun s Φ => wa s fun ds s1 => sp ds fun r => flatD r = true ∧ Φ r s1
theorem xe_callK {k : Nat} {f : Addr} {fd : FuncData} {ps : List Str} {x : Str} {p : Pos} {sp : DSp} {wa : DA} (F : FnG X.prog X.w X.K X.mg X.base CX0 k f fd ps (spD X.K sp)) (hgd : X.A.guards = some []) (hr : Room k X.A) (hg : Gl X x) (hm : X.mg x = some (.ref f)) (hk : PySem.W.keepIn X.K (.ref f) = true) (hb : Binds X.K fd ps [])
    (ha : XAk X (e :: es) wa) (hdb : (x == ("__debug__" : Str)) = false := by decide) (he : starEach (e :: es) X.env = (false, eval e X.env) :: starEach es X.env := by rfl) (hpl : (backTo pos (starEach es X.env)).any (·.1) = false := by rfl) :
    XE X (.Call (.Name x p) (e :: es) [] pos) (wCallK sp wa) := pe_imp (pe_callG F hgd hr hg hm hk hb .nil pass0 ha hdb he hpl) fun σ H Q h => by
  obtain ⟨G, P, F, s, Φ, R, h, kk⟩ := h
  refine ⟨G, P, F, s, _, R, h, fun vs F1 H1 s1 ds F2 R1 e1 e2 e3 d1 q => ?_⟩
  show spD X.K sp (vs ++ []) H1 Q E0
  rw [List.append_nil]
  refine ⟨F2, ds, _, e3, d1, q, fun v F' H' x fr dx qx => ?_⟩
  have f0 : Fresh F1 H1 F1 H' := ⟨Same.refl F1, R1.same.trans fr.hh, fr.hh, fun _ _ _ n => n⟩
  exact kk v F1 H' s1 x (R1.fresh f0) e1 (flat_up dx qx.1) qx.2
theorem c_callK {k kX : Nat} {x : Str} {ps : List Str} {p : Pos} {sp : DSp} {wa : DA} (C : Ca X.prog X.w X.K X.mg X.base k x ps (spD X.K sp)) (hgd : X.A.guards = some []) (hr : Room kX X.A) (hk : k ≤ kX) (hg : Gl X x) (ha : XAk X (e :: es) wa)
    (hdb : (x == ("__debug__" : Str)) = false := by decide) (he : starEach (e :: es) X.env = (false, eval e X.env) :: starEach es X.env := by rfl) (hpl : (backTo pos (starEach es X.env)).any (·.1) = false := by rfl) : XE X (.Call (.Name x p) (e :: es) [] pos) (wCallK sp wa) := by
  obtain ⟨f, fd, F, gm, kp, b⟩ := C.ex
  exact xe_callK F hgd (hr.mono hk) hg gm kp b ha hdb he hpl
/-- a new list, one of two -/
@[simp] def wIfL (t : DT) (w u : DA) : DA := fun s Φ => t s fun b s1 => if b = true then w s1 Φ else u s1 Φ
theorem xl_if {c a b : Expr} {t : DT} {w u : DA} (hc : XT X c t) (ha : XL X a w) (hb : XL X b u) : XL X (.IfExp c a b pos) (wIfL t w u) := pe_imp (pe_ifExp hc ha hb) fun σ H Q h => by
  obtain ⟨G, P, F, s, Φ, R, h, k⟩ := h
  refine ⟨G, P, F, s, _, R, h, fun b F1 H1 s1 R1 e1 h1 => ?_⟩
  cases b with
  | true =>
    rw [if_pos rfl] at h1 ⊢
    exact ⟨G, P, F1, s1, _, R1, h1, fun p vs F2 H2 s2 xs R2 e2 n hp d2 h2 => k p vs F2 H2 s2 xs R2 (e1.trans e2) n hp d2 h2⟩
  | false =>
    rw [if_neg Bool.false_ne_true] at h1 ⊢
    exact ⟨G, P, F1, s1, _, R1, h1, fun p vs F2 H2 s2 xs R2 e2 n hp d2 h2 => k p vs F2 H2 s2 xs R2 (e1.trans e2) n hp d2 h2⟩
/-! the same as tests -/
theorem xt_ownEq {i : Nat} {x : Str} {xp : Pos} {b : Expr} {wb : DE} (hu : X.A.units + 64 < cLine) (hv : PE X (.Name x xp) (tVar i)) (hb : XE X b wb) (hm : behindInMarks .Eq b = false := by first | exact nobehind _ (by decide) (by decide) | rfl) :
    XT X (.Compare (.Name x xp) [.Eq] [b] pos) (wTst (wOwnEq false i wb)) := pt_imp (pt_cmpR (op_eqD hu) hv hb hm) fun σ H Q h => by
  obtain ⟨G, P, F, s, Φ, R, h, k⟩ := tst_of σ H Q h
  obtain ⟨xs0, h0, h⟩ := ownAt_of h
  obtain ⟨p, vs, g1, _, _, _, g5, g6⟩ := R.sl i _ h0
  refine ⟨_, g1, G, P, F, s, _, R, h, fun y F2 H2 s2 dy R2 e2 d2 q2 => ?_⟩
  obtain ⟨xs, h1, ⟨sh1, sh2⟩, q2⟩ := ownAt_of q2
  exact ⟨_, _, own_dp R2 h1 g1 (noDict sh1), (d2.mono R2.same).dp (noDict sh2), sh1, sh2, k _ F2 H2 s2 _ R2 e2 (.bl _) q2⟩
theorem xt_ownNe {i : Nat} {x : Str} {xp : Pos} {b : Expr} {wb : DE} (hu : X.A.units + 64 < cLine) (hv : PE X (.Name x xp) (tVar i)) (hb : XE X b wb) (hm : behindInMarks .NotEq b = false := by first | exact nobehind _ (by decide) (by decide) | rfl) :
    XT X (.Compare (.Name x xp) [.NotEq] [b] pos) (wTst (wOwnEq true i wb)) := pt_imp (pt_cmpR (op_neD hu) hv hb hm) fun σ H Q h => by
  obtain ⟨G, P, F, s, Φ, R, h, k⟩ := tst_of σ H Q h
  obtain ⟨xs0, h0, h⟩ := ownAt_of h
  obtain ⟨p, vs, g1, _, _, _, g5, g6⟩ := R.sl i _ h0
  refine ⟨_, g1, G, P, F, s, _, R, h, fun y F2 H2 s2 dy R2 e2 d2 q2 => ?_⟩
  obtain ⟨xs, h1, ⟨sh1, sh2⟩, q2⟩ := ownAt_of q2
  exact ⟨_, _, own_dp R2 h1 g1 (noDict sh1), (d2.mono R2.same).dp (noDict sh2), sh1, sh2, k _ F2 H2 s2 _ R2 e2 (.bl _) q2⟩
theorem chain_of {K : PySem.W.Frag} {r r' : R2} {w w' : W2} {wa wb wc : DE} (O : Op2 K r w) (O' : Op2 K r' w') (σ : L2.St) (H : Hp) (Q : VK) (h : tE K (wChain w w' wa wb wc) σ H Q) : tChain r r' (tE K wa) (tE K wb) (tE K wc) σ H Q := by
  obtain ⟨G, P, F, s, Φ, R, h, k⟩ := h
  refine ⟨G, P, F, s, _, R, h, fun x F1 H1 s1 dx R1 e1 d1 q1 => ⟨G, P, F1, s1, _, R1, q1, fun y F2 H2 s2 dy R2 e2 d2 q2 => ?_⟩⟩
  refine O.run _ _ R2.same (d1.mono e2) d2 q2 fun z F3 H3 dz f dzz q3 => ?_
  have R3 := R2.fresh f
  cases dz with
  | bool t =>
    cases dzz
    refine ⟨t, rfl, ?_⟩
    cases t with
    | true =>
      dsimp only at q3
      rw [if_pos rfl] at q3 ⊢
      refine ⟨G, P, F3, s2, _, R3, q3, fun u F4 H4 s4 du R4 e4 d4 q4 => ?_⟩
      exact O'.run _ _ R4.same (d2.mono (f.ff.trans e4)) d4 q4 fun z2 F5 H5 d5 f5 dq5 q5 => k z2 F5 H5 s4 d5 (R4.fresh f5) ((((e1.trans e2).trans f.ff).trans e4).trans f5.ff) dq5 q5
    | false =>
      dsimp only at q3
      rw [if_neg Bool.false_ne_true] at q3 ⊢
      exact k _ F3 H3 s2 _ R3 ((e1.trans e2).trans f.ff) (.bl false) q3
  | _ => exact q3.elim
theorem xt_chain {a b c : Expr} {op op' : CmpOp} {r r' : R2} {w w' : W2} {wa wb wc : DE} (ho : OpR X (compareOp op) r) (O : Op2 X.K r w) (ho' : OpR X (compareOp op') r') (O' : Op2 X.K r' w') (ha : XE X a wa) (hb : XE X b wb) (hc : XE X c wc) (hm : lastMarks [op, op'] [b, c] = false := by with_unfolding_all rfl) :
    XT X (.Compare a [op, op'] [b, c] pos) (wTst (wChain w w' wa wb wc)) := pt_imp (pt_chain ho ho' ha hb hc hm) fun σ H Q h => chain_of O O' σ H _ (tst_of σ H Q h)
end
end DL
/-! DL: >= of pairs of ints -/
namespace DL
open PySem PySem.Spec PyProof.Rows L2
section
variable {X : Cx} {pos : Pos}
def rGePair (K : PySem.W.Frag) : R2 := fun x y H Q => ∃ (a b : Addr) (i j m n : Int), x = .ref a ∧ y = .ref b ∧ SqT K H a [.int i, .int j] ∧ SqT K H b [.int m, .int n] ∧ Q (.bl (if i = m then decide (n ≤ j) else decide (m ≤ i))) H
theorem beq_dec (c d : Int) : (c == d) = decide (c = d) := by
  by_cases z : c = d
  · rw [decide_eq_true z, z, beq_self_eq_true]
  · rw [decide_eq_false z, beq_eq_false_iff_ne.mpr z]
theorem lex_pair (i j m n : Int) : Ob.lexAt (fun c => if c = 0 then decide (i = m) else decide (j = n)) (fun c => if c = 0 then decide (m ≤ i) else decide (n ≤ j)) true 0 2 = if i = m then decide (n ≤ j) else decide (m ≤ i) := by
  rw [Ob.lexAt_succ, Ob.lexAt_succ, Ob.lexAt_zero]
  by_cases z : i = m
  · rw [if_pos z]
    by_cases z2 : j = n
    · simp [z, z2]
    · simp [z, z2]
  · rw [if_neg z]
    simp [z]
theorem opr_gePair (hu : X.A.units < cLine) : OpR X (compareOp .GtE) (rGePair X.K) := by
  intro pins s σ H x y v u Q I rx ry h
  obtain ⟨a, b, i, j, m, n, hx, hy, ha, hb, q⟩ := h
  subst hx
  subst hy
  have ev : v = Value.ref a := rx
  have eu : u = Value.ref b := ry
  subst ev
  subst eu
  obtain ⟨is, r1, t1, _⟩ := I.tuple ha
  obtain ⟨js, r2, t2, _⟩ := I.tuple hb
  obtain ⟨v1, v2, e1, q1, q2⟩ := Vals.two r1
  obtain ⟨u1, u2, e2, q3, q4⟩ := Vals.two r2
  subst e1
  subst e2
  obtain ⟨k1, rfl⟩ := q1
  obtain ⟨k2, rfl⟩ := q2
  obtain ⟨k3, rfl⟩ := q3
  obtain ⟨k4, rfl⟩ := q4
  have key := Ob.RcOp.tuples_ge (A := X.A) (s := s) (e := fun c => if c = 0 then decide (i = m) else decide (j = n)) (r := fun c => if c = 0 then decide (m ≤ i) else decide (n ≤ j)) t1 t2 hu (fun c h1 h2 => by
    have hc : c = 0 ∨ c = 1 := by
      have h3 : c < 2 := h1
      omega
    rcases hc with rfl | rfl
    · show SeqAt.EqAt _ _ (Value.int i k1) (Value.int m k3) (decide (i = m))
      rw [← beq_dec]
      exact SeqAt.EqAt.int_int _ _ _ _
    · show SeqAt.EqAt _ _ (Value.int j k2) (Value.int n k4) (decide (j = n))
      rw [← beq_dec]
      exact SeqAt.EqAt.int_int _ _ _ _) (fun c h1 h2 _ => by
    have hc : c = 0 ∨ c = 1 := by
      have h3 : c < 2 := h1
      omega
    rcases hc with rfl | rfl
    · exact Ob.RcOp.ge_int i m k1 k3
    · exact Ob.RcOp.ge_int j n k2 k4)
  have key2 := key X.prog X.w X.xe (EP X pins σ Q)
  have e5 : Ob.lexAt (fun c => if c = 0 then decide (i = m) else decide (j = n)) (fun c => if c = 0 then decide (m ≤ i) else decide (n ≤ j)) (decide ((#[Value.int i k1, Value.int j k2] : Array Value).size ≥ (#[Value.int m k3, Value.int n k4] : Array Value).size)) 0 (min (#[Value.int i k1, Value.int j k2] : Array Value).size (#[Value.int m k3, Value.int n k4] : Array Value).size) = if i = m then decide (n ≤ j) else decide (m ≤ i) := lex_pair i j m n
  rw [e5] at key2
  exact key2 ⟨.bl _, H, I, rfl, q⟩
@[simp] def wGePair : W2 := fun x y Φ => ∃ i j m n : Int, x = .tuple [.int i, .int j] ∧ y = .tuple [.int m, .int n] ∧ Φ (.bool (if i = m then decide (n ≤ j) else decide (m ≤ i)))
theorem o_gePair {K : PySem.W.Frag} : Op2 K (rGePair K) wGePair := ⟨fun {F H x y dx dy} Q Φ s d1 d2 w k => by
  obtain ⟨i, j, m, n, rfl, rfl, w⟩ := w
  cases d1 with
  | tup h1 h2 =>
    cases d2 with
    | tup h3 h4 =>
      obtain ⟨v1, v2, rfl, a1, a2⟩ := dqa2 h2
      obtain ⟨u1, u2, rfl, b1, b2⟩ := dqa2 h4
      cases a1
      cases a2
      cases b1
      cases b2
      exact ⟨_, _, _, _, _, _, rfl, rfl, same_sqt s h1, same_sqt s h3, k _ F H _ (Fresh.refl s) (.bl _) w⟩⟩
end
end DL
/-! DL: general lemmas for laws -/
namespace DL
open PySem PySem.Spec PyProof.Rows L2
theorem emod_le' {a m : Int} (h : 0 ≤ a) (hm : 0 < m) : a % m ≤ a := by
  have e := Int.mul_ediv_add_emod a m
  have q : 0 ≤ a / m := Int.ediv_nonneg h (by omega)
  have q2 : 0 ≤ m * (a / m) := Int.mul_nonneg (by omega) q
  omega
theorem take_snoc {α : Type} {xs : List α} {i : Nat} {x : α} (h : xs[i]? = some x) : xs.take (i + 1) = xs.take i ++ [x] := by
  rw [List.take_add_one, h]
  rfl
theorem cutD_1 (x : PyData) (xs : List PyData) (hl : xs.length ≤ 1000000): DL.cutD (x :: xs) (some 1) none = xs := by
  have e : min 1 (xs.length + 1) = 1 := by omega
  simp [DL.cutD, HT.sIx, e]
theorem mem_signs {z : Str} {c : Nat} : inF (.str ⟨#[c]⟩) (signsOf z) = true ↔ c ∈ z.cps.toList := by
  unfold inF signsOf
  rw [List.any_eq_true]
  constructor
  · rintro ⟨y, hy, h⟩
    obtain ⟨d, hd, rfl⟩ := List.mem_map.mp hy
    have : (⟨#[d]⟩ : Str) = ⟨#[c]⟩ := by simpa [eqF] using h
    cases this
    exact hd
  · intro h
    exact ⟨_, List.mem_map.mpr ⟨c, h, rfl⟩, by simp [eqF]⟩
theorem not_mem_signs {z : Str} {s : Str} (h : ∀ c, s ≠ ⟨#[c]⟩) : inF (.str s) (signsOf z) = false := by
  unfold inF signsOf
  rw [List.any_eq_false]
  intro y hy
  obtain ⟨d, hd, rfl⟩ := List.mem_map.mp hy
  intro e
  exact h d (by simpa [eqF] using e : (⟨#[d]⟩ : Str) = s).symm
theorem signs_flat (z : Str) : (signsOf z).all flatD = true := by
  unfold signsOf
  rw [List.all_map]
  exact List.all_eq_true.mpr fun x _ => rfl
theorem sIx_in {n d : Nat} {v : Int} (h0 : 0 ≤ v) (h1 : v ≤ n) : HT.sIx n d (some v) = v.toNat := by
  unfold HT.sIx
  simp only
  rw [if_neg (by omega)]
  omega
theorem sIx_over {n d : Nat} {v : Int} (h0 : 0 ≤ v) (h1 : n ≤ v) : HT.sIx n d (some v) = n := by
  unfold HT.sIx
  simp only
  rw [if_neg (by omega)]
  omega
theorem slice_sign {w : Str} {i : Nat} (h : i < w.length) : cutS w (some (i : Int)) (some ((i : Int) + 1)) = ⟨#[w.cps[i]'h]⟩ := by
  unfold cutS
  rw [sIx_in (n := w.length) (by omega) (by omega), sIx_in (n := w.length) (by omega) (by omega)]
  have e1 : ((i : Int) + 1).toNat - (i : Int).toNat = 1 := by omega
  have e2 : (i : Int).toNat = i := by omega
  have hl : i < w.cps.toList.length := by rw [Array.length_toList]; exact h
  rw [e1, e2, List.drop_eq_getElem_cons hl]
  simp
  rfl
theorem slice_end {w : Str} : cutS w (some (w.length : Int)) (some ((w.length : Int) + 1)) = ⟨#[]⟩ := by
  unfold cutS
  rw [sIx_in (n := w.length) (v := (w.length : Int)) (by omega) (by omega), sIx_over (n := w.length) (by omega) (by omega)]
  simp
theorem lc_mapl {α : Type} {vs : List Nat} {e0 : List Sl} {wg : DG} {we : DE} {Φ : List PyData → List Int → Prop} (l : List α) (F G : α → PyData) {q : List Int} (hl : l.length ≤ 16777216)
    (hs : ∀ a, a ∈ l → ∀ Θ : S → PyData → S → Prop, (∀ s1 s3, s3.e = s1.e → s3.q = q → Θ s1 (G a) s3) → wg (F a) ⟨wipeE e0 vs, q⟩ fun s1 => wipeE s1.e vs = wipeE e0 vs ∧ we s1 (Θ s1))
    (hd : Φ (l.map G) q) : lcW vs e0 wg wYes we Φ (l.map F) [] q := by
  refine lc_inv (l.map F) (fun pre acc q' => acc = (l.take pre.length).map G ∧ q' = q) ⟨rfl, rfl⟩ (fun pre x post acc q' e h Ψ k => ?_) (fun acc q' h => by rw [h.1, h.2, List.length_map, List.take_length]; exact hd)
  obtain ⟨rfl, rfl⟩ := h
  have hx : (l.map F)[pre.length]? = some x := by rw [e]; simp
  rw [List.getElem?_map] at hx
  cases ha : l[pre.length]? with
  | none =>
    rw [ha] at hx
    cases hx
  | some a =>
    rw [ha] at hx
    cases hx
    have hlen : ((l.take pre.length).map G).length < sizeLine := sz_lt (by
      have := (List.getElem?_eq_some_iff.mp ha).1
      rw [List.length_map, List.length_take]
      omega)
    have r := hs a (List.mem_of_getElem? ha) (fun s1 y s3 => s3.e = s1.e ∧ ((l.take pre.length).map G).length < sizeLine ∧ Ψ ((l.take pre.length).map G ++ [y]) s3.q)
      (fun s1 s3 h1 h2 => ⟨h1, hlen, k _ _ ⟨by rw [List.length_append, List.length_singleton, take_snoc ha, List.map_append]; rfl, h2⟩⟩)
    simp only [wYes, true_and, if_true]
    exact r
theorem lc_filt {vs : List Nat} {e0 : List Sl} {wg : DG} {wt : DT} {we : DE} {Φ : List PyData → List Int → Prop} {lo : Int} {n : Nat} (p : Nat → Bool) (F : Nat → PyData) {q : List Int} (hl : n ≤ 16777216)
    (hs : ∀ i, i < n → ∀ (Y : S → PyData → S → Prop) (N : S → Prop), (p i = true → ∀ s1 s3, s3.e = s1.e → s3.q = q → Y s1 (F i) s3) → (p i = false → ∀ s2, s2.q = q → N s2) →
      wg (.int (lo + (i : Int))) ⟨wipeE e0 vs, q⟩ fun s1 => wipeE s1.e vs = wipeE e0 vs ∧ wt s1 fun b s2 => s2.e = s1.e ∧ if b = true then we s2 (Y s1) else N s2)
    (hd : Φ (((List.range n).filter p).map F) q) : lcW vs e0 wg wt we Φ (rangeD lo n) [] q := by
  refine lc_inv (rangeD lo n) (fun pre acc q' => acc = ((List.range pre.length).filter p).map F ∧ q' = q) ⟨rfl, rfl⟩ (fun pre x post acc q' e h Ψ k => ?_) (fun acc q' h => by rw [h.1, h.2, rangeD_len]; exact hd)
  obtain ⟨rfl, rfl⟩ := h
  have hx : (rangeD lo n)[pre.length]? = some x := by rw [e]; simp
  obtain ⟨hi, rfl⟩ := rangeD_get hx
  have hlen : (((List.range pre.length).filter p).map F).length < sizeLine := sz_lt (by
    have := List.length_filter_le p (List.range pre.length)
    rw [List.length_map]
    rw [List.length_range] at this
    omega)
  refine hs pre.length hi (fun s1 y s3 => s3.e = s1.e ∧ (((List.range pre.length).filter p).map F).length < sizeLine ∧ Ψ (((List.range pre.length).filter p).map F ++ [y]) s3.q) (fun s2 => Ψ (((List.range pre.length).filter p).map F) s2.q)
    (fun hp s1 s3 h1 h2 => ⟨h1, hlen, k _ _ ⟨?_, h2⟩⟩) (fun hp s2 h2 => k _ _ ⟨?_, h2⟩)
  · rw [List.length_append, List.length_singleton, List.range_succ, List.filter_append, List.map_append]
    simp [hp]
  · rw [List.length_append, List.length_singleton, List.range_succ, List.filter_append, List.map_append]
    simp [hp]
/-! sums -/
theorem sum_filter {α : Type} (p : α → Bool) (f : α → Nat) : ∀ l : List α, (∀ a, a ∈ l → p a = false → f a = 0) → ((l.filter p).map f).sum = (l.map f).sum
  | [], _ => rfl
  | a :: l, h => by
    have ih := sum_filter p f l fun b hb => h b (List.mem_cons_of_mem _ hb)
    cases hp : p a
    · rw [List.filter_cons_of_neg (by simp [hp]), ih, List.map_cons, List.sum_cons, h a List.mem_cons_self hp, Nat.zero_add]
    · rw [List.filter_cons_of_pos hp, List.map_cons, List.sum_cons, ih, List.map_cons, List.sum_cons]
def sumN (n : Nat) (f : Nat → Nat) : Nat := ((List.range n).map f).sum
theorem sumN_succ (n : Nat) (f : Nat → Nat) : sumN (n + 1) f = sumN n f + f n := by
  unfold sumN
  rw [List.range_succ, List.map_append, List.sum_append]
  simp
theorem sumN_zero {f : Nat → Nat} : ∀ {n : Nat}, sumN n f ≠ 0 ↔ ∃ i, i < n ∧ f i ≠ 0
  | 0 => ⟨fun h => absurd rfl h, fun ⟨i, h, _⟩ => by omega⟩
  | n + 1 => by
    rw [sumN_succ]
    constructor
    · intro h
      by_cases h0 : f n = 0
      · obtain ⟨i, h1, h2⟩ := sumN_zero.mp (show sumN n f ≠ 0 by omega)
        exact ⟨i, by omega, h2⟩
      · exact ⟨n, by omega, h0⟩
    · rintro ⟨i, h1, h2⟩
      by_cases h0 : i = n
      · subst h0
        omega
      · have := sumN_zero.mpr ⟨i, show i < n by omega, h2⟩
        omega
theorem succ_le_pow (L : Nat) : L + 1 ≤ 2 ^ L := Nat.lt_two_pow_self
theorem sum_cast {α : Type} (f : α → Nat) (l : List α) : (l.map fun a => ((f a : Nat) : Int)).sum = ((l.map f).sum : Nat) := by
  induction l with
  | nil => rfl
  | cons a l ih => rw [List.map_cons, List.sum_cons, ih, List.map_cons, List.sum_cons, Int.natCast_add]
def delta (b e : Nat) : Nat := if b = e then 1 else 0
theorem delta_int (b e : Nat) : (if (b : Int) = (e : Int) then (1 : Int) else 0) = ((delta b e : Nat) : Int) := by
  unfold delta
  by_cases h : b = e
  · rw [if_pos h, if_pos (by omega)]
    rfl
  · rw [if_neg h, if_neg (by omega)]
    rfl
theorem pick_go {m : Int} {q : List Int} {Φ : PyData → List Int → Prop} (hm : 0 < m) (hq : PoolOk q) (h : ∀ (n : Nat) q', PoolOk q' → (n : Int) < m → n < 60 → Φ (.int (n : Nat)) q') : sp_pick [.int m] q Φ :=
  ⟨m, rfl, hm, hq, fun n q' hq' h0 h1 h2 => by
    obtain ⟨k, rfl⟩ := Int.eq_ofNat_of_zero_le h0
    exact h k q' hq' h1 (by omega)⟩
theorem join_foldl (acc : Array Nat) : ∀ zs : List Str, (zs.foldl (fun acc p => acc ++ (#[] : Array Nat) ++ p.cps) acc).toList = acc.toList ++ (zs.map fun z => z.cps.toList).flatten
  | [] => by simp
  | z :: zs => by
    rw [List.foldl_cons, join_foldl _ zs]
    simp
theorem join_cps (zs : List Str) : (Txt.join (Str.ofString "") zs).cps.toList = (zs.map fun z => z.cps.toList).flatten := by
  have e : (Str.ofString "").cps = #[] := by decide +kernel
  show (List.foldl (fun acc p => acc ++ (Str.ofString "").cps ++ p.cps) (zs.headD Str.empty).cps (zs.drop 1)).toList = _
  rw [e, join_foldl]
  cases zs with
  | nil => rfl
  | cons z zs => rfl
theorem join_len (zs : List Str) : (Txt.join (Str.ofString "") zs).length = (zs.map fun z => z.length).sum := by
  have h := congrArg List.length (join_cps zs)
  rw [Array.length_toList, List.length_flatten, List.map_map] at h
  rw [show (Txt.join (Str.ofString "") zs).length = (Txt.join (Str.ofString "") zs).cps.size from rfl, h]
  congr 1
theorem empty_len : (Str.ofString "").length = 0 := by decide +kernel
def sg (c : Nat) : Str := ⟨#[c]⟩
theorem sg_len (c : Nat) : (sg c).length = 1 := rfl
theorem sum_le {l : List Nat} {m : Nat} (h : ∀ a, a ∈ l → a ≤ m) : l.sum ≤ l.length * m := by
  induction l with
  | nil => exact Nat.zero_le _
  | cons a l ih =>
    rw [List.sum_cons, List.length_cons, Nat.succ_mul]
    have h1 := h a List.mem_cons_self
    have h2 := ih fun b hb => h b (List.mem_cons_of_mem _ hb)
    omega
theorem join_signs (cs : List Nat) : (Txt.join (Str.ofString "") (cs.map sg)).cps.toList = cs := by
  rw [join_cps, List.map_map]
  induction cs with
  | nil => rfl
  | cons c cs ih =>
    rw [List.map_cons, List.flatten_cons, ih]
    rfl
theorem str_at {z : Str} {n : Nat} (h : n < z.length) : atI z.cps.toList (n : Int) = some (z.cps[n]'h) := by
  rw [DL.atI_nat (by rw [Array.length_toList]; exact h), Array.getElem?_toList]
  exact Array.getElem?_eq_getElem h
theorem str_mem {z : Str} {n : Nat} (h : n < z.length) : z.cps[n]'h ∈ z.cps.toList := by
  rw [Array.mem_toList_iff]
  exact Array.getElem_mem h
theorem lay_signs : ∀ cs : List Nat, (∀ c, c ∈ cs → c < 1114112) → PyData.canLayAll0 (cs.map fun c => PyData.str (sg c)) = true
  | [], _ => rfl
  | c :: cs, h => by
    rw [List.map_cons]
    show (PyData.canLay0 (.str (sg c)) && PyData.canLayAll0 _) = true
    rw [lay_signs cs fun d hd => h d (List.mem_cons_of_mem _ hd), Bool.and_true]
    have := h c List.mem_cons_self
    simp [PyData.canLay0, PyData.strOk, sg]
    exact this
theorem depth_strs : ∀ zs : List Str, PyData.depthAll (zs.map PyData.str) ≤ 1
  | [] => by simp [PyData.depthAll]
  | z :: zs => by
    have := depth_strs zs
    rw [List.map_cons]
    simp only [PyData.depthAll, PyData.depth]
    omega
theorem shaped_signs (cs : List Nat) (h : ∀ c, c ∈ cs → c < 1114112) : SeqAt.shaped (.list (cs.map fun c => PyData.str (sg c))) = true := by
  unfold SeqAt.shaped
  have h1 : PyData.canLay0 (.list (cs.map fun c => PyData.str (sg c))) = true := lay_signs cs h
  rw [h1, Bool.true_and, decide_eq_true_eq]
  have h2 := depth_strs (cs.map sg)
  rw [List.map_map] at h2
  have h3 : (PyData.list (cs.map fun c => PyData.str (sg c))).depth ≤ 1 + PyData.depthAll (cs.map fun c => PyData.str (sg c)) := by
    simp only [PyData.depth]
    omega
  exact Nat.le_trans h3 (Nat.le_trans (Nat.add_le_add_left h2 1) (by decide))
theorem cutS_to {w : Str} {v : Int} (h : 0 ≤ v) : (cutS w none (some v)).length = min v.toNat w.length := by
  unfold cutS HT.sIx
  simp only
  rw [if_neg (by omega)]
  show (List.take _ (List.drop 0 w.cps.toList)).toArray.size = _
  rw [List.size_toArray, List.drop_zero, List.length_take, Array.length_toList]
  show min (min v.toNat w.length - 0) w.length = _
  omega
theorem cutS_from {w : Str} {v : Int} (h : 0 ≤ v) : (cutS w (some v) none).length = w.length - min v.toNat w.length := by
  unfold cutS HT.sIx
  simp only
  rw [if_neg (by omega)]
  show (List.take _ (List.drop _ w.cps.toList)).toArray.size = _
  rw [List.size_toArray, List.length_take, List.length_drop, Array.length_toList]
  show min (w.length - min v.toNat w.length) (w.length - min v.toNat w.length) = _
  omega
theorem abc_cps : (Str.ofString "abcdefghijklmnopqrstuvwxyz").cps.toList = (List.range 26).map fun t => 97 + t := by decide +kernel
theorem abc_at {t : Nat} (h : t < 26) : atI (Str.ofString "abcdefghijklmnopqrstuvwxyz").cps.toList (t : Int) = some (97 + t) := by
  rw [abc_cps, DL.atI_nat (by rw [List.length_map, List.length_range]; exact h), List.getElem?_map, List.getElem?_range h]
  rfl
theorem odd_at {i : Nat} (h : i < 6) : atI [PyData.int 1, .int 3, .int 5, .int 7, .int 9, .int 11] (i : Int) = some (.int ((2 * i + 1 : Nat) : Int)) := by
  rw [DL.atI_nat (by simpa using h)]
  have h6 : i = 0 ∨ i = 1 ∨ i = 2 ∨ i = 3 ∨ i = 4 ∨ i = 5 := by omega
  rcases h6 with rfl | rfl | rfl | rfl | rfl | rfl <;> rfl
structure Shw (s p : Nat) (x : PyData) : Prop where
  ok : x.showable = true
  nd : x.hasDict = false
  dp : x.depth ≤ p
  le : x.shown.length ≤ s
structure ShwA (s p : Nat) (xs : List PyData) : Prop where
  ok : PyData.showableAll xs = true
  nd : PyData.hasDictAll xs = false
  dp : PyData.depthAll xs ≤ p
  le : piled (PyData.shownAll xs) ≤ s
theorem shwA_nil (p : Nat) : ShwA 0 p [] := ⟨rfl, rfl, Nat.zero_le _, Nat.le_refl _⟩
theorem shwA_cons {s t p : Nat} {x : PyData} {xs : List PyData} (h : Shw s p x) (g : ShwA t p xs) : ShwA (s + 2 + t) p (x :: xs) where
  ok := by
    show (x.showable && PyData.showableAll xs) = true
    rw [h.ok, g.ok]
    rfl
  nd := by
    show (x.hasDict || PyData.hasDictAll xs) = false
    rw [h.nd, g.nd]
    rfl
  dp := Nat.max_le.mpr ⟨h.dp, g.dp⟩
  le := by
    show piled (x.shown :: PyData.shownAll xs) ≤ _
    rw [piled_cons]
    have := h.le
    have := g.le
    omega
theorem shwA_all {s p : Nat} : ∀ {xs : List PyData}, (∀ x, x ∈ xs → Shw s p x) → ShwA (xs.length * (s + 2)) p xs
  | [], _ => by
    rw [List.length_nil, Nat.zero_mul]
    exact shwA_nil p
  | x :: xs, h => by
    rw [List.length_cons, Nat.succ_mul, Nat.add_comm]
    exact shwA_cons (h x List.mem_cons_self) (shwA_all fun y hy => h y (List.mem_cons_of_mem _ hy))
theorem shw_mono {s t p r : Nat} {x : PyData} (h : Shw s p x) (a : s ≤ t) (b : p ≤ r) : Shw t r x := ⟨h.ok, h.nd, Nat.le_trans h.dp b, Nat.le_trans h.le a⟩
theorem shw_list {s p : Nat} {xs : List PyData} (h : ShwA s p xs) : Shw (s + 2) (p + 1) (.list xs) where
  ok := h.ok
  nd := h.nd
  dp := Nat.succ_le_succ h.dp
  le := by
    show (textFrom 0 "[" (PyData.shownAll xs) ++ ("]" : Str)).length ≤ _
    rw [Str.length_append]
    have h1 := textFrom_len_le (PyData.shownAll xs) 0 "["
    have h2 := h.le
    have h3 : piled (PyData.shownAll xs) = ((PyData.shownAll xs).map (·.length)).sum + 2 * (PyData.shownAll xs).length := by
      unfold piled
      induction PyData.shownAll xs with
      | nil => rfl
      | cons a l ih =>
        rw [List.map_cons, List.sum_cons, ih, List.map_cons, List.sum_cons, List.length_cons]
        omega
    have h4 : ("[" : Str).length = 1 := by decide +kernel
    have h5 : ("]" : Str).length = 1 := by decide +kernel
    omega
theorem shw_tuple {s p : Nat} {x : PyData} {xs : List PyData} (h : ShwA s p (x :: xs)) : Shw (s + 1) (p + 1) (.tuple (x :: xs)) where
  ok := h.ok
  nd := h.nd
  dp := Nat.succ_le_succ h.dp
  le := by
    show (("(" : Str) ++ Str.join ", " (PyData.shownAll (x :: xs)) ++ ((if (PyData.shownAll (x :: xs)).length == 1 then ",)" else ")" : String) : Str)).length ≤ _
    rw [Str.length_append, Str.length_append]
    have h1 := join_length_add (PyData.shownAll (x :: xs)) (by
      show x.shown :: PyData.shownAll xs ≠ []
      simp)
    have h2 := h.le
    have h4 : ("(" : Str).length = 1 := by decide +kernel
    have h5 : ((if (PyData.shownAll (x :: xs)).length == 1 then ",)" else ")" : String) : Str).length ≤ 2 := by
      split <;> decide +kernel
    omega
theorem shw_str {z : Str} (h : ∀ c, c ∈ z.cps.toList → c < 1114112) : Shw (10 * z.length + 2) 0 (.str z) := ⟨rfl, rfl, Nat.le_refl _, StrLaws.reprText_len z fun c hc => Nat.lt_trans (h c hc) (by decide)⟩
theorem shw_none : Shw 4 0 .none := ⟨rfl, rfl, Nat.le_refl _, by decide +kernel⟩
theorem shw_small {n : Nat} (h : n ≤ 8) : Shw 4 0 (.int (n : Nat)) := by
  have hc : n = 0 ∨ n = 1 ∨ n = 2 ∨ n = 3 ∨ n = 4 ∨ n = 5 ∨ n = 6 ∨ n = 7 ∨ n = 8 := by omega
  rcases hc with rfl | rfl | rfl | rfl | rfl | rfl | rfl | rfl | rfl
  all_goals exact ⟨by decide +kernel, rfl, Nat.le_refl _, by decide +kernel⟩
theorem shw_up {s p q : Nat} {x : PyData} (h : Shw s p x) (a : p ≤ q) : Shw s q x := shw_mono h (Nat.le_refl _) a
theorem cutD_mem {xs : List PyData} {l u : Option Int} {y : PyData} (h : y ∈ DL.cutD xs l u) : y ∈ xs := List.mem_of_mem_drop (List.mem_of_mem_take h)
theorem cutD_len (xs : List PyData) (l u : Option Int) : (DL.cutD xs l u).length ≤ xs.length := by
  unfold DL.cutD
  rw [List.length_take, List.length_drop]
  omega
theorem lc_pred {P : PyData → Prop} {m : Nat} {vs : List Nat} {e0 : List Sl} {wg : DG} {we : DE} {Φ : List PyData → List Int → Prop} {q : List Int} (xs : List PyData) (hq : PoolOk q) (hm : xs.length ≤ m) (hm2 : m ≤ 10000)
    (hs : ∀ x q, x ∈ xs → PoolOk q → ∀ Θ : S → PyData → S → Prop, (∀ s1 y s3, s3.e = s1.e → PoolOk s3.q → P y → Θ s1 y s3) → wg x ⟨wipeE e0 vs, q⟩ fun s1 => wipeE s1.e vs = wipeE e0 vs ∧ we s1 (Θ s1))
    (hd : ∀ ys q, PoolOk q → ys.length ≤ m → (∀ y, y ∈ ys → P y) → Φ ys q) : lcW vs e0 wg wYes we Φ xs [] q := by
  refine lc_inv xs (fun pre acc q' => PoolOk q' ∧ acc.length = pre.length ∧ ∀ y, y ∈ acc → P y) ⟨hq, rfl, by simp⟩ (fun pre x post acc q' e h Ψ k => ?_) (fun acc q' h => hd acc q' h.1 (by omega) h.2.2)
  obtain ⟨hq', hl, hp⟩ := h
  have hlen : acc.length < sizeLine := sz_lt (by
    rw [e] at hm
    simp at hm
    omega)
  have r := hs x q' (by rw [e]; simp) hq' (fun s1 y s3 => s3.e = s1.e ∧ acc.length < sizeLine ∧ Ψ (acc ++ [y]) s3.q) (fun s1 y s3 h1 h2 h3 => ⟨h1, hlen, k _ _ ⟨h2, by simp [hl], fun u hu => by
    rcases List.mem_append.mp hu with hu | hu
    · exact hp u hu
    · rw [List.mem_singleton.mp hu]
      exact h3⟩⟩)
  simp only [wYes, true_and, if_true]
  exact r
end DL
/-! machines as data, numbers of words -/
namespace DL
open PySem PySem.Spec PyProof.Rows L2
def mkL (n : Nat) (f : Nat → PyData) : List PyData := (List.range n).map f
theorem mkL_len (n : Nat) (f : Nat → PyData) : (mkL n f).length = n := by
  unfold mkL
  rw [List.length_map, List.length_range]
theorem mkL_get {n : Nat} {f : Nat → PyData} {i : Nat} (h : i < n) : (mkL n f)[i]? = some (f i) := by
  unfold mkL
  rw [List.getElem?_map, List.getElem?_range h]
  rfl
theorem atI_mkL {n : Nat} {f : Nat → PyData} {i : Nat} (h : i < n) : atI (mkL n f) (i : Int) = some (f i) := by
  rw [atI_nat (by rw [mkL_len]; exact h), mkL_get h]
theorem mkL_congr {n : Nat} {f g : Nat → PyData} (h : ∀ i, i < n → f i = g i) : mkL n f = mkL n g := by
  unfold mkL
  exact List.map_congr_left fun i hi => h i (List.mem_range.mp hi)
theorem mkL_app (n : Nat) (f : Nat → PyData) : mkL n f ++ [f n] = mkL (n + 1) f := by
  unfold mkL
  rw [List.range_succ, List.map_append]
  rfl
theorem mkL_mem {n : Nat} {f : Nat → PyData} {x : PyData} (h : x ∈ mkL n f) : ∃ i, i < n ∧ x = f i := by
  unfold mkL at h
  obtain ⟨i, hi, rfl⟩ := List.mem_map.mp h
  exact ⟨i, List.mem_range.mp hi, rfl⟩
theorem atI_end {α : Type} (xs : List α) (x : α) : atI (xs ++ [x]) (-1) = some x := by
  unfold atI ixN
  rw [if_neg (by omega), if_pos (by simp; omega)]
  show (xs ++ [x])[(-1 + ((xs ++ [x]).length : Int)).toNat]? = some x
  have e : (-1 + ((xs ++ [x]).length : Int)).toNat = xs.length := by simp; omega
  rw [e]
  simp
abbrev mkB (n : Nat) (E : Nat → Bool) : List PyData := mkL n fun i => .bool (E i)
abbrev mkM (n m : Nat) (g : Nat → Nat → Nat) : List PyData := mkL n fun b => .list (mkI m (g b))
theorem mkI_L (n : Nat) (f : Nat → Nat) : mkI n f = mkL n fun i => .int (f i : Nat) := rfl
/-- a list of things of one kind is a map of places -/
theorem mkL_of {α : Type} [Inhabited α] {c : α → PyData} {Q : α → Prop} : ∀ {xs : List PyData}, (∀ x, x ∈ xs → ∃ v, Q v ∧ x = c v) → ∃ f : Nat → α, xs = mkL xs.length (fun i => c (f i)) ∧ ∀ i, i < xs.length → Q (f i) := fun {xs} h => by
  classical
  have h2 : ∀ i, i < xs.length → ∃ v, Q v ∧ xs[i]? = some (c v) := fun i hi => by
    obtain ⟨v, q, e⟩ := h xs[i] (List.getElem_mem hi)
    exact ⟨v, q, by rw [List.getElem?_eq_getElem hi, e]⟩
  refine ⟨fun i => if hi : i < xs.length then (h2 i hi).choose else default, ?_, fun i hi => ?_⟩
  · apply List.ext_getElem?
    intro i
    by_cases hi : i < xs.length
    · rw [mkL_get hi]
      show xs[i]? = some (c (if hi : i < xs.length then (h2 i hi).choose else default))
      rw [dif_pos hi]
      exact (h2 i hi).choose_spec.2
    · rw [List.getElem?_eq_none (by omega), List.getElem?_eq_none (by rw [mkL_len]; omega)]
  · show Q (if hi : i < xs.length then (h2 i hi).choose else default)
    rw [dif_pos hi]
    exact (h2 i hi).choose_spec.1
structure MachOk (L n : Nat) (T : Nat → Nat → Nat) : Prop where
  pos : 1 ≤ n
  lt : ∀ s a, s < n → a < L → T s a < n
abbrev machD (L n : Nat) (T : Nat → Nat → Nat) (E : Nat → Bool) : PyData := .tuple [.list (mkM n L T), .list (mkB n E)]
/-- rows of numbers are a table -/
theorem mkM_of {L m : Nat} {xs : List PyData} (h : ∀ x, x ∈ xs → ∃ f : Nat → Nat, (∀ a, a < L → f a < m) ∧ x = .list (mkI L f)) : ∃ T : Nat → Nat → Nat, xs = mkM xs.length L T ∧ ∀ s a, s < xs.length → a < L → T s a < m := by
  obtain ⟨T, e, q⟩ := mkL_of (c := fun f : Nat → Nat => PyData.list (mkI L f)) (Q := fun f => ∀ a, a < L → f a < m) h
  exact ⟨T, e, fun s a hs ha => q s hs a ha⟩
theorem mkI_of {m : Nat} {xs : List PyData} (h : ∀ x, x ∈ xs → ∃ v : Nat, v < m ∧ x = .int (v : Nat)) : ∃ f : Nat → Nat, xs = mkI xs.length f ∧ ∀ a, a < xs.length → f a < m := by
  obtain ⟨T, e, q⟩ := mkL_of (c := fun v : Nat => PyData.int (v : Nat)) (Q := fun v => v < m) h
  exact ⟨T, e, q⟩
theorem mkB_of {xs : List PyData} (h : ∀ x, x ∈ xs → ∃ b : Bool, x = .bool b) : ∃ f : Nat → Bool, xs = mkB xs.length f := by
  obtain ⟨T, e, q⟩ := mkL_of (c := fun v : Bool => PyData.bool v) (Q := fun _ => True) fun x hx => by
    obtain ⟨b, e⟩ := h x hx
    exact ⟨b, True.intro, e⟩
  exact ⟨T, e⟩
/-! numbers of words -/
theorem sumN_congr {n : Nat} {f g : Nat → Nat} (h : ∀ i, i < n → f i = g i) : sumN n f = sumN n g := by
  unfold sumN
  rw [List.map_congr_left fun i hi => h i (List.mem_range.mp hi)]
theorem sumN_add (n : Nat) (f g : Nat → Nat) : sumN n (fun i => f i + g i) = sumN n f + sumN n g := by
  induction n with
  | zero => rfl
  | succ n ih =>
    rw [sumN_succ, sumN_succ, sumN_succ, ih]
    omega
theorem sumN_mul (n c : Nat) (f : Nat → Nat) : sumN n (fun i => c * f i) = c * sumN n f := by
  induction n with
  | zero => rfl
  | succ n ih => rw [sumN_succ, sumN_succ, ih, Nat.mul_add]
theorem sumN_0 (n : Nat) : sumN n (fun _ => 0) = 0 := by
  induction n with
  | zero => rfl
  | succ n ih => rw [sumN_succ, ih]
theorem sumN_setF {n t v : Nat} {f h : Nat → Nat} (ht : t < n) : sumN n (fun i => setF f t (f t + v) i * h i) = sumN n (fun i => f i * h i) + v * h t := by
  induction n with
  | zero => omega
  | succ n ih =>
    rw [sumN_succ, sumN_succ]
    by_cases e : t = n
    · subst e
      rw [setF_same, Nat.add_mul, sumN_congr (g := fun i => f i * h i) fun i hi => by rw [setF_ne (Nat.ne_of_lt hi)]]
      omega
    · rw [ih (by omega), setF_ne (fun z => e z.symm)]
      omega
def bk (L : Nat) (T : Nat → Nat → Nat) : Nat → (Nat → Nat) → Nat → Nat
  | 0, h, s => h s
  | k + 1, h, s => sumN L fun a => bk L T k h (T s a)
def bk1 (L : Nat) (T : Nat → Nat → Nat) (h : Nat → Nat) (s : Nat) : Nat := sumN L fun a => h (T s a)
theorem bk_comm (L : Nat) (T : Nat → Nat → Nat) : ∀ (k : Nat) (h : Nat → Nat) (s : Nat), bk L T (k + 1) h s = bk L T k (bk1 L T h) s
  | 0, h, s => rfl
  | k + 1, h, s => by
    show sumN L (fun a => bk L T (k + 1) h (T s a)) = sumN L fun a => bk L T k (bk1 L T h) (T s a)
    exact sumN_congr fun a _ => bk_comm L T k h (T s a)
def eN (E : Nat → Bool) (s : Nat) : Nat := if E s = true then 1 else 0
def cnt (L : Nat) (T : Nat → Nat → Nat) (E : Nat → Bool) (k s : Nat) : Nat := bk L T k (eN E) s
/-- words as lists of places of signs, in their order -/
def wl (L : Nat) : Nat → List (List Nat)
  | 0 => [[]]
  | k + 1 => (wl L k).flatMap fun w => (List.range L).map fun a => w ++ [a]
theorem wl_len (L k : Nat) : (wl L k).length = L ^ k := by
  induction k with
  | zero => rfl
  | succ k ih =>
    unfold wl
    rw [List.length_flatMap]
    simp only [List.length_map, List.length_range, List.map_const', List.sum_replicate_nat, ih, Nat.pow_succ]
theorem flat_len (L : Nat) : ∀ l : List (List Nat), (l.flatMap fun w => (List.range L).map fun a => w ++ [a]).length = l.length * L
  | [] => by simp
  | w :: l => by rw [List.flatMap_cons, List.length_append, flat_len L l, List.length_cons, Nat.succ_mul, List.length_map, List.length_range]; omega
theorem wl_mem {L : Nat} : ∀ {k : Nat} {w : List Nat}, w ∈ wl L k → w.length = k ∧ ∀ a, a ∈ w → a < L
  | 0, w, h => by
    rw [List.mem_singleton.mp h]
    exact ⟨rfl, by simp⟩
  | k + 1, w, h => by
    unfold wl at h
    obtain ⟨u, hu, h⟩ := List.mem_flatMap.mp h
    obtain ⟨a, ha, rfl⟩ := List.mem_map.mp h
    obtain ⟨h1, h2⟩ := wl_mem hu
    refine ⟨by rw [List.length_append, h1]; rfl, fun b hb => ?_⟩
    rcases List.mem_append.mp hb with hb | hb
    · exact h2 b hb
    · rw [List.mem_singleton.mp hb]
      exact List.mem_range.mp ha
/-- the sum along all words of a length -/
theorem wl_sum (L : Nat) (T : Nat → Nat → Nat) : ∀ (k : Nat) (h : Nat → Nat), ((wl L k).map fun w => h (w.foldl T 0)).sum = bk L T k h 0
  | 0, h => by
    simp [wl, bk]
  | k + 1, h => by
    rw [bk_comm, ← wl_sum L T k (bk1 L T h)]
    have e : wl L (k + 1) = (wl L k).flatMap fun w => (List.range L).map fun a => w ++ [a] := rfl
    rw [e]
    generalize wl L k = l
    induction l with
    | nil => rfl
    | cons w l ih =>
      rw [List.flatMap_cons, List.map_append, List.sum_append, ih, List.map_cons, List.sum_cons]
      congr 1
      rw [List.map_map]
      unfold bk1 sumN
      congr 1
      refine List.map_congr_left fun a _ => ?_
      show h ((w ++ [a]).foldl T 0) = _
      rw [List.foldl_append]
      rfl
theorem filter_sum {α : Type} (p : α → Bool) (l : List α) : (l.filter p).length = (l.map fun x => if p x = true then 1 else 0).sum := by
  induction l with
  | nil => rfl
  | cons x l ih =>
    rw [List.map_cons, List.sum_cons, ← ih, List.filter_cons]
    by_cases h : p x = true
    · rw [if_pos h, if_pos h, List.length_cons]
      omega
    · rw [if_neg h, if_neg h]
      omega
theorem wl_cnt (L : Nat) (T : Nat → Nat → Nat) (E : Nat → Bool) (k : Nat) : ((wl L k).filter fun w => E (w.foldl T 0)).length = cnt L T E k 0 := by
  rw [filter_sum]
  exact wl_sum L T k (eN E)
/-- all words to a length -/
def wlTo (L : Nat) : Nat → List (List Nat)
  | 0 => wl L 0
  | k + 1 => wlTo L k ++ wl L (k + 1)
theorem wlTo_mem {L k : Nat} {w : List Nat} (h : w ∈ wlTo L k) : w.length ≤ k ∧ ∀ a, a ∈ w → a < L := by
  induction k with
  | zero =>
    obtain ⟨a, b⟩ := wl_mem (k := 0) h
    exact ⟨by omega, b⟩
  | succ k ih =>
    rcases List.mem_append.mp h with h | h
    · exact ⟨by have := (ih h).1; omega, (ih h).2⟩
    · obtain ⟨a, b⟩ := wl_mem h
      exact ⟨by omega, b⟩
theorem filter_none {α : Type} {p : α → Bool} {l : List α} (h : ∀ x, x ∈ l → p x = false) : l.filter p = [] := by
  rw [List.filter_eq_nil_iff]
  intro x hx
  rw [h x hx]
  exact Bool.false_ne_true
theorem filter_all {α : Type} {p q : α → Bool} {l : List α} (h : ∀ x, x ∈ l → p x = q x) : l.filter p = l.filter q := List.filter_congr h
theorem wlTo_eq {L m k : Nat} (hk : k ≤ m) (p : List Nat → Bool) : ((wlTo L m).filter fun w => p w && decide (w.length = k)).length = ((wl L k).filter p).length := by
  induction m with
  | zero =>
    have e : k = 0 := by omega
    subst e
    congr 1
    refine filter_all fun w hw => ?_
    rw [(wl_mem hw).1]
    simp
  | succ m ih =>
    unfold wlTo
    rw [List.filter_append, List.length_append]
    by_cases e : k = m + 1
    · subst e
      rw [filter_none (l := wlTo L m) fun w hw => by have := (wlTo_mem hw).1; simp; intro _; omega]
      rw [List.length_nil, Nat.zero_add]
      congr 1
      refine filter_all fun w hw => ?_
      rw [(wl_mem hw).1]
      simp
    · rw [ih (by omega), filter_none (l := wl L (m + 1)) fun w hw => by rw [(wl_mem hw).1]; simp; intro _; omega]
      rfl
theorem wlTo_le {L m k : Nat} (hk : k ≤ m) (p : List Nat → Bool) : ((wlTo L m).filter fun w => p w && decide (w.length ≤ k)).length = sumN (k + 1) fun j => ((wl L j).filter p).length := by
  induction m with
  | zero =>
    have e : k = 0 := by omega
    subst e
    rw [sumN_succ, show sumN 0 (fun j => ((wl L j).filter p).length) = 0 from rfl, Nat.zero_add]
    congr 1
    refine filter_all fun w hw => ?_
    rw [(wl_mem hw).1]
    simp
  | succ m ih =>
    unfold wlTo
    rw [List.filter_append, List.length_append]
    by_cases e : k = m + 1
    · subst e
      rw [sumN_succ, filter_all (l := wlTo L m) (q := fun w => p w && decide (w.length ≤ m)) fun w hw => by
        have := (wlTo_mem hw).1
        have h1 : decide (w.length ≤ m + 1) = true := by simp; omega
        have h2 : decide (w.length ≤ m) = true := by simp; omega
        rw [h1, h2]]
      congr 1
      · clear ih
        have key : ∀ m, ((wlTo L m).filter fun w => p w && decide (w.length ≤ m)).length = sumN (m + 1) fun j => ((wl L j).filter p).length := by
          intro m
          induction m with
          | zero =>
            rw [sumN_succ, show sumN 0 (fun j => ((wl L j).filter p).length) = 0 from rfl, Nat.zero_add]
            congr 1
            refine filter_all fun w hw => ?_
            rw [(wl_mem hw).1]
            simp
          | succ m ih =>
            unfold wlTo
            rw [List.filter_append, List.length_append, sumN_succ, filter_all (l := wlTo L m) (q := fun w => p w && decide (w.length ≤ m)) fun w hw => by
              have := (wlTo_mem hw).1
              have h1 : decide (w.length ≤ m + 1) = true := by simp; omega
              have h2 : decide (w.length ≤ m) = true := by simp; omega
              rw [h1, h2], ih]
            congr 2
            refine filter_all fun w hw => ?_
            rw [(wl_mem hw).1]
            simp
        exact key m
      · congr 1
        refine filter_all fun w hw => ?_
        rw [(wl_mem hw).1]
        simp
    · rw [ih (by omega), filter_none (l := wl L (m + 1)) fun w hw => by rw [(wl_mem hw).1]; simp; intro _; omega]
      rfl
/-- a letter's number -/
def cz (z : Str) (a : Nat) : Nat := z.cps.toList.getD a 0
/-- a word's text -/
def wS (z : Str) (w : List Nat) : Str := ⟨(w.map fun a => cz z a).toArray⟩
theorem wS_len (z : Str) (w : List Nat) : (wS z w).length = w.length := by
  show (w.map _).toArray.size = _
  rw [List.size_toArray, List.length_map]
theorem wS_snoc (z : Str) (w : List Nat) (a : Nat) : wS z w ++ sg (cz z a) = wS z (w ++ [a]) := by
  show (⟨_⟩ : Str) = ⟨_⟩
  congr 1
  simp [wS, sg]
theorem signs_wS (z : Str) (w : List Nat) : signsOf (wS z w) = w.map fun a => .str (sg (cz z a)) := by
  unfold signsOf wS sg
  simp
theorem signs_rng (z : Str) : signsOf z = mkL z.length fun a => .str (sg (cz z a)) := by
  apply List.ext_getElem?
  intro i
  unfold signsOf mkL
  rw [List.getElem?_map, List.getElem?_map]
  by_cases h : i < z.length
  · have h2 : i < z.cps.toList.length := by rw [Array.length_toList]; exact h
    rw [List.getElem?_range h, List.getElem?_eq_getElem h2]
    simp [sg, cz]
    rw [Array.getElem?_eq_getElem (by exact h)]
    rfl
  · rw [List.getElem?_eq_none (l := z.cps.toList) (by rw [Array.length_toList]; exact Nat.le_of_not_lt h), List.getElem?_eq_none (by rw [List.length_range]; omega)]
    rfl
/-- the place of a sign -/
theorem idx_mem {z : Str} {a : Nat} (h : a < z.length) : cz z a ∈ z.cps.toList := by
  have h2 : a < z.cps.toList.length := by rw [Array.length_toList]; exact h
  have e : cz z a = z.cps.toList[a] := by
    unfold cz
    rw [List.getD_eq_getElem?_getD, List.getElem?_eq_getElem h2]
    rfl
  rw [e]
  exact List.getElem_mem h2
theorem idx_at {z : Str} (nd : z.cps.toList.Nodup) {a : Nat} (h : a < z.length) : z.cps.toList.idxOf (cz z a) = a := by
  have h2 : a < z.cps.toList.length := by rw [Array.length_toList]; exact h
  have e : cz z a = z.cps.toList[a] := by
    unfold cz
    rw [List.getD_eq_getElem?_getD, List.getElem?_eq_getElem h2]
    rfl
  rw [e]
  exact nd.idxOf_getElem a h2
theorem nodup_map {α β : Type} {f : α → β} : ∀ {l : List α}, l.Nodup → (∀ x, x ∈ l → ∀ y, y ∈ l → f x = f y → x = y) → (l.map f).Nodup
  | [], _, _ => List.nodup_nil
  | a :: l, h, g => by
    obtain ⟨h1, h2⟩ := List.nodup_cons.mp h
    rw [List.map_cons]
    refine List.nodup_cons.mpr ⟨fun z => ?_, nodup_map h2 fun x hx y hy => g x (List.mem_cons_of_mem _ hx) y (List.mem_cons_of_mem _ hy)⟩
    obtain ⟨b, hb, e⟩ := List.mem_map.mp z
    have := g b (List.mem_cons_of_mem _ hb) a List.mem_cons_self e
    rw [← this] at h1
    exact h1 hb
/-! comprehensions and loops over maps of places -/
theorem lc_mkL {vs : List Nat} {e0 : List Sl} {wg : DG} {we : DE} {Φ : List PyData → List Int → Prop} {n : Nat} {F : Nat → PyData} (G : Nat → PyData) {q : List Int} (hl : n ≤ 16777216)
    (hs : ∀ i, i < n → ∀ Θ : S → PyData → S → Prop, (∀ s1 s3, s3.e = s1.e → s3.q = q → Θ s1 (G i) s3) → wg (F i) ⟨wipeE e0 vs, q⟩ fun s1 => wipeE s1.e vs = wipeE e0 vs ∧ we s1 (Θ s1))
    (hd : Φ (mkL n G) q) : lcW vs e0 wg wYes we Φ (mkL n F) [] q :=
  lc_mapl (List.range n) F G (by rw [List.length_range]; exact hl) (fun i hi => hs i (List.mem_range.mp hi)) hd
theorem loop_mkL {wg : DG} {wb : DS} {Φ : EN} {n : Nat} {F : Nat → PyData} (Inv : Nat → S → Prop) {s : S} (h0 : Inv 0 s)
    (hs : ∀ i s, i < n → Inv i s → ∀ Ψ : EN, (∀ s, Inv (i + 1) s → Ψ.nx s) → (∀ s, Inv (i + 1) s → Ψ.ct s) → Ψ.rt = Φ.rt → Ψ.bk = Φ.nx → Ψ.rl = Φ.rl → wg (F i) s fun s1 => wb Ψ s1)
    (hd : ∀ s, Inv n s → Φ.nx s) : loopW wg wb Φ (mkL n F) s := by
  refine loop_ix (mkL n F) Inv h0 (fun i x s hx q Ψ h1 h2 h3 h4 h5 => ?_) (fun s q => hd s (by rw [mkL_len] at q; exact q))
  have hi : i < n := by rw [← mkL_len n F]; exact (List.getElem?_eq_some_iff.mp hx).1
  rw [mkL_get hi] at hx
  cases hx
  exact hs i s hi q Ψ h1 h2 h3 h4 h5
/-- a comprehension with a test over a mapped list -/
theorem lc_fml {α : Type} {vs : List Nat} {e0 : List Sl} {wg : DG} {wt : DT} {we : DE} {Φ : List PyData → List Int → Prop} (l : List α) (F G : α → PyData) (p : α → Bool) {q : List Int} (hl : l.length ≤ 16777216)
    (hs : ∀ a, a ∈ l → ∀ (Y : S → PyData → S → Prop) (N : S → Prop), (p a = true → ∀ s1 s3, s3.e = s1.e → s3.q = q → Y s1 (G a) s3) → (p a = false → ∀ s2, s2.q = q → N s2) →
      wg (F a) ⟨wipeE e0 vs, q⟩ fun s1 => wipeE s1.e vs = wipeE e0 vs ∧ wt s1 fun b s2 => s2.e = s1.e ∧ if b = true then we s2 (Y s1) else N s2)
    (hd : Φ ((l.filter p).map G) q) : lcW vs e0 wg wt we Φ (l.map F) [] q := by
  refine lc_inv (l.map F) (fun pre acc q' => acc = ((l.take pre.length).filter p).map G ∧ q' = q) ⟨rfl, rfl⟩ (fun pre x post acc q' e h Ψ k => ?_) (fun acc q' h => by rw [h.1, h.2, List.length_map, List.take_length]; exact hd)
  obtain ⟨rfl, rfl⟩ := h
  have hx : (l.map F)[pre.length]? = some x := by rw [e]; simp
  rw [List.getElem?_map] at hx
  cases ha : l[pre.length]? with
  | none =>
    rw [ha] at hx
    cases hx
  | some a =>
    rw [ha] at hx
    cases hx
    have hlen : (((l.take pre.length).filter p).map G).length < sizeLine := sz_lt (by
      have h1 := (List.getElem?_eq_some_iff.mp ha).1
      have h2 := List.length_filter_le p (l.take pre.length)
      rw [List.length_take] at h2
      rw [List.length_map]
      omega)
    refine hs a (List.mem_of_getElem? ha) (fun s1 y s3 => s3.e = s1.e ∧ (((l.take pre.length).filter p).map G).length < sizeLine ∧ Ψ (((l.take pre.length).filter p).map G ++ [y]) s3.q) (fun s2 => Ψ (((l.take pre.length).filter p).map G) s2.q)
      (fun hp s1 s3 h1 h2 => ⟨h1, hlen, k _ _ ⟨?_, h2⟩⟩) (fun hp s2 h2 => k _ _ ⟨?_, h2⟩)
    · rw [List.length_append, List.length_singleton, take_snoc ha, List.filter_append, List.map_append]
      simp [hp]
    · rw [List.length_append, List.length_singleton, take_snoc ha, List.filter_append, List.map_append]
      simp [hp]
/-- a comprehension over a pool: its items fulfil a word, as many as are walked -/
theorem lc_predE {P : PyData → Prop} {vs : List Nat} {e0 : List Sl} {wg : DG} {we : DE} {Φ : List PyData → List Int → Prop} {q : List Int} (xs : List PyData) (hq : PoolOk q) (hm2 : xs.length ≤ 10000)
    (hs : ∀ x q, x ∈ xs → PoolOk q → ∀ Θ : S → PyData → S → Prop, (∀ s1 y s3, s3.e = s1.e → PoolOk s3.q → P y → Θ s1 y s3) → wg x ⟨wipeE e0 vs, q⟩ fun s1 => wipeE s1.e vs = wipeE e0 vs ∧ we s1 (Θ s1))
    (hd : ∀ ys q, PoolOk q → ys.length = xs.length → (∀ y, y ∈ ys → P y) → Φ ys q) : lcW vs e0 wg wYes we Φ xs [] q := by
  refine lc_inv xs (fun pre acc q' => PoolOk q' ∧ acc.length = pre.length ∧ ∀ y, y ∈ acc → P y) ⟨hq, rfl, by simp⟩ (fun pre x post acc q' e h Ψ k => ?_) (fun acc q' h => hd acc q' h.1 h.2.1 h.2.2)
  obtain ⟨hq', hl, hp⟩ := h
  have hlen : acc.length < sizeLine := sz_lt (by
    rw [e] at hm2
    simp at hm2
    omega)
  have r := hs x q' (by rw [e]; simp) hq' (fun s1 y s3 => s3.e = s1.e ∧ acc.length < sizeLine ∧ Ψ (acc ++ [y]) s3.q) (fun s1 y s3 h1 h2 h3 => ⟨h1, hlen, k _ _ ⟨h2, by simp [hl], fun u hu => by
    rcases List.mem_append.mp hu with hu | hu
    · exact hp u hu
    · rw [List.mem_singleton.mp hu]
      exact h3⟩⟩)
  simp only [wYes, true_and, if_true]
  exact r
/-! tables that are changed -/
def rowsM (n L : Nat) (T : Nat → Nat → Nat) : List (List PyData) := (List.range n).map fun s => mkI L (T s)
theorem rowsM_len (n L : Nat) (T : Nat → Nat → Nat) : (rowsM n L T).length = n := by
  unfold rowsM
  rw [List.length_map, List.length_range]
theorem rowsM_get {n L s : Nat} {T : Nat → Nat → Nat} (h : s < n) : (rowsM n L T)[s]? = some (mkI L (T s)) := by
  unfold rowsM
  rw [List.getElem?_map, List.getElem?_range h]
  rfl
theorem rowsM_list (n L : Nat) (T : Nat → Nat → Nat) : (rowsM n L T).map PyData.list = mkM n L T := by
  unfold rowsM mkM mkL
  rw [List.map_map]
  rfl
def setT (T : Nat → Nat → Nat) (s a v : Nat) : Nat → Nat → Nat := setF T s (setF (T s) a v)
theorem rowsM_set {n L s a v : Nat} {T : Nat → Nat → Nat} (ha : a < L) : (rowsM n L T).set s ((mkI L (T s)).set a (.int (v : Nat))) = rowsM n L (setT T s a v) := by
  rw [mkI_set ha]
  apply List.ext_getElem?
  intro j
  rw [List.getElem?_set]
  by_cases hj : j < n
  · by_cases hs : s = j
    · subst hs
      rw [if_pos rfl, rowsM_len, if_pos hj, rowsM_get hj]
      unfold setT
      rw [setF_same]
    · rw [if_neg hs, rowsM_get hj, rowsM_get hj]
      unfold setT
      rw [setF_ne (fun z => hs z.symm)]
  · rw [List.getElem?_eq_none (l := rowsM n L (setT T s a v)) (by rw [rowsM_len]; omega)]
    by_cases hs : s = j
    · rw [if_pos hs, rowsM_len, if_neg (by omega)]
    · rw [if_neg hs, List.getElem?_eq_none (by rw [rowsM_len]; omega)]
theorem setT_lt {n L s a v : Nat} {T : Nat → Nat → Nat} (h : ∀ s a, s < n → a < L → T s a < n) (hv : v < n) : ∀ s' a', s' < n → a' < L → setT T s a v s' a' < n := fun s' a' hs ha => by
  unfold setT
  by_cases e : s' = s
  · subst e
    rw [setF_same]
    by_cases e2 : a' = a
    · subst e2
      rw [setF_same]
      exact hv
    · rw [setF_ne e2]
      exact h s' a' hs ha
  · rw [setF_ne e]
    exact h s' a' hs ha
theorem mkI_cons (n : Nat) (f : Nat → Nat) : mkI (n + 1) f = .int (f 0 : Nat) :: mkI n fun i => f (i + 1) := by
  unfold mkI
  rw [List.range_succ_eq_map, List.map_cons, List.map_map]
  rfl
end DL
/-! DL: the law's own call, its promise one of those that know that nothing is under repr; promises put together -/
namespace DL
open PySem PySem.Spec PyProof.Rows L2
section
variable {P : Program} {w : World} {K : PySem.W.Frag} {mg mb : Str → Option Value} {k : Nat} {fa p : Addr} {fd : FuncData} {x : Str} {t : Shared} {us : List Value} {ns : List Int}
/-- what stands behind the call of a law -/
abbrev LawEnd (t : Shared) (r : Result) (t' : Shared) : Prop := r = .ok (.ret (.bool true)) ∧ OldK t.heap t'.heap ∧ t'.os = t.os ∧ AllBare t'.gens
theorem law_at (kin : K.In t.heap) (gl : t.heap.Ns mainGlobals mg) (bn : t.heap.Ns builtinsNs mb) (bb : ∀ y : Str, y ≠ "__name__" → mb y = bootBuiltins y) (nl : t.heap.NoLimit) (gn : t.gens = #[])
    (tabs : ∀ b, TabK K b → t.heap.get? b = some { cls := .none, data := .fields #[] } ∧ isCodeTable t.heap b) (bm : BmOk mg t.heap)
    (hp : t.heap.get? p = some { cls := .type "list", data := .seq us.toArray }) (hr : Room k callerA) (F : ∀ base : Heap, BmOk mg base → FnG P w K mg base CX0 k fa fd [x] (spLaw K)) (bd : ∀ (s : Shared) (u : Value), BindsTo s fd ⟨[u], []⟩ [(x, u)])
    (H : Hp) (h0 : ∀ b, H b = none ∨ (b = p ∧ ∃ o xs, H b = some (.frz o (.lst xs))) ∨ TabK K b) (hT : TabsAt K H) (sq : SqL K H p (ns.map V.int)) (nn : ns.length ≤ 63) (hok : HOk P w H t.heap) (hK : H p ≠ none → K.lookup p = none) :
    codeAny (model P w) callerA (.call (.ref fa) ⟨[.ref p], []⟩) (LawEnd t) t := by
  have free : ∀ {b : Addr} {o : Obj}, t.heap.get? b = some o → (∀ vs n, o.data ≠ .seq vs n) → o.data ≠ .fields #[] → H b = none := fun {b o} e n1 n2 => by
    rcases h0 b with z | ⟨z, _⟩ | z
    · exact z
    · rw [z, hp] at e
      cases e
      exact (n1 _ _ rfl).elim
    · rw [(tabs b z).1] at e
      cases e
      exact (n2 rfl).elim
  have dict : ∀ {b : Addr} {m : Str → Option Value}, t.heap.Ns b m → (hidT t.heap H).Ns b m := fun {b m} q => by
    obtain ⟨o, es, ep, e1, e2, e3⟩ := q
    exact ⟨o, es, ep, hidT_get e1 (free e1 (fun vs n z => by rw [e2] at z; cases z) fun z => by rw [e2] at z; cases z), e2, e3⟩
  have inb : K.In (hidT t.heap H) := fun b o e => by
    by_cases z : H b = none
    · exact hidT_get (kin b o e) z
    · rcases h0 b with y | ⟨zb, _⟩ | ⟨_, _, _, _, _, _, _, _, _, _, _, _, _, _, _, _, y⟩
      · exact absurd y z
      · rw [zb] at e z
        rw [hK z] at e
        cases e
      · rw [y] at e
        cases e
  have bmb : BmOk mg (hidT t.heap H) := by
    obtain ⟨b, ob, m1, m2, m3, m4, m5, m6, m7⟩ := bm
    exact ⟨b, ob, m1, m2, m3, hidT_get m4 (free m4 (fun vs n z => by rw [m7] at z; cases z) fun z => by rw [m7] at z; cases z), m5, m6, m7⟩
  obtain ⟨ml, l1, l2⟩ := nl
  have envd : Env0 P w K mg (hidT t.heap H) callerA [] t H :=
    ⟨rfl, ⟨inb, dict gl, ⟨mb, dict bn, bb⟩, ⟨ml, dict l1, l2⟩⟩, fun b o e => of_hidT e, Nat.le_of_eq (hidT_size _ _), trivial, fun b hb => (by cases (show b ∈ ([] : List Addr) from hb)), hok, .of_eq gn⟩
  refine codeAny_mono ((F (hidT t.heap H) bmb).go callerA [] t H ⟨[.ref p], []⟩ [.ref p] [.ref p] (fun v H' => v = .bl true ∧ TabsAt K H') (fun _ _ _ => False) rfl hr envd (bd t (.ref p)) (.cons rfl .nil) ⟨p, ns, hT, rfl, sq, nn, fun _ z => ⟨rfl, z⟩⟩) fun r t' q => ?_
  match r, q with
  | .error e, q => exact (show False from q).elim
  | .ok .next, q => exact q.elim
  | .ok .brk, q => exact q.elim
  | .ok .cont, q => exact q.elim
  | .ok (.ret u), q =>
    obtain ⟨v, H', o1, o2, un, hok2, ru, rfl, hT2⟩ := q
    obtain rfl : u = Value.bool true := ru
    have tab2 : ∀ b, TabK K b → ∃ ps : Array Value, t'.heap.get? b = some { cls := .none, data := .fields ps } := fun b z => by
      obtain ⟨⟨ps, q1, _⟩, _⟩ := hok2 b _ (hT2 b z)
      exact ⟨ps, q1⟩
    have keep : ∀ b o, ¬ TabK K b → t.heap.get? b = some o → t'.heap.get? b = some o := fun b o nT e => by
      rcases h0 b with z | ⟨_, ob, xs, z⟩ | z
      · exact un.keep b o e z (fun y => (by cases (show b ∈ ([] : List Addr) from y))) fun y => (by cases y)
      · have g1 := (hok b _ z).1
        have g2 := (hok2 b _ (un.frzs b ob _ z)).1
        rw [e] at g1
        cases g1
        exact g2
      · exact absurd z nT
    refine ⟨rfl, ⟨fun b o e => ?_, fun b o e => ?_⟩, o1, o2⟩
    · by_cases z : TabK K b
      · obtain ⟨ps, q1⟩ := tab2 b z
        obtain ⟨q2, q3⟩ := tabs b z
        rw [q2] at e
        cases e
        exact .inr (.inl ⟨q3, rfl, #[], ps, rfl, by rw [Array.empty_append]; exact q1⟩)
      · exact .inl (keep b o z e)
    · by_cases z : TabK K b
      · obtain ⟨ps, q1⟩ := tab2 b z
        exact ⟨_, q1⟩
      · exact ⟨o, keep b o z e⟩
theorem law_callG (kin : K.In t.heap) (gl : t.heap.Ns mainGlobals mg) (bn : t.heap.Ns builtinsNs mb) (bb : ∀ y : Str, y ≠ "__name__" → mb y = bootBuiltins y) (nl : t.heap.NoLimit) (gn : t.gens = #[])
    (tabs : ∀ b, TabK K b → t.heap.get? b = some { cls := .none, data := .fields #[] } ∧ isCodeTable t.heap b) (bm : BmOk mg t.heap)
    (hp : t.heap.get? p = some { cls := .type "list", data := .seq us.toArray }) (hi : IntsAre us ns) (nn : ns.length ≤ 63) (hr : Room k callerA) (F : ∀ base : Heap, BmOk mg base → FnG P w K mg base CX0 k fa fd [x] (spLaw K)) (bd : ∀ (s : Shared) (u : Value), BindsTo s fd ⟨[u], []⟩ [(x, u)]) :
    codeAny (model P w) callerA (.call (.ref fa) ⟨[.ref p], []⟩) (LawEnd t) t := by
  have rv := vals_ints hi
  have line : ns.length ≤ sizeLine := by rw [sizeLine_eq]; omega
  have ln := hi.length
  have pT : ¬ TabK K p := fun z => by
    have q := (tabs p z).1
    rw [hp] at q
    cases q
  have okT : ∀ {H : Hp} {b : Addr}, TabK K b → ObjOk P w H t.heap b (.ext (tabPh b)) := fun {H b} z =>
    ⟨⟨#[], (tabs b z).1, (show TriplesOk [] from True.intro)⟩, ⟨_, (tabs b z).1⟩, fun h1 h2 ⟨ps, q1, q2⟩ q => ⟨ps, q _ q1, q2⟩⟩
  cases hk : K.lookup p with
  | some o =>
    have e := kin p o hk
    rw [hp] at e
    cases e
    refine law_at kin gl bn bb nl gn tabs bm hp hr F bd (tabG K) (fun b => ?_) tabG_at (.inr ⟨_, us.toArray, _, hk, rfl, rfl, rfl, by rw [List.size_toArray, ln]; exact line, by simpa using rv⟩) nn (fun b u z => ?_) fun z => absurd (if_neg pT) z
    · by_cases z : TabK K b
      · exact .inr (.inr z)
      · exact .inl (if_neg z)
    · obtain ⟨z1, rfl⟩ := tabG_in z
      exact okT z1
  | none =>
    let H : Hp := fun b => if b = p then some (.frz { cls := .type "list", data := .seq us.toArray } (.lst (ns.map V.int))) else tabG K b
    have hp2 : H p = some (.frz { cls := .type "list", data := .seq us.toArray } (.lst (ns.map V.int))) := if_pos rfl
    refine law_at kin gl bn bb nl gn tabs bm hp hr F bd H (fun b => ?_) (fun b hb => ?_) (.inl (.inr ⟨_, hp2⟩)) nn (fun b u z => ?_) fun _ => hk
    · by_cases z : b = p
      · exact .inr (.inl ⟨z, _, _, by rw [z]; exact hp2⟩)
      · by_cases y : TabK K b
        · exact .inr (.inr y)
        · exact .inl ((if_neg z).trans (if_neg y))
    · by_cases z : b = p
      · rw [z] at hb
        exact absurd hb pT
      · exact (if_neg z).trans (tabG_at b hb)
    · by_cases y : b = p
      · rw [y, hp2] at z
        cases z
        rw [y]
        exact ⟨hp, by rw [List.length_map]; exact line, us, _, rv, hp⟩
      · rw [show H b = tabG K b from if_neg y] at z
        obtain ⟨z1, rfl⟩ := tabG_in z
        exact okT z1
end
/-- behind k_head, from the law's promise -/
theorem walk_ofG {l : PySem.W.OpenLaw} {k : Nat} {q : Program} {loose : List Str} {XP : (Str → Option Value) → Heap → Prop} {YP : World → Heap → Prop} {d : DefRec} {K : Params → PySem.W.Frag} {x : Str}
    (h63 : l.most = some 63) (nodf : d.params.defaults = []) (room : Room k callerA) (hK : ∀ (w : World) (h : Heap), YP w h → (K w.params).In h)
    (hrec : ∀ y ∈ tabNames, ((recsOf q).any fun e => e.name == y) = true)
    (F : ∀ (w : World) (mg : Str → Option Value) (fa : Addr) (h : Heap), (K w.params).In h → h.Ns mainGlobals mg → mg d.name = some (.ref fa) →
      ∃ fd : FuncData, (∀ (s : Shared) (u : Value), BindsTo s fd ⟨[u], []⟩ [(x, u)]) ∧ ∀ base : Heap, BmOk mg base → FnG l.prog w (K w.params) mg base CX0 k fa fd [x] (spLaw (K w.params))) :
    PySem.W.WalkO q loose XP YP l.row.toRowW d [] (fun f vs => PySem.call f vs) := by
  refine Att.attach_call h63 nodf fun w t0 t mg mb fa o pm cd doc p us ns G Y e1 e2 e3 hm hp hi hl gn => ?_
  obtain ⟨fd, bd, hF⟩ := F w mg fa _ (hK w _ Y) G.T.g hm
  have KX := hK w _ Y
  refine law_callG KX G.T.g G.T.b G.T.builtins G.T.nolimit gn (fun b hb => ?_) ?_ hp hi hl room hF bd
  · obtain ⟨y, f, c, of, fdf, e, dd, vs, sl, hy, k0, k1, k2, k3, k4, k5, _⟩ := hb
    obtain ⟨dL, hm1, hn1⟩ := List.any_eq_true.mp (hrec y hy)
    have hn2 : dL.name = y := beq_iff_eq.mp hn1
    obtain ⟨a', o', fd', c', P', h1, h2, h3, h4, h5, h6⟩ := G.T.tab dL hm1
    rw [hn2, PySem.W.mg_of KX G.T.g k0] at h1
    cases h1
    have g1 := KX _ _ k1
    rw [g1] at h2
    cases h2
    rw [k2] at h3
    cases h3
    rw [k3] at h4
    cases h4
    have h7 := h6
    obtain ⟨⟨oc, vc, e1, _, e3, e4⟩, hP⟩ := h6
    have g2 := KX _ _ k4
    rw [g2] at e1
    cases e1
    cases e3
    rw [k5] at e4
    cases e4
    exact ⟨hP, h7.isCodeTable⟩
  · obtain ⟨bm, ob, b1, b2, b3, b4, b5, b6⟩ := G.T.bmain
    refine ⟨bm, ob, b1, b2, fun q => ?_, b3, b4, b5, b6⟩
    obtain ⟨o2, es, ep, e, hd, _⟩ := G.T.g
    rw [q, e] at b3
    cases b3
    rw [hd] at b6
    cases b6
/-! promises put together, and the one that is never asked -/
section
variable {P : Program} {w : World} {K : PySem.W.Frag} {mg : Str → Option Value} {base : Heap} {k : Nat} {f : Addr} {fd : FuncData} {ps : List Str} {qual x : Str} {st : Stmt} {N : List Str}
theorem fng_unionD {U : DSp} {sp : Nat → DSp} {n : Nat} (h : ∀ d, d ≤ n → FnG P w K mg base CX0 k f fd ps (spD K (sp d))) (hU : ∀ ds Φ, U ds Φ → ∃ d, d ≤ n ∧ sp d ds Φ) : FnG P w K mg base CX0 k f fd ps (spD K U) :=
  ⟨fun vs H Q E ⟨F, ds, Φ, a, b, c, e⟩ => by
    obtain ⟨d, hd, c⟩ := hU _ _ c
    exact (h d hd).len vs H Q E ⟨F, ds, Φ, a, b, c, e⟩, fun A outer s H args us vs Q E g hr z hb hv ⟨F, ds, Φ, a, b, c, e⟩ => by
    obtain ⟨d, hd, c⟩ := hU _ _ c
    exact (h d hd).go A outer s H args us vs Q E g hr z hb hv ⟨F, ds, Φ, a, b, c, e⟩⟩
theorem fng_unionP {U : DSpP} {sp : Nat → DSpP} {n : Nat} (h : ∀ d, d ≤ n → FnG P w K mg base CX0 k f fd ps (spP K (sp d))) (hU : ∀ ds q Φ, U ds q Φ → ∃ d, d ≤ n ∧ sp d ds q Φ) : FnG P w K mg base CX0 k f fd ps (spP K U) :=
  ⟨fun vs H Q E ⟨a, us, F, ds, q, Φ, h1, h2, h3, h4, h5, c, h6⟩ => by
    obtain ⟨d, hd, c⟩ := hU _ _ _ c
    exact (h d hd).len vs H Q E ⟨a, us, F, ds, q, Φ, h1, h2, h3, h4, h5, c, h6⟩, fun A outer s H args us' vs Q E g hr z hb hv ⟨a, us, F, ds, q, Φ, h1, h2, h3, h4, h5, c, h6⟩ => by
    obtain ⟨d, hd, c⟩ := hU _ _ _ c
    exact (h d hd).go A outer s H args us' vs Q E g hr z hb hv ⟨a, us, F, ds, q, Φ, h1, h2, h3, h4, h5, c, h6⟩⟩
theorem fng_noD : FnG P w K mg base CX0 k f fd ps (spD K fun _ _ => False) := ⟨fun vs H Q E ⟨F, ds, Φ, a, b, c, e⟩ => c.elim, fun A outer s H args us vs Q E g hr z hb hv ⟨F, ds, Φ, a, b, c, e⟩ => c.elim⟩
theorem fng_noP : FnG P w K mg base CX0 k f fd ps (spP K fun _ _ _ => False) := ⟨fun vs H Q E ⟨a, us, F, ds, q, Φ, h1, h2, h3, h4, h5, c, h6⟩ => c.elim, fun A outer s H args us vs Q E g hr z hb hv ⟨a, us', F, ds, q, Φ, h1, h2, h3, h4, h5, c, h6⟩ => c.elim⟩
end
/-- a def of the text in the written part -/
structure DefK (K : PySem.W.Frag) (x : Str) (st : Stmt) : Prop where
  ex : ∃ (f : Addr) (od an : Option Addr) (sl : Array (Option Value)) (oc kV dc pm cd ct : Value), PySem.W.nsIn K mainGlobals x = some (some (.ref f)) ∧
    K.lookup f = some ⟨oc, od, .func (PySem.W.fnOf x x (defArgs st) (defBody st) (defScope st) .none kV dc pm an cd ct), sl⟩ ∧ PySem.W.codeIn K cd x = true ∧ PySem.W.keepIn K (.ref f) = true
theorem DefK.mk4 {K : PySem.W.Frag} {x : Str} {st : Stmt} {f : Addr} {od an : Option Addr} {sl : Array (Option Value)} {oc kV dc pm cd ct : Value} (a : PySem.W.nsIn K mainGlobals x = some (some (.ref f)))
    (l : K.lookup f = some ⟨oc, od, .func (PySem.W.fnOf x x (defArgs st) (defBody st) (defScope st) .none kV dc pm an cd ct), sl⟩) (c : PySem.W.codeIn K cd x = true) (kp : PySem.W.keepIn K (.ref f) = true) : DefK K x st := ⟨_, _, _, _, _, _, _, _, _, _, a, l, c, kp⟩
theorem DefK.fn {K : PySem.W.Frag} {h : Heap} {mg : Str → Option Value} {x : Str} {st : Stmt} (D : DefK K x st) (X : K.In h) (G : h.Ns mainGlobals mg) :
    ∃ (f : Addr) (od an : Option Addr) (sl : Array (Option Value)) (oc kV dc pm cd ct : Value), Fun K x x st f (PySem.W.fnOf x x (defArgs st) (defBody st) (defScope st) .none kV dc pm an cd ct) ∧ mg x = some (.ref f) ∧ PySem.W.keepIn K (.ref f) = true := by
  obtain ⟨f, od, an, sl, oc, kV, dc, pm, cd, ct, a, l, c, kp⟩ := D.ex
  exact ⟨f, od, an, sl, oc, kV, dc, pm, cd, ct, fun_mk l c kp, PySem.W.mg_of X G a, kp⟩
end DL
/-! DL: defs that stand, from their readings -/
namespace DL
open PySem PySem.Spec PyProof.Rows L2
section
variable {P : Program} {w : World} {K : PySem.W.Frag} {mg : Str → Option Value} {base h : Heap} {k : Nat} {ps N : List Str} {x : Str} {st : Stmt}
/-- how its arguments are bound -/
abbrev Bnd (x : Str) (st : Stmt) (ps : List Str) : Prop := ∀ (kV doc pm : Value) (an : Option Addr) (cdv ct : Value) (us : List Value), us.length = ps.length → bindArgs (PySem.W.fnOf x x (defArgs st) (defBody st) (defScope st) .none kV doc pm an cdv ct) ⟨us, []⟩ = pure (ps.zip us)
/-- its body over data -/
abbrev Bdy (P : Program) (w : World) (K : PySem.W.Frag) (mg : Str → Option Value) (base : Heap) (k : Nat) (N : List Str) (x : Str) (st : Stmt) (c : DS → Prop) : Prop :=
  ∀ (f : Addr) (cdv : Value) (A : Around) (outer : List Env) (s : Shared) (H : Hp) (E : XK), (A.deeper (envOfC x (defScope st) s.heap.objs.size f cdv)).guards = some [] → Room k (A.deeper (envOfC x (defScope st) s.heap.objs.size f cdv)) →
    ∃ wd, XSs (cxOf CX0 P w K mg base N x (defScope st) f cdv A outer s H E).nox (defBody st) wd ∧ c wd
theorem caD {sp : DSp} (D : DefK K x st) (X : K.In h) (G : h.Ns mainGlobals mg) (Sc : FnScope N ps (defScope st)) (b : Bnd x st ps) (len : ∀ ds Φ, sp ds Φ → ds.length = ps.length)
    (body : Bdy P w K mg base k N x st fun wd => ∀ ds Φ, sp ds Φ → wd (endD Φ) ⟨startE N (ds.map .d), []⟩) : Ca P w K mg base (k + 1) x ps (spD K sp) := by
  obtain ⟨f, od, an, sl, oc, kV, dc, pm, cd, ct, F, gm, kp⟩ := D.fn X G
  exact ⟨f, _, fn_D F Sc len (body f), gm, kp, F.binds b⟩
theorem caP {sp : DSpP} (D : DefK K x st) (X : K.In h) (G : h.Ns mainGlobals mg) (Sc : FnScope N ps (defScope st)) (b : Bnd x st ps) (len : ∀ ds q Φ, sp ds q Φ → ds.length + 1 = ps.length)
    (body : Bdy P w K mg base k N x st fun wd => ∀ ds q Φ, sp ds q Φ → wd (endP Φ) ⟨startE N (.pl :: ds.map .d), q⟩) : Ca P w K mg base (k + 1) x ps (spP K sp) := by
  obtain ⟨f, od, an, sl, oc, kV, dc, pm, cd, ct, F, gm, kp⟩ := D.fn X G
  exact ⟨f, _, fn_P F Sc len (body f), gm, kp, F.binds b⟩
theorem caL {sp : DSpL} (D : DefK K x st) (X : K.In h) (G : h.Ns mainGlobals mg) (Sc : FnScope N ps (defScope st)) (b : Bnd x st ps) (len : ∀ ds Φ, sp ds Φ → ds.length = ps.length)
    (body : Bdy P w K mg base k N x st fun wd => ∀ ds Φ, sp ds Φ → wd (endL Φ) ⟨startE N (ds.map .d), []⟩) : Ca P w K mg base (k + 1) x ps (spL K sp) := by
  obtain ⟨f, od, an, sl, oc, kV, dc, pm, cd, ct, F, gm, kp⟩ := D.fn X G
  exact ⟨f, _, fn_L F Sc len (body f), gm, kp, F.binds b⟩
theorem caS {sp : DSpS} (D : DefK K x st) (X : K.In h) (G : h.Ns mainGlobals mg) (Sc : FnScope N ps (defScope st)) (b : Bnd x st ps) (len : ps.length = 1)
    (body : Bdy P w K mg base k N x st fun wd => ∀ ns Φ, sp ns Φ → wd (endL Φ) ⟨startE N [.sc ns], []⟩) : Ca P w K mg base (k + 1) x ps (spS K sp) := by
  obtain ⟨f, od, an, sl, oc, kV, dc, pm, cd, ct, F, gm, kp⟩ := D.fn X G
  exact ⟨f, _, fn_S F Sc len (body f), gm, kp, F.binds b⟩
/-- a def that calls itself, a promise for each depth -/
theorem caRecD {sp : Nat → DSp} {U : DSp} {n k0 : Nat} (D : DefK K x st) (X : K.In h) (G : h.Ns mainGlobals mg) (Sc : FnScope N ps (defScope st)) (b : Bnd x st ps) (len : ∀ d ds Φ, sp d ds Φ → ds.length = ps.length) (hU : ∀ ds Φ, U ds Φ → ∃ d, d ≤ n ∧ sp d ds Φ)
    (body : ∀ (d : Nat) (rc : DSp), (∀ e, d = e + 1 → rc = sp e) → ∀ l : Nat, l ≤ k0 + d → Ca P w K mg base l x ps (spD K rc) → Bdy P w K mg base (k0 + d) N x st fun wd => ∀ ds Φ, sp d ds Φ → wd (endD Φ) ⟨startE N (ds.map .d), []⟩) : Ca P w K mg base (k0 + n + 1) x ps (spD K U) := by
  obtain ⟨f, od, an, sl, oc, kV, dc, pm, cd, ct, F, gm, kp⟩ := D.fn X G
  have go : ∀ d, FnG P w K mg base CX0 (k0 + d + 1) f (PySem.W.fnOf x x (defArgs st) (defBody st) (defScope st) .none kV dc pm an cd ct) ps (spD K (sp d)) := by
    intro d
    induction d with
    | zero => exact fn_D F Sc (len 0) (body 0 (fun _ _ => False) (fun e z => by cases z) 0 (Nat.zero_le _) ⟨f, _, fng_noD, gm, kp, F.binds b⟩ f)
    | succ d ih => exact fn_D F Sc (len (d + 1)) (body (d + 1) (sp d) (fun e z => by cases z; rfl) (k0 + d + 1) (Nat.le_refl _) ⟨f, _, ih, gm, kp, F.binds b⟩ f)
  exact ⟨f, _, fng_unionD (n := n) (fun d hd => (go d).mono (by omega)) hU, gm, kp, F.binds b⟩
theorem caRecP {sp : Nat → DSpP} {U : DSpP} {n k0 : Nat} (D : DefK K x st) (X : K.In h) (G : h.Ns mainGlobals mg) (Sc : FnScope N ps (defScope st)) (b : Bnd x st ps) (len : ∀ d ds q Φ, sp d ds q Φ → ds.length + 1 = ps.length) (hU : ∀ ds q Φ, U ds q Φ → ∃ d, d ≤ n ∧ sp d ds q Φ)
    (body : ∀ (d : Nat) (rc : DSpP), (∀ e, d = e + 1 → rc = sp e) → ∀ l : Nat, l ≤ k0 + d → Ca P w K mg base l x ps (spP K rc) → Bdy P w K mg base (k0 + d) N x st fun wd => ∀ ds q Φ, sp d ds q Φ → wd (endP Φ) ⟨startE N (.pl :: ds.map .d), q⟩) : Ca P w K mg base (k0 + n + 1) x ps (spP K U) := by
  obtain ⟨f, od, an, sl, oc, kV, dc, pm, cd, ct, F, gm, kp⟩ := D.fn X G
  have go : ∀ d, FnG P w K mg base CX0 (k0 + d + 1) f (PySem.W.fnOf x x (defArgs st) (defBody st) (defScope st) .none kV dc pm an cd ct) ps (spP K (sp d)) := by
    intro d
    induction d with
    | zero => exact fn_P F Sc (len 0) (body 0 (fun _ _ _ => False) (fun e z => by cases z) 0 (Nat.zero_le _) ⟨f, _, fng_noP, gm, kp, F.binds b⟩ f)
    | succ d ih => exact fn_P F Sc (len (d + 1)) (body (d + 1) (sp d) (fun e z => by cases z; rfl) (k0 + d + 1) (Nat.le_refl _) ⟨f, _, ih, gm, kp, F.binds b⟩ f)
  exact ⟨f, _, fng_unionP (n := n) (fun d hd => (go d).mono (by omega)) hU, gm, kp, F.binds b⟩
/-- the law's own def -/
theorem caLaw {sx : Str} {yp p1 p2 cp pos : Pos} {rest : List Stmt} {fa : Addr} {kS : Nat} (D : DefK K "law" st) (X : K.In h) (G : h.Ns mainGlobals mg) (hfa : mg "law" = some (.ref fa)) (Sc : FnScope N ["script"] (defScope st)) (hN : 2 ≤ N.length)
    (hb0 : defBody st = .Assign [.Name "pool" yp] (.Call (.Name sx p1) [.Name "script" p2] [] cp) pos :: rest) (hk : kS ≤ k)
    (bd : ∀ (s : Shared) (v : Value) (kV dc pm : Value) (an : Option Addr) (cd ct : Value), BindsTo s (PySem.W.fnOf "law" "law" (defArgs st) (defBody st) (defScope st) .none kV dc pm an cd ct) ⟨[v], []⟩ [("script", v)])
    (C : ∀ base, BmOk mg base → Ca P w K mg base kS sx ["script"] (spS K spStream))
    (head : ∀ base, BmOk mg base → ∀ (f : Addr) (cdv : Value) (A : Around) (outer : List Env) (s : Shared) (H : Hp) (E : XK) (fS : Addr) (fdS : FuncData), FnG P w K mg base CX0 kS fS fdS ["script"] (spS K spStream) → mg sx = some (.ref fS) → PySem.W.keepIn K (.ref fS) = true → Binds K fdS ["script"] [] →
      (A.deeper (envOfC "law" (defScope st) s.heap.objs.size f cdv)).guards = some [] → Room k (A.deeper (envOfC "law" (defScope st) s.heap.objs.size f cdv)) →
      PS (cxOf CX0 P w K mg base N "law" (defScope st) f cdv A outer s H E).nox (.Assign [.Name "pool" yp] (.Call (.Name sx p1) [.Name "script" p2] [] cp) pos) (tAsg (tCall (spS K spStream) [] E0 (tCons (tVar 0) tNil)) (gName 1)))
    (body : ∀ base, BmOk mg base → ∀ (f : Addr) (cdv : Value) (A : Around) (outer : List Env) (s : Shared) (H : Hp) (E : XK), (A.deeper (envOfC "law" (defScope st) s.heap.objs.size f cdv)).guards = some [] → Room k (A.deeper (envOfC "law" (defScope st) s.heap.objs.size f cdv)) →
      ∃ wd, XSs (cxOf CX0 P w K mg base N "law" (defScope st) f cdv A outer s H E).nox rest wd ∧ ∀ ns q, PoolOk q → wd endTrue ⟨(startE N [.sc ns]).set 1 .pl, q⟩) :
    ∃ fd : FuncData, (∀ (s : Shared) (v : Value), BindsTo s fd ⟨[v], []⟩ [("script", v)]) ∧ ∀ base : Heap, BmOk mg base → FnG P w K mg base CX0 (k + 1) fa fd ["script"] (spLaw K) := by
  obtain ⟨f, od, an, sl, oc, kV, dc, pm, cd, ct, F, gm, kp⟩ := D.fn X G
  cases hfa.symm.trans gm
  refine ⟨_, fun s v => bd s v kV dc pm an cd ct, fun base hbm => ?_⟩
  obtain ⟨fS, fdS, FS, gS, kS', bS⟩ := (C base hbm).ex
  exact fn_law F Sc hN hb0 FS gS kS' bS hk (fun cdv A outer s H E g r => head base hbm fa cdv A outer s H E fS fdS FS gS kS' bS g r) (body base hbm fa)
end
end DL
/-! DL: own errors: raise, defs that may raise, calls of them -/
namespace DL
open PySem PySem.Spec PyProof.Rows L2
/-- an own class of errors without an __init__ of its own: its name stands for it -/
structure ExC (K : PySem.W.Frag) (mg : Str → Option Value) (x : Str) : Prop where
  ex : ∃ C, mg x = some (.ref C) ∧ PySem.W.keepIn K (.ref C) = true ∧ (∃ (B newId initId : String) (bmB : List Value), ExcBaseFacts B newId initId bmB ∧ PySem.W.excIn K C bmB newId = true) ∧
    PySem.W.subIn K (.ref C) (.type "BaseException") = some true ∧ PySem.W.typeIn K (.ref C) = some (.type "type")
section
variable {X : Cx} {C : Addr} {bmB : List Value} {B newId initId : String}
/-- X() -/
theorem pmk_own0 {x : Str} {p pos : Pos} (F : ExcBaseFacts B newId initId bmB) (q : PySem.W.excIn X.K C bmB newId = true) (gC : X.mg x = some (.ref C)) (kC : PySem.W.keepIn X.K (.ref C) = true) (r : Raises X (.ref C)) (hg : Gl X x)
    (hdb : (x == ("__debug__" : Str)) = false := by decide) : PMk X (.Call (.Name x p) [] [] pos) (fun _ H Q => Q (.ref C) none H) := by
  intro pins s σ H Q I h
  refine wpAny_Call_Name_kw (ld_glob I hg gC ?_ hdb)
  refine PySem.W.callWith_K0 I.kIn kC ?_
  show wpAny _ _ (call (.ref C) []) _ _ _
  obtain ⟨bm, N, nm, qn, bs, hdct, sn, sub, ab, col, dd, k0, k1, k2, k3, k5, mN, hC, hN, hni, T⟩ := exc_obj I.kIn q
  refine wpAny_call_exc_subT F T hC hN hni (fun h' e hm => ?_) (by show 0 ≤ sizeLine; exact Nat.zero_le _)
  exact mk_of I hm r h (I.hok.gone hm.new)
@[simp] def wRaise (c : Str) : DS := fun Φ s => Φ.ex c [] s
theorem xs_raise0 {x : Str} {p p2 pos : Pos} (hc : X.calm = true) (T : ExC X.K X.mg x) (hg : Gl X x) (hdb : (x == ("__debug__" : Str)) = false := by decide) : XS X (.Raise (some (.Call (.Name x p) [] [] p2)) none pos) (wRaise x) := by
  obtain ⟨C, gC, kC, ⟨B, newId, initId, bmB, F, q⟩, h1, h2⟩ := T.ex
  exact ps_imp (ps_raise hc (takes_wish X) (pmk_own0 F q gC kC (raises_own h1 h2) hg hdb)) fun D σ H h => by
    obtain ⟨G, P, F, s, Φ, R, h, b⟩ := h
    exact (b.ex x [] σ F H s R (Same.refl F) h C gC).1 rfl
end
/-! promises of defs that may raise -/
/-- the wish of a def's errors, over data -/
def EX (K : PySem.W.Frag) (mg : Str → Option Value) (E : XK) (c : Str) (xs : List PyData) (F H : Hp) : Prop := Wsh mg (fun cls d => E cls d H) c xs F
abbrev DSpX := List PyData → (PyData → Prop) → (Str → List PyData → Prop) → Prop
def spX (K : PySem.W.Frag) (mg : Str → Option Value) (f : DSpX) : Sp := fun vs H Q E => ∃ F ds Φ Ψ, (Same F H ∧ TabsF K F H) ∧ DqA K F vs ds ∧ f ds Φ Ψ ∧ (∀ v F' H' x, Fresh F H F' H' → Dq K F' v x → Φ x → Q v H') ∧ ∀ c xs F' H', Fresh F H F' H' → Ψ c xs → EX K mg E c xs F' H'
@[simp] def endX (Φ : PyData → Prop) (Ψ : Str → List PyData → Prop) : EN := { nx := fun _ => Φ .none, rt := fun x _ => Φ x, ex := fun c xs _ => Ψ c xs }
section
variable {P : Program} {w : World} {K : PySem.W.Frag} {mg : Str → Option Value} {base : Heap} {k : Nat} {f : Addr} {fd : FuncData} {ps : List Str} {qual x : Str} {st : Stmt} {N : List Str}
theorem fn_XC {sp : DSpX} (F : Fun K x qual st f fd) (Sc : FnScope N ps (defScope st)) (len : ∀ ds Φ Ψ, sp ds Φ Ψ → ds.length = ps.length)
    (hbody : ∀ (cdv : Value), fd.code = cdv → ∀ (A : Around) (outer : List Env) (s : Shared) (H : Hp) (E : XK), (A.deeper (envOfC qual (defScope st) s.heap.objs.size f cdv)).guards = some [] → Room k (A.deeper (envOfC qual (defScope st) s.heap.objs.size f cdv)) →
      ∃ wd, XSs (cxOf (L2.CX P w) P w K mg base N qual (defScope st) f cdv A outer s H E) (defBody st) wd ∧ ∀ ds Φ Ψ, sp ds Φ Ψ → wd (endX Φ Ψ) ⟨startE N (ds.map .d), []⟩) : FnG P w K mg base (L2.CX P w) (k + 1) f fd ps (spX K mg sp) := by
  refine fng_of F Sc (fun vs H Q E h => ?_) (fun cdv hc A outer s H vs Q E g hr h => ?_)
  · obtain ⟨F, ds, Φ, Ψ, _, d, hs, _⟩ := h
    rw [d.length]
    exact len ds Φ Ψ hs
  · obtain ⟨wd, hX, hw⟩   := hbody cdv hc A outer s H E g hr
    refine ⟨_, hX, ?_⟩
    obtain ⟨F, ds, Φ, Ψ, e, d, hs, kk, kx⟩ := h
    have fr : ∀ {σ' : L2.St} {F' H' : Hp} {s' : S}, Rep K (partH F H none) none F' H' σ' s' → Same F F' → Fresh F H F' H' := fun {σ' F' H' s'} R ee =>
      ⟨ee, R.same, fun b o hb => by
        cases hF : F b with
        | none => exact R.keep b o (partH_at hF (fun z => by cases z) hb)
        | some u =>
          have q := e.1 b u hF
          rw [hb] at q
          cases q
          exact R.same b o (ee b o hF), fun b o hb hF => R.apart b o (partH_at hF (fun z => by cases z) hb)⟩
    have tk : Takes (cxOf (L2.CX P w) P w K mg base N qual (defScope st) f cdv A outer s H E) (fun cls d _ H => E cls d H) := takes_of rfl rfl rfl rfl
    refine ⟨_, none, F, _, _, rep_startD e d [], hw ds Φ Ψ hs, fun σ' F' H' s' R ee q => kk _ F' H' .none (fr R ee) .non q, fun v σ' F' H' s' x R ee dx q => kk v F' H' x (fr R ee) dx q, fun _ _ _ _ _ _ q => q.elim, fun _ _ _ _ _ _ q => q.elim, fun _ _ _ _ _ _ _ _ _ _ _ _ q => q.elim, fun c xs σ' F' H' s' R ee q => ?_⟩
    exact Wsh.imp (kx c xs F' H' (fr R ee) q) fun cls d z => wish_of tk z
theorem fn_X {sp : DSpX} (F : Fun K x qual st f fd) (Sc : FnScope N ps (defScope st)) (len : ∀ ds Φ Ψ, sp ds Φ Ψ → ds.length = ps.length)
    (hbody : ∀ (cdv : Value) (A : Around) (outer : List Env) (s : Shared) (H : Hp) (E : XK), (A.deeper (envOfC qual (defScope st) s.heap.objs.size f cdv)).guards = some [] → Room k (A.deeper (envOfC qual (defScope st) s.heap.objs.size f cdv)) →
      ∃ wd, XSs (cxOf (L2.CX P w) P w K mg base N qual (defScope st) f cdv A outer s H E) (defBody st) wd ∧ ∀ ds Φ Ψ, sp ds Φ Ψ → wd (endX Φ Ψ) ⟨startE N (ds.map .d), []⟩) : FnG P w K mg base (L2.CX P w) (k + 1) f fd ps (spX K mg sp) := fn_XC F Sc len fun cdv _ => hbody cdv
end
/-! calls of them, as x = f(..), return f(..), f(..) -/
def tCallX (sp : Sp) (W : WX) (t : TA) : TE := fun σ H Q => t σ H fun vs H1 => sp vs H1 Q (WE W σ)
section
variable {X : Cx} {k : Nat} {f : Addr} {fd : FuncData} {ps : List Str} {sp : Sp} {x : Str} {p pos : Pos} {e : Expr} {es : List Expr} {t : TA} {W : WX}
theorem pe_callX (F : FnG X.prog X.w X.K X.mg X.base (L2.CX X.prog X.w) k f fd ps sp) (hgd : X.A.guards = some []) (hr : Room k X.A) (hg : Gl X x) (hm : X.mg x = some (.ref f)) (hk : PySem.W.keepIn X.K (.ref f) = true) (hb : Binds X.K fd ps []) (tk : Takes X W)
    (ha : PA X (e :: es) t) (hdb : (x == ("__debug__" : Str)) = false := by decide) (he : starEach (e :: es) X.env = (false, eval e X.env) :: starEach es X.env := by rfl) (hpl : (backTo pos (starEach es X.env)).any (·.1) = false := by rfl) :
    PE X (.Call (.Name x p) (e :: es) [] pos) (tCallX sp W t) := by
  refine ⟨fun pins s σ H Q I h => wpAny_Call_Name_kw (ld_glob I hg hm (PySem.W.callWith_K (h₀ := X.base) I.ok.mod.kin hk (thn (ha.run pos pins s σ H _ I h) fun us s1 ⟨vs, H1, J, r, q⟩ => ⟨J.kIn, ?_⟩) he hpl) hdb)⟩
  have rr : Vals (vs ++ []) (us ++ []) := r.append .nil
  rw [List.append_nil, List.append_nil] at rr
  have bb := hb s1 us J.kIn (by rw [List.append_nil, ← rr.length]; exact F.len _ _ _ _ q)
  rw [List.append_nil] at bb
  refine wpAny_call (codeAny_mono (F.go X.A X.stack s1 H1 ⟨us, []⟩ us vs Q (WE W σ) hgd hr J.env0 bb rr q) fun r s' hq => ?_)
  match r, hq with
  | .error e, hq => exact passAt tk σ pins H1 s1 e s' J hq
  | .ok (.ret u), hq => exact J.after hq
  | .ok .next, hq => exact hq.elim
  | .ok .brk, hq => exact hq.elim
  | .ok .cont, hq => exact hq.elim
end
end DL
/-! DL: x = f(..), return f(..) of defs that may raise; try .. except X: -/
namespace DL
open PySem PySem.Spec PyProof.Rows L2
/-- a wish of the kit's as one over data -/
def wW (K : PySem.W.Frag) (mg : Str → Option Value) (W : WX) : XWish := fun c xs F σ H => Wsh mg (fun cls d => W cls d σ H) c xs F
theorem wW_X {X : Cx} {W : WX} (tk : Takes X W) {c : Str} {xs : List PyData} {F : Hp} {σ : L2.St} {H : Hp} (h : wW X.K X.mg W c xs F σ H) : wX X c xs F σ H := Wsh.imp h fun cls d z => wish_of tk z
theorem Beh.wish {K : PySem.W.Frag} {G F : Hp} {P : Option Addr} {Φ : EN} {D : Ends} {W W' : XWish} (b : Beh K G P F Φ D W) (h : ∀ c xs F σ H, W c xs F σ H → W' c xs F σ H) : Beh K G P F Φ D W' :=
  ⟨b.nx, b.rt, b.bk, b.ct, b.rl, fun c xs σ' F' H' s' R e q => h _ _ _ _ _ (b.ex c xs σ' F' H' s' R e q)⟩
theorem tS_wish {K : PySem.W.Frag} {W W' : XWish} {w : DS} (h : ∀ c xs F σ H, W c xs F σ H → W' c xs F σ H) {D : Ends} {σ : L2.St} {H : Hp} (t : tS K W w D σ H) : tS K W' w D σ H := by
  obtain ⟨G, P, F, s, Φ, R, q, b⟩ := t
  exact ⟨G, P, F, s, Φ, R, q, b.wish h⟩
section
variable {X : Cx} {k i : Nat} {f : Addr} {fd : FuncData} {ps : List Str} {sp : DSpX} {x y : Str} {p pos pos2 yp : Pos} {e : Expr} {es : List Expr} {wa : DA}
theorem callX_of {G F H : Hp} {P : Option Addr} {σ : L2.St} {s : S} {Q : VK} {Φr : PyData → S → Prop} {Φx : Str → List PyData → S → Prop} (R : Rep X.K G P F H σ s) (h : wa s fun ds s1 => sp ds (fun r => Φr r s1) fun c xs => Φx c xs s1)
    (kr : ∀ v F' H' s' x, Rep X.K G P F' H' σ s' → Same F F' → Dq X.K F' v x → Φr x s' → Q v H') (kx : ∀ c xs F' H' s', Rep X.K G P F' H' σ s' → Same F F' → Φx c xs s' → wX X c xs F' σ H') :
    tCallX (spX X.K X.mg sp) (wishOf X) (tA X.K wa) σ H Q := by
  refine ⟨G, P, F, s, _, R, h, fun vs F1 H1 s1 ds R1 e1 d1 q => ?_⟩
  refine ⟨F1, ds, _, _, ⟨R1.same, R1.tabF⟩, d1, q, fun v F' H' x fr dx qx => kr v F' H' s1 x (R1.fresh fr) (e1.trans fr.ff) dx qx, fun c xs F' H' fr qx => ?_⟩
  exact kx c xs F' H' s1 (R1.fresh fr) (e1.trans fr.ff) qx
@[simp] def wRetX (sp : DSpX) (wa : DA) : DS := fun Φ s => wa s fun ds s1 => sp ds (fun r => Φ.rt r s1) fun c xs => Φ.ex c xs s1
theorem xs_retX (F : FnG X.prog X.w X.K X.mg X.base (L2.CX X.prog X.w) k f fd ps (spX X.K X.mg sp)) (hgd : X.A.guards = some []) (hr : Room k X.A) (hg : Gl X x) (hm : X.mg x = some (.ref f)) (hk : PySem.W.keepIn X.K (.ref f) = true) (hb : Binds X.K fd ps [])
    (ha : XA X (e :: es) wa) (hdb : (x == ("__debug__" : Str)) = false := by decide) (he : starEach (e :: es) X.env = (false, eval e X.env) :: starEach es X.env := by rfl) (hpl : (backTo pos (starEach es X.env)).any (·.1) = false := by rfl) :
    XS X (.Return (some (.Call (.Name x p) (e :: es) [] pos)) pos2) (wRetX sp wa) := ps_imp (ps_ret (pe_callX F hgd hr hg hm hk hb (takes_wish X) ha hdb he hpl)) fun D σ H h => by
  obtain ⟨G, P, F, s, Φ, R, h, b⟩ := h
  exact callX_of R h (fun v F' H' s' x R' e d q => b.rt v σ F' H' s' x R' e d q) fun c xs F' H' s' R' e q => b.ex c xs σ F' H' s' R' e q
@[simp] def wSetX (i : Nat) (sp : DSpX) (wa : DA) : DS := fun Φ s => wa s fun ds s1 => sp ds (fun r => Φ.nx (s1.put i (.d r))) fun c xs => Φ.ex c xs s1
theorem xs_setX (hN : X.N.Nodup) (hi : X.N[i]? = some y) (hx : Loc X.env.scope y) (F : FnG X.prog X.w X.K X.mg X.base (L2.CX X.prog X.w) k f fd ps (spX X.K X.mg sp)) (hgd : X.A.guards = some []) (hr : Room k X.A) (hg : Gl X x) (hm : X.mg x = some (.ref f)) (hk : PySem.W.keepIn X.K (.ref f) = true) (hb : Binds X.K fd ps [])
    (ha : XA X (e :: es) wa) (hdb : (x == ("__debug__" : Str)) = false := by decide) (he : starEach (e :: es) X.env = (false, eval e X.env) :: starEach es X.env := by rfl) (hpl : (backTo pos (starEach es X.env)).any (·.1) = false := by rfl)
    (hs : swapsWith (.Call (.Name x p) (e :: es) [] pos) (some (.Name y yp)) pos2.line X.env = pure false := by rfl)
    (hf : X.fn y = true ∨ X.env.scope.names.lookup y = some .local := by first | exact .inl rfl | exact .inr rfl | assumption) :
    XS X (.Assign [.Name y yp] (.Call (.Name x p) (e :: es) [] pos) pos2) (wSetX i sp wa) := ps_imp (ps_set hN hi hx (pe_callX F hgd hr hg hm hk hb (takes_wish X) ha hdb he hpl) hs hf) fun D σ H h => by
  obtain ⟨G, P, F, s, Φ, R, h, b⟩ := h
  exact callX_of (Φr := fun r s1 => Φ.nx (s1.put i (.d r))) R h (fun v F' H' s' x R' e d q => b.nx _ F' H' _ (R'.setD d) e q) fun c xs F' H' s' R' e q => b.ex c xs σ F' H' s' R' e q
end
/-! try: .. except X: .. -/
/-- tbl tells of each class that may come whether the clause takes it -/
@[simp] def wTry (tbl : List (Str × Bool)) (wb ws : DS) : DS := fun Φ s => wb { nx := Φ.nx, rt := Φ.rt, bk := Φ.bk, ct := Φ.ct, rl := Φ.rl, ex := fun c xs s' => xs.length ≤ 1 ∧ ∃ b, (c, b) ∈ tbl ∧ (if b = true then ws { nx := Φ.nx, rt := Φ.rt, bk := Φ.bk, ct := Φ.ct, rl := Φ.rl } s' else Φ.ex c xs s') } s
def noX : XWish := fun _ _ _ _ _ => False
section
variable {X : Cx} {x : Str} {cv : Value} {body suite : List Stmt} {b₀ : Stmt} {np pos pos' : Pos} {wb ws : DS} {tbl : List (Str × Bool)}
theorem xs_try_only (hs : X.stack = X.env :: X.outer) (hf : X.env.frame = some X.env.locals) (hc : Names X x cv) (ht : ∀ c b, (c, b) ∈ tbl → ∀ C, X.mg c = some (.ref C) → PySem.W.exmOne X.K (.ref C) cv = some b)
    (hb : ∀ (pn : List (Addr × Obj)) (xe : Value → Shared → Prop), PassesOwn (model X.prog X.w) X.A X.env xe → XSs (X.tr pn xe) body wb)
    (hsu : ∀ (a : Addr) (pn : List (Addr × Obj)), XSs (X.suite a pn) (b₀ :: suite) ws) :
    XS X (.Try body [.ExceptHandler (some (.Name x np)) none (b₀ :: suite) pos'] [] [] pos) (wTry tbl wb ws) :=
  ps_imp (ps_try_only (tb := fun W => tS X.K (wW X.K X.mg W) wb) (ts := fun _ _ _ => tS X.K noX ws) hs hf hc (takes_wish X)
    (fun W pn xe tk pa => pss_imp (hb pn xe pa) fun D σ H t => tS_wish (fun c xs F σ H q => wW_X tk q) t)
    (fun a oe cls d pn _ _ => pss_imp (hsu a ((a, oe) :: pn)) fun D σ H t => tS_wish (fun c xs F σ H q => q.elim) t)) fun D σ H h => by
  obtain ⟨G, P, F, s, Φ, R, h, b⟩ := h
  refine ⟨G, P, F, s, _, R, h, ⟨b.nx, b.rt, b.bk, b.ct, b.rl, fun c xs σ' F' H' s' R' e q => ?_⟩⟩
  obtain ⟨hl, bb, hm, q⟩ := q
  refine fun C gC => ?_
  have em := ht c bb hm C gC
  have yes : bb = true → tS X.K noX ws D σ' H' := fun e2 => by
    rw [if_pos e2] at q
    exact ⟨G, P, F', s', _, R', q, ⟨(b.up e).nx, (b.up e).rt, (b.up e).bk, (b.up e).ct, (b.up e).rl, fun _ _ _ _ _ _ _ _ z => z.elim⟩⟩
  have no : bb = false → wX X c xs F' σ' H' := fun e2 => by
    rw [if_neg (by rw [e2]; decide)] at q
    exact b.ex c xs σ' F' H' s' R' e q
  exact ⟨fun e3 => ⟨bb, em, fun e2 a _ => yes e2, fun e2 => (no e2 C gC).1 e3⟩, fun e3 d fs hd dv => ⟨bb, em, fun e2 a _ => yes e2, fun e2 => (no e2 C gC).2 e3 d fs hd dv⟩⟩
end
end DL
/-! DL: a caught error: isinstance, handed to a def -/
namespace DL
open PySem PySem.Spec PyProof.Rows L2
/-- a reference that is handed on as it is -/
abbrev excD (a : Addr) : PyData := .dict [(.none, .int (a : Nat))]
/-- the error at a, of the class D, that is under way in a context -/
structure Held1 (K : PySem.W.Frag) (D : Addr) (p : Addr × Obj) : Prop where
  cls : ExcC K D
  z : Zc (.ref D) none p.2
  f : ∃ vs, p.2.data = .fields vs
@[simp] def wIsE (a : Addr) (b : Bool) (w : DE) : DE := fun s Φ => w s fun x s1 => x = excD a ∧ Φ (.bool b) s1
section
variable {X : Cx} {D : Addr} {p0 : Addr × Obj} {pn : List (Addr × Obj)} {e : Expr} {pos : Pos}
theorem isE_of {v : V} {cv : Value} {b : Bool} {w : DE} (hcv : ∀ u, RelV v u → u = cv) (kb : PySem.W.kitOne X.K (.ref D) cv = some b) (σ : L2.St) (H : Hp) (Q : VK) (h : tE X.K (wIsE p0.1 b w) σ H Q) :
    tE X.K w σ H fun y H1 => (tCons (tC v) tNil) σ H1 fun vs H2 => rIsE X.K D p0.1 (y :: vs) H2 Q := by
  obtain ⟨G, P, F, s, Φ, R, h, k⟩ := h
  refine ⟨G, P, F, s, _, R, h, fun y F1 H1 s1 x R1 e1 d1 q => ?_⟩
  obtain ⟨ex, q⟩ := q
  rw [ex] at d1
  cases d1
  exact ⟨v, cv, b, rfl, hcv, kb, k _ F1 H1 s1 _ R1 e1 (.bl b) q⟩
/-- isinstance(e, C), C an own class -/
theorem xe_isE {T : Str} {C : Addr} {p p1 : Pos} {b : Bool} {w : DE} (E : Held1 X.K D p0) (kb : PySem.W.kitOne X.K (.ref D) (.ref C) = some b) (gC : X.mg T = some (.ref C)) (hg : Gl (X.suite p0.1 (p0 :: pn)) "isinstance") (hm : X.mg "isinstance" = none) (hgT : Gl (X.suite p0.1 (p0 :: pn)) T)
    (h : XE (X.suite p0.1 (p0 :: pn)) e w) (hd : (T == ("__debug__" : Str)) = false := by decide)
    (he : starEach [e, .Name T p1] X.env = (false, eval e X.env) :: starEach [.Name T p1] X.env := by rfl) (he2 : starEach [.Name T p1] X.env = (false, eval (.Name T p1) X.env) :: starEach [] X.env := by rfl) (hpl : (backTo pos (starEach [.Name T p1] X.env)).any (·.1) = false := by rfl) :
    XE (X.suite p0.1 (p0 :: pn)) (.Call (.Name "isinstance" p) [e, .Name T p1] [] pos) (wIsE p0.1 b w) :=
  pe_imp (pe_callB (call_isE E.cls E.z E.f) hg hm (by decide +kernel) (pa_cons h (pa_cons (pe_glob (v := .ref C) hgT gC rfl hd) pa_nil he2) he) (by decide) (by decide) he hpl) fun σ H Q h => isE_of (v := .ref C) (cv := .ref C) (fun u z => z) kb σ H Q h
/-- isinstance(e, T), T of the builtins -/
theorem xe_isET {T : Str} {n : String} {p p1 : Pos} {b : Bool} {w : DE} (E : Held1 X.K D p0) (kb : PySem.W.kitOne X.K (.ref D) (.type n) = some b) (hmT : X.mg T = none) (hvT : bootBuiltins T = some (.type n)) (hg : Gl (X.suite p0.1 (p0 :: pn)) "isinstance") (hm : X.mg "isinstance" = none) (hgT : Gl (X.suite p0.1 (p0 :: pn)) T)
    (h : XE (X.suite p0.1 (p0 :: pn)) e w) (hn : T ≠ "__name__" := by decide) (hd : (T == ("__debug__" : Str)) = false := by decide)
    (he : starEach [e, .Name T p1] X.env = (false, eval e X.env) :: starEach [.Name T p1] X.env := by rfl) (he2 : starEach [.Name T p1] X.env = (false, eval (.Name T p1) X.env) :: starEach [] X.env := by rfl) (hpl : (backTo pos (starEach [.Name T p1] X.env)).any (·.1) = false := by rfl) :
    XE (X.suite p0.1 (p0 :: pn)) (.Call (.Name "isinstance" p) [e, .Name T p1] [] pos) (wIsE p0.1 b w) :=
  pe_imp (pe_callB (call_isE E.cls E.z E.f) hg hm (by decide +kernel) (pa_cons h (pa_cons (pe_bltn (v := .ty n) hgT hmT hvT rfl hn hd) pa_nil he2) he) (by decide) (by decide) he hpl) fun σ H Q h => isE_of (v := .ty n) (cv := .type n) (fun u z => z) kb σ H Q h
end
theorem bb_ValueError : bootBuiltins "ValueError" = some (.type "ValueError") := by decide +kernel
/-- what a def promises that is handed the error under way and tells b of it -/
structure FnE (P : Program) (w : World) (K : PySem.W.Frag) (mg : Str → Option Value) (base : Heap) (k : Nat) (f : Addr) (fd : FuncData) (ps : List Str) (D : Addr) (b : Bool) : Prop where
  len : ps.length = 1
  go : ∀ (A : Around) (outer : List Env) (s : Shared) (H : Hp) (Q : VK) (E : XK) (p : Addr × Obj), L2H.RoomH k A → A.handled = some (.ref p.1) → Held1 K D p → L2H.PinOk outer H s p → Env0 P w K mg base A outer s H → BindsTo s fd ⟨[.ref p.1], []⟩ (ps.zip [.ref p.1]) →
    spD K (fun ds Φ => ds = [excD p.1] ∧ Φ (.bool b)) [.ref p.1] H Q E → codeAny (model P w) A (.call (.ref f) ⟨[.ref p.1], []⟩) (CR CX0 outer P w H s Q E) s
section
variable {P : Program} {w : World} {K : PySem.W.Frag} {mg : Str → Option Value} {base : Heap} {k : Nat} {f D : Addr} {fd : FuncData} {ps : List Str} {b : Bool}
theorem hot_ctx {N : List Str} {qual : Str} {scope : Scope} {cdv : Value} {A : Around} {outer : List Env} {s : Shared} {H : Hp} {E : XK} {p : Addr × Obj} (hh : A.handled = some (.ref p.1)) :
    (L2H.cxH CX0 P w K mg base N qual scope f cdv A outer s H E p).nox = (cxOf CX0 P w K mg base N qual scope f cdv A outer s H E).suite p.1 [p] := by

  cases A
  dsimp only at hh
  subst hh
  rfl
theorem fn_E {qual x : Str} {st : Stmt} {N : List Str} (F : Fun K x qual st f fd) (Sc : FnScope N ps (defScope st)) (len : ps.length = 1)
    (hbody : ∀ (cdv : Value) (A : Around) (outer : List Env) (s : Shared) (H : Hp) (E : XK) (p : Addr × Obj), Held1 K D p →
      ∃ wd, XSs ((cxOf CX0 P w K mg base N qual (defScope st) f cdv A outer s H E).suite p.1 [p]) (defBody st) wd ∧ ∀ Φ : PyData → Prop, Φ (.bool b) → wd (endD Φ) ⟨startE N [.d (excD p.1)], []⟩) : FnE P w K mg base (k + 1) f fd ps D b := by
  obtain ⟨oc, od, kV, doc, pm, an, cdv, ct, osl, rfl, lk, hcd⟩ := F.ex
  refine ⟨len, fun A outer s H Q E p hr hot hE hpin z hb hsp => ?_⟩
  have names : ∀ y ∈ ps.zip [Value.ref p.1], (defScope st).names.lookup y.1 = some .local ∨ ((defScope st).names.lookup y.1 = some .cell ∧ ((cellsFrom (s.heap.objs.size + 1) (defScope st).names []).lookup y.1).isSome = true) := by
    rintro ⟨n, v⟩ hy
    rcases Sc.par n (List.of_mem_zip hy).1 with q | q
    · exact Or.inl q
    · exact Or.inr ⟨q, PySem.W.cellsFrom_some _ _ _ (Or.inl q)⟩
  have kin : K.In s.heap := z.mod.kin.keeps fun b o e => (z.bs b o e).1
  have nolim : s.heap.NoLimit := z.mod.nolimit.keeps fun b o e => (z.bs b o e).1
  refine codeAny_call_function hr.depth (kin _ _ lk) rfl Sc.co Sc.gen rfl (PySem.W.codeRec_of kin hcd) (hb _ _ _ _ (wpAny_newFunctionEnv_cells Sc.kind names fun env he s1 y => ?_))
  subst he
  obtain ⟨wd, hX, hw⟩ := hbody cdv A outer s H E p hE
  rw [← hot_ctx hot] at hX
  obtain ⟨F, ds, Φ, e, d, ⟨hds, hs⟩, kk⟩ := hsp
  subst hds
  have r : Vals [V.ref p.1] [Value.ref p.1] := .cons rfl .nil
  have fr : ∀ {σ' : L2.St} {F' H' : Hp} {s' : S}, Rep K (partH F H none) none F' H' σ' s' → Same F F' → Fresh F H F' H' := fun {σ' F' H' s'} R ee =>
    ⟨ee, R.same, fun b o hb => by
      cases hF : F b with
      | none => exact R.keep b o (partH_at hF (fun z => by cases z) hb)
      | some u =>
        have q := e.1 b u hF
        rw [hb] at q
        cases q
        exact R.same b o (ee b o hF), fun b o hb hF => R.apart b o (partH_at hF (fun z => by cases z) hb)⟩
  have start : tS K (wX (L2H.cxH CX0 P w K mg base N qual (defScope st) f cdv A outer s H E p).nox) wd { nx := fun _ H' => Q .non H', rt := Q } (L2.start N [V.ref p.1]) H :=
    ⟨_, none, F, _, _, rep_startD e d [], hw Φ hs, ⟨fun σ' F' H' s' R ee q => kk _ F' H' .none (fr R ee) .non q, fun v σ' F' H' s' x R ee dx q => kk v F' H' x (fr R ee) dx q, fun _ _ _ _ _ _ q => q.elim, fun _ _ _ _ _ _ q => q.elim, fun _ _ _ _ _ _ _ _ _ _ _ _ q => q.elim, fun _ _ _ _ _ _ _ _ q => q.elim⟩⟩
  refine ⟨nolim.keeps y.toInCall.keep, codeAny_func (wpAny_mono (hX.nox.run [] s1 (L2.start N [V.ref p.1]) H _ (L2H.inv_startH Sc hpin z len.symm r y) start) (fun fl s' hs => ?_) fun e s' hs => hs)⟩
  cases fl with
  | ret u =>
    obtain ⟨v, σ', H', J, rv, q⟩ := hs
    exact (⟨v, H', J.os, J.bare, J.base, J.hok, rv, q⟩ : CE outer P w H s Q u s')
  | next =>
    obtain ⟨σ', H', J, q⟩ := hs
    exact (⟨V.non, H', J.os, J.bare, J.base, J.hok, rfl, q⟩ : CE outer P w H s Q .none s')
  | brk => exact hs.elim fun _ h => h.elim fun _ h => False.elim h.2
  | cont => exact hs.elim fun _ h => h.elim fun _ h => False.elim h.2
end
end DL
/-! DL: a caught error handed to a def; try .. except X as e -/
namespace DL
open PySem PySem.Spec PyProof.Rows L2
section
variable {X : Cx} {D : Addr} {p0 : Addr × Obj} {pn : List (Addr × Obj)} {e : Expr} {pos : Pos} {k : Nat} {f : Addr} {fd : FuncData} {ps : List Str} {x : Str} {p : Pos} {b : Bool} {w : DE}
def tCallE (K : PySem.W.Frag) (a : Addr) (b : Bool) (t : TA) : TE := fun σ H Q => t σ H fun vs H1 => vs = [V.ref a] ∧ spD K (fun ds Φ => ds = [excD a] ∧ Φ (.bool b)) [V.ref a] H1 Q E0
theorem pe_callE {t : TA} (F : FnE X.prog X.w X.K X.mg X.base k f fd ps D b) (E : Held1 X.K D p0) (hr : L2H.RoomH k X.A) (hg : Gl (X.suite p0.1 (p0 :: pn)) x) (hm : X.mg x = some (.ref f)) (hk : PySem.W.keepIn X.K (.ref f) = true) (hb : Binds X.K fd ps [])
    (ha : PA (X.suite p0.1 (p0 :: pn)) [e] t) (hdb : (x == ("__debug__" : Str)) = false := by decide) (he : starEach [e] X.env = (false, eval e X.env) :: starEach [] X.env := by rfl) (hpl : (backTo pos (starEach [] X.env)).any (·.1) = false := by rfl) :
    PE (X.suite p0.1 (p0 :: pn)) (.Call (.Name x p) [e] [] pos) (tCallE X.K p0.1 b t) := by
  refine ⟨fun pins s σ H Q I h => wpAny_Call_Name_kw (ld_glob I hg hm (PySem.W.callWith_K (h₀ := X.base) I.ok.mod.kin hk (thn (ha.run pos pins s σ H _ I h) fun us s1 ⟨vs, H1, J, r, ev, q⟩ => ⟨J.kIn, ?_⟩) he hpl) hdb)⟩
  subst ev
  have eu : us = [Value.ref p0.1] := by
    cases r with
    | cons r1 r2 =>
      cases r2
      have r1 : _ = Value.ref p0.1 := r1
      rw [r1]
  subst eu
  have bb := hb s1 [Value.ref p0.1] J.kIn (by rw [F.len]; rfl)
  rw [List.append_nil] at bb
  have P1 := J.pin p0 (List.mem_append_left _ List.mem_cons_self)
  have hpin : L2H.PinOk (X.suite p0.1 (p0 :: pn)).stack H1 s1 p0 := ⟨P1.1, P1.2.1, fun hm => (List.mem_cons.mp (J.stkSub p0.1 hm)).elim P1.2.2.1 P1.2.2.2.1, P1.2.2.2.2⟩
  refine wpAny_call (codeAny_mono (F.go (X.suite p0.1 (p0 :: pn)).A X.stack s1 H1 Q E0 p0 ⟨hr.dp, hr.un⟩ rfl E hpin J.env0 bb q) fun r s' hq => ?_)
  match r, hq with
  | .error e, hq => exact hq.elim
  | .ok (.ret u), hq => exact J.after hq
  | .ok .next, hq => exact hq.elim
  | .ok .brk, hq => exact hq.elim
  | .ok .cont, hq => exact hq.elim
@[simp] def wCallE (a : Addr) (b : Bool) (wa : DA) : DE := fun s Φ => wa s fun ds s1 => ds = [excD a] ∧ Φ (.bool b) s1
theorem xe_callE {wa : DA} (F : FnE X.prog X.w X.K X.mg X.base k f fd ps D b) (E : Held1 X.K D p0) (hr : L2H.RoomH k X.A) (hg : Gl (X.suite p0.1 (p0 :: pn)) x) (hm : X.mg x = some (.ref f)) (hk : PySem.W.keepIn X.K (.ref f) = true) (hb : Binds X.K fd ps [])
    (ha : XA (X.suite p0.1 (p0 :: pn)) [e] wa) (hdb : (x == ("__debug__" : Str)) = false := by decide) (he : starEach [e] X.env = (false, eval e X.env) :: starEach [] X.env := by rfl) (hpl : (backTo pos (starEach [] X.env)).any (·.1) = false := by rfl) :
    XE (X.suite p0.1 (p0 :: pn)) (.Call (.Name x p) [e] [] pos) (wCallE p0.1 b wa) := pe_imp (pe_callE F E hr hg hm hk hb ha hdb he hpl) fun σ H Q h => by
  obtain ⟨G, P, F, s, Φ, R, h, kk⟩ := h
  refine ⟨G, P, F, s, _, R, h, fun vs F1 H1 s1 ds R1 e1 d1 q => ?_⟩
  obtain ⟨eds, q⟩ := q
  subst eds
  cases d1 with
  | cons d2 d3 =>
    cases d3
    cases d2
    exact ⟨rfl, F1, [excD p0.1], fun r => Φ r s1, ⟨R1.same, R1.tabF⟩, .cons (.er _) .nil, ⟨rfl, q⟩, fun v F' H' x fr dx qx => kk v F' H' s1 x (R1.fresh fr) (e1.trans fr.ff) dx qx⟩
/-! try: .. except X as n: .. -/
/-- tbl tells of each class that may come whether the clause takes it; n's slot holds the error while the suite runs -/
@[simp] def wTryAs (i : Nat) (tbl : List (Str × Bool)) (wb : DS) (ws : Addr → DS) : DS := fun Φ s => wb { nx := Φ.nx, rt := Φ.rt, bk := Φ.bk, ct := Φ.ct, rl := Φ.rl, ex := fun c xs s' => xs = [] ∧ ∃ b, (c, b) ∈ tbl ∧
  (if b = true then ∀ a, ws a { nx := fun s2 => Φ.nx (s2.put i .un), rt := Φ.rt, bk := fun s2 => Φ.bk (s2.put i .un), ct := fun s2 => Φ.ct (s2.put i .un), rl := Φ.rl } (s'.put i (.d (excD a))) else Φ.ex c xs s') } s
theorem Rep.dropU {K : PySem.W.Frag} {G F H : Hp} {P : Option Addr} {σ : L2.St} {s : S} {i : Nat} (R : Rep K G P F H σ s) : Rep K G P F H (σ.set i none) (s.put i .un) := by
  refine ⟨R.same, R.keep, R.apart, fun j y hy => ?_, fun j k ys zs r hj hk e1 e2 => ?_, R.pool, put_len R.len, fun j k y z r hj hk hr jk oc => ?_, R.tab⟩
  · rcases set_get hy with ⟨rfl, rfl⟩ | ⟨ne, hy⟩
    · exact True.intro
    · have q := R.sl j y hy
      cases y with
      | un => exact True.intro
      | d y =>
        obtain ⟨u, a, b⟩ := q
        exact ⟨u, by rw [List.getElem?_set_ne (Ne.symm ne)]; exact a, b⟩
      | o ys =>
        obtain ⟨p', vs', g1, g2⟩ := q
        exact ⟨p', vs', by rw [List.getElem?_set_ne (Ne.symm ne)]; exact g1, g2⟩
      | pl =>
        obtain ⟨a, h1, h2⟩ := q
        exact ⟨a, h1, by rw [List.getElem?_set_ne (Ne.symm ne)]; exact h2⟩
      | sc ns =>
        obtain ⟨a, h1, h2⟩ := q
        exact ⟨a, by rw [List.getElem?_set_ne (Ne.symm ne)]; exact h1, h2⟩
      | tb p' qs xss => exact q.tbUp (List.getElem?_set_ne (Ne.symm ne)) (Same.refl F) fun r o hr g1 g2 g3 g4 => ⟨g1, g2, g3, g4⟩
  · rcases set_get hj with ⟨_, z⟩ | ⟨nj, hj⟩
    · cases z
    · rcases set_get hk with ⟨_, z⟩ | ⟨nk, hk⟩
      · cases z
      · rw [List.getElem?_set_ne (Ne.symm nj)] at e1
        rw [List.getElem?_set_ne (Ne.symm nk)] at e2
        exact R.sep j k ys zs r hj hk e1 e2
  · rcases set_get hj with ⟨_, rfl⟩ | ⟨_, hj⟩
    · cases hr
    · rcases set_get hk with ⟨_, rfl⟩ | ⟨nk, hk⟩
      · rcases oc with z | ⟨⟨_, z⟩, _⟩
        · cases z
        · cases z
      · refine R.tbs j k y z r hj hk hr jk ?_
        rcases oc with q | ⟨q, q2⟩
        · exact .inl q
        · rw [List.getElem?_set_ne (Ne.symm nk)] at q2
          exact .inr ⟨q, q2⟩
theorem xs_try_as {n : Str} {i : Nat} {cv : Value} {body suite : List Stmt} {b₀ : Stmt} {np pos' : Pos} {wb : DS} {ws : Addr → DS} {tbl : List (Str × Bool)} (hs : X.stack = X.env :: X.outer) (hf : X.env.frame = some X.env.locals) (hN : X.N.Nodup) (hi : X.N[i]? = some n) (hln : X.env.kindOf n = some .local)
    (hc : Names X x cv) (ht : ∀ c b, (c, b) ∈ tbl → ∀ C, X.mg c = some (.ref C) → PySem.W.exmOne X.K (.ref C) cv = some b ∧ (b = true → C = D)) (hE : ExcC X.K D)
    (hb : ∀ (pn : List (Addr × Obj)) (xe : Value → Shared → Prop), PassesOwn (model X.prog X.w) X.A X.env xe → XSs (X.tr pn xe) body wb)
    (hsu : ∀ (p0 : Addr × Obj) (pn : List (Addr × Obj)), Held1 X.K D p0 → XSs (X.suite p0.1 (p0 :: pn)) (b₀ :: suite) (ws p0.1)) :
    XS X (.Try body [.ExceptHandler (some (.Name x np)) (some n) (b₀ :: suite) pos'] [] [] pos) (wTryAs i tbl wb ws) :=
  ps_imp (ps_try_as (tb := fun W => tS X.K (wW X.K X.mg W) wb) (ts := fun a cls d D' σ H => (cls = .ref D ∧ d = none) ∧ tS X.K noX (ws a) D' σ H) hs hf hN hi hln hc (takes_wish X)
    (fun W pn xe tk pa => pss_imp (hb pn xe pa) fun D' σ H t => tS_wish (fun c xs F σ H q => wW_X tk q) t)
    (fun a oe cls d pn hz hfl => ⟨fun pins s σ H D' I h => by
      obtain ⟨⟨e1, e2⟩, h⟩ := h
      subst e1
      subst e2
      exact (hsu (a, oe) pn ⟨hE, hz, hfl⟩).run pins s σ H D' I (tS_wish (fun c xs F σ H q => q.elim) h)⟩)) fun D' σ H h => by
  obtain ⟨G, P, F, s, Φ, R, h, b⟩ := h
  refine ⟨G, P, F, s, _, R, h, ⟨b.nx, b.rt, b.bk, b.ct, b.rl, fun c xs σ' F' H' s' R' e q => ?_⟩⟩
  obtain ⟨rfl, bb, hm, q⟩ := q
  refine fun C gC => ⟨fun _ => ?_, fun z => absurd rfl z⟩
  obtain ⟨em, eD⟩ := ht c bb hm C gC
  refine ⟨bb, em, fun e2 a na => ⟨⟨by rw [eD e2], rfl⟩, ?_⟩, fun e2 => ?_⟩
  · rw [if_pos e2] at q
    refine ⟨G, P, F', _, _, R'.setD (.er a), q a, ⟨fun σ2 F2 H2 s2 R2 e3 q2 => b.nx _ F2 H2 _ R2.dropU (e.trans e3) q2, fun v σ2 F2 H2 s2 x R2 e3 => b.rt v σ2 F2 H2 s2 x R2 (e.trans e3), fun σ2 F2 H2 s2 R2 e3 q2 => b.bk _ F2 H2 _ R2.dropU (e.trans e3) q2, fun σ2 F2 H2 s2 R2 e3 q2 => b.ct _ F2 H2 _ R2.dropU (e.trans e3) q2,
      fun p vs σ2 F2 H2 s2 xs R2 e3 => b.rl p vs σ2 F2 H2 s2 xs R2 (e.trans e3), fun _ _ _ _ _ _ _ _ z => z.elim⟩⟩
  · rw [if_neg (by rw [e2]; decide)] at q
    exact (b.ex c [] σ' F' H' s' R' e q C gC).1 rfl
end
end DL
/-! DL: defs that stand and may raise; defs that are handed an error -/
namespace DL
open PySem PySem.Spec PyProof.Rows L2
structure CaX (P : Program) (w : World) (K : PySem.W.Frag) (mg : Str → Option Value) (base : Heap) (k : Nat) (x : Str) (ps : List Str) (sp : DSpX) : Prop where
  ex : ∃ f fd, FnG P w K mg base (L2.CX P w) k f fd ps (spX K mg sp) ∧ mg x = some (.ref f) ∧ PySem.W.keepIn K (.ref f) = true ∧ Binds K fd ps []
structure CaE (P : Program) (w : World) (K : PySem.W.Frag) (mg : Str → Option Value) (base : Heap) (k : Nat) (x : Str) (ps : List Str) (D : Addr) (b : Bool) : Prop where
  ex : ∃ f fd, FnE P w K mg base k f fd ps D b ∧ mg x = some (.ref f) ∧ PySem.W.keepIn K (.ref f) = true ∧ Binds K fd ps []
section
variable {P : Program} {w : World} {K : PySem.W.Frag} {mg : Str → Option Value} {base h : Heap} {k : Nat} {ps : List Str} {x : Str} {st : Stmt} {N : List Str}
theorem caX {sp : DSpX} (D : DefK K x st) (X : K.In h) (G : h.Ns mainGlobals mg) (Sc : FnScope N ps (defScope st)) (b : Bnd x st ps) (len : ∀ ds Φ Ψ, sp ds Φ Ψ → ds.length = ps.length)
    (body : ∀ (f : Addr) (cdv : Value) (A : Around) (outer : List Env) (s : Shared) (H : Hp) (E : XK), (A.deeper (envOfC x (defScope st) s.heap.objs.size f cdv)).guards = some [] → Room k (A.deeper (envOfC x (defScope st) s.heap.objs.size f cdv)) →
      ∃ wd, XSs (cxOf (L2.CX P w) P w K mg base N x (defScope st) f cdv A outer s H E) (defBody st) wd ∧ ∀ ds Φ Ψ, sp ds Φ Ψ → wd (endX Φ Ψ) ⟨startE N (ds.map .d), []⟩) : CaX P w K mg base (k + 1) x ps sp := by
  obtain ⟨f, od, an, sl, oc, kV, dc, pm, cd, ct, F, gm, kp⟩ := D.fn X G
  exact ⟨f, _, fn_X F Sc len (body f), gm, kp, F.binds b⟩
theorem caE {D : Addr} {b : Bool} (Df : DefK K x st) (X : K.In h) (G : h.Ns mainGlobals mg) (Sc : FnScope N ps (defScope st)) (bd : Bnd x st ps) (len : ps.length = 1)
    (body : ∀ (f : Addr) (cdv : Value) (A : Around) (outer : List Env) (s : Shared) (H : Hp) (E : XK) (p : Addr × Obj), Held1 K D p →
      ∃ wd, XSs ((cxOf CX0 P w K mg base N x (defScope st) f cdv A outer s H E).suite p.1 [p]) (defBody st) wd ∧ ∀ Φ : PyData → Prop, Φ (.bool b) → wd (endD Φ) ⟨startE N [.d (excD p.1)], []⟩) : CaE P w K mg base (k + 1) x ps D b := by
  obtain ⟨f, od, an, sl, oc, kV, dc, pm, cd, ct, F, gm, kp⟩ := Df.fn X G
  exact ⟨f, _, fn_E F Sc len (body f), gm, kp, F.binds bd⟩
end
section
variable {X : Cx} {k kX i : Nat} {sp : DSpX} {ps : List Str} {x y : Str} {p pos pos2 yp : Pos} {e : Expr} {es : List Expr} {wa : DA} {D : Addr} {p0 : Addr × Obj} {pn : List (Addr × Obj)} {b : Bool}
theorem c_retX (C : CaX X.prog X.w X.K X.mg X.base k x ps sp) (hgd : X.A.guards = some []) (hr : Room kX X.A) (hk : k ≤ kX) (hg : Gl X x) (ha : XA X (e :: es) wa)
    (hdb : (x == ("__debug__" : Str)) = false := by decide) (he : starEach (e :: es) X.env = (false, eval e X.env) :: starEach es X.env := by rfl) (hpl : (backTo pos (starEach es X.env)).any (·.1) = false := by rfl) :
    XS X (.Return (some (.Call (.Name x p) (e :: es) [] pos)) pos2) (wRetX sp wa) := by
  obtain ⟨f, fd, F, gm, kp, b⟩ := C.ex
  exact xs_retX F hgd (hr.mono hk) hg gm kp b ha hdb he hpl
theorem c_setX (hN : X.N.Nodup) (hi : X.N[i]? = some y) (hx : Loc X.env.scope y) (C : CaX X.prog X.w X.K X.mg X.base k x ps sp) (hgd : X.A.guards = some []) (hr : Room kX X.A) (hk : k ≤ kX) (hg : Gl X x) (ha : XA X (e :: es) wa)
    (hdb : (x == ("__debug__" : Str)) = false := by decide) (he : starEach (e :: es) X.env = (false, eval e X.env) :: starEach es X.env := by rfl) (hpl : (backTo pos (starEach es X.env)).any (·.1) = false := by rfl)
    (hs : swapsWith (.Call (.Name x p) (e :: es) [] pos) (some (.Name y yp)) pos2.line X.env = pure false := by rfl)
    (hf : X.fn y = true ∨ X.env.scope.names.lookup y = some .local := by first | exact .inl rfl | exact .inr rfl | assumption) :
    XS X (.Assign [.Name y yp] (.Call (.Name x p) (e :: es) [] pos) pos2) (wSetX i sp wa) := by
  obtain ⟨f, fd, F, gm, kp, b⟩ := C.ex
  exact xs_setX hN hi hx F hgd (hr.mono hk) hg gm kp b ha hdb he hpl hs hf
theorem c_callE (C : CaE X.prog X.w X.K X.mg X.base k x ps D b) (E : Held1 X.K D p0) (hr : Room kX X.A) (hk : k ≤ kX) (hg : Gl (X.suite p0.1 (p0 :: pn)) x) (ha : XA (X.suite p0.1 (p0 :: pn)) [e] wa)
    (hdb : (x == ("__debug__" : Str)) = false := by decide) (he : starEach [e] X.env = (false, eval e X.env) :: starEach [] X.env := by rfl) (hpl : (backTo pos (starEach [] X.env)).any (·.1) = false := by rfl) :
    XE (X.suite p0.1 (p0 :: pn)) (.Call (.Name x p) [e] [] pos) (wCallE p0.1 b wa) := by
  obtain ⟨f, fd, F, gm, kp, bb⟩ := C.ex
  exact xe_callE F E (L2H.roomH_of (hr.mono hk)) hg gm kp bb ha hdb he hpl
end
/-! what the classes answer -/
theorem kit_ref {K : PySem.W.Frag} {t : Value} {C : Addr} {b : Bool} (h1 : PySem.W.isClsIn K C = true) (h2 : PySem.W.typeIn K (.ref C) = some (.type "type")) (h3 : PySem.W.subIn K t (.ref C) = some b) (h4 : b = true ∨ (t == .ref C) = false) : PySem.W.kitOne K t (.ref C) = some b := by
  have e : PySem.W.kitCls K t (.ref C) = some b := by
    show (if ((PySem.W.clsIn K C).isSome && PySem.W.typeIn K (.ref C) == some (.type "type")) = true then PySem.W.subIn K t (.ref C) else none) = some b
    have h1 : (PySem.W.clsIn K C).isSome = true := h1
    rw [h1, h2, if_pos (by decide), h3]
  unfold PySem.W.kitOne
  by_cases q : (t == Value.ref C) = true
  · rw [if_pos q]
    rcases h4 with h4 | h4
    · rw [h4]
    · rw [h4] at q
      cases q
  · rw [if_neg q]
    exact e
theorem kit_val {K : PySem.W.Frag} {D : Addr} {b : Bool} (h : PySem.W.subIn K (.ref D) (.type "ValueError") = some b) : PySem.W.kitOne K (.ref D) (.type "ValueError") = some b := by
  have e : PySem.W.kitMeta "ValueError" = true := by decide +kernel
  show (if (Value.ref D == Value.type "ValueError") = true then some true else (if PySem.W.kitMeta "ValueError" = true then PySem.W.subIn K (.ref D) (.type "ValueError") else none)) = some b
  rw [if_neg (by intro z; cases (beq_iff_eq.mp z)), if_pos e]
  exact h
end DL
/-! DL: enumerate of a text -/
namespace DL
open PySem PySem.Spec PyProof.Rows L2
def IteS (x : Str) : It :=
  ⟨fun i _ => i < x.cps.size, fun i H v H' => ∃ T c, v = .ref T ∧ H T = none ∧ x.cps[i]? = some c ∧ H' = upd H T (.tup [.int (i : Nat), .str ⟨#[c]⟩]), fun i _ => x.cps.size ≤ i⟩
theorem draws_text {prog : Program} {w : World} {A : Around} (hh : A.handled = none) (it : Addr) (x : Str) (t : Tok) :
    Draws prog w A it [it] x.cps.size (fun i v => ∃ c u, x.cps[i]? = some c ∧ v = .str ⟨#[c]⟩ u) (fun i h => h.IsStrIter it (strIterType x) x t i) := by
  cases ha : x.cps.all (· < 128)
  · simp only [strIterType, ha, Bool.false_eq_true, if_false]
    exact .strWide hh it x t
  · simp only [strIterType, ha, if_true]
    exact .strAscii hh it x t
theorem turn_enumS {P : Program} {w : World} {K : PySem.W.Frag} {elts : List Expr} {kk : Nat} {tpos : Pos} (x : Str) (t : Tok) (e it : Addr) :
    Turn P w K (.Tuple elts kk tpos) (IteS x) [e, it] e (fun i h => (∃ old, IsEnum h e it ((i : Nat) : Int) old) ∧ h.IsStrIter it (strIterType x) x t i ∧ e ≠ it ∧ i ≤ x.cps.size) where
  mem := by simp
  obj := fun i h st b hb => by
    obtain ⟨⟨old, he⟩, ⟨o, ho, hc, hd⟩, _⟩ := st
    have e' : b = e ∨ b = it := by simpa using hb
    rcases e' with z | z
    · rw [z]; exact ⟨_, he, fun v q => nomatch q⟩
    · rw [z]; exact ⟨o, ho, fun v q => by rw [hd] at q; cases q⟩
  keep := fun i h h' st k => let ⟨⟨old, he⟩, ⟨o, ho, r⟩, hne, hle⟩ := st; ⟨⟨old, k e (by simp) _ he⟩, ⟨o, k it (by simp) o ho, r⟩, hne, hle⟩
  item := by
    intro X hP hw hK hc i pins s σ H E I hf st hg
    subst hP hw hK
    obtain ⟨⟨old, he⟩, hit, hne, hle⟩ := st
    have hel : e < s.heap.objs.size := Heap.lt_size he
    have hil : it < s.heap.objs.size := by obtain ⟨_, q, _⟩ := hit; exact Heap.lt_size q
    have hlt : i < x.cps.size := hg
    refine wpAny_pyNext_enum_itemD (draws_text (A := X.A.in1) (I.ok.hd hc) it x t) he hit hlt hne (by simpa using hne) fun v h' tk hv ho hit' hT hsz hk => ?_
    obtain ⟨c, u, hcx, rfl⟩ := hv
    refine ⟨_, rfl, wpAny_letOwnedTupleGo_enum (s := { s with heap := h', toks := tk + 1 }) ho fun h'' he' sb => ?_⟩
    have hT2 : h''.get? s.heap.objs.size = some { cls := .type "tuple", data := .seq #[.int i tk, .str ⟨#[c]⟩ u] } := (sb.2 _ (Nat.ne_of_gt hel)).trans hT
    have new : ObjOk X.prog X.w (upd H s.heap.objs.size (.tup [.int (i : Nat), .str ⟨#[c]⟩])) h'' s.heap.objs.size (.tup [.int (i : Nat), .str ⟨#[c]⟩]) :=
      ⟨by show 2 ≤ sizeLine; decide, [.int i tk, .str ⟨#[c]⟩ u], .cons ⟨_, rfl⟩ (.cons ⟨_, rfl⟩ .nil), ⟨_, hT2, rfl, _, rfl⟩⟩
    have I1 : Inv X pins σ (upd H s.heap.objs.size (.tup [.int (i : Nat), .str ⟨#[c]⟩])) { s with heap := h'', toks := tk + 1 } :=
      I.turnedNew (ch := [e, it]) (fun b ob hb q => (sb.2 b (fun z => hb (by simp [z]))).trans (hk b ob (fun z => hb (by simp [z])) (fun z => hb (by simp [z])) q)) hf (Nat.le_refl _) new
    refine ⟨.ref s.heap.objs.size, _, I1, rfl, ⟨_, c, rfl, I.hok.fresh (Nat.le_refl _), hcx, rfl⟩, ⟨⟨.str ⟨#[c]⟩ u, ?_⟩, ?_, hne, hlt⟩, fun b hb => ?_⟩
    · have e1 : ((i + 1 : Nat) : Int) = (i : Int) + 1 := by omega
      rw [e1]; exact he'
    · obtain ⟨o, ho2, r⟩ := hit'
      exact ⟨o, (sb.2 it (Ne.symm hne)).trans ho2, r⟩
    · have hb' : b < s.heap.objs.size := by
        have e' : b = e ∨ b = it := by simpa using hb
        rcases e' with z | z
        · rw [z]; exact hel
        · rw [z]; exact hil
      rw [upd_ne (Nat.ne_of_lt hb')]
      exact (hf b hb).1
  done := by
    intro X hP hw hK hc i pins s σ H E I hf st hg
    subst hP hw hK
    obtain ⟨⟨old, he⟩, hit, hne, hle⟩ := st
    obtain ⟨f0, f1, f2, f3, f4, f5⟩ := hf it (by simp)
    have hg : x.cps.size ≤ i := hg
    have ei : i = x.cps.size := Nat.le_antisymm hle hg
    subst ei
    exact wpAny_pyNext_enum_endD (draws_text (A := X.A.in1) (I.ok.hd hc) it x t) he hit fun h' eb => ⟨rfl, I.turned (t' := s.toks) (fun b o hb q => eb b o hb q) f0 f1 f3 f4 f5⟩
  self := fun A i s Q E st h => let ⟨⟨_, he⟩, _⟩ := st; wpAny_pyIter_enum he h
def iEnum2 (K : PySem.W.Frag) (ta : TA) : TI := fun σ H R => ta σ H fun vs H1 => (∃ a xs, vs = [.ref a] ∧ SqL K H1 a xs ∧ R (Ite K a) H1) ∨ ∃ x, vs = [.str x] ∧ R (IteS x) H1
theorem pi_enum2 {X : Cx} {e : Expr} {ta : TA} {p pos tpos : Pos} {elts : List Expr} {kk : Nat} (hg : Gl X "enumerate") (hm : X.mg "enumerate" = none) (ha : PA X [e] ta) (hs : starEach [e] X.env = [(false, eval e X.env)] := by rfl) :
    PI X (.Tuple elts kk tpos) (.Call (.Name "enumerate" p) [e] [] pos) (iEnum2 X.K ta) := by
  refine ⟨fun pins s σ H R I h => ?_⟩
  refine Call_ (ld_blt I hg hm boot_enumerate (PyProof.Rows.callWith_type1 (thn (ha.run pos pins s σ H _ I h) fun us s1 ⟨vs, H1, I1, r1, q1⟩ => ?_) hs rfl))
  rcases q1 with ⟨a, xs, ex, hq, q⟩ | ⟨x, ex, q⟩
  · subst ex
    cases r1 with
    | cons r rr =>
      cases rr
      cases r
      obtain ⟨its, rv, p', hz⟩ := I1.list hq
      refine call_enumerate_list p'.isList fun h' he hit hsz hk => wpAny_pyIter_enum he ?_
      have I2 : Inv X pins σ H1 { s1 with heap := h' } := I1.kept (t' := s1.toks) hk
      refine ⟨s1.heap.objs.size + 1, [s1.heap.objs.size + 1, s1.heap.objs.size], _, _, H1, rfl, I2, turn_enum a (s1.heap.objs.size + 1) s1.heap.objs.size, ⟨⟨.none, he⟩, hit, Nat.succ_ne_self _⟩, fun b hb => ?_, q⟩
      have e' : b = s1.heap.objs.size + 1 ∨ b = s1.heap.objs.size := by simpa using hb
      have hle : s1.heap.objs.size ≤ b := by
        rcases e' with z | z
        · rw [z]; exact Nat.le_add_right _ _
        · rw [z]; exact Nat.le_refl _
      exact I1.fpOk hle (I1.hok.fresh hle)
  · subst ex
    cases r1 with
    | cons r rr =>
      cases rr
      obtain ⟨t, rfl⟩ := r
      refine call_enumerate_str fun h' he hit hsz hk => wpAny_pyIter_enum he ?_
      have I2 : Inv X pins σ H1 { s1 with heap := h' } := I1.kept (t' := s1.toks) hk
      refine ⟨s1.heap.objs.size + 1, [s1.heap.objs.size + 1, s1.heap.objs.size], _, _, H1, rfl, I2, turn_enumS x t (s1.heap.objs.size + 1) s1.heap.objs.size, ⟨⟨.none, he⟩, hit, Nat.succ_ne_self _, Nat.zero_le _⟩, fun b hb => ?_, q⟩
      have e' : b = s1.heap.objs.size + 1 ∨ b = s1.heap.objs.size := by simpa using hb
      have hle : s1.heap.objs.size ≤ b := by
        rcases e' with z | z
        · rw [z]; exact Nat.le_add_right _ _
        · rw [z]; exact Nat.le_refl _
      exact I1.fpOk hle (I1.hok.fresh hle)
theorem yl_enumS {K : PySem.W.Frag} {F : Hp} {z : Str} : Yl K F (IteS z) (enumD (signsOf z)) := fun F1 H1 e1 e2 i => by
  have hl : (signsOf z).length = z.cps.size := by
    unfold signsOf
    rw [List.length_map, Array.length_toList]
  refine ⟨fun x hx => ?_, fun h => by rw [enumD_len, hl] at h; exact h⟩
  obtain ⟨y, hy, rfl⟩ := enumD_get hx
  have hi : i < z.cps.size := by rw [← hl]; exact (List.getElem?_eq_some_iff.mp hy).1
  refine ⟨hi, fun u H2 q => ?_⟩
  obtain ⟨T, c, rfl, nT, hc, rfl⟩ := q
  have ey : y = .str ⟨#[c]⟩ := by
    unfold signsOf at hy
    rw [List.getElem?_map, Array.getElem?_toList, hc] at hy
    cases hy
    rfl
  subst ey
  have f := Fresh.new (o := .tup [.int (i : Nat), .str ⟨#[c]⟩]) e2 nT
  exact ⟨_, f, .tup (SqT.of upd_same) (.cons (.int _) (.cons (.str _) .nil))⟩
@[simp] def wEnum2 (w : DA) : DI := fun s Φ => w s fun xs s1 => match xs with
  | [.list xs] => Φ (enumD xs) s1
  | [.str z] => Φ (enumD (signsOf z)) s1
  | _ => False
theorem xi_enum2 {X : Cx} {e : Expr} {pos : Pos} {elts : List Expr} {kk : Nat} {w : DA} {p tpos : Pos} (hg : Gl X "enumerate") (hm : X.mg "enumerate" = none) (ha : XA X [e] w) (hs : starEach [e] X.env = [(false, eval e X.env)] := by rfl) :
    XI X (.Tuple elts kk tpos) (.Call (.Name "enumerate" p) [e] [] pos) (wEnum2 w) := pi_imp (pi_enum2 hg hm ha hs) fun σ H R h => by
  obtain ⟨G, P, F, s, Φ, RR, h, k⟩ := h
  refine ⟨G, P, F, s, _, RR, h, fun vs F1 H1 s1 xs R1 e1 d1 q => ?_⟩
  match xs, d1, q with
  | [.list xs], .cons (.lst h1 h2) .nil, q => exact .inl ⟨_, _, rfl, SqL.of (R1.same _ _ h1), k _ F1 H1 s1 _ R1 e1 (yl_enum h1 h2) q⟩
  | [.str z], .cons (.str _) .nil, q => exact .inr ⟨z, rfl, k _ F1 H1 s1 _ R1 e1 yl_enumS q⟩
def gc_int {K : PySem.W.Frag} {mg : Str → Option Value} {h : Heap} (X : K.In h) (G : h.Ns mainGlobals mg) {x : Str} {i : Int} {t : Tok} (a : PySem.W.nsIn K mainGlobals x = some (some (.int i t))) : Gc K mg x (.int i) where
  v := .int i
  u := .int i t
  mg := PySem.W.mg_of X G a
  rel := ⟨t, rfl⟩
  dq := fun F => .int _
theorem exC_val {K : PySem.W.Frag} {mg : Str → Option Value} {h : Heap} (X : K.In h) (G : h.Ns mainGlobals mg) {x : Str} {C : Addr} (t1 : PySem.W.nsIn K mainGlobals x = some (some (.ref C))) (t2 : PySem.W.keepIn K (.ref C) = true)
    (t3 : PySem.W.excIn K C [.type "ValueError", .type "Exception", .type "BaseException", .type "object"] "ValueError.__new__" = true) (t4 : PySem.W.subIn K (.ref C) (.type "BaseException") = some true) (t5 : PySem.W.typeIn K (.ref C) = some (.type "type")) : ExC K mg x :=
  ⟨_, PySem.W.mg_of X G t1, t2, ⟨_, _, _, _, PySem.F.excBase_ValueError, t3⟩, t4, t5⟩
end DL
/-! DL: gcd, lcm of the module math; abs -/
namespace DL
open PySem PySem.Spec PyProof.Rows L2
section
variable {X : Cx} {K : PySem.W.Frag}
def rLcm : List V → Hp → VK → Prop := fun vs H Q => ∃ a b : Int, vs = [.int a, .int b] ∧ a.natAbs < 2 ^ 64 ∧ b.natAbs < 2 ^ 64 ∧ Q (.int ((Nat.lcm a.natAbs b.natAbs : Nat) : Int)) H
theorem lcm_fits {a b : Nat} (ha : a < 2 ^ 64) (hb : b < 2 ^ 64) : (((Nat.lcm a b : Nat) : Int)).natAbs.log2 < bitsLine := by
  rw [Int.natAbs_natCast]
  have h : Nat.lcm a b < 2 ^ 128 := Nat.lt_of_le_of_lt (Nat.div_le_self _ _) (by
    have h1 : a * b ≤ (2 ^ 64 - 1) * (2 ^ 64 - 1) := Nat.mul_le_mul (by omega) (by omega)
    exact Nat.lt_of_le_of_lt h1 (by decide))
  exact Nat.lt_of_le_of_lt (PySem.W.mg_log (k := 127) h) (by decide +kernel)
theorem cr_lcm : CallR X (.builtin "math.lcm") rLcm := by
  intro pins s σ H vs us Q I r h
  obtain ⟨a, b, rfl, ha, hb, q⟩ := h
  obtain ⟨t, u, rfl⟩ := Vals.int2 r
  refine PySem.W.mg_lcm ha hb ?_ ?_
  · rw [Nat.lcm_one_left]
    exact lcm_fits ha hb
  · rw [Nat.lcm_one_left]
    exact ⟨.int _, H, I.tok _, ⟨_, rfl⟩, q⟩
@[simp] def gGcd : PyData → PyData → (PyData → Prop) → Prop := fun x y Φ => match x, y with
  | .int i, .int j => Φ (.int ((Nat.gcd i.natAbs j.natAbs : Nat) : Int))
  | _, _ => False
@[simp] def gLcm : PyData → PyData → (PyData → Prop) → Prop := fun x y Φ => match x, y with
  | .int i, .int j => i.natAbs < 2 ^ 64 ∧ j.natAbs < 2 ^ 64 ∧ Φ (.int ((Nat.lcm i.natAbs j.natAbs : Nat) : Int))
  | _, _ => False
@[simp] def gAbs : PyData → (PyData → Prop) → Prop
  | .int i, Φ => Φ (.int (if i < 0 then -i else i))
  | _, _ => False
theorem opn_gcd : OpN K rGcd (wN2 gGcd) := opN2 fun F H v u x y Q Φ s d1 d2 w k => by
  cases x with
  | int i =>
    cases y with
    | int j =>
      cases d1
      cases d2
      exact ⟨i, j, rfl, k _ F H _ (Fresh.refl s) (.int _) w⟩
    | _ => exact w.elim
  | _ => exact w.elim
theorem opn_lcm : OpN K rLcm (wN2 gLcm) := opN2 fun F H v u x y Q Φ s d1 d2 w k => by
  cases x with
  | int i =>
    cases y with
    | int j =>
      cases d1
      cases d2
      exact ⟨i, j, rfl, w.1, w.2.1, k _ F H _ (Fresh.refl s) (.int _) w.2.2⟩
    | _ => exact w.elim
  | _ => exact w.elim
theorem opn_abs : OpN K (fun xs H Q => ∃ i, xs = [.int i] ∧ Q (.int (if i < 0 then -i else i)) H) (wN1 gAbs) := opN1 fun F H v x Q Φ s d w k => by
  cases x with
  | int i =>
    cases d
    exact ⟨i, rfl, k _ F H _ (Fresh.refl s) (.int _) w⟩
  | _ => exact w.elim
/-- f(e, ..), f a module's name for a built-in function -/
theorem xe_callM {x : Str} {p pos : Pos} {e : Expr} {es : List Expr} {id : String} {r : List V → Hp → VK → Prop} {w : WN} {wa : DA} (hc : CallR X (.builtin id) r) (O : OpN X.K r w) (hg : Gl X x) (hm : X.mg x = some (.builtin id)) (ha : XA X (e :: es) wa)
    (hdb : (x == ("__debug__" : Str)) = false := by decide) (he : starEach (e :: es) X.env = (false, eval e X.env) :: starEach es X.env := by rfl) (hpl : (backTo pos (starEach es X.env)).any (·.1) = false := by rfl) :
    XE X (.Call (.Name x p) (e :: es) [] pos) (wCB w wa) := pe_imp (pe_callBfun hc hg hm ha hdb he hpl) (cb_of O)
end
end DL
/-! own errors with an own __init__ that says Base.__init__(self, ..), Base an own class; errors as values -/
namespace DL
open PySem PySem.Spec PyProof.Rows L2
section
variable {X : Cx} {e : Expr} {es : List Expr} {ta : TA} {p1 p2 pos : Pos} {B C : Addr} {mc : Value}
theorem handed_ve : PySem.W.handedIn (.builtin "ValueError.__init__") = true := by decide +kernel
/-- what the written part says of the base class -/
structure BaseC (K : PySem.W.Frag) (B : Addr) : Prop where
  sp : PySem.W.specialIn K (.ref B) "__getattribute__" = some (some (.builtin "type.__getattribute__"))
  rd : PySem.W.readsIn K B (.type "type") = true
  vV : PySem.W.findCls K (.ref B) (.type "type") "__init__" = some (.val (.builtin "ValueError.__init__"))
  kp : PySem.W.keepIn K (.ref B) = true
/-- B.__init__(self, ..), B an own class without an __init__ of its own -/
theorem pe_heinit {x : Str} {pl : Sem Bool} (T : BaseC X.K B) (hg : Gl X x) (gB : X.mg x = some (.ref B)) (ha : PA X (e :: es) ta)
    (hc : eval (.Call (.Attribute (.Name x p1) "__init__" p2) (e :: es) [] pos) X.env = (do
      let ov ← eval (.Name x p1) X.env
      standAt p2.atName
      let (f, first) ← holding [ov] (getMethod ov "__init__" pl)
      callWith pos f first (backTo pos (starEach (e :: es) X.env)) (backToKw pos (keywordEach [] X.env))) := by rfl)
    (hdb : (x == ("__debug__" : Str)) = false := by decide)
    (he : starEach (e :: es) X.env = (false, eval e X.env) :: starEach es X.env := by rfl) (hpl : (backTo pos (starEach es X.env)).any (·.1) = false := by rfl) :
    PE X (.Call (.Attribute (.Name x p1) "__init__" p2) (e :: es) [] pos) (tVeI X.K ta) := by
  refine ⟨fun pins s σ H Q I h => ?_⟩
  refine PySem.W.methodCall_KW (ld_glob I hg gB ?_ hdb) hc
  refine PySem.W.method_cls I.kIn T.sp (PySem.W.cls_value I.kIn T.rd T.vV handed_ve ?_)
  show wpAny _ _ (callWith pos (Value.builtin "ValueError.__init__") [] (backTo pos (starEach (e :: es) X.env)) []) _ _ _
  refine PyProof.Rows.callWith_method1 (thn (ha.run pos pins _ σ H _ (I.tok _) h) fun us s1 ⟨vs, H1, I1, r1, a, C, ws, ev, hl, T, ea, q⟩ => ?_) he hpl
  subst ev
  cases r1 with
  | @cons _ u0 _ ur ra rw' =>
    obtain rfl : u0 = Value.ref a := ra
    have hlen : ur.length ≤ sizeLine := by
      rw [← Paired.length rw', sizeLine_eq]
      omega
    exact oinit_ok T I1 ea hlen fun s' J => ⟨.non, H1, J, rfl, q⟩
end
/-! ### own errors as values: made, asked, read -/
/-- C(e, ..), C's own __init__ keeping sp, as a value -/
def tMkV (C : Addr) (sp : Sp) (ta : TA) : TE := fun σ H Q => ta σ H fun vs H1 => vs.length ≤ 1000 ∧ ∀ a, H1 a = none → sp (.ref a :: vs) (upd H1 a (exo a C none)) (fun v H2 => v = .non ∧ Q (.ref a) H2) (fun _ _ _ => False)
section
variable {X : Cx} {e : Expr} {es : List Expr} {ta : TA} {p pos : Pos}
theorem pe_oex {CX : CXT} {x : Str} {C fI : Addr} {k : Nat} {fd : FuncData} {ps : List Str} {sp : Sp} (T : OexC X.K C) (iC : PySem.W.findIn X.K (.ref C) "__init__" = some (some (.ref fI))) (tI : PySem.W.typeIn X.K (.ref fI) = some (.type "function"))
    (F1 : FnOk X.prog X.w X.K X.mg X.base CX k fI fd ps sp) (hr : Room (k + 1) X.A) (hb : Binds X.K fd ps []) (hx : Passes CX X (fun _ _ _ => False)) (hg : Gl X x) (hm : X.mg x = some (.ref C)) (ha : PA X (e :: es) ta)
    (hdb : (x == ("__debug__" : Str)) = false := by decide) (he : starEach (e :: es) X.env = (false, eval e X.env) :: starEach es X.env := by rfl) (hpl : (backTo pos (starEach es X.env)).any (·.1) = false := by rfl) :
    PE X (.Call (.Name x p) (e :: es) [] pos) (tMkV C sp ta) := by
  refine ⟨fun pins s σ H Q I h => ?_⟩
  obtain ⟨nm, q, N, bs, bm, sn, sub, ab, col, dd, k0, k1, k2, k3, k5, hC, hbm⟩ := T.cls
  refine wpAny_Call_Name_kw (ld_glob I hg hm ?_ hdb)
  refine PySem.W.callWith_K (h₀ := X.base) I.ok.mod.kin T.kC (thn (ha.run pos pins s σ H _ I h) fun us s1 ⟨vs, H1, I1, r1, hz, q1⟩ => ⟨I1.kIn, ?_⟩) he hpl
  show wpAny _ _ (call (.ref C) us) _ _ _
  obtain ⟨hp, g, dr, tk, os⟩ := s1
  have hsz : hp.objs.size ≤ hp.objs.size + 1 := Nat.le_succ _
  have hn : H1 (hp.objs.size + 1) = none := I1.hok.fresh hsz
  have hq := q1 (hp.objs.size + 1) hn
  have kk : ∀ b o, hp.get? b = some o → ((hp.push (PySem.W.kdv_tup us)).push (PySem.HandSPX.excO C hp.objs.size)).get? b = some o := fun b o e => Heap.get?_push_of_some _ (Heap.get?_push_of_some _ e)
  have hget : ((hp.push (PySem.W.kdv_tup us)).push (PySem.HandSPX.excO C hp.objs.size)).get? (hp.objs.size + 1) = some (PySem.HandSPX.excO C hp.objs.size) := by heap_get
  have I2 : Inv X pins σ (upd H1 (hp.objs.size + 1) (exo (hp.objs.size + 1) C none)) ⟨(hp.push (PySem.W.kdv_tup us)).push (PySem.HandSPX.excO C hp.objs.size), g, dr, tk, os⟩ :=
    I1.laid (t' := tk) (a := hp.objs.size + 1) (o := exo (hp.objs.size + 1) C none) (h' := (hp.push (PySem.W.kdv_tup us)).push (PySem.HandSPX.excO C hp.objs.size)) kk hsz (exo_ok hget)
  have r2 : Vals (V.ref (hp.objs.size + 1) :: vs) (Value.ref (hp.objs.size + 1) :: us) := .cons rfl r1
  have hl : (Value.ref (hp.objs.size + 1) :: us).length = ps.length := by
    have e := r2.length
    rw [F1.len _ _ _ _ hq] at e
    exact e.symm
  have hus : us.length ≤ sizeLine := by
    rw [← Paired.length r1, sizeLine_eq]
    omega
  have bb := hb ⟨(hp.push (PySem.W.kdv_tup us)).push (PySem.HandSPX.excO C hp.objs.size), g, dr, tk, os⟩ (Value.ref (hp.objs.size + 1) :: us) I2.kIn (by rw [List.append_nil]; exact hl)
  rw [List.append_nil] at bb
  refine wpAny_call (PySem.HandSPX.call_own F.excBase_ValueError (fun Y => PySem.HandSPX.refsVE_contains Y bm hbm) (I1.kIn _ _ hC) (PySem.W.looks_findIn I1.kIn iC) (fun self => PySem.W.bind_fn I1.kIn self tI) hus
    (codeAny_mono (F1.run _ X.stack _ _ ⟨Value.ref (hp.objs.size + 1) :: us, []⟩ (Value.ref (hp.objs.size + 1) :: us) _ _ (fun _ _ _ => False) (hr.make C us []) (I2.env0.make C us []) bb r2 hq) fun r s' hq' => ?_))
  cases r with
  | error er => exact hx pins σ _ _ er s' I2 hq'
  | ok fl =>
    cases fl with
    | ret u =>
      obtain ⟨v, H2, os2, bare2, un2, hok2, rv, ev, q2⟩ := hq'
      subst ev
      obtain ⟨h2, g2, d2, t2, os'⟩ := s'
      obtain rfl : os' = os := os2
      exact ⟨rv, .ref (hp.objs.size + 1), H2, I2.call (ch := []) un2 hok2 bare2 (fun b z => absurd z (by simp)), rfl, q2⟩
    | next => exact False.elim hq'
    | brk => exact False.elim hq'
    | cont => exact False.elim hq'
/-- C(), C without an __init__ of its own, as a value -/
theorem pe_oex0 {C : Addr} {bmB : List Value} {B newId initId : String} {x : Str} (F : ExcBaseFacts B newId initId bmB) (q : PySem.W.excIn X.K C bmB newId = true) (gC : X.mg x = some (.ref C)) (kC : PySem.W.keepIn X.K (.ref C) = true) (hg : Gl X x)
    (hdb : (x == ("__debug__" : Str)) = false := by decide) :
    PE X (.Call (.Name x p) [] [] pos) (fun σ H Q => ∀ a, H a = none → Q (.ref a) (upd H a (exo a C none))) := by
  refine ⟨fun pins s σ H Q I h => ?_⟩
  refine wpAny_Call_Name_kw (ld_glob I hg gC ?_ hdb)
  refine PySem.W.callWith_K0 I.kIn kC ?_
  show wpAny _ _ (call (.ref C) []) _ _ _
  obtain ⟨bm, N, nm, qn, bs, hdct, sn, sub, ab, col, dd, k0, k1, k2, k3, k5, mN, hC, hN, hni, T⟩ := exc_obj I.kIn q
  refine wpAny_call_exc_subT F T hC hN hni (fun h' a hm => ?_) (by show 0 ≤ sizeLine; exact Nat.zero_le _)
  have hn : H a = none := I.hok.gone hm.new
  obtain ⟨t, ht, _, _⟩ := hm.there
  exact ⟨.ref a, upd H a (exo a C none), L2.Inv.laidN I hm.keeps hm.new hn (exo_ok ht), rfl, h a hn⟩
/-- isinstance(e, c), e an error that is held as a value -/
def rIsX (K : PySem.W.Frag) : List V → Hp → VK → Prop := fun xs H Q => ∃ (a D : Addr) (d : Option Addr) (c : V) (cv : Value) (b : Bool), xs = [.ref a, c] ∧ ExcC K D ∧ H a = some (exo a D d) ∧ (d = none ∨ ∃ dd fs, d = some dd ∧ H dd = some (exd dd fs)) ∧ (∀ u, RelV c u → u = cv) ∧ PySem.W.kitOne K (.ref D) cv = some b ∧ Q (.bl b) H
theorem call_isX : CallR X (.builtin "isinstance") (rIsX X.K) := by
  intro pins s σ H xs us Q I r h
  obtain ⟨a, D, d, c, cv, b, rfl, C, ha, hd, hcv, e, q⟩ := h
  cases r with
  | cons rx rr =>
    cases rr with
    | cons rt rr =>
      cases rr
      cases rx
      have ec := hcv _ rt
      subst ec
      obtain ⟨t1, ho⟩ := exo_at I.hok ha
      have hcl : (PySem.W.clsIn X.K D).isSome = true := by
        obtain ⟨cd, hc, _⟩ := PySem.W.any_some C.hd
        rw [hc]
        rfl
      have hK := fun (od : Option Obj) (ox : Obj) => PySem.W.kitx_exc (x := a) (ox := ox) (od := od) hcl C.hg C.hk C.hs C.ha C.hn C.ht C.hm
      rcases hd with rfl | ⟨dd, fs, rfl, hd⟩
      · have J : PySem.W.InstAt s.heap a ({ cls := .ref D, dict := none, data := .fields #[.ref t1, .none, .none, .none, .bool false, .none] } : Obj) D none := ⟨ho, rfl, rfl, trivial⟩
        exact PySem.W.kia_one (hK none _) I.kIn J e (fun z => nomatch z) fun tk => ⟨.bl b, H, I.kept (t' := tk) fun _ _ z => z, rfl, q⟩
      · obtain ⟨mA, hns, rel⟩ := exd_at I.hok hd
        obtain ⟨od, hod, hl⟩ := lookIn_ns hns
        have J : PySem.W.InstAt s.heap a ({ cls := .ref D, dict := some dd, data := .fields #[.ref t1, .none, .none, .none, .bool false, .none] } : Obj) D (some od) := ⟨ho, rfl, rfl, hod⟩
        exact PySem.W.kia_one (hK (some od) _) I.kIn J e (fun z => nomatch z) fun tk => ⟨.bl b, H, I.kept (t' := tk) fun _ _ z => z, rfl, q⟩
/-- e.f, e an error that is held as a value -/
def tFldX (K : PySem.W.Frag) (n : Str) (te : TE) : TE := fun σ H Q => te σ H fun x H1 => ∃ (a C dd : Addr) (fs : List (Str × V)) (v : V), x = .ref a ∧ H1 a = some (exo a C (some dd)) ∧ H1 dd = some (exd dd fs) ∧ fs.lookup n = some v ∧ XfC K C ∧ PySem.W.findIn K (.ref C) n = some none ∧ Q v H1
theorem pe_fldX {n : Str} {te : TE} (he : PE X e te) (hb : attributeBase e n X.env (eval e X.env) = eval e X.env := by rfl) : PE X (.Attribute e n pos) (tFldX X.K n te) := by
  refine ⟨fun pins s σ H Q I h => ?_⟩
  refine attr_of hb (thn (he.run pins s σ H _ I h) fun u s1 hh => ?_)
  obtain ⟨x, H1, I1, rx, a, C, dd, fs, v, ex, ha, ea, l, T, hno, q⟩ := hh
  subst ex
  obtain rfl : u = Value.ref a := rx
  obtain ⟨t1, ho⟩ := exo_at I1.hok ha
  obtain ⟨mA, hns, hr⟩ := exd_at I1.hok ea
  obtain ⟨od, hod, hl⟩ := lookIn_ns hns
  obtain ⟨u, hu, ru⟩ := RelO.some_of (v := v) (o := mA n) (by rw [← l]; exact hr n)
  have J : PySem.W.InstAt s1.heap a ({ cls := .ref C, dict := some dd, data := .fields #[.ref t1, .none, .none, .none, .bool false, .none] } : Obj) C (some od) := ⟨ho, rfl, rfl, hod⟩
  exact HandSPX.exc_get I1.kIn J T.ga T.gg T.exC (PySem.W.findObj_own T.hdC hno rfl (by rw [hl, hu])) (handed_of ru) ⟨v, H1, I1.tok _, ru, q⟩
end
end DL
/-! DL: own errors as data -/
namespace DL
open PySem PySem.Spec PyProof.Rows L2
/-- what may stand in an error's message -/
def FmtOk : V → Prop
  | .int i => i.natAbs.log2 < 1920 ∧ (toString i : Str).length ≤ 1000
  | .str y => y.length ≤ 1000
  | _ => False
def fmtD : PyData → Prop
  | .int i => i.natAbs.log2 < 1920 ∧ (toString i : Str).length ≤ 1000
  | .str y => y.length ≤ 1000
  | _ => False
/-- what an error's own __init__ promises: its fields -/
def spInit (K : PySem.W.Frag) (n : Nat) (ns : List Str) (fs : List V → List (Str × V)) : Sp := fun vs H Q _ => ∃ (a C : Addr) (xs : List V), vs = .ref a :: xs ∧ xs.length = n ∧ OexC K C ∧ (∀ f, f ∈ ns → PySem.W.findIn K (.ref C) f = some none) ∧ (∀ x, x ∈ xs → FmtOk x) ∧
  H a = some (exo a C none) ∧ ∀ dx, H dx = none → dx ≠ a → Q .non (upd (upd H dx (exd dx (fs xs))) a (exo a C (some dx)))
section
variable {X : Cx}
theorem tFmt_ok {te : TE} {x : V} {σ : L2.St} {H : Hp} {Q : VK} (hx : FmtOk x) (h : te σ H fun y H1 => y = x ∧ H1 = H) (up : ∀ (Q Q' : VK), (∀ v H, Q v H → Q' v H) → te σ H Q → te σ H Q') (k : ∀ y : Str, y.length ≤ 1000 → Q (.str y) H) : tFmt te σ H Q := by
  refine up _ _ (fun v H1 e => ?_) h
  obtain ⟨rfl, rfl⟩ := e
  cases v with
  | int i => exact .inr ⟨i, rfl, hx.1, k _ hx.2⟩
  | str y => exact .inl ⟨y, rfl, Nat.le_trans hx (sz_le (by omega)), k y hx⟩
  | _ => exact hx.elim
end
/-- an own class of errors without an __init__ of its own -/
structure Er0 (K : PySem.W.Frag) (mg : Str → Option Value) (x : Str) : Prop where
  ex : ∃ C, mg x = some (.ref C) ∧ PySem.W.nsIn K mainGlobals x = some (some (.ref C)) ∧ PySem.W.keepIn K (.ref C) = true ∧ ∃ (B newId initId : String) (bmB : List Value), ExcBaseFacts B newId initId bmB ∧ PySem.W.excIn K C bmB newId = true
/-- an own class of errors with one -/
structure ErN (P : Program) (w : World) (K : PySem.W.Frag) (mg : Str → Option Value) (base : Heap) (k : Nat) (x : Str) (n : Nat) (ns : List Str) (fs : List V → List (Str × V)) : Prop where
  ex : ∃ C fI fd ps, mg x = some (.ref C) ∧ PySem.W.nsIn K mainGlobals x = some (some (.ref C)) ∧ OexC K C ∧ (∀ f, f ∈ ns → PySem.W.findIn K (.ref C) f = some none) ∧ PySem.W.findIn K (.ref C) "__init__" = some (some (.ref fI)) ∧ PySem.W.typeIn K (.ref fI) = some (.type "function") ∧
    FnOk P w K mg base CX0 k fI fd ps (spInit K n ns fs) ∧ Binds K fd ps []
abbrev erD (x : Str) (fs : List PyData) : PyData := .dict [(.str x, .list fs)]
@[simp] def wMk0 (x : Str) : DE := fun s Φ => Φ (erD x []) s
@[simp] def wMk1 (x f : Str) (wa : DA) : DE := fun s Φ => wa s fun ds s1 => match ds with
  | [d] => fmtD d ∧ Φ (erD x [.tuple [.str f, d]]) s1
  | _ => False
@[simp] def wMk2 (x f g : Str) (wa : DA) : DE := fun s Φ => wa s fun ds s1 => match ds with
  | [d, e] => (fmtD d ∧ fmtD e) ∧ Φ (erD x [.tuple [.str g, e], .tuple [.str f, d]]) s1
  | _ => False
theorem fmt_up {K : PySem.W.Frag} {F : Hp} {v : V} {d : PyData} (h : Dq K F v d) (f : fmtD d) : FmtOk v ∧ ∀ (n : Str) (fs : List (Str × V)) (xs : List PyData), FldF fs xs → FldF ((n, v) :: fs) (.tuple [.str n, d] :: xs) := by
  cases d with
  | int i => cases h; exact ⟨f, fun n fs xs q => .int q⟩
  | str y => cases h; exact ⟨f, fun n fs xs q => .str q⟩
  | _ => exact f.elim
section
variable {X : Cx} {e e2 : Expr} {es : List Expr} {p pos : Pos} {x : Str} {wa : DA}
theorem xe_mk0 (T : Er0 X.K X.mg x) (hg : Gl X x) (hdb : (x == ("__debug__" : Str)) = false := by decide) : XE X (.Call (.Name x p) [] [] pos) (wMk0 x) := by
  obtain ⟨C, gC, ns, kC, B, newId, initId, bmB, Fb, q⟩ := T.ex
  refine pe_imp (pe_oex0 Fb q gC kC hg hdb) fun σ H Q h => ?_
  obtain ⟨G, P, F, s, Φ, R, h, k⟩ := h
  intro a na
  have f := Fresh.new (o := exo a C none) R.same na
  exact k _ _ _ s _ (R.fresh f) f.ff (.xo ns upd_same (.inl ⟨rfl, rfl⟩) .nil) h
/-- the new object and its dict, as data -/
theorem new_er {K : PySem.W.Frag} {G F H : Hp} {P : Option Addr} {σ : L2.St} {s : S} {a dx C : Addr} {fs : List (Str × V)} {xs : List PyData} (R : Rep K G P F H σ s) (ns : PySem.W.nsIn K mainGlobals x = some (some (.ref C))) (na : H a = none) (nd : (upd H a (exo a C none)) dx = none) (ne : dx ≠ a) (hf : FldF fs xs) :
    ∃ F' H', upd (upd (upd H a (exo a C none)) dx (exd dx fs)) a (exo a C (some dx)) = H' ∧ Rep K G P F' H' σ s ∧ Same F F' ∧ Dq K F' (.ref a) (erD x xs) := by
  have nd1 : H dx = none := by
    rw [upd_ne ne] at nd
    exact nd
  have e1 : upd (upd (upd H a (exo a C none)) dx (exd dx fs)) a (exo a C (some dx)) = upd (upd H dx (exd dx fs)) a (exo a C (some dx)) := by
    funext b
    by_cases h1 : b = a
    · rw [h1, upd_same, upd_same]
    · rw [upd_ne h1, upd_ne h1]
      by_cases h2 : b = dx
      · rw [h2, upd_same, upd_same]
      · rw [upd_ne h2, upd_ne h2, upd_ne h1]
  have f1 := Fresh.new (o := exd dx fs) R.same nd1
  have R1 := R.fresh f1
  have na1 : (upd H dx (exd dx fs)) a = none := by rw [upd_ne (Ne.symm ne)]; exact na
  have f2 := Fresh.new (o := exo a C (some dx)) R1.same na1
  exact ⟨_, _, e1, R1.fresh f2, f1.ff.trans f2.ff, .xo ns upd_same (.inr ⟨dx, rfl, by rw [upd_ne ne, upd_same]⟩) hf⟩
theorem xe_mk1 {k kX : Nat} {f : Str} (T : ErN X.prog X.w X.K X.mg X.base k x 1 [f] (fun xs => [f].zip xs)) (hr : Room kX X.A) (hk : k + 1 ≤ kX) (hg : Gl X x) (ha : XA X (e :: es) wa) (hdb : (x == ("__debug__" : Str)) = false := by decide)
    (he : starEach (e :: es) X.env = (false, eval e X.env) :: starEach es X.env := by rfl) (hpl : (backTo pos (starEach es X.env)).any (·.1) = false := by rfl) : XE X (.Call (.Name x p) (e :: es) [] pos) (wMk1 x f wa) := by
  obtain ⟨C, fI, fd, ps, gC, ns, T, hno, iC, tI, F1, hb⟩ := T.ex
  refine pe_imp (pe_oex T iC tI F1 (hr.mono hk) hb pass0 hg gC ha hdb he hpl) fun σ H Q h => ?_
  obtain ⟨G, P, F, s, Φ, R, h, kk⟩ := h
  refine ⟨G, P, F, s, _, R, h, fun vs F1 H1 s1 ds R1 e1 d1 q => ?_⟩
  match ds, vs, d1, q with
  | [d], [v], .cons d2 .nil, q =>
    obtain ⟨fv, ff⟩ := fmt_up d2 q.1
    refine ⟨by show 1 ≤ 1000; decide, fun a na => ⟨a, C, [v], rfl, rfl, T, hno, fun y hy => by rw [List.mem_singleton.mp hy]; exact fv, upd_same, fun dx nd ne => ⟨rfl, ?_⟩⟩⟩
    obtain ⟨F', H', eH, R', sm, dq⟩ := new_er R1 ns na nd ne (ff f _ _ .nil)
    show Q (.ref a) (upd (upd (upd H1 a (exo a C none)) dx (exd dx [(f, v)])) a (exo a C (some dx)))
    rw [eH]
    exact kk _ F' H' s1 _ R' (e1.trans sm) dq q.2
theorem xe_mk2 {k kX : Nat} {f g : Str} (T : ErN X.prog X.w X.K X.mg X.base k x 2 [f, g] (fun xs => match xs with | [a, b] => [(g, b), (f, a)] | _ => [])) (hr : Room kX X.A) (hk : k + 1 ≤ kX) (hg : Gl X x) (ha : XA X (e :: es) wa) (hdb : (x == ("__debug__" : Str)) = false := by decide)
    (he : starEach (e :: es) X.env = (false, eval e X.env) :: starEach es X.env := by rfl) (hpl : (backTo pos (starEach es X.env)).any (·.1) = false := by rfl) : XE X (.Call (.Name x p) (e :: es) [] pos) (wMk2 x f g wa) := by
  obtain ⟨C, fI, fd, ps, gC, ns, T, hno, iC, tI, F1, hb⟩ := T.ex
  refine pe_imp (pe_oex T iC tI F1 (hr.mono hk) hb pass0 hg gC ha hdb he hpl) fun σ H Q h => ?_
  obtain ⟨G, P, F, s, Φ, R, h, kk⟩ := h
  refine ⟨G, P, F, s, _, R, h, fun vs F1 H1 s1 ds R1 e1 d1 q => ?_⟩
  match ds, vs, d1, q with
  | [d, d'], [v, v'], .cons d2 (.cons d3 .nil), q =>
    obtain ⟨fv, ff⟩ := fmt_up d2 q.1.1
    obtain ⟨fv', ff'⟩ := fmt_up d3 q.1.2
    refine ⟨by show 2 ≤ 1000; decide, fun a na => ⟨a, C, [v, v'], rfl, rfl, T, hno, fun y hy => ?_, upd_same, fun dx nd ne => ⟨rfl, ?_⟩⟩⟩
    · rcases List.mem_cons.mp hy with rfl | hy
      · exact fv
      · rw [List.mem_singleton.mp hy]
        exact fv'
    · obtain ⟨F', H', eH, R', sm, dq⟩ := new_er R1 ns na nd ne (ff' g _ _ (ff f _ _ .nil))
      show Q (.ref a) (upd (upd (upd H1 a (exo a C none)) dx (exd dx [(g, v'), (f, v)])) a (exo a C (some dx)))
      rw [eH]
      exact kk _ F' H' s1 _ R' (e1.trans sm) dq q.2
end
/-! isinstance of them, their fields -/
/-- the classes of the errors that may come, and what they say -/
structure ErsOk (K : PySem.W.Frag) (L : List Str) : Prop where
  ok : ∀ c, c ∈ L → ∀ D, PySem.W.nsIn K mainGlobals c = some (some (.ref D)) → ExcC K D
abbrev KitTab (K : PySem.W.Frag) (L : List Str) (cv : Value) (b : Str → Bool) : Prop := ∀ c, c ∈ L → ∀ D, PySem.W.nsIn K mainGlobals c = some (some (.ref D)) → PySem.W.kitOne K (.ref D) cv = some (b c)
abbrev NoFld (K : PySem.W.Frag) (L : List Str) (f : Str) : Prop := ∀ c, c ∈ L → ∀ D, PySem.W.nsIn K mainGlobals c = some (some (.ref D)) → PySem.W.findIn K (.ref D) f = some none
@[simp] def wIsX (L : List Str) (b : Str → Bool) (w : DE) : DE := fun s Φ => w s fun x s1 => match x with
  | .dict [(.str c, .list _)] => c ∈ L ∧ Φ (.bool (b c)) s1
  | _ => False
def fldAt (f : Str) : List PyData → Option PyData
  | .tuple [.str g, d] :: xs => if f = g then some d else fldAt f xs
  | _ => none
@[simp] def wFldX (L : List Str) (f : Str) (w : DE) : DE := fun s Φ => w s fun x s1 => match x with
  | .dict [(.str c, .list xs)] => c ∈ L ∧ optP (fldAt f xs) fun d => Φ d s1
  | _ => False
theorem XoAt.own {F H : Hp} {d : Option Addr} {fs : List (Str × V)} (e : Same F H) (h : XoAt F d fs) : d = none ∨ ∃ dd fs, d = some dd ∧ H dd = some (exd dd fs) := by
  rcases h with ⟨h, _⟩ | ⟨dd, h1, h2⟩
  · exact .inl h
  · exact .inr ⟨dd, fs, h1, e _ _ h2⟩
theorem fld_get {K : PySem.W.Frag} {F : Hp} {f : Str} {fs : List (Str × V)} {xs : List PyData} {d : PyData} (h : FldF fs xs) (e : fldAt f xs = some d) : ∃ v, fs.lookup f = some v ∧ Dq K F v d := by
  have eqs : ∀ a b : Str, (a == b) = decide (a = b) := fun a b => by
    by_cases h : a = b
    · rw [h]; simp
    · rw [beq_eq_false_iff_ne.mpr h, decide_eq_false h]
  induction h with
  | nil => cases e
  | @int g i fs xs h ih =>
    unfold fldAt at e
    rw [List.lookup_cons, eqs]
    by_cases q : f = g
    · rw [if_pos q] at e
      rw [decide_eq_true q]
      exact ⟨_, rfl, by cases e; exact .int i⟩
    · rw [if_neg q] at e
      rw [decide_eq_false q]
      exact ih e
  | @str g y fs xs h ih =>
    unfold fldAt at e
    rw [List.lookup_cons, eqs]
    by_cases q : f = g
    · rw [if_pos q] at e
      rw [decide_eq_true q]
      exact ⟨_, rfl, by cases e; exact .str y⟩
    · rw [if_neg q] at e
      rw [decide_eq_false q]
      exact ih e
section
variable {X : Cx} {e : Expr} {p p1 pos : Pos} {w : DE} {L : List Str} {b : Str → Bool}
theorem isX_of {v : V} {cv : Value} (hcv : ∀ u, RelV v u → u = cv) (E : ErsOk X.K L) (kb : KitTab X.K L cv b) (σ : L2.St) (H : Hp) (Q : VK) (h : tE X.K (wIsX L b w) σ H Q) :
    tE X.K w σ H fun y H1 => (tCons (tC v) tNil) σ H1 fun vs H2 => rIsX X.K (y :: vs) H2 Q := by
  obtain ⟨G, P, F, s, Φ, R, h, k⟩ := h
  refine ⟨G, P, F, s, _, R, h, fun y F1 H1 s1 x R1 e1 d1 q => ?_⟩
  match x, d1, q with
  | .dict [(.str c, .list _)], .xo ns ha ho hf, q =>
    exact ⟨_, _, _, v, cv, b c, rfl, E.ok c q.1 _ ns, R1.same _ _ ha, ho.own R1.same, hcv, kb c q.1 _ ns, k _ F1 H1 s1 _ R1 e1 (.bl _) q.2⟩
/-- isinstance(e, C), C an own class -/
theorem xe_isX {T : Str} {C : Addr} (E : ErsOk X.K L) (kb : KitTab X.K L (.ref C) b) (gC : X.mg T = some (.ref C)) (hg : Gl X "isinstance") (hm : X.mg "isinstance" = none) (hgT : Gl X T) (h : XE X e w) (hd : (T == ("__debug__" : Str)) = false := by decide)
    (he : starEach [e, .Name T p1] X.env = (false, eval e X.env) :: starEach [.Name T p1] X.env := by rfl) (he2 : starEach [.Name T p1] X.env = (false, eval (.Name T p1) X.env) :: starEach [] X.env := by rfl) (hpl : (backTo pos (starEach [.Name T p1] X.env)).any (·.1) = false := by rfl) :
    XE X (.Call (.Name "isinstance" p) [e, .Name T p1] [] pos) (wIsX L b w) :=
  pe_imp (pe_callB call_isX hg hm (by decide +kernel) (pa_cons h (pa_cons (pe_glob (v := .ref C) hgT gC rfl hd) pa_nil he2) he) (by decide) (by decide) he hpl) fun σ H Q h => isX_of (v := .ref C) (cv := .ref C) (fun u z => z) E kb σ H Q h
/-- isinstance(e, T), T of the builtins -/
theorem xe_isXT {T : Str} {n : String} (E : ErsOk X.K L) (kb : KitTab X.K L (.type n) b) (hmT : X.mg T = none) (hvT : bootBuiltins T = some (.type n)) (hg : Gl X "isinstance") (hm : X.mg "isinstance" = none) (hgT : Gl X T) (h : XE X e w) (hn : T ≠ "__name__" := by decide) (hd : (T == ("__debug__" : Str)) = false := by decide)
    (he : starEach [e, .Name T p1] X.env = (false, eval e X.env) :: starEach [.Name T p1] X.env := by rfl) (he2 : starEach [.Name T p1] X.env = (false, eval (.Name T p1) X.env) :: starEach [] X.env := by rfl) (hpl : (backTo pos (starEach [.Name T p1] X.env)).any (·.1) = false := by rfl) :
    XE X (.Call (.Name "isinstance" p) [e, .Name T p1] [] pos) (wIsX L b w) :=
  pe_imp (pe_callB call_isX hg hm (by decide +kernel) (pa_cons h (pa_cons (pe_bltn (v := .ty n) hgT hmT hvT rfl hn hd) pa_nil he2) he) (by decide) (by decide) he hpl) fun σ H Q h => isX_of (v := .ty n) (cv := .type n) (fun u z => z) E kb σ H Q h
theorem ers_xf {K : PySem.W.Frag} {D : Addr} (h : ExcC K D) : XfC K D := ⟨h.hg, h.hk, h.hs, h.hd⟩
/-- e.f -/
theorem xe_fldX {f : Str} (E : ErsOk X.K L) (nf : NoFld X.K L f) (h : XE X e w) (hb : attributeBase e f X.env (eval e X.env) = eval e X.env := by rfl) : XE X (.Attribute e f pos) (wFldX L f w) :=
  pe_imp (pe_fldX h hb) fun σ H Q h => by
    obtain ⟨G, P, F, s, Φ, R, h, k⟩ := h
    refine ⟨G, P, F, s, _, R, h, fun y F1 H1 s1 x R1 e1 d1 q => ?_⟩
    match x, d1, q with
    | .dict [(.str c, .list xs)], .xo ns ha ho hf, q =>
      obtain ⟨d, ed, q2⟩ := optP_of q.2
      obtain ⟨v, ev, dv⟩ := fld_get (K := X.K) (F := F1) hf ed
      rcases ho with ⟨_, e0⟩ | ⟨dd, h1, h2⟩
      · rw [e0] at ev
        cases ev
      · subst h1
        exact ⟨_, _, dd, _, v, rfl, R1.same _ _ ha, R1.same _ _ h2, ev, ers_xf (E.ok c q.1 _ ns), nf c q.1 _ ns, k _ F1 H1 s1 _ R1 e1 dv q2⟩
end
/-! facts of the written part, by looking them all up -/
def adrs (K : PySem.W.Frag) (L : List Str) (p : Addr → Bool) : Bool := L.all fun c => match PySem.W.nsIn K mainGlobals c with
  | some (some (.ref D)) => p D
  | _ => true
theorem adrs_ok {K : PySem.W.Frag} {L : List Str} {p : Addr → Bool} (h : adrs K L p = true) : ∀ c, c ∈ L → ∀ D, PySem.W.nsIn K mainGlobals c = some (some (.ref D)) → p D = true := fun c hc D e => by
  have := List.all_eq_true.mp h c hc
  rw [e] at this
  exact this
end DL
/-! DL: own errors of a text, all together -/
namespace DL
open PySem PySem.Spec PyProof.Rows L2
def mt0 : Stmt → Stmt
  | .ClassDef _ _ _ body _ _ _ _ _ _ _ => body.headD (.Pass ⟨0, 0, 0, 0⟩)
  | st => st
section
variable {P : Program} {w : World} {K : PySem.W.Frag} {mg : Str → Option Value} {base : Heap}
theorem fmt1 {σ : L2.St} {H : Hp} {x : V} {i : Nat} (hx : FmtOk x) {Q : VK} (q : ∀ y : Str, y.length ≤ 1000 → Q (.str y) H) (h : σ[i]? = some (some x)) : tFmt (tVar i) σ H Q := by
  refine ⟨x, h, ?_⟩
  cases x with
  | int i => exact .inr ⟨i, rfl, hx.1, q _ hx.2⟩
  | str y => exact .inl ⟨y, rfl, Nat.le_trans hx (sz_le (by omega)), q y hx⟩
  | _ => exact hx.elim
theorem app_len (x y : Str) : (x ++ y).length = x.length + y.length := Str.length_append x y
theorem init1 {f m : Str} {a C : Addr} {x : V} {H : Hp} {Q : VK} (T : OexC K C) (no : PySem.W.findIn K (.ref C) f = some none) (hx : FmtOk x) (ha : H a = some (exo a C none))
    (k : ∀ dx, H dx = none → dx ≠ a → Q .non (upd (upd H dx (exd dx [(f, x)])) a (exo a C (some dx)))) (hm : m.length ≤ 1000) {σ : L2.St} (v0 : σ[0]? = some (some (.ref a))) (v1 : σ[1]? = some (some x)) :
    tSeq (tDrop (tVeI K (tCons (tVar 0) (tCons (fun σ H Q => tJs [tC (V.str m), tFmt (tVar 1)] Str.empty σ H fun out H1 => Q (V.str out) H1) tNil)))) (tOst K f (tVar 0) (tVar 1)) { nx := fun x H' => Q V.non H', rt := Q } σ H := by
  have e0 : Str.empty.length = 0 := rfl
  refine ⟨.ref a, v0, m, rfl, by rw [app_len]; exact sz_le (by omega), fmt1 hx (fun y hy => ⟨y, rfl, by rw [app_len, app_len]; exact sz_le (by omega), a, C, [_], rfl, (show 1 ≤ 1000 by decide), T, ha, ?_⟩) v1⟩
  exact ⟨x, v1, .ref a, v0, a, C, rfl, T, no, .inl ⟨ha, k⟩⟩
theorem init2 {f g m m2 : Str} {a C : Addr} {x y : V} {H : Hp} {Q : VK} (T : OexC K C) (no : PySem.W.findIn K (.ref C) f = some none) (no2 : PySem.W.findIn K (.ref C) g = some none) (hx : FmtOk x) (hy : FmtOk y) (ha : H a = some (exo a C none))
    (k : ∀ dx, H dx = none → dx ≠ a → Q .non (upd (upd H dx (exd dx [(g, y), (f, x)])) a (exo a C (some dx)))) (hm : m.length ≤ 1000) (hm2 : m2.length ≤ 1000) {σ : L2.St} (v0 : σ[0]? = some (some (.ref a))) (v1 : σ[1]? = some (some x)) (v2 : σ[2]? = some (some y)) :
    tSeq (tDrop (tVeI K (tCons (tVar 0) (tCons (fun σ H Q => tJs [tC (V.str m), tFmt (tVar 1), tC (V.str m2), tFmt (tVar 2)] Str.empty σ H fun out H1 => Q (V.str out) H1) tNil)))) (tSeq (tOst K f (tVar 0) (tVar 1)) (tOst K g (tVar 0) (tVar 2))) { nx := fun x H' => Q V.non H', rt := Q } σ H := by
  have e0 : Str.empty.length = 0 := rfl
  refine ⟨.ref a, v0, m, rfl, by rw [app_len]; exact sz_le (by omega), fmt1 hx (fun u hu => ⟨u, rfl, by rw [app_len, app_len]; exact sz_le (by omega), m2, rfl, by rw [app_len, app_len, app_len]; exact sz_le (by omega), fmt1 hy (fun z hz => ⟨z, rfl, by rw [app_len, app_len, app_len, app_len]; exact sz_le (by omega), a, C, [_], rfl, (show 1 ≤ 1000 by decide), T, ha, ?_⟩) v2⟩) v1⟩
  refine ⟨x, v1, .ref a, v0, a, C, rfl, T, no, .inl ⟨ha, fun dx nd ne => ?_⟩⟩
  refine ⟨y, v2, .ref a, v0, a, C, rfl, T, no2, .inr ⟨dx, [(f, x)], upd_same, ?_, by show 1 ≤ 900; decide, ?_⟩⟩
  · rw [upd_ne ne, upd_same]
  · have e : upd (upd (upd H dx (exd dx [(f, x)])) a (exo a C (some dx))) dx (exd dx [(g, y), (f, x)]) = upd (upd H dx (exd dx [(g, y), (f, x)])) a (exo a C (some dx)) := by
      funext b
      by_cases h1 : b = dx
      · rw [h1, upd_same, upd_ne ne, upd_same]
      · rw [upd_ne h1]
        by_cases h2 : b = a
        · rw [h2, upd_same, upd_same]
        · rw [upd_ne h2, upd_ne h1, upd_ne h2, upd_ne h1]
    rw [e]
    exact k dx nd ne
/-- an own __init__ stands -/
structure InitK (K : PySem.W.Frag) (C : Addr) (qual : Str) (st : Stmt) : Prop where
  ex : ∃ fI fd, PySem.W.findIn K (.ref C) "__init__" = some (some (.ref fI)) ∧ PySem.W.typeIn K (.ref fI) = some (.type "function") ∧ Fun K "__init__" qual st fI fd
theorem InitK.mk5 {C fI : Addr} {qual : Str} {st : Stmt} {oc : Value} {od an : Option Addr} {osl : Array (Option Value)} {kV doc pm cdv ct : Value} (ii : PySem.W.findIn K (.ref C) "__init__" = some (some (.ref fI))) (ti : PySem.W.typeIn K (.ref fI) = some (.type "function"))
    (l : K.lookup fI = some ⟨oc, od, .func (PySem.W.fnOf "__init__" qual (defArgs st) (defBody st) (defScope st) .none kV doc pm an cdv ct), osl⟩) (c : PySem.W.codeIn K cdv qual = true) (k : PySem.W.keepIn K (.ref fI) = true) : InitK K C qual st :=
  ⟨fI, _, ii, ti, fun_mk l c k⟩
theorem oexC_mk {C : Addr} {nm q N bs bm sn sub ab col dd k0 k1 k2 k3 k5} (l : K.lookup C = some (excClassObj nm q C N bs bm true sn sub ab col dd k0 k1 k2 k3 k5 "ValueError.__new__")) (r : PySem.HandSPX.refsVE bm = true)
    (sa : PySem.W.findIn K (.ref C) "__setattr__" = some (some (.builtin "object.__setattr__"))) (e : PySem.W.subIn K (.ref C) (.type "BaseException") = some true) (t : PySem.W.typeIn K (.ref C) = some (.type "type")) (k : PySem.W.keepIn K (.ref C) = true) : OexC K C :=
  ⟨⟨nm, q, N, bs, bm, sn, sub, ab, col, dd, k0, k1, k2, k3, k5, l, r⟩, sa, e, t, k⟩
theorem baseC_mk {B : Addr} (sp : PySem.W.specialIn K (.ref B) "__getattribute__" = some (some (.builtin "type.__getattribute__"))) (rd : PySem.W.readsIn K B (.type "type") = true) (vV : PySem.W.findCls K (.ref B) (.type "type") "__init__" = some (.val (.builtin "ValueError.__init__"))) (kp : PySem.W.keepIn K (.ref B) = true) : BaseC K B := ⟨sp, rd, vV, kp⟩
def excCb (K : PySem.W.Frag) (D : Addr) : Bool :=
  PySem.W.findIn K (.ref D) "__getattribute__" == some (some (.builtin "BaseException.__getattribute__")) && PySem.W.findIn K (.ref D) "__getattr__" == some none && PySem.W.subIn K (.ref D) (.type "BaseException") == some true && PySem.W.hasDictIn K D &&
  PySem.W.findIn K (.ref D) "__class__" == some (some (.builtin "object.__class__")) && PySem.W.specialIn K (.builtin "object.__class__") "__get__" == some (some (.builtin "getset_descriptor.__get__")) && PySem.W.takesIn K (.builtin "object.__class__") == some true && PySem.W.mroIn K D (.type "object") == some true
theorem excCb_ok {D : Addr} (h : excCb K D = true) : ExcC K D := by
  unfold excCb at h
  simp only [Bool.and_eq_true, beq_iff_eq] at h
  obtain ⟨⟨⟨⟨⟨⟨⟨h1, h2⟩, h3⟩, h4⟩, h5⟩, h6⟩, h7⟩, h8⟩ := h
  exact ⟨h1, h2, h3, h4, h5, h6, h7, h8⟩
/-- the own errors: their classes, what isinstance says of them, what they have as a field -/
structure Ers (K : PySem.W.Frag) (mg : Str → Option Value) (L : List Str) (b : Str → Str → Bool) (FL : List Str) : Prop where
  ok : ErsOk K L
  kit : ∀ x, x ∈ L → ∃ C, mg x = some (.ref C) ∧ KitTab K L (.ref C) (b x)
  kitV : KitTab K L (.type "ValueError") (fun _ => true)
  mV : mg "ValueError" = none
  fld : ∀ f, f ∈ FL → NoFld K L f
  ns : ∀ c, c ∈ L → ∀ C, mg c = some (.ref C) → PySem.W.nsIn K mainGlobals c = some (some (.ref C))
  exm : ∀ x, x ∈ L → ∀ c, c ∈ L → ∀ C D, mg x = some (.ref C) → mg c = some (.ref D) → PySem.W.exmOne K (.ref D) (.ref C) = some (b x c)
/-- the address of a class -/
def adr (K : PySem.W.Frag) (x : Str) : Option Addr := match PySem.W.nsIn K mainGlobals x with
  | some (some (.ref D)) => some D
  | _ => none
theorem adr_iff {x : Str} {D : Addr} : adr K x = some D ↔ PySem.W.nsIn K mainGlobals x = some (some (.ref D)) := by
  unfold adr
  split
  · rename_i E e
    rw [e]
    constructor
    · intro z; cases z; rfl
    · intro z; cases z; rfl
  · rename_i h
    constructor
    · intro z; cases z
    · intro z; exact absurd z (h _)
def onA (o : Option Addr) (p : Addr → Bool) : Bool := match o with
  | some D => p D
  | none => false
theorem onA_of {o : Option Addr} {p : Addr → Bool} (h : onA o p = true) : ∃ D, o = some D ∧ p D = true := by
  cases o with
  | none => cases h
  | some D => exact ⟨D, rfl, h⟩
def tabE (K : PySem.W.Frag) (L : List Str) (b : Str → Str → Bool) (FL : List Str) : Bool :=
  L.all fun x => onA (adr K x) fun C => excCb K C && (L.all fun c => onA (adr K c) fun D => PySem.W.kitOne K (.ref D) (.ref C) == some (b x c) && PySem.W.exmOne K (.ref D) (.ref C) == some (b x c)) && PySem.W.kitOne K (.ref C) (.type "ValueError") == some true && FL.all fun f => PySem.W.findIn K (.ref C) f == some none
theorem ers_mk {h : Heap} {L FL : List Str} {b : Str → Str → Bool} (X : K.In h) (G : h.Ns mainGlobals mg) (z : PySem.W.nsIn K mainGlobals "ValueError" = some none) (t : tabE K L b FL = true) : Ers K mg L b FL := by
  have a : ∀ x, x ∈ L → ∃ C, adr K x = some C ∧ excCb K C = true ∧ (∀ c, c ∈ L → ∃ D, adr K c = some D ∧ PySem.W.kitOne K (.ref D) (.ref C) = some (b x c) ∧ PySem.W.exmOne K (.ref D) (.ref C) = some (b x c)) ∧ PySem.W.kitOne K (.ref C) (.type "ValueError") = some true ∧ ∀ f, f ∈ FL → PySem.W.findIn K (.ref C) f = some none := fun x hx => by
    obtain ⟨C, e, h⟩ := onA_of (List.all_eq_true.mp t x hx)
    simp only [Bool.and_eq_true, beq_iff_eq] at h
    obtain ⟨⟨⟨h1, h2⟩, h3⟩, h4⟩ := h
    refine ⟨C, e, h1, fun c hc => ?_, h3, fun f hf => ?_⟩
    · obtain ⟨D, e, h⟩ := onA_of (List.all_eq_true.mp h2 c hc)
      simp only [Bool.and_eq_true, beq_iff_eq] at h
      exact ⟨D, e, h⟩
    · exact beq_iff_eq.mp (List.all_eq_true.mp h4 f hf)
  have ns : ∀ c, c ∈ L → ∀ C, mg c = some (.ref C) → adr K c = some C := fun c hc C e => by
    obtain ⟨D, e1, _⟩ := a c hc
    rw [PySem.W.mg_of X G (adr_iff.mp e1)] at e
    cases e
    exact e1
  refine ⟨⟨fun c hc D e => ?_⟩, fun x hx => ?_, fun c hc D e => ?_, PySem.W.mg_none_of X G z, fun f hf c hc D e => ?_, fun c hc C e => adr_iff.mp (ns c hc C e), fun x hx c hc C D e1 e2 => ?_⟩
  · obtain ⟨C, e1, h1, _⟩ := a c hc
    rw [adr_iff.mpr e] at e1
    cases e1
    exact excCb_ok h1
  · obtain ⟨C, e1, _, h2, _⟩ := a x hx
    refine ⟨C, PySem.W.mg_of X G (adr_iff.mp e1), fun c hc D e => ?_⟩
    obtain ⟨D', e2, q⟩ := h2 c hc
    rw [adr_iff.mpr e] at e2
    cases e2
    exact q.1
  · obtain ⟨C, e1, _, _, h3, _⟩ := a c hc
    rw [adr_iff.mpr e] at e1
    cases e1
    exact h3
  · obtain ⟨C, e1, _, _, _, h4⟩ := a c hc
    rw [adr_iff.mpr e] at e1
    cases e1
    exact h4 f hf
  · obtain ⟨C', e3, _, h2, _⟩ := a x hx
    rw [ns x hx C e1] at e3
    cases e3
    obtain ⟨D', e4, q⟩ := h2 c hc
    rw [ns c hc D e2] at e4
    cases e4
    exact q.2
/-- those without an __init__ -/
def tab0 (K : PySem.W.Frag) (L : List Str) : Bool := L.all fun x => onA (adr K x) fun C => PySem.W.keepIn K (.ref C) && PySem.W.excIn K C [.type "ValueError", .type "Exception", .type "BaseException", .type "object"] "ValueError.__new__"
theorem er0_mk {h : Heap} {L : List Str} (X : K.In h) (G : h.Ns mainGlobals mg) (t : tab0 K L = true) : ∀ x, x ∈ L → Er0 K mg x := fun x hx => by
  obtain ⟨C, e, h⟩ := onA_of (List.all_eq_true.mp t x hx)
  simp only [Bool.and_eq_true] at h
  have e := adr_iff.mp e
  exact ⟨C, PySem.W.mg_of X G e, e, h.1, _, _, _, _, PySem.F.excBase_ValueError, h.2⟩
theorem erN_mk {h : Heap} {C fI : Addr} {fd : FuncData} {k n : Nat} {x : Str} {ps ns : List Str} {fs : List V → List (Str × V)} (X : K.In h) (G : h.Ns mainGlobals mg) (a : PySem.W.nsIn K mainGlobals x = some (some (.ref C))) (o : OexC K C) (no : ∀ f, f ∈ ns → PySem.W.findIn K (.ref C) f = some none)
    (ii : PySem.W.findIn K (.ref C) "__init__" = some (some (.ref fI))) (ti : PySem.W.typeIn K (.ref fI) = some (.type "function")) (F : FnOk P w K mg base CX0 k fI fd ps (spInit K n ns fs)) (b : Binds K fd ps []) : ErN P w K mg base k x n ns fs :=
  ⟨C, fI, fd, ps, PySem.W.mg_of X G a, a, o, no, ii, ti, F, b⟩
end
section
variable {X : Cx} {e : Expr} {p p1 pos : Pos} {w : DE} {L FL : List Str} {b : Str → Str → Bool}
theorem xe_isY {T : Str} (E : Ers X.K X.mg L b FL) (hT : T ∈ L) (hg : Gl X "isinstance") (hm : X.mg "isinstance" = none) (hgT : Gl X T) (h : XE X e w) (hd : (T == ("__debug__" : Str)) = false := by decide)
    (he : starEach [e, .Name T p1] X.env = (false, eval e X.env) :: starEach [.Name T p1] X.env := by rfl) (he2 : starEach [.Name T p1] X.env = (false, eval (.Name T p1) X.env) :: starEach [] X.env := by rfl) (hpl : (backTo pos (starEach [.Name T p1] X.env)).any (·.1) = false := by rfl) :
    XE X (.Call (.Name "isinstance" p) [e, .Name T p1] [] pos) (wIsX L (b T) w) := by
  obtain ⟨C, gC, kb⟩ := E.kit T hT
  exact xe_isX E.ok kb gC hg hm hgT h hd he he2 hpl
theorem xe_isYV (E : Ers X.K X.mg L b FL) (hg : Gl X "isinstance") (hm : X.mg "isinstance" = none) (hgT : Gl X "ValueError") (h : XE X e w)
    (he : starEach [e, .Name "ValueError" p1] X.env = (false, eval e X.env) :: starEach [.Name "ValueError" p1] X.env := by rfl) (he2 : starEach [.Name "ValueError" p1] X.env = (false, eval (.Name "ValueError" p1) X.env) :: starEach [] X.env := by rfl) (hpl : (backTo pos (starEach [.Name "ValueError" p1] X.env)).any (·.1) = false := by rfl) :
    XE X (.Call (.Name "isinstance" p) [e, .Name "ValueError" p1] [] pos) (wIsX L (fun _ => true) w) :=
  xe_isXT E.ok E.kitV E.mV PyProof.Rows.Boot.«ValueError» hg hm hgT h (by decide) (by decide) he he2 hpl
theorem xe_fldY {f : Str} (E : Ers X.K X.mg L b FL) (hf : f ∈ FL) (h : XE X e w) (hb : attributeBase e f X.env (eval e X.env) = eval e X.env := by rfl) : XE X (.Attribute e f pos) (wFldX L f w) := xe_fldX E.ok (E.fld f hf) h hb
end
section
variable {X : Cx}
/-- a, b, c = e1, e2, e3, all plain names -/
@[simp] def wPar3 (i j l : Nat) (w : DA) : DS := fun Φ s => w s fun xs s1 => match xs with
  | [x, y, z] => Φ.nx (((s1.put i (.d x)).put j (.d y)).put l (.d z))
  | _ => False
theorem xs_par3 {i j l : Nat} {x y z : Str} {a b c : Expr} {w : DA} {px py pz pt pos : Pos} {kt k2 : Nat} {pt2 : Pos} (hc : X.calm = true) (hN : X.N.Nodup) (hi : X.N[i]? = some x) (hj : X.N[j]? = some y) (hl : X.N[l]? = some z) (hij : i ≠ j) (hil : i ≠ l) (hjl : j ≠ l)
    (hx : X.env.scope.names.lookup x = some .local) (hy : X.env.scope.names.lookup y = some .local) (hz : X.env.scope.names.lookup z = some .local) (ha : XA X [a, b, c] w)
    (hw : swappedStores [.Tuple [.Name x px, .Name y py, .Name z pz] kt pt] (.Tuple [a, b, c] k2 pt2) X.env = pure (some [x, y, z]))
    (hs : swapsWithSole [.Tuple [.Name x px, .Name y py, .Name z pz] kt pt] (.Tuple [a, b, c] k2 pt2) pos.line X.env = pure false := by rfl) : XS X (.Assign [.Tuple [.Name x px, .Name y py, .Name z pz] kt pt] (.Tuple [a, b, c] k2 pt2) pos) (wPar3 i j l w) :=
  ps_imp (ps_par3 hc hN hi hj hl hij hil hjl hx hy hz ha hw hs) fun D σ H h => by
    obtain ⟨G, P, F, s, Φ, R, h, b⟩ := h
    refine ⟨G, P, F, s, _, R, h, fun vs F' H' s' xs R' e d q => ?_⟩
    match xs, d, q with
    | [x, y, z], .cons d1 (.cons d2 (.cons d3 .nil)), q => exact ⟨_, _, _, rfl, b.nx _ F' H' _ (((R'.setD d1).setD d2).setD d3) e q⟩
end
end DL
/-! DL: raise of own errors with an own __init__ -/
namespace DL
open PySem PySem.Spec PyProof.Rows L2
@[simp] def wRaise1 (x f : Str) (wa : DA) : DS := fun Φ s => wa s fun ds s1 => match ds with
  | [d] => fmtD d ∧ Φ.ex x [.tuple [.str f, d]] s1
  | _ => False
@[simp] def wRaise2 (x f g : Str) (wa : DA) : DS := fun Φ s => wa s fun ds s1 => match ds with
  | [d, e] => (fmtD d ∧ fmtD e) ∧ Φ.ex x [.tuple [.str g, e], .tuple [.str f, d]] s1
  | _ => False
/-- the heap behind C(e, ..): its dict alone stands -/
theorem gone_er {H : Hp} {a dx C : Addr} {fs : List (Str × V)} {o : HO} (na : H a = none) (ne : dx ≠ a) : upd (del (upd (upd (upd H a (exo a C none)) dx (exd dx fs)) a (exo a C (some dx))) a) dx o = upd H dx o := by
  funext b
  by_cases h : b = dx
  · rw [h, upd_same, upd_same]
  · rw [upd_ne h, upd_ne h]
    by_cases h2 : b = a
    · rw [h2, del_same, na]
    · rw [del_ne h2, upd_ne h2, upd_ne h, upd_ne h2]
section
variable {X : Cx} {e : Expr} {es : List Expr} {p p2 pos : Pos} {x : Str} {wa : DA}
theorem xs_raise1 {k kX : Nat} {f : Str} (hc : X.calm = true) (T : ErN X.prog X.w X.K X.mg X.base k x 1 [f] (fun xs => [f].zip xs)) (hr : Room kX X.A) (hk : k + 1 ≤ kX) (hg : Gl X x) (ha : XA X (e :: es) wa) (hdb : (x == ("__debug__" : Str)) = false := by decide)
    (he : starEach (e :: es) X.env = (false, eval e X.env) :: starEach es X.env := by rfl) (hpl : (backTo p2 (starEach es X.env)).any (·.1) = false := by rfl) : XS X (.Raise (some (.Call (.Name x p) (e :: es) [] p2)) none pos) (wRaise1 x f wa) := by
  obtain ⟨C, fI, fd, ps, gC, ns, T, hno, iC, tI, F1, hb⟩ := T.ex
  refine ps_imp (ps_raise hc (takes_wish X) (pmk_oex T iC tI F1 (hr.mono hk) hb .nil pass0 hg gC ha hdb he hpl)) fun D σ H h => ?_
  obtain ⟨G, P, F, s, Φ, R, h, b⟩ := h
  refine ⟨G, P, F, s, _, R, h, fun vs F1 H1 s1 ds R1 e1 d1 q => ?_⟩
  match ds, vs, d1, q with
  | [d], [v], .cons d2 .nil, q =>
    obtain ⟨fv, ff⟩ := fmt_up d2 q.1
    refine ⟨by show 1 ≤ 1000; decide, fun a na => ⟨a, C, [v], rfl, rfl, T, hno, fun y hy => by rw [List.mem_singleton.mp hy]; exact fv, upd_same, fun dx nd ne => ⟨rfl, dx, [(f, v)], upd_same, by rw [upd_ne ne, upd_same]; rfl, ?_, ?_⟩⟩⟩
    · rw [upd_ne ne] at nd
      exact nd
    · have nd1 : H1 dx = none := by
        rw [upd_ne ne] at nd
        exact nd
      show wishOf X (.ref C) (some dx) σ (upd (del (upd (upd (upd H1 a (exo a C none)) dx (exd dx [(f, v)])) a (exo a C (some dx))) a) dx (.xd [(f, v)]))
      rw [gone_er na ne]
      have f1 := Fresh.new (o := .xd [(f, v)]) R1.same nd1
      exact (b.ex x _ σ _ _ s1 (R1.fresh f1) (e1.trans f1.ff) q.2 C gC).2 (fun z => by cases z) dx _ upd_same (ff f _ _ .nil)
theorem xs_raise2 {k kX : Nat} {f g : Str} (hc : X.calm = true) (T : ErN X.prog X.w X.K X.mg X.base k x 2 [f, g] (fun xs => match xs with | [a, b] => [(g, b), (f, a)] | _ => [])) (hr : Room kX X.A) (hk : k + 1 ≤ kX) (hg : Gl X x) (ha : XA X (e :: es) wa) (hdb : (x == ("__debug__" : Str)) = false := by decide)
    (he : starEach (e :: es) X.env = (false, eval e X.env) :: starEach es X.env := by rfl) (hpl : (backTo p2 (starEach es X.env)).any (·.1) = false := by rfl) : XS X (.Raise (some (.Call (.Name x p) (e :: es) [] p2)) none pos) (wRaise2 x f g wa) := by
  obtain ⟨C, fI, fd, ps, gC, ns, T, hno, iC, tI, F1, hb⟩ := T.ex
  refine ps_imp (ps_raise hc (takes_wish X) (pmk_oex T iC tI F1 (hr.mono hk) hb .nil pass0 hg gC ha hdb he hpl)) fun D σ H h => ?_
  obtain ⟨G, P, F, s, Φ, R, h, b⟩ := h
  refine ⟨G, P, F, s, _, R, h, fun vs F1 H1 s1 ds R1 e1 d1 q => ?_⟩
  match ds, vs, d1, q with
  | [d, d'], [v, v'], .cons d2 (.cons d3 .nil), q =>
    obtain ⟨fv, ff⟩ := fmt_up d2 q.1.1
    obtain ⟨fv', ff'⟩ := fmt_up d3 q.1.2
    refine ⟨by show 2 ≤ 1000; decide, fun a na => ⟨a, C, [v, v'], rfl, rfl, T, hno, fun y hy => ?_, upd_same, fun dx nd ne => ⟨rfl, dx, [(g, v'), (f, v)], upd_same, by rw [upd_ne ne, upd_same], ?_, ?_⟩⟩⟩
    · rcases List.mem_cons.mp hy with rfl | hy
      · exact fv
      · rw [List.mem_singleton.mp hy]
        exact fv'
    · rw [upd_ne ne] at nd
      exact nd
    · have nd1 : H1 dx = none := by
        rw [upd_ne ne] at nd
        exact nd
      show wishOf X (.ref C) (some dx) σ (upd (del (upd (upd (upd H1 a (exo a C none)) dx (exd dx [(g, v'), (f, v)])) a (exo a C (some dx))) a) dx (.xd [(g, v'), (f, v)]))
      rw [gone_er na ne]
      have f1 := Fresh.new (o := .xd [(g, v'), (f, v)]) R1.same nd1
      exact (b.ex x _ σ _ _ s1 (R1.fresh f1) (e1.trans f1.ff) q.2 C gC).2 (fun z => by cases z) dx _ upd_same (ff' g _ _ (ff f _ _ .nil))
end
end DL
/-! DL: try .. except X as e: .. except Y as e: .., clause by clause -/
namespace DL
open PySem PySem.Spec PyProof.Rows L2
/-- an error is caught: its flight, where it may land again, what lets it go on -/
structure Caught (X : Cx) (pins : List (Addr × Obj)) (σ : L2.St) (H : Hp) (B : Heap) (a : Addr) (cls : Value) (d : Option Addr) (s : Shared) : Prop where
  fl : HandSPX.FlyingZ B (X.env :: X.outer) a (Zc cls d) s.heap
  no : H a = none
  land : ∀ g, B.StaysIn g → s.heap.UpToSlots g → Inv X pins σ H { s with heap := g }
  out : ∀ W : WX, Takes X W → W cls d σ H → ∀ g, HandSPX.HeldZ B (X.env :: X.outer) a (Zc cls d) X.env.locals g → s.heap.UpToSlots g → X.xe (.ref a) { s with heap := g }
section
variable {X : Cx} {pins : List (Addr × Obj)} {σ : L2.St} {H : Hp} {B : Heap} {a : Addr} {cls : Value} {d : Option Addr} {s : Shared}
theorem Caught.inv (c : Caught X pins σ H B a cls d s) : Inv X pins σ H s := c.land s.heap c.fl.1 (Heap.UpToSlots.refl _)
theorem Caught.at (hf : X.env.frame = some X.env.locals) (c : Caught X pins σ H B a cls d s) : ∃ oe, Zc cls d oe ∧ (∃ vs, oe.data = .fields vs) ∧ s.heap.get? a = some oe ∧ ∀ g, B.StaysIn g → s.heap.UpToSlots g → g.get? a = some oe → Inv (X.suite a ((a, oe) :: (X.pn ++ pins))) [] σ H { s with heap := g } := by
  obtain ⟨oe, vs, he, hz, hd⟩ := c.fl.there
  have out : a ∉ frs (X.env :: X.outer) := fun hm => by
    obtain ⟨_, o2, e2, nf⟩ := c.fl.2.2.1.mem hm
    have z := e2.symm.trans he
    cases z
    exact nf _ hd
  refine ⟨oe, hz, ⟨vs, hd⟩, he, fun g st up eg => Inv.suite (c.land g st up) eg hd c.no (fun z => out ?_) fun hm => out ?_⟩
  · rw [z]
    exact List.mem_filterMap.mpr ⟨X.env, List.mem_cons_self, hf⟩
  · obtain ⟨e, he, q⟩ := List.mem_filterMap.mp hm
    exact List.mem_filterMap.mpr ⟨e, List.mem_cons_of_mem _ he, q⟩
/-- landing once more -/
theorem Caught.again (c : Caught X pins σ H B a cls d s) {g : Heap} (fl : HandSPX.FlyingZ B (X.env :: X.outer) a (Zc cls d) g) (up : s.heap.UpToSlots g) : Caught X pins σ H B a cls d { s with heap := g } :=
  ⟨fl, c.no, fun g2 st up2 => c.land g2 st (up.trans up2), fun W tk w g2 hh up2 => c.out W tk w g2 hh (up.trans up2)⟩
/-- no clause is left: it goes on -/
theorem Caught.leave (hf : X.env.frame = some X.env.locals) (c : Caught X pins σ H B a cls d s) {W : WX} (tk : Takes X W) (w : W cls d σ H) {D : Ends} : wpAny (model X.prog X.w) X.A (handleBy (.ref a) X.env []) (SP X pins D) X.xe s := by
  refine wpAny_handleBy_nil ?_
  obtain ⟨_, _, _, oe, vs, T, oT, ts, he, hz, hd, h1, hr⟩ := id c.fl
  unfold PySem.passOn
  refine wpAny_bind (wpAny_field he hd h1 ?_)
  rw [if_neg (by simp : ¬ (Value.ref T == Value.none) = true)]
  have go : wpAny (model X.prog X.w) X.A (setFlight (.ref a) X.env.frame) (fun _ s4 => wpAny (model X.prog X.w) X.A (throw (.ref a) : Sem Flow) (SP X pins D) X.xe s4) X.xe s := by
    rw [hf]
    exact HandSPX.setFlight_upZ c.fl fun g hh up => wpAny_throw (c.out W tk w g hh up)
  first
    | exact wpAny_bind (wpAny_pure (wpAny_bind go))
    | exact wpAny_bind go
/-- one clause «except x as n» -/
theorem Caught.clause (ok : X.Ok) (hf : X.env.frame = some X.env.locals) (c : Caught X pins σ H B a cls d s) {x n : Str} {cv : Value} {i : Nat} {suite : List Stmt} {b₀ : Stmt} {np pos' : Pos} {rest : List ExceptHandler} {ts : Addr → Value → Option Addr → TS} {D : Ends} {b : Bool}
    (hN : X.N.Nodup) (hi : X.N[i]? = some n) (hln : X.env.kindOf n = some .local) (hc : Names X x cv) (hb : PySem.W.exmOne X.K cls cv = some b)
    (hsu : ∀ (oe : Obj) (pn : List (Addr × Obj)), Zc cls d oe → (∃ vs, oe.data = .fields vs) → PSs (X.suite a ((a, oe) :: pn)) (b₀ :: suite) (ts a cls d))
    (yes : b = true → ts a cls d { nx := fun σ' H' => D.nx (σ'.set i none) H', rt := D.rt, bk := fun σ' H' => D.bk (σ'.set i none) H', ct := fun σ' H' => D.ct (σ'.set i none) H' } (σ.set i (some (.ref a))) H)
    (no : b = false → wpAny (model X.prog X.w) X.A (handleBy (.ref a) X.env rest) (SP X pins D) X.xe s) :
    wpAny (model X.prog X.w) X.A (handleBy (.ref a) X.env (.ExceptHandler (some (.Name x np)) (some n) (b₀ :: suite) pos' :: rest)) (SP X pins D) X.xe s := by
  obtain ⟨oe, hz, hd, he, mk⟩ := c.at hf
  have S := mk s.heap c.fl.1 (Heap.UpToSlots.refl _) he
  refine wpAny_handleBy_cons (codeAny_handlers_test ?_) (by intro q; cases q)
  have ty : PySem.W.Looks (model X.prog X.w) s.heap (typeOf (.ref a)) cls := fun A Q E s1 k q => wpAny_typeOf_ref (k _ _ he) (by rw [hz.1]; exact q)
  have mt := (PySem.W.exm_one (M := model X.prog X.w) c.inv.kIn ty hb)
  have nm : ∀ {Q : Value → Shared → Prop} {E : Value → Shared → Prop}, Q cv s → wpAny (model X.prog X.w) (X.A.mark (some (.ref a))) (eval (.Name x np) X.env) Q E s := fun {Q E} q => by
    obtain ⟨hg, hdb, hm | ⟨hm, hv, hnn⟩⟩ := hc
    · exact ld_glob (X := X.suite a ((a, oe) :: (X.pn ++ pins))) S hg hm q hdb
    · exact ld_blt (X := X.suite a ((a, oe) :: (X.pn ++ pins))) S hg hm hv q hnn hdb
  refine nm (mt.here ?_)
  cases b with
  | false => exact no rfl
  | true =>
    refine codeAny_handlers_suite_as (HandSPX.lands_againZ c.fl fun g fl up => ?_)
    obtain ⟨oe2, hz2, hd2, he2, mk2⟩ := (c.again fl up).at hf
    have S2 := mk2 g fl.1 (Heap.UpToSlots.refl _) he2
    refine store_ok (X := X.suite a ((a, oe2) :: (X.pn ++ pins))) (v := .ref a) S2 hN hi (.inl hln) rfl (fun s5 S5 => ?_) (.inr hln)
    refine wpAny_mono ((hsu oe2 (X.pn ++ pins) hz2 hd2).run [] s5 _ H _ S5 (yes rfl)) (fun f s6 hsp => ?_) (fun _ _ z => z.elim)
    have fin : ∀ {σ6 : L2.St} {H6 : Hp} {Q : Shared → Prop}, Inv (X.suite a ((a, oe2) :: (X.pn ++ pins))) [] σ6 H6 s6 → (∀ s7, Inv X pins (σ6.set i none) H6 s7 → Q s7) →
        wpAny (model X.prog X.w) X.A (do bindName X.env n .none; unbindBehindTheSuite X.env n pos') (fun _ s7 => Q s7) X.xe s6 := fun I6 k => gone_ok (I6.unsuite ok) hN hi hln k
    match f, hsp with
    | .next, ⟨σ6, H6, I6, q⟩ => exact fin I6 fun s7 J => ⟨_, _, J, q⟩
    | .brk, ⟨σ6, H6, I6, q⟩ => exact fin I6 fun s7 J => ⟨_, _, J, q⟩
    | .cont, ⟨σ6, H6, I6, q⟩ => exact fin I6 fun s7 J => ⟨_, _, J, q⟩
    | .ret u, ⟨v, σ6, H6, I6, r, q⟩ => exact fin I6 fun s7 J => ⟨v, _, _, J, r, q⟩
end
/-- what the clauses want of an error, one behind the other -/
def wClauses (K : PySem.W.Frag) (Wout : WX) (D : Ends) : List (Value × Nat × (Addr → Value → Option Addr → TS)) → WX
  | [] => Wout
  | (cv, i, ts) :: r => fun cls d σ H => ∃ b, PySem.W.exmOne K cls cv = some b ∧
    (b = true → ∀ a, H a = none → ts a cls d { nx := fun σ' H' => D.nx (σ'.set i none) H', rt := D.rt, bk := fun σ' H' => D.bk (σ'.set i none) H', ct := fun σ' H' => D.ct (σ'.set i none) H' } (σ.set i (some (.ref a))) H) ∧ (b = false → wClauses K Wout D r cls d σ H)
inductive Clauses (X : Cx) : List ExceptHandler → List (Value × Nat × (Addr → Value → Option Addr → TS)) → Prop
  | nil : Clauses X [] []
  | cons {x n : Str} {cv : Value} {i : Nat} {suite : List Stmt} {b₀ : Stmt} {np pos' : Pos} {rest : List ExceptHandler} {ts : Addr → Value → Option Addr → TS} {l : List (Value × Nat × (Addr → Value → Option Addr → TS))} (hi : X.N[i]? = some n) (hln : X.env.kindOf n = some .local) (hc : Names X x cv)
      (hsu : ∀ (a : Addr) (oe : Obj) (cls : Value) (d : Option Addr) (pn : List (Addr × Obj)), Zc cls d oe → (∃ vs, oe.data = .fields vs) → PSs (X.suite a ((a, oe) :: pn)) (b₀ :: suite) (ts a cls d)) (r : Clauses X rest l) :
      Clauses X (.ExceptHandler (some (.Name x np)) (some n) (b₀ :: suite) pos' :: rest) ((cv, i, ts) :: l)
theorem clauses_run {X : Cx} {pins : List (Addr × Obj)} {σ : L2.St} {H : Hp} {B : Heap} {a : Addr} {cls : Value} {d : Option Addr} {s : Shared} (ok : X.Ok) (hf : X.env.frame = some X.env.locals) (hN : X.N.Nodup) (c : Caught X pins σ H B a cls d s) {Wout : WX} (tk : Takes X Wout) {D : Ends}
    {hds : List ExceptHandler} {l : List (Value × Nat × (Addr → Value → Option Addr → TS))} (hh : Clauses X hds l) (w : wClauses X.K Wout D l cls d σ H) : wpAny (model X.prog X.w) X.A (handleBy (.ref a) X.env hds) (SP X pins D) X.xe s := by
  induction hh with
  | nil => exact c.leave hf tk w
  | cons hi hln hc hsu r ih =>
    obtain ⟨b, hb, yes, no⟩ := w
    exact c.clause ok hf hN hi hln hc hb (fun oe pn hz hd => hsu a oe cls d pn hz hd) (fun e => yes e a c.no) fun e => ih (no e)
/-- try: .. except X as e: .. except Y as e: .. -/
theorem ps_try_clauses {X : Cx} {body : List Stmt} {h₀ : ExceptHandler} {hds : List ExceptHandler} {pos : Pos} {tb : WX → TS} {Wout : WX} {l : List (Value × Nat × (Addr → Value → Option Addr → TS))} (hs : X.stack = X.env :: X.outer) (hf : X.env.frame = some X.env.locals) (hN : X.N.Nodup) (tk : Takes X Wout)
    (hb : ∀ (W : WX) (pn : List (Addr × Obj)) (xe : Value → Shared → Prop), Takes (X.tr pn xe) W → PassesOwn (model X.prog X.w) X.A X.env xe → PSs (X.tr pn xe) body (tb W))
    (hh : Clauses X (h₀ :: hds) l) : PS X (.Try body (h₀ :: hds) [] [] pos) (fun D σ H => tb (wClauses X.K Wout D l) D σ H) := by
  refine ⟨fun pins s σ H D I h => wpAny_Try_except ?_⟩
  have hfr : X.A.frames = some (X.env :: X.outer) := by rw [I.ok.frames, hs]
  let xe : Value → Shared → Prop := fun e s1 => wpAny (model X.prog X.w) X.A (noteFrame e X.env) (fun _ s2 => wpAny (model X.prog X.w) X.A (setFlight e none) (fun _ s3 => wpAny (model X.prog X.w) X.A (handleBy e X.env (h₀ :: hds)) (SP X pins D) X.xe s3) X.xe s2) X.xe s1
  have catches : Takes (X.tr (X.pn ++ pins) xe) (wClauses X.K Wout D l) := fun u s' xx => by
    obtain ⟨a, B, sI, pins', σ', H', cls, d, rfl, J0, nb, up, sky, na, os, ag, w⟩ := xx
    have J : Inv X pins σ' H' sI := J0.ofTry I.ok
    refine Sky.land Zc.steady hfr hf (by rw [← hs]; exact sky) fun g fl up3 => clauses_run (s := { s' with heap := g }) I.ok hf hN (B := B) (cls := cls) (d := d) ⟨fl, na, fun g2 st up4 => J.landed nb st ((up.trans up3).trans up4) os ag, fun W2 tk2 w2 g2 hh2 up4 => tk2 _ _ ⟨a, B, sI, pins, σ', H', cls, d, rfl, J, nb, (up.trans up3).trans up4, .inr (.inr (by rw [hs]; exact hh2)), na, os, ag, w2⟩⟩ tk hh w
  refine wpAny_mono ((hb (wClauses X.K Wout D l) (X.pn ++ pins) xe catches PassesOwn.looking).run [] s σ H D (I.toTry _) h) (fun f s1 hsp => ?_) (fun e s1 he => he)
  match f, hsp with
  | .next, ⟨σ', H', J, q⟩ => exact wpAny_execs_nil ⟨σ', H', J.ofTry I.ok, q⟩
  | .brk, ⟨σ', H', J, q⟩ => exact ⟨σ', H', J.ofTry I.ok, q⟩
  | .cont, ⟨σ', H', J, q⟩ => exact ⟨σ', H', J.ofTry I.ok, q⟩
  | .ret u, ⟨v, σ', H', J, r, q⟩ => exact ⟨v, σ', H', J.ofTry I.ok, r, q⟩
end DL
/-! DL: caught errors as data: what isinstance says of them, their fields, the clauses of a try -/
namespace DL
open PySem PySem.Spec PyProof.Rows L2
/-- a caught error with fields: where it stands, where its dict stands, the fields -/
abbrev excF (a dd : Addr) (xs : List PyData) : PyData := .dict [(.int (a : Nat), .int (dd : Nat)), (.none, .list xs)]
/-- the error under way is p0, of the class c at D, d its dict -/
structure HeldN (K : PySem.W.Frag) (c : Str) (D : Addr) (d : Option Addr) (p0 : Addr × Obj) : Prop where
  ns : PySem.W.nsIn K mainGlobals c = some (some (.ref D))
  hz : Zc (.ref D) d p0.2
  hf : ∃ vs, p0.2.data = .fields vs
def rIsN (K : PySem.W.Frag) (a D : Addr) (d : Option Addr) : List V → Hp → VK → Prop := fun xs H Q => ∃ (c : V) (cv : Value) (b : Bool), xs = [.ref a, c] ∧ (d = none ∨ ∃ dd fs, d = some dd ∧ H dd = some (.xd fs)) ∧ (∀ u, RelV c u → u = cv) ∧ PySem.W.kitOne K (.ref D) cv = some b ∧ Q (.bl b) H
theorem call_isN {X : Cx} {a D : Addr} {d : Option Addr} {oe : Obj} {pn : List (Addr × Obj)} (C : ExcC X.K D) (hz : Zc (.ref D) d oe) (hf : ∃ vs, oe.data = .fields vs) : CallR (X.suite a ((a, oe) :: pn)) (.builtin "isinstance") (rIsN X.K a D d) := by
  intro pins s σ H xs us Q I r h
  obtain ⟨c, cv, b, rfl, hd, hcv, e, q⟩ := h
  cases r with
  | cons rx rr =>
    cases rr with
    | cons rt rr =>
      cases rr
      cases rx
      have ec := hcv _ rt
      subst ec
      obtain ⟨ho, _⟩ := I.pin (a, oe) (List.mem_append_left _ List.mem_cons_self)
      obtain ⟨vs, hv⟩ := hf
      have hcl : (PySem.W.clsIn X.K D).isSome = true := by
        obtain ⟨cd, hc, _⟩ := PySem.W.any_some C.hd
        rw [hc]
        rfl
      have hnc : PySem.W.notCls oe = true := by unfold PySem.W.notCls; rw [hv] <;> rfl
      have hK := fun (od : Option Obj) => PySem.W.kitx_exc (x := a) (ox := oe) (od := od) hcl C.hg C.hk C.hs C.ha C.hn C.ht C.hm
      rcases hd with rfl | ⟨dd, fs, rfl, hd⟩
      · have J : PySem.W.InstAt s.heap a oe D none := ⟨ho, hz.1, hnc, by rw [hz.2]; trivial⟩
        exact PySem.W.kia_one (hK none) I.kIn J e (fun z => nomatch z) fun tk => ⟨.bl b, H, I.kept (t' := tk) fun _ _ z => z, rfl, q⟩
      · have hx : ObjOk X.prog X.w H s.heap dd (.xd fs) := I.hok dd _ hd
        obtain ⟨mA, hns, _⟩ := hx
        obtain ⟨od, hod, _⟩ := lookIn_ns hns
        have J : PySem.W.InstAt s.heap a oe D (some od) := ⟨ho, hz.1, hnc, by rw [hz.2]; exact hod⟩
        exact PySem.W.kia_one (hK (some od)) I.kIn J e (fun z => nomatch z) fun tk => ⟨.bl b, H, I.kept (t' := tk) fun _ _ z => z, rfl, q⟩
/-- x is the error under way at a, with its dict d -/
def exAt (a : Addr) : Option Addr → PyData → Prop
  | none, x => x = excD a
  | some dd, x => ∃ xs, x = excF a dd xs
@[simp] def wIsK (a : Addr) (d : Option Addr) (b : Bool) (w : DE) : DE := fun s Φ => w s fun x s1 => exAt a d x ∧ Φ (.bool b) s1
@[simp] def wFldN (a : Addr) (d : Option Addr) (f : Str) (w : DE) : DE := fun s Φ => w s fun x s1 => ∃ dd xs v, d = some dd ∧ x = excF a dd xs ∧ fldAt f xs = some v ∧ Φ v s1
section
variable {X : Cx} {L FL : List Str} {b : Str → Str → Bool} {c : Str} {D : Addr} {d : Option Addr} {p0 : Addr × Obj} {pn : List (Addr × Obj)} {e : Expr} {p p1 pos : Pos} {w : DE}
theorem exAt_of {K : PySem.W.Frag} {F H : Hp} {a : Addr} {v : V} {x : PyData} (s : Same F H) (h : Dq K F v x) (q : exAt a d x) : v = .ref a ∧ (d = none ∨ ∃ dd fs, d = some dd ∧ H dd = some (.xd fs)) := by
  cases d with
  | none =>
    have q : x = excD a := q
    subst q
    cases h
    exact ⟨rfl, .inl rfl⟩
  | some dd =>
    obtain ⟨xs, rfl⟩ := q
    cases h with
    | ef h1 h2 => exact ⟨rfl, .inr ⟨dd, _, rfl, s _ _ h1⟩⟩
theorem isN_of {X : Cx} {v : V} {cv : Value} {bb : Bool} {a : Addr} (hcv : ∀ u, RelV v u → u = cv) (kb : PySem.W.kitOne X.K (.ref D) cv = some bb) (σ : L2.St) (H : Hp) (Q : VK) (h : tE X.K (wIsK a d bb w) σ H Q) :
    tE X.K w σ H fun y H1 => (tCons (tC v) tNil) σ H1 fun vs H2 => rIsN X.K a D d (y :: vs) H2 Q := by
  obtain ⟨G, P, F, s, Φ, R, h, k⟩ := h
  refine ⟨G, P, F, s, _, R, h, fun y F1 H1 s1 x R1 e1 d1 q => ?_⟩
  obtain ⟨rfl, hd⟩ := exAt_of R1.same d1 q.1
  exact ⟨v, cv, bb, rfl, hd, hcv, kb, k _ F1 H1 s1 _ R1 e1 (.bl _) q.2⟩
/-- isinstance(e, T), e the error under way, T an own class -/
theorem xe_isN {T : Str} (E : Ers X.K X.mg L b FL) (hT : T ∈ L) (hc : c ∈ L) (hn : HeldN X.K c D d p0) (hg : Gl (X.suite p0.1 (p0 :: pn)) "isinstance") (hm : X.mg "isinstance" = none) (hgT : Gl (X.suite p0.1 (p0 :: pn)) T) (h : XE (X.suite p0.1 (p0 :: pn)) e w) (hd : (T == ("__debug__" : Str)) = false := by decide)
    (he : starEach [e, .Name T p1] X.env = (false, eval e X.env) :: starEach [.Name T p1] X.env := by rfl) (he2 : starEach [.Name T p1] X.env = (false, eval (.Name T p1) X.env) :: starEach [] X.env := by rfl) (hpl : (backTo pos (starEach [.Name T p1] X.env)).any (·.1) = false := by rfl) :
    XE (X.suite p0.1 (p0 :: pn)) (.Call (.Name "isinstance" p) [e, .Name T p1] [] pos) (wIsK p0.1 d (b T c) w) := by
  obtain ⟨C, gC, kb⟩ := E.kit T hT
  have hcall := call_isN (X := X) (a := p0.1) (pn := pn) (E.ok.ok c hc D hn.ns) hn.hz hn.hf
  exact pe_imp (pe_callB hcall hg hm (by decide +kernel) (pa_cons h (pa_cons (pe_glob (v := .ref C) hgT gC rfl hd) pa_nil he2) he) (by decide) (by decide) he hpl) fun σ H Q h => isN_of (X := X) (v := .ref C) (cv := .ref C) (fun u z => z) (kb c hc D hn.ns) σ H Q h
/-- isinstance(e, ValueError) -/
theorem xe_isNV (E : Ers X.K X.mg L b FL) (hc : c ∈ L) (hn : HeldN X.K c D d p0) (hg : Gl (X.suite p0.1 (p0 :: pn)) "isinstance") (hm : X.mg "isinstance" = none) (hgT : Gl (X.suite p0.1 (p0 :: pn)) "ValueError") (h : XE (X.suite p0.1 (p0 :: pn)) e w)
    (he : starEach [e, .Name "ValueError" p1] X.env = (false, eval e X.env) :: starEach [.Name "ValueError" p1] X.env := by rfl) (he2 : starEach [.Name "ValueError" p1] X.env = (false, eval (.Name "ValueError" p1) X.env) :: starEach [] X.env := by rfl) (hpl : (backTo pos (starEach [.Name "ValueError" p1] X.env)).any (·.1) = false := by rfl) :
    XE (X.suite p0.1 (p0 :: pn)) (.Call (.Name "isinstance" p) [e, .Name "ValueError" p1] [] pos) (wIsK p0.1 d true w) := by
  have hcall := call_isN (X := X) (a := p0.1) (pn := pn) (E.ok.ok c hc D hn.ns) hn.hz hn.hf
  exact pe_imp (pe_callB hcall hg hm (by decide +kernel) (pa_cons h (pa_cons (pe_bltn (v := .ty "ValueError") hgT E.mV PyProof.Rows.Boot.«ValueError» rfl (by decide) (by decide)) pa_nil he2) he) (by decide) (by decide) he hpl) fun σ H Q h => isN_of (X := X) (v := .ty "ValueError") (cv := .type "ValueError") (fun u z => z) (E.kitV c hc D hn.ns) σ H Q h
/-- e.f, e the error under way -/
theorem xe_fldN {f : Str} (E : Ers X.K X.mg L b FL) (hf : f ∈ FL) (hc : c ∈ L) (hn : HeldN X.K c D d p0) (h : XE (X.suite p0.1 (p0 :: pn)) e w) (hb : attributeBase e f X.env (eval e X.env) = eval e X.env := by rfl) : XE (X.suite p0.1 (p0 :: pn)) (.Attribute e f pos) (wFldN p0.1 d f w) :=
  pe_imp (pe_xf (X := X) (ers_xf (E.ok.ok c hc D hn.ns)) (E.fld f hf c hc D hn.ns) hn.hz hn.hf h hb) fun σ H Q h => by
    obtain ⟨G, P, F, s, Φ, R, h, k⟩ := h
    refine ⟨G, P, F, s, _, R, h, fun y F1 H1 s1 x R1 e1 d1 q => ?_⟩
    obtain ⟨dd, xs, u, rfl, rfl, ed, q⟩ := q
    cases d1 with
    | ef h1 h2 =>
      obtain ⟨v, ev, dv⟩ := fld_get (K := X.K) (F := F1) h2 ed
      exact ⟨rfl, rfl, dd, _, v, rfl, R1.same _ _ h1, ev, k _ F1 H1 s1 _ R1 e1 dv q⟩
end
/-! the clauses of a try -/
abbrev ClsD := List (Nat × Str × (Addr → Str → Option Addr → DS))
/-- behind a clause its name is gone -/
def enAs (i : Nat) (Φ : EN) : EN := { nx := fun s2 => Φ.nx (s2.put i .un), rt := Φ.rt, bk := fun s2 => Φ.bk (s2.put i .un), ct := fun s2 => Φ.ct (s2.put i .un), rl := Φ.rl }
def pickC (b : Str → Str → Bool) (c : Str) (xs : List PyData) (s : S) (Φ : EN) : ClsD → Prop
  | [] => Φ.ex c xs s
  | (i, x, ws) :: r => if b x c = true then (xs = [] → ∀ a, ws a c none (enAs i Φ) (s.put i (.d (excD a)))) ∧ (xs ≠ [] → ∀ a dd, ws a c (some dd) (enAs i Φ) (s.put i (.d (excF a dd xs)))) else pickC b c xs s Φ r
@[simp] def wTryN (L : List Str) (b : Str → Str → Bool) (cl : ClsD) (wb : DS) : DS := fun Φ s => wb { nx := Φ.nx, rt := Φ.rt, bk := Φ.bk, ct := Φ.ct, rl := Φ.rl, ex := fun c xs s' => c ∈ L ∧ pickC b c xs s' Φ cl } s
inductive XCl (X : Cx) (L : List Str) : List ExceptHandler → ClsD → Prop
  | nil : XCl X L [] []
  | cons {x n : Str} {i : Nat} {suite : List Stmt} {b₀ : Stmt} {np pos' : Pos} {rest : List ExceptHandler} {ws : Addr → Str → Option Addr → DS} {l : ClsD} (hi : X.N[i]? = some n) (hln : X.env.kindOf n = some .local) (hx : x ∈ L) (hg : Gl X x) (hdb : (x == ("__debug__" : Str)) = false)
      (hsu : ∀ (p0 : Addr × Obj) (c : Str) (D : Addr) (d : Option Addr) (pn : List (Addr × Obj)), c ∈ L → HeldN X.K c D d p0 → XSs (X.suite p0.1 (p0 :: pn)) (b₀ :: suite) (ws p0.1 c d)) (r : XCl X L rest l) :
      XCl X L (.ExceptHandler (some (.Name x np)) (some n) (b₀ :: suite) pos' :: rest) ((i, x, ws) :: l)
theorem xcl_run {X : Cx} {L FL : List Str} {b : Str → Str → Bool} (E : Ers X.K X.mg L b FL) {hds : List ExceptHandler} {cl : ClsD} (hh : XCl X L hds cl) :
    ∃ l, Clauses X hds l ∧ ∀ {D' : Ends} {Φ : EN} {G : Hp} {P : Option Addr} {F H : Hp} {σ : L2.St} {s : S} {c : Str} {xs : List PyData} {C : Addr} {d : Option Addr}, c ∈ L → X.mg c = some (.ref C) → Rep X.K G P F H σ s → Beh X.K G P F Φ D' (wX X) → pickC b c xs s Φ cl →
      ((xs = [] ∧ d = none) ∨ ∃ dd fs, d = some dd ∧ xs ≠ [] ∧ F dd = some (.xd fs) ∧ FldF fs xs) → wClauses X.K (wishOf X) D' l (.ref C) d σ H := by
  induction hh with
  | nil =>
    refine ⟨[], .nil, fun {D' Φ G P F H σ s c xs C d} hc gC R bh q hx => ?_⟩
    have z := bh.ex c xs σ F H s R (Same.refl F) q C gC
    rcases hx with ⟨e, rfl⟩ | ⟨dd, fs, rfl, ne, h1, h2⟩
    · exact z.1 e
    · exact z.2 ne dd fs h1 h2
  | @cons x n i suite b₀ np pos' rest ws l hi hln hx hg hdb hsu r ih =>
    obtain ⟨l2, hc2, go⟩ := ih
    obtain ⟨Cx, gx, _⟩ := E.kit x hx
    refine ⟨(.ref Cx, i, fun a cls d D' σ H => ∃ c D, c ∈ L ∧ PySem.W.nsIn X.K mainGlobals c = some (some (.ref D)) ∧ cls = .ref D ∧ tS X.K noX (ws a c d) D' σ H) :: l2, .cons hi hln ⟨hg, hdb, .inl gx⟩ (fun a oe cls d pn hz hf => ⟨fun pins s σ H D' I h => ?_⟩) hc2, fun {D' Φ G P F H σ s c xs C d} hc gC R bh q hxs => ?_⟩
    · obtain ⟨c, D, hcL, hns, rfl, h⟩ := h
      exact (hsu (a, oe) c D d pn hcL ⟨hns, hz, hf⟩).run pins s σ H D' I (tS_wish (fun c xs F σ H q => q.elim) h)
    · refine ⟨b x c, E.exm x hx c hc Cx C gx gC, fun e2 a na => ⟨c, C, hc, E.ns c hc C gC, rfl, ?_⟩, fun e2 => ?_⟩
      · unfold pickC at q
        rw [if_pos e2] at q
        have bb : ∀ (F' : Hp), F' = F → Beh X.K G P F' (enAs i Φ) { nx := fun σ' H' => D'.nx (σ'.set i none) H', rt := D'.rt, bk := fun σ' H' => D'.bk (σ'.set i none) H', ct := fun σ' H' => D'.ct (σ'.set i none) H' } noX := fun F' eF => by
          subst eF
          exact ⟨fun σ2 F2 H2 s2 R2 e3 q2 => bh.nx _ F2 H2 _ R2.dropU e3 q2, fun v σ2 F2 H2 s2 x R2 e3 => bh.rt v σ2 F2 H2 s2 x R2 e3, fun σ2 F2 H2 s2 R2 e3 q2 => bh.bk _ F2 H2 _ R2.dropU e3 q2, fun σ2 F2 H2 s2 R2 e3 q2 => bh.ct _ F2 H2 _ R2.dropU e3 q2,
            fun p vs σ2 F2 H2 s2 xs R2 e3 => bh.rl p vs σ2 F2 H2 s2 xs R2 e3, fun _ _ _ _ _ _ _ _ z => z.elim⟩
        rcases hxs with ⟨e, rfl⟩ | ⟨dd, fs, rfl, ne, h1, h2⟩
        · exact ⟨G, P, F, _, _, R.setD (.er a), q.1 e a, bb F rfl⟩
        · exact ⟨G, P, F, _, _, R.setD (.ef h1 h2), q.2 ne a dd, bb F rfl⟩
      · unfold pickC at q
        rw [if_neg (by rw [e2]; decide)] at q
        exact go hc gC R bh q hxs
theorem xs_try_n {X : Cx} {L FL : List Str} {b : Str → Str → Bool} {body : List Stmt} {h₀ : ExceptHandler} {hds : List ExceptHandler} {pos : Pos} {wb : DS} {cl : ClsD} (hs : X.stack = X.env :: X.outer) (hf : X.env.frame = some X.env.locals) (hN : X.N.Nodup) (E : Ers X.K X.mg L b FL)
    (hb : ∀ (pn : List (Addr × Obj)) (xe : Value → Shared → Prop), PassesOwn (model X.prog X.w) X.A X.env xe → XSs (X.tr pn xe) body wb) (hh : XCl X L (h₀ :: hds) cl) : XS X (.Try body (h₀ :: hds) [] [] pos) (wTryN L b cl wb) := by
  obtain ⟨l, hcl, go⟩ := xcl_run E hh
  refine ps_imp (ps_try_clauses (tb := fun W => tS X.K (wW X.K X.mg W) wb) hs hf hN (takes_wish X) (fun W pn xe tk pa => pss_imp (hb pn xe pa) fun D σ H t => tS_wish (fun c xs F σ H q => wW_X tk q) t) hcl) fun D' σ H h => ?_
  obtain ⟨G, P, F, s, Φ, R, h, bh⟩ := h
  refine ⟨G, P, F, s, _, R, h, ⟨bh.nx, bh.rt, bh.bk, bh.ct, bh.rl, fun c xs σ' F' H' s' R' e q => ?_⟩⟩
  refine fun C gC => ⟨fun e2 => go q.1 gC R' (bh.up e) q.2 (.inl ⟨e2, rfl⟩), fun ne d fs h1 h2 => go q.1 gC R' (bh.up e) q.2 (.inr ⟨d, fs, rfl, ne, h1, h2⟩)⟩
end DL
/-! DL: f(..) of a def that may raise, as a statement -/
namespace DL
open PySem PySem.Spec PyProof.Rows L2
section
variable {X : Cx} {k kX : Nat} {sp : DSpX} {x : Str} {ps : List Str} {p pos pos2 : Pos} {e : Expr} {es : List Expr} {wa : DA}
@[simp] def wExpX (sp : DSpX) (wa : DA) : DS := fun Φ s => wa s fun ds s1 => sp ds (fun _ => Φ.nx s1) fun c xs => Φ.ex c xs s1
theorem c_expX (C : CaX X.prog X.w X.K X.mg X.base k x ps sp) (hgd : X.A.guards = some []) (hr : Room kX X.A) (hk : k ≤ kX) (hg : Gl X x) (ha : XA X (e :: es) wa)
    (hdb : (x == ("__debug__" : Str)) = false := by decide) (he : starEach (e :: es) X.env = (false, eval e X.env) :: starEach es X.env := by rfl) (hpl : (backTo pos (starEach es X.env)).any (·.1) = false := by rfl)
    (hs : swapsWith (.Call (.Name x p) (e :: es) [] pos) none pos2.line X.env = pure false := by rfl) :
    XS X (.Expr (.Call (.Name x p) (e :: es) [] pos) pos2) (wExpX sp wa) := by
  obtain ⟨f, fd, F, gm, kp, b⟩ := C.ex
  refine ps_imp (ps_expr (pe_callX F hgd (hr.mono hk) hg gm kp b (takes_wish X) ha hdb he hpl) hs) fun D σ H h => ?_
  obtain ⟨G, P, F, s, Φ, R, h, b⟩ := h
  exact callX_of (Φr := fun _ s1 => Φ.nx s1) R h (fun v F' H' s' x R' e d q => b.nx σ F' H' s' R' e q) fun c xs F' H' s' R' e q => b.ex c xs σ F' H' s' R' e q
end
end DL
/-! DL: // of great numbers; how fast the greatest common divisor is found; fractions in lowest terms -/
namespace DL
open PySem PySem.Spec PyProof.Rows L2
@[simp] def wDivW : W2 := wII CDivW fun i j => .int (i / j)
theorem o_divW {K : PySem.W.Frag} : Op2 K (rI CDivW fun i j => .int (i / j)) wDivW := op2_I fun _ _ _ => .int _
theorem mod_half {a b : Nat} (h0 : 0 < b) (h : b ≤ a) : 2 * (a % b) ≤ a := by
  have h1 := Nat.div_add_mod a b
  have h2 := Nat.mod_lt a h0
  have h3 : 1 ≤ a / b := (Nat.one_le_div_iff h0).mpr h
  have h4 : b * 1 ≤ b * (a / b) := Nat.mul_le_mul (Nat.le_refl b) h3
  omega
/-- Euclid's pairs: a turn takes (a, b) to (b, a % b); behind i + 1 turns their product is small -/
structure Eu (g m i a b : Nat) : Prop where
  gcd : Nat.gcd a b = g
  le : b ≤ a
  small : a * b * 2 ^ i ≤ m
theorem Eu.first {a b : Nat} (hb : 0 < b) : Eu (Nat.gcd a b) (b * b) 0 b (a % b) where
  gcd := by rw [Nat.gcd_comm a b, Nat.gcd_rec b a, Nat.gcd_comm]
  le := Nat.le_of_lt (Nat.mod_lt a hb)
  small := by
    rw [Nat.pow_zero, Nat.mul_one]
    exact Nat.mul_le_mul (Nat.le_refl b) (Nat.le_of_lt (Nat.mod_lt a hb))
theorem Eu.next {g m i a b : Nat} (hb : 0 < b) (h : Eu g m i a b) : Eu g m (i + 1) b (a % b) where
  gcd := by rw [← h.gcd, Nat.gcd_comm a b, Nat.gcd_rec b a, Nat.gcd_comm]
  le := Nat.le_of_lt (Nat.mod_lt a hb)
  small := by
    have h1 := mod_half hb h.le
    have h2 : b * (a % b) * 2 ^ (i + 1) = (b * (2 * (a % b))) * 2 ^ i := by
      rw [Nat.pow_succ, ← Nat.mul_assoc, Nat.mul_right_comm (b * (a % b)) (2 ^ i) 2, Nat.mul_assoc b (a % b) 2, Nat.mul_comm (a % b) 2]
    rw [h2]
    refine Nat.le_trans (Nat.mul_le_mul (Nat.mul_le_mul (Nat.le_refl b) h1) (Nat.le_refl _)) ?_
    rw [Nat.mul_comm b a]
    exact h.small
theorem Eu.done {g m i a b : Nat} (h : Eu g m i a b) (hm : m < 2 ^ i) : b = 0 := by
  have h0 : a * b = 0 := by
    rcases Nat.eq_zero_or_pos (a * b) with z | z
    · exact z
    · have h1 : 1 * 2 ^ i ≤ a * b * 2 ^ i := Nat.mul_le_mul z (Nat.le_refl _)
      have := h.small
      omega
  rcases Nat.mul_eq_zero.mp h0 with z | z
  · have := h.le
    omega
  · exact z
/-- the fraction a / b in lowest terms -/
def frD (a b : Nat) : PyData := .tuple [.int ((a / Nat.gcd a b : Nat) : Int), .int ((b / Nat.gcd a b : Nat) : Int)]
theorem fr_low {a b : Nat} (hb : 0 < b) : Nat.gcd (a / Nat.gcd a b) (b / Nat.gcd a b) = 1 := by
  have g := Nat.gcd_pos_of_pos_right a hb
  have h : Nat.gcd a b * Nat.gcd (a / Nat.gcd a b) (b / Nat.gcd a b) = Nat.gcd a b * 1 := by
    rw [← Nat.gcd_mul_left, Nat.mul_div_cancel' (Nat.gcd_dvd_left a b), Nat.mul_div_cancel' (Nat.gcd_dvd_right a b), Nat.mul_one]
  exact Nat.eq_of_mul_eq_mul_left g h
theorem fr_eq {a b : Nat} : a / Nat.gcd a b * b = a * (b / Nat.gcd a b) := by
  rw [← Nat.mul_div_assoc a (Nat.gcd_dvd_right a b), Nat.mul_comm (a / Nat.gcd a b) b, ← Nat.mul_div_assoc b (Nat.gcd_dvd_left a b), Nat.mul_comm a b]
theorem fr_pos {a b : Nat} (hb : 0 < b) : 0 < b / Nat.gcd a b := Nat.div_pos (Nat.le_of_dvd hb (Nat.gcd_dvd_right a b)) (Nat.gcd_pos_of_pos_right a hb)
/-- equal fractions have the same lowest terms -/
theorem fr_same {a b c d : Nat} (hb : 0 < b) (hd : 0 < d) (h : a * d = c * b) : frD a b = frD c d := by
  have e1 : a / Nat.gcd a b = c / Nat.gcd c d ∧ b / Nat.gcd a b = d / Nat.gcd c d := by
    have g1 := Nat.gcd_pos_of_pos_right a hb
    have g2 := Nat.gcd_pos_of_pos_right c hd
    have k1 := fr_low (a := a) hb
    have k2 := fr_low (a := c) hd
    have f1 := fr_pos (a := a) hb
    have f2 := fr_pos (a := c) hd
    have ea := Nat.div_mul_cancel (Nat.gcd_dvd_left a b)
    have eb := Nat.div_mul_cancel (Nat.gcd_dvd_right a b)
    have ec := Nat.div_mul_cancel (Nat.gcd_dvd_left c d)
    have ed := Nat.div_mul_cancel (Nat.gcd_dvd_right c d)
    generalize a / Nat.gcd a b = p at *
    generalize b / Nat.gcd a b = q at *
    generalize c / Nat.gcd c d = r at *
    generalize d / Nat.gcd c d = t at *
    generalize Nat.gcd a b = g at *
    generalize Nat.gcd c d = g' at *
    subst ea; subst eb; subst ec; subst ed
    have h2 : p * t = r * q := by
      have h3 : p * t * (g * g') = r * q * (g * g') := by
        simp only [Nat.mul_comm, Nat.mul_left_comm, Nat.mul_assoc] at h ⊢
        exact h
      exact Nat.eq_of_mul_eq_mul_right (Nat.mul_pos g1 g2) h3
    have d1 : q ∣ t := (Nat.Coprime.dvd_of_dvd_mul_left (Nat.Coprime.symm k1) (by rw [h2]; exact Nat.dvd_mul_left q r))
    have d2 : t ∣ q := (Nat.Coprime.dvd_of_dvd_mul_left (Nat.Coprime.symm k2) (by rw [← h2]; exact Nat.dvd_mul_left t p))
    have e := Nat.dvd_antisymm d1 d2
    subst e
    exact ⟨Nat.eq_of_mul_eq_mul_right f1 h2, rfl⟩
  unfold frD
  rw [e1.1, e1.2]
end DL
/-! DL: a, b = e, an own list -/
namespace DL
open PySem PySem.Spec PyProof.Rows L2
@[simp] def wParO (i j : Nat) (w1 : DE) (w2 : DA) : DS := fun Φ s => w1 s fun x s1 => w2 s1 fun ys s2 => Φ.nx ((s2.put j (.o ys)).put i (.d x))
theorem xs_parO {X : Cx} {i j : Nat} {x y : Str} {a b : Expr} {w1 : DE} {w2 : DA} {px py pt pos : Pos} {kt k2 : Nat} {pt2 : Pos} (hc : X.calm = true) (hN : X.N.Nodup) (hi : X.N[i]? = some x) (hj : X.N[j]? = some y) (hij : i ≠ j)
    (hx : X.env.scope.names.lookup x = some .local) (hy : X.env.scope.names.lookup y = some .local) (ha : XE X a w1) (hb : XL X b w2)
    (hw : swappedStores [.Tuple [.Name x px, .Name y py] kt pt] (.Tuple [a, b] k2 pt2) X.env = pure (some [x, y]))
    (he : starEach [a, b] X.env = (false, eval a X.env) :: starEach [b] X.env := by rfl) (he2 : starEach [b] X.env = (false, eval b X.env) :: starEach [] X.env := by rfl)
    (hsole : swapsWithSole [.Tuple [.Name x px, .Name y py] kt pt] (.Tuple [a, b] k2 pt2) pos.line X.env = pure false := by rfl) : XS X (.Assign [.Tuple [.Name x px, .Name y py] kt pt] (.Tuple [a, b] k2 pt2) pos) (wParO i j w1 w2) :=
  ps_imp (ps_par hc hN hi hj hij hx hy (pa_cons ha (pa_cons hb pa_nil he2) he) hw hsole) fun D σ H h => by
    obtain ⟨G, P, F, s, Φ, R, h, b⟩ := h
    refine ⟨G, P, F, s, _, R, h, fun v F1 H1 s1 x R1 e1 d1 q => ⟨G, P, F1, s1, _, R1, q, fun p vs F2 H2 s2 ys R2 e2 n hp d2 q2 => ⟨v, .ref p, rfl, ?_⟩⟩⟩
    rw [List.set_comm _ _ hij]
    exact b.nx _ F2 H2 _ ((R2.setO n hp d2).setD (d1.up e2)) (e1.trans e2) q2
end DL
/-! DL: all, any of a generator expression whose element may call own defs -/
namespace DL
open PySem PySem.Spec PyProof.Rows L2 GenW
/-- a generator expression's frame, within the def X -/
def gnx (X : Cx) (sc : Scope) (N : List Str) (cl : List (Str × Addr)) (C : Addr) (cd : Value) (A : Around) (fp : List Addr) (s0 : Shared) (H0 : Hp) : Cx :=
  { prog := X.prog, w := X.w, K := X.K, mg := X.mg, base := X.base, A := A.deeper (genEnv sc cl C cd builtinsNs X.env), N := N, s_0 := s0, H_0 := H0, env := genEnv sc cl C cd builtinsNs X.env, outer := X.stack, stack := genEnv sc cl C cd builtinsNs X.env :: X.stack, ex := fp, fn := fun _ => false, calm := true, pn := [], xe := fun _ _ => False }
theorem over_gen {A : Around} {elt iter : Expr} {x : Str} {px gpos : Pos} {sc : Scope} {it acc : Value} {env : Env} : A.over (.compLoop (.GeneratorExp elt [⟨.Name x px, iter, [], 0⟩] sc gpos) 0 it acc env) [] = A.deeper env := by
  first
    | rfl
    | (obtain ⟨hd, d, fr, gs, u⟩ := A; simp [Around.over, Around.deeper, marksOver, frameCount, unitsOf, envsOf, guardsOf, pushEnvs, pushGuards, Code.envs, Code.env?, Code.isFrame, Code.guards, Code.isGuard, Code.weight, Code.frames, Code.isCreation, Code.isCaller, Code.cUnits])
/-- the generator expression's scope: its one name x, the walked thing, captured names at the slots Fr of the def -/
structure GenN (X : Cx) (sc : Scope) (N : List Str) (x : Str) (Fr : List Nat) : Prop where
  kind : sc.kind = .function
  co : sc.isCoroutine = false
  cell : ∀ y ∈ sc.names, y.2 ≠ .cell
  dot : sc.names.lookup (".0" : Str) = some NameKind.local
  loc : sc.names.lookup x = some .local
  free : ∀ y ∈ sc.names, y.2 = .free → X.env.scope.names.lookup y.1 = some .cell ∨ X.env.scope.names.lookup y.1 = some .free
  nd : N.Nodup
  at1 : N[1]? = some x
  frs : ∀ (i : Nat) (y : Str), N[i + 2]? = some y → ∃ j, Fr[i]? = some j ∧ X.N[j]? = some y ∧ sc.names.lookup y = some .free
  len : N.length = Fr.length + 2
/-- its slots -/
def gσ (σ : L2.St) (Fr : List Nat) : L2.St := none :: none :: Fr.map fun j => σ.getD j none

section
variable {X : Cx} {sc : Scope} {N : List Str} {x : Str} {Fr : List Nat} {cl : List (Str × Addr)} {C a it : Addr} {cd : Value} {A : Around} {fp : List Addr} {s0 : Shared} {H0 : Hp} {pins : List (Addr × Obj)} {σ0 : L2.St} {px gpos : Pos} {elt iter : Expr}
  {tn : Nat → Heap → Prop} {J : It} {n g : Nat} {v : Bool} {Lp : Nat → Hp → Prop} {Qb : Bool → Hp → Prop} {te : TE}
/-- the end of the generator's run; what is handed out -/
def GenR (Y : Cx) (pins : List (Addr × Obj)) (D : Hp → Prop) : GenEnd := fun n s₀ r s1 => r = .ok .next ∧ ∃ σ' H', Inv Y pins σ' H' s1 ∧ D H'
def GenP (Y : Cx) (pins : List (Addr × Obj)) (σ0 : L2.St) (fp : List Addr) (tn : Nat → Heap → Prop) (n : Nat) (v : Bool) (Lp : Nat → Hp → Prop) (Qb : Bool → Hp → Prop) : Protocol := fun m s₀ u s1 kap =>
  ∃ (i : Nat) (b : Bool) (σ' : L2.St) (H' : Hp), m + (i + 1) = n ∧ u = .bool b ∧ Inv Y pins σ' H' s1 ∧ (∀ y, σ'.set 1 (some y) = σ0.set 1 (some y)) ∧ (∀ b ∈ fp, H' b = none) ∧ tn (i + 1) s1.heap ∧ (b = v → Lp (i + 1) H') ∧ (b ≠ v → Qb b H') ∧
    ∀ s'', Inv Y pins σ' H' s'' → tn (i + 1) s''.heap → b = v → kap (.send .none) s''
/-- what is wanted of the turns -/
structure GenT (Y : Cx) (pins : List (Addr × Obj)) (σ0 : L2.St) (tg : Expr) (fp : List Addr) (it : Addr) (tn : Nat → Heap → Prop) (J : It) (n : Nat) (v : Bool) (Lp : Nat → Hp → Prop) (Qb : Bool → Hp → Prop) (te : TE) : Prop where
  T : Turn Y.prog Y.w Y.K tg J fp it tn
  ok : ∀ (H : Hp), (∀ b ∈ fp, H b = none) → ∀ b ∈ fp, FpOk Y pins H b
  step : ∀ i H, Lp i H → i ≤ n ∧ ((J.stop i H ∧ Qb v H) ∨ (i < n ∧ J.go i H ∧ ∀ y H2, J.yld i H y H2 → te (σ0.set 1 (some y)) H2 fun u H3 => ∃ b, u = .bl b ∧ (b = v → Lp (i + 1) H3) ∧ (b ≠ v → Qb b H3)))
theorem gen_turns (S : GenN X sc N x Fr) (hel : PE (gnx X sc N cl C cd A fp s0 H0) elt te) (G : GenT (gnx X sc N cl C cd A fp s0 H0) pins σ0 (.Name x px) fp it tn J n v Lp Qb te) :
    ∀ (k i : Nat) (s₀ s : Shared) (σ : L2.St) (H : Hp), n - i = k → Inv (gnx X sc N cl C cd A fp s0 H0) pins σ H s → (∀ y, σ.set 1 (some y) = σ0.set 1 (some y)) → (∀ b ∈ fp, H b = none) → tn i s.heap → Lp i H →
      Seg (model X.prog X.w) A (GenR (gnx X sc N cl C cd A fp s0 H0) pins (Qb v)) (GenP (gnx X sc N cl C cd A fp s0 H0) pins σ0 fp tn n v Lp Qb) (n - i) s₀
        (.compLoop (.GeneratorExp elt [⟨.Name x px, iter, [], 0⟩] sc gpos) 0 (.ref it) .none (gnx X sc N cl C cd A fp s0 H0).env)
        ((model X.prog X.w).den (.compLoop (.GeneratorExp elt [⟨.Name x px, iter, [], 0⟩] sc gpos) 0 (.ref it) .none (gnx X sc N cl C cd A fp s0 H0).env)) [] s := by
  intro k
  induction k with
  | zero =>
    intro i s₀ s σ H hk I hσ hf st lp
    obtain ⟨hi, q⟩ := G.step i H lp
    rcases q with ⟨stop, q⟩ | ⟨lt, _⟩
    · show Seg _ A _ _ _ s₀ _ ((compTurn (.GeneratorExp elt [⟨.Name x px, iter, [], 0⟩] sc gpos) 0 (.ref it) .none (gnx X sc N cl C cd A fp s0 H0).env).onRaise (leaving (gnx X sc N cl C cd A fp s0 H0).env)) [] s
      rw [compTurn_gen, Sem.onRaise_eq_wrap]
      refine seg_bind_wrap (wpAny_standAt ?_)
      refine seg_bind_wrap ?_
      rw [over_gen]
      refine thn (G.T.done (gnx X sc N cl C cd A fp s0 H0) rfl rfl rfl rfl i pins s σ H _ I (G.ok H hf) st stop) fun r s1 ⟨hr, I1⟩ => ?_
      subst hr
      exact seg_end (.ok .next) ⟨rfl, σ, H, I1, q⟩
    · omega
  | succ k ih =>
    intro i s₀ s σ H hk I hσ hf st lp
    obtain ⟨hi, q⟩ := G.step i H lp
    show Seg _ A _ _ _ s₀ _ ((compTurn (.GeneratorExp elt [⟨.Name x px, iter, [], 0⟩] sc gpos) 0 (.ref it) .none (gnx X sc N cl C cd A fp s0 H0).env).onRaise (leaving (gnx X sc N cl C cd A fp s0 H0).env)) [] s
    rw [compTurn_gen, Sem.onRaise_eq_wrap]
    refine seg_bind_wrap (wpAny_standAt ?_)
    refine seg_bind_wrap ?_
    rw [over_gen]
    rcases q with ⟨stop, q⟩ | ⟨lt, go, q⟩
    · refine thn (G.T.done (gnx X sc N cl C cd A fp s0 H0) rfl rfl rfl rfl i pins s σ H _ I (G.ok H hf) st stop) fun r s1 ⟨hr, I1⟩ => ?_
      subst hr
      exact seg_end (.ok .next) ⟨rfl, σ, H, I1, q⟩
    · obtain ⟨m, hm⟩ : ∃ m, n - i = m + 1 := ⟨n - i - 1, by omega⟩
      rw [hm]
      refine thn (G.T.item (gnx X sc N cl C cd A fp s0 H0) rfl rfl rfl rfl i pins s σ H _ I (G.ok H hf) st go) fun r s1 ⟨u, hr, h1⟩ => ?_
      subst hr
      refine seg_bind_wrap ?_
      rw [over_gen]
      refine thn h1 fun _ s2 ⟨y, H2, I2, r2, y2, st2, f2⟩ => ?_
      have I2' := I2.pinned (G.ok H2 f2) (G.T.obj _ _ st2)
      refine seg_bind_wrap ?_
      rw [over_gen]
      refine wpAny_assign_Name (store_ok I2' S.nd S.at1 (.inl S.loc) r2 (fun s3 I3 => ?_) (.inr S.loc))
      rw [hσ y] at I3
      refine seg_bind_wrap (wpAny_of_eq (a := true) (by simp only [List.forIn_nil]) ?_)
      simp only [if_true]
      have hy : ∀ v, yieldOut (gnx X sc N cl C cd A fp s0 H0).env v = yieldValue v := fun v => by
        have e : (gnx X sc N cl C cd A fp s0 H0).env.scope.isCoroutine = false := S.co
        simp only [yieldOut, e, Bool.false_eq_true, if_false]
      simp only [hy]
      rw [Sem.bind_eq_wrap', Sem.bind_eq_wrap', Sem.wrap_wrap, Sem.wrap_wrap]
      refine seg_wrap ?_
      rw [over_gen]
      refine wpAny_mono (hel.run _ s3 (σ0.set 1 (some y)) H2 _ I3 (q y H2 y2)) (fun w s4 ⟨d, H4, I4, r4, b, hd, q1, q2⟩ => ?_) fun _ _ z => False.elim z
      subst hd
      obtain rfl : w = Value.bool b := r4
      have stk : tn (i + 1) s4.heap := G.T.keep _ _ _ st2 fun b hb o e => (I4.pin (b, o) (List.mem_append_right _ (List.mem_append_right _ (mem_pinsAt hb e)))).1
      have fk : ∀ b ∈ fp, H4 b = none := fun b hb => by
        obtain ⟨o, e, d⟩ := G.T.obj _ _ st2 b hb
        exact (I4.pin (b, o) (List.mem_append_right _ (List.mem_append_right _ (mem_pinsAt hb e)))).2.1
      have hs2 : ∀ z, (σ0.set 1 (some y)).set 1 (some z) = σ0.set 1 (some z) := fun z => by rw [List.set_set]
      refine seg_at (seg_yield rfl rfl rfl ⟨i, b, _, H4, by omega, rfl, I4.unpinned, hs2, fk, stk, q1, q2, fun s'' I5 st5 hb => ?_⟩)
      have e : m = n - (i + 1) := by omega
      rw [e]
      exact seg_again rfl (ih (i + 1) s'' s'' _ H4 (by omega) I5 hs2 fk st5 (q1 hb))

theorem gen_start (S : GenN X sc N x Fr) (hel : PE (gnx X sc N cl C cd A fp s0 H0) elt te) (G : GenT (gnx X sc N cl C cd A fp s0 H0) pins σ0 (.Name x px) fp it tn J n v Lp Qb te) (s₀ s : Shared) (H : Hp) (I : Inv (gnx X sc N cl C cd A fp s0 H0) pins σ0 H s) (hf : ∀ b ∈ fp, H b = none) (st : tn 0 s.heap) (lp : Lp 0 H) :
      Seg (model X.prog X.w) A (GenR (gnx X sc N cl C cd A fp s0 H0) pins (Qb v)) (GenP (gnx X sc N cl C cd A fp s0 H0) pins σ0 fp tn n v Lp Qb) (n - 0) s₀
        (.compStart (.GeneratorExp elt [⟨.Name x px, iter, [], 0⟩] sc gpos) 0 (.ref it) .none (gnx X sc N cl C cd A fp s0 H0).env)
        ((model X.prog X.w).den (.compStart (.GeneratorExp elt [⟨.Name x px, iter, [], 0⟩] sc gpos) 0 (.ref it) .none (gnx X sc N cl C cd A fp s0 H0).env)) [] s := by
  have loop := gen_turns (px := px) (gpos := gpos) (iter := iter) S hel G (n - 0) 0 s₀ s σ0 H rfl I (fun _ => rfl) hf st lp
  show Seg _ A _ _ _ s₀ _ ((compStart (.GeneratorExp elt [⟨.Name x px, iter, [], 0⟩] sc gpos) 0 (.ref it) .none (gnx X sc N cl C cd A fp s0 H0).env).onRaise (leaving (gnx X sc N cl C cd A fp s0 H0).env)) [] s
  unfold compStart
  rw [Sem.onRaise_eq_wrap]
  show Seg _ A _ _ _ s₀ _ ((ask >>= _).wrap _ _ _ _) [] s
  refine seg_bind_wrap (wpAny_askSetting ?_)
  split
  · exact seg_again rfl loop
  · first
      | exact seg_bind_wrap (wpAny_rule (seg_bind_wrap (wpAny_standAt (seg_bind_wrap (G.T.self _ 0 s _ _ st (seg_again rfl loop))))))
      | (refine seg_bind_wrap (wpAny_rule ?_); show Seg _ A _ _ _ s₀ _ ((standAt iter.pos >>= _).wrap _ _ _ _) [] s; exact seg_bind_wrap (wpAny_standAt (seg_bind_wrap (G.T.self _ 0 s _ _ st (seg_again rfl loop)))))
/-- the table of generators changed -/
theorem inv_gen {Y : Cx} {pins : List (Addr × Obj)} {σ : L2.St} {H : Hp} {s : Shared} (I : Inv Y pins σ H s) {s' : Shared} (hh : s'.heap = s.heap) (ho : s'.os = s.os) (hb : AllBare s'.gens) : Inv Y pins σ H s' :=
  I.call' (ch := []) ho (by rw [hh]; exact Un.refl) (by rw [hh]; exact I.hok) hb fun b z => by cases z
/-- where the consumer stands -/
def GenC (X Y : Cx) (A : Around) (pins : List (Addr × Obj)) (σ0 : L2.St) (fp : List Addr) (tn : Nat → Heap → Prop) (g n : Nat) (v : Bool) (Lp : Nat → Hp → Prop) (Qb : Bool → Hp → Prop) (i : Nat) (s : Shared) : Prop :=
  ∃ (σ : L2.St) (H : Hp) (gs : GenState), Inv Y pins σ H s ∧ tn i s.heap ∧ s.gens[g]? = some gs ∧ ∀ s'', Inv Y pins σ H s'' → tn i s''.heap → gs.Goes (model X.prog X.w) A (GenR Y pins (Qb v)) (GenP Y pins σ0 fp tn n v Lp Qb) (n - i) (.send .none) s''
section
variable {Y : Cx} {B : Around} {R : Result → Shared → Prop}
theorem gen_next {Q : Option Value → Shared → Prop} {E : Value → Shared → Prop} {s : Shared} {i : Nat} (hh : B.handled = none) (hroom : B.depth < recursionLimit) (hg : ∀ {σ : L2.St} {H : Hp} {s : Shared}, Inv Y pins σ H s → s.heap.IsGen a g)
    (h : GenC X Y B.in1 pins σ0 fp tn g n v Lp Qb i s)
    (stop : ∀ s', (∃ σ' H', Inv Y pins σ' H' s' ∧ Qb v H') → Q none s')
    (same : i < n → ∀ s', GenC X Y B.in1 pins σ0 fp tn g n v Lp Qb (i + 1) s' → Q (some (.bool v)) s')
    (other : ∀ b s', b ≠ v → (∃ σ' H', Inv Y pins σ' H' s' ∧ Qb b H') → Q (some (.bool b)) s') : wpAny (model X.prog X.w) B (pyNext (.ref a)) Q E s := by
  obtain ⟨σ, H, gs, I, st, hgs, go⟩ := h
  have hgl : g < s.gens.size := (Array.getElem?_eq_some_iff.mp hgs).1
  have ab : ∀ {z : GenState}, z.bare = true → AllBare (s.setGen g z).gens := fun hz => allBare_setGen I.bare hz
  refine wpAny_gsz (n := g + 1) hgl (wpAny_pyNext_genexpQ (P := fun _ _ s1 => ∃ σ' H', Inv Y pins σ' H' s1 ∧ Qb v H') hh I.nolimit hroom (hg I) hgs (go _ (inv_gen I rfl rfl (ab rfl)) st) (fun w s1 gs' hbare hv => ?_) fun s1 hp h' hk => ?_)
  · intro hsz
    have hsz1 : g < s1.gens.size := by
      have q : (s1.setGen g gs').gens.size = s1.gens.size := setGen_size _ _ _
      have hsz' : g + 1 ≤ (s1.setGen g gs').gens.size := hsz
      omega
    obtain ⟨i', b, σ', H', hi, rfl, I1, hσ, hf, st1, q1, q2, kap⟩ := hv
    have I2 : Inv Y pins σ' H' (s1.setGen g gs') := inv_gen I1 rfl rfl (allBare_setGen I1.bare hbare)
    by_cases hb : b = v
    · subst hb
      cases hn : n - i with
      | zero =>
        rw [hn] at kap
        exact False.elim (kap s1 I1 st1 rfl)
      | succ m =>
        rw [hn] at kap hi
        have e : i' = i := by omega
        subst e
        refine same (by omega) _ ⟨σ', H', gs', I2, st1, setGen_at hsz1, fun s'' I3 st3 => ?_⟩
        have := kap s'' I3 st3 rfl
        have e : n - (i' + 1) = m := by omega
        rw [e]
        exact this
    · exact other b _ hb ⟨σ', H', I2, q2 hb⟩
  · intro _
    obtain ⟨σ', H', I1, q⟩ := hp
    have I2 : Inv Y pins σ' H' (s1.setGen g .finished) := inv_gen I1 rfl rfl (allBare_setGen I1.bare rfl)
    exact stop _ ⟨σ', H', I2.kept (t' := s1.toks) hk, q⟩
theorem all_turns (hh : B.handled = none) (hroom : B.depth < recursionLimit) (hg : ∀ {σ : L2.St} {H : Hp} {s : Shared}, Inv Y pins σ H s → s.heap.IsGen a g)
    (out : ∀ b s', (∃ σ' H', Inv Y pins σ' H' s' ∧ Qb b H') → R (.ok (.ret (.bool b))) s') :
    ∀ (k i : Nat) (s : Shared), n - i = k → GenC X Y B.in1.in1 pins σ0 fp tn g n true Lp Qb i s → codeAny (model X.prog X.w) B (.builtin "all.loop" ⟨[.ref a], []⟩) R s := by
  intro k
  induction k with
  | zero =>
    intro i s hk h
    refine codeAny_builtin F.entry_all_loop ?_
    rw [Around.under_plainId F.plain_all_loop _]
    show wpAny _ B.in1 (pyNext (.ref a) >>= _) _ _ s
    refine wpAny_bind (gen_next (B := B.in1) hh hroom hg h (fun s' q => wpAny_bind (wpAny_rule (wpAny_pure (out true s' q)))) (fun lt => by omega) fun b s' hb q => ?_)
    have e : b = false := by cases b <;> simp_all
    subst e
    refine wpAny_bind (wpAny_holding (wpAny_truthy_bool (wpAny_bind (wpAny_letGo ?_))))
    simp only [Bool.false_eq_true, if_false]
    exact wpAny_bind (wpAny_rule (wpAny_pure (out false s' q)))
  | succ k ih =>
    intro i s hk h
    refine codeAny_builtin F.entry_all_loop ?_
    rw [Around.under_plainId F.plain_all_loop _]
    show wpAny _ B.in1 (pyNext (.ref a) >>= _) _ _ s
    refine wpAny_bind (gen_next (B := B.in1) hh hroom hg h (fun s' q => wpAny_bind (wpAny_rule (wpAny_pure (out true s' q)))) (fun lt s' hc => ?_) fun b s' hb q => ?_)
    · refine wpAny_bind (wpAny_holding (wpAny_truthy_bool (wpAny_bind (wpAny_letGo ?_))))
      simp only [if_true]
      exact wpAny_pure ⟨plainId_quiet F.plain_all_loop _, ih (i + 1) s' (by omega) hc⟩
    · have e : b = false := by cases b <;> simp_all
      subst e
      refine wpAny_bind (wpAny_holding (wpAny_truthy_bool (wpAny_bind (wpAny_letGo ?_))))
      simp only [Bool.false_eq_true, if_false]
      exact wpAny_bind (wpAny_rule (wpAny_pure (out false s' q)))
theorem any_turns (hh : B.handled = none) (hroom : B.depth < recursionLimit) (hg : ∀ {σ : L2.St} {H : Hp} {s : Shared}, Inv Y pins σ H s → s.heap.IsGen a g)
    (out : ∀ b s', (∃ σ' H', Inv Y pins σ' H' s' ∧ Qb b H') → R (.ok (.ret (.bool b))) s') :
    ∀ (k i : Nat) (s : Shared), n - i = k → GenC X Y B.in1.in1 pins σ0 fp tn g n false Lp Qb i s → codeAny (model X.prog X.w) B (.builtin "any.loop" ⟨[.ref a], []⟩) R s := by
  intro k
  induction k with
  | zero =>
    intro i s hk h
    refine codeAny_builtin F.entry_any_loop ?_
    rw [Around.under_plainId F.plain_any_loop _]
    show wpAny _ B.in1 (pyNext (.ref a) >>= _) _ _ s
    refine wpAny_bind (gen_next (B := B.in1) hh hroom hg h (fun s' q => wpAny_bind (wpAny_rule (wpAny_pure (out false s' q)))) (fun lt => by omega) fun b s' hb q => ?_)
    have e : b = true := by cases b <;> simp_all
    subst e
    refine wpAny_bind (wpAny_holding (wpAny_truthy_bool (wpAny_bind (wpAny_letGo ?_))))
    simp only [if_true]
    exact wpAny_bind (wpAny_rule (wpAny_pure (out true s' q)))
  | succ k ih =>
    intro i s hk h
    refine codeAny_builtin F.entry_any_loop ?_
    rw [Around.under_plainId F.plain_any_loop _]
    show wpAny _ B.in1 (pyNext (.ref a) >>= _) _ _ s
    refine wpAny_bind (gen_next (B := B.in1) hh hroom hg h (fun s' q => wpAny_bind (wpAny_rule (wpAny_pure (out false s' q)))) (fun lt s' hc => ?_) fun b s' hb q => ?_)
    · refine wpAny_bind (wpAny_holding (wpAny_truthy_bool (wpAny_bind (wpAny_letGo ?_))))
      simp only [Bool.false_eq_true, if_false]
      exact wpAny_pure ⟨plainId_quiet F.plain_any_loop _, ih (i + 1) s' (by omega) hc⟩
    · have e : b = true := by cases b <;> simp_all
      subst e
      refine wpAny_bind (wpAny_holding (wpAny_truthy_bool (wpAny_bind (wpAny_letGo ?_))))
      simp only [if_true]
      exact wpAny_bind (wpAny_rule (wpAny_pure (out true s' q)))
end
end

theorem clo_at {X : Cx} {sc : Scope} {N : List Str} {x : Str} {Fr : List Nat} (S : GenN X sc N x Fr) (ok : X.Ok) {y : Str} {c : Addr} (h : (cloFrom X.env.cells sc.names []).lookup y = some c) : X.env.cells.lookup y = some c := by
  rcases cloFrom_mem (PySem.mem_of_lookup h) with z | ⟨h1, h2⟩
  · cases z
  · obtain ⟨c', e⟩ := ok.has y (S.free _ h1 rfl).symm.symm
    rw [e] at h2 ⊢
    rw [h2]
    rfl
theorem clo_has {X : Cx} {sc : Scope} {N : List Str} {x : Str} {Fr : List Nat} (S : GenN X sc N x Fr) {y : Str} (h : sc.names.lookup y = some .free) : ∃ c, (cloFrom X.env.cells sc.names []).lookup y = some c :=
  mem_lookup (cloFrom_has (PySem.mem_of_lookup h))
section
variable {X : Cx} {sc : Scope} {N : List Str} {x : Str} {Fr : List Nat} {P : Addr} {cd : Value} {A : Around} {fp : List Addr} {s2 : Shared} {H2 : Hp} {pins : List (Addr × Obj)} {σ : L2.St}
/-- the frame and the generator are laid -/
theorem inv_made (S : GenN X sc N x Fr) (I : Inv X pins σ H2 s2) (hA : A.handled = none) (hAf : A.frames = some X.stack) (hP : H2 P = some (.ext (tabPh P))) (ff : ∀ b ∈ fp, FpOk X pins H2 b) (fo : ∀ b ∈ fp, ∃ o, s2.heap.get? b = some o)
    {C a : Addr} {h5 : Heap} {gs : Array GenState} {tk : Nat} {go : Obj} (hC : s2.heap.objs.size ≤ C) (ha : C < a) (keep : ∀ b o, b ≠ P → s2.heap.get? b = some o → h5.get? b = some o) (hP5 : tabPh P h5) (m0 : ∃ m, h5.Ns C m) (hgo : h5.get? a = some go) (hgd : ∀ v, go.data ≠ .cell v)
    (hb : AllBare gs) : Inv (gnx X sc N (cloFrom X.env.cells sc.names []) C cd A fp s2 H2) [(a, go)] (gσ σ Fr) H2 { s2 with gens := gs, toks := tk, heap := h5 } := by
  have nP : ∀ b, H2 b = none → b ≠ P := fun b e z => by
    rw [z, hP] at e
    cases e
  have lt : ∀ b o, s2.heap.get? b = some o → b < s2.heap.objs.size := fun b o e => Heap.lt_size e
  have hCl : ∀ {y : Str} {c : Addr}, (cloFrom X.env.cells sc.names []).lookup y = some c → X.env.cells.lookup y = some c := fun h => clo_at S I.ok h
  have cellAt : ∀ y c, X.env.cells.lookup y = some c → ∀ v, s2.heap.IsCell c v → h5.IsCell c v := fun y c e v ⟨o, e1, e2⟩ => ⟨o, keep c o (nP c (I.freeC y c e)) e1, e2⟩
  have thP : ∃ o, h5.get? P = some o := let ⟨ps, e, _⟩ := hP5; ⟨_, e⟩
  refine ⟨⟨I.ok.mod, S.kind, I.ok.glob, rfl, hC, fun y z c h1 h2 => I.ok.inj y z c (hCl h1) (hCl h2), fun y hy => ?_, fun y c z => (by cases z), fun _ => hA, ?_, .inr ⟨rfl, rfl⟩, fun b hb => ⟨?_, fun y c e z => ?_⟩, I.bs, Nat.le_trans I.ok.bsz I.sz, fun b o e hb => ?_, fun b hb hm => ?_, I.stack, I.stkFree⟩,
    rfl, hb, ⟨fun b o e n _ _ => keep b o (nP b n) e, fun b o e n _ _ => ⟨o.slots, keep b o (nP b n) e⟩, fun b o _ n _ => n, fun b o e _ => ?_, fun b xs e => e, fun b o u e => e, fun b ps e => ⟨#[], by have e' : H2 b = some (.tbl ps) := e; rw [e']; simp⟩⟩, ?_, fun y c e => ?_, I.hok.fresh hC, fun y c e => I.freeC y c (hCl e), fun p hp => ?_, fun b u e => ?_, ?_⟩
  · rcases hy with hy | hy
    · exact absurd rfl (S.cell _ (PySem.mem_of_lookup hy))
    · exact clo_has S hy
  · exact Around.frames_deeper hAf
  · obtain ⟨o, e⟩ := fo b hb
    exact Nat.ne_of_lt (Nat.lt_of_lt_of_le (lt b o e) hC)
  · exact (ff b hb).2.2.2.2.1 y c (hCl e) z
  · rcases (ff b hb).2.2.2.1 with z | z
    · exact I.ok.noex b o e z
    · have h1 := Heap.lt_size e
      exact absurd (Nat.lt_of_lt_of_le h1 (Nat.le_trans I.ok.bsz z)) (Nat.lt_irrefl _)
  · rcases List.mem_cons.mp (I.stkSub b hm) with z | z
    · exact (ff b hb).2.1 z
    · exact (ff b hb).2.2.1 z
  · by_cases hbP : b = P
    · rw [hbP]
      exact thP
    · exact ⟨o, keep b o hbP e⟩
  · obtain ⟨m, hm⟩ := m0
    refine ⟨m, hm, fun i y v h1 h2 h3 => ?_⟩
    match i, h1, h2 with
    | 0, _, h2 => cases (show (none : Option V) = some v from Option.some.inj h2)
    | 1, _, h2 => cases (show (none : Option V) = some v from Option.some.inj h2)
    | i + 2, h1, h2 =>
      obtain ⟨j, e1, e2, e3⟩ := S.frs i y h1
      have h2' : (Fr.map fun j => σ.getD j none)[i]? = some (some v) := h2
      rw [List.getElem?_map, e1] at h2'
      have h4 : σ.getD j none = some v := Option.some.inj h2'
      have h5' : σ[j]? = some (some v) := by
        rw [List.getD_eq_getElem?_getD] at h4
        cases q : σ[j]? with
        | none =>
          rw [q] at h4
          cases h4
        | some w =>
          rw [q] at h4
          cases h4
          rfl
      have fr := S.free _ (PySem.mem_of_lookup e3) rfl
      obtain ⟨mX, _, lX⟩ := I.loc
      obtain ⟨u, ru, lk⟩ := lX j y v e2 h5' (by
        rcases fr with z | z
        · exact .inr (.inl z)
        · exact .inr (.inr z))
      refine ⟨u, ru, ?_⟩
      rcases lk with ⟨k1, _⟩ | ⟨_, c, hc, hcell⟩
      · have k1' : X.env.scope.names.lookup y = some .local := k1
        rcases fr with z | z
        · rw [k1'] at z
          cases z
        · rw [k1'] at z
          cases z
      · obtain ⟨c', hc'⟩ := clo_has S e3
        have := hCl hc'
        rw [hc] at this
        cases this
        exact .inr ⟨.inr e3, c, hc', cellAt y c hc _ hcell⟩
  · obtain ⟨v, q⟩ := I.cell y c (hCl e)
    exact ⟨v, cellAt y c (hCl e) v q⟩
  · have e : p = (a, go) := by
      rcases List.mem_append.mp hp with z | z
      · cases (show p ∈ ([] : List (Addr × Obj)) from z)
      · exact List.mem_singleton.mp z
    subst e
    have hsz : s2.heap.objs.size ≤ a := Nat.le_trans hC (Nat.le_of_lt ha)
    refine ⟨hgo, I.hok.fresh hsz, Nat.ne_of_gt ha, fun hm => ?_, hgd⟩
    rcases List.mem_cons.mp (I.stkSub a hm) with z | z
    · have := I.lt
      rw [← z] at this
      exact absurd (Nat.lt_of_lt_of_le this hsz) (Nat.lt_irrefl _)
    · exact I.nofs hsz z
  · by_cases hbP : b = P
    · subst hbP
      rw [hP] at e
      cases e
      obtain ⟨_, _, st⟩ := I.hok b _ hP
      exact ⟨hP5, thP, st⟩
    · refine (I.hok b u e).stay (fun c w hc q => keep c w (fun z => ?_) q) (fun _ q => q) fun _ _ q => q
      rcases hc with z2 | z2
      · exact hbP (z2.symm.trans z)
      · rw [z, hP] at z2
        cases z2
  · show (gσ σ Fr).length = N.length
    rw [S.len]
    simp [gσ]
end

/-! the code object's table, as it is told in the written part -/
/-- the table of the code object at c -/
def codeTab (K : PySem.W.Frag) (c : Addr) : Option Addr := match K.lookup c with
  | some ⟨.type "code", _, .fields vs, _⟩ => match (vs[11]? : Option Value), vs.getD 18 Value.none, vs.getD 7 Value.none, vs.getD 9 Value.none, vs.getD 10 Value.none with
    | some (Value.ref p), Value.str _ _, Value.int _ _, Value.bool _, Value.int _ _ => if c = p ∨ (K.lookup p).isSome then none else some p
    | _, _, _, _, _ => none
  | _ => none
theorem codeTab_of {K : PySem.W.Frag} {c P : Addr} (h : codeTab K c = some P) : ∃ (o : Obj) (vs : Array Value) (file : Str) (tf : Tok) (flags : Int) (tg : Tok) (inF : Bool) (text : Int) (tt : Tok) (dd : Option Addr) (sl : Array (Option Value)),
    o = ⟨.type "code", dd, .fields vs, sl⟩ ∧ K.lookup c = some o ∧ vs[11]? = some (.ref P) ∧ vs.getD 18 .none = .str file tf ∧ vs.getD 7 .none = .int flags tg ∧ vs.getD 9 .none = .bool inF ∧ vs.getD 10 .none = .int text tt ∧ c ≠ P ∧ K.lookup P = none := by
  unfold codeTab at h
  split at h
  · rename_i dd vs sl hl
    split at h
    · rename_i p f1 f2 g1 g2 b1 t1 t2 e1 e2 e3 e4 e5
      split at h
      · cases h
      · rename_i hn
        cases h
        refine ⟨_, vs, _, _, _, _, _, _, _, dd, sl, rfl, hl, e1, e2, e3, e4, e5, fun z => hn (.inl z), ?_⟩
        cases q : K.lookup P with
        | none => rfl
        | some o => exact absurd (.inr (by rw [q]; rfl)) hn
    · cases h
  · cases h
theorem codeHd_of {K : PySem.W.Frag} {c P : Addr} {h : Heap} (X : K.In h) (e : codeTab K c = some P) : PySem.W.CodeHd h c P := by
  obtain ⟨o, vs, file, tf, flags, tg, inF, text, tt, dd, sl, rfl, h1, h2, h3, h4, h5, h6, h7, _⟩ := codeTab_of e
  exact ⟨_, vs, file, tf, flags, tg, inF, text, tt, X _ _ h1, rfl, rfl, h2, by rw [Array.getD_eq_getD_getElem?, h2]; rfl, h3, h4, h5, h6, h7⟩
/-- a def of the written part whose code object's table may grow -/
structure CodeD (K : PySem.W.Frag) (x : Str) (st : Stmt) : Prop where
  ex : ∃ (f c P : Addr) (od an : Option Addr) (sl : Array (Option Value)) (oc kV dc pm ct : Value), PySem.W.nsIn K mainGlobals x = some (some (.ref f)) ∧
    K.lookup f = some ⟨oc, od, .func (PySem.W.fnOf x x (defArgs st) (defBody st) (defScope st) .none kV dc pm an (.ref c) ct), sl⟩ ∧ PySem.W.codeIn K (.ref c) x = true ∧ PySem.W.keepIn K (.ref f) = true ∧ codeTab K c = some P
theorem CodeD.mk5 {K : PySem.W.Frag} {x : Str} {st : Stmt} {f c P : Addr} {od an : Option Addr} {sl : Array (Option Value)} {oc kV dc pm ct : Value} (a : PySem.W.nsIn K mainGlobals x = some (some (.ref f)))
    (l : K.lookup f = some ⟨oc, od, .func (PySem.W.fnOf x x (defArgs st) (defBody st) (defScope st) .none kV dc pm an (.ref c) ct), sl⟩) (k : PySem.W.codeIn K (.ref c) x = true) (kp : PySem.W.keepIn K (.ref f) = true) (e : codeTab K c = some P) : CodeD K x st := ⟨_, _, _, _, _, _, _, _, _, _, _, a, l, k, kp, e⟩
theorem CodeD.mk6 {K : PySem.W.Frag} {x : Str} {st : Stmt} {f c : Addr} {od an : Option Addr} {sl : Array (Option Value)} {oc kV dc pm ct : Value} (a : PySem.W.nsIn K mainGlobals x = some (some (.ref f)))
    (l : K.lookup f = some ⟨oc, od, .func (PySem.W.fnOf x x (defArgs st) (defBody st) (defScope st) .none kV dc pm an (.ref c) ct), sl⟩) (k : PySem.W.codeIn K (.ref c) x = true) (kp : PySem.W.keepIn K (.ref f) = true) (e : (codeTab K c).isSome = true) : CodeD K x st := .mk5 a l k kp (Option.some_get e).symm
/-- the running def's code object and its table -/
structure CodeT (K : PySem.W.Frag) (cdv : Value) (P : Addr) : Prop where
  ex : ∃ c, cdv = .ref c ∧ codeTab K c = some P
  tab : TabK K P
theorem codeT_of {K : PySem.W.Frag} {x : Str} {f c P : Addr} {o : Obj} {fd : FuncData} (hx : x ∈ tabNames) (a : PySem.W.nsIn K mainGlobals x = some (some (.ref f))) (l : K.lookup f = some o) (hd : o.data = .func fd) (hc : fd.code = .ref c) (e : codeTab K c = some P) : CodeT K (.ref c) P := by
  obtain ⟨oc, vs, file, tf, flags, tg, inF, text, tt, dd, sl, rfl, h1, h2, _, _, _, _, _, h8⟩ := codeTab_of e
  exact ⟨⟨c, rfl, e⟩, x, f, c, o, fd, _, dd, vs, sl, hx, a, l, hd, hc, h1, h2, h8⟩
section
variable {P : Program} {w : World} {K : PySem.W.Frag} {mg : Str → Option Value} {base h : Heap} {k : Nat} {ps N : List Str} {x : Str} {st : Stmt}
theorem caXC {sp : DSpX} (hx : x ∈ tabNames) (D : CodeD K x st) (X : K.In h) (G : h.Ns mainGlobals mg) (Sc : FnScope N ps (defScope st)) (b : Bnd x st ps) (len : ∀ ds Φ Ψ, sp ds Φ Ψ → ds.length = ps.length)
    (body : ∀ (f : Addr) (cdv : Value) (T : Addr), CodeT K cdv T → ∀ (A : Around) (outer : List Env) (s : Shared) (H : Hp) (E : XK), (A.deeper (envOfC x (defScope st) s.heap.objs.size f cdv)).guards = some [] → Room k (A.deeper (envOfC x (defScope st) s.heap.objs.size f cdv)) →
      ∃ wd, XSs (cxOf (L2.CX P w) P w K mg base N x (defScope st) f cdv A outer s H E) (defBody st) wd ∧ ∀ ds Φ Ψ, sp ds Φ Ψ → wd (endX Φ Ψ) ⟨startE N (ds.map .d), []⟩) : CaX P w K mg base (k + 1) x ps sp := by
  obtain ⟨f, c, T, od, an, sl, oc, kV, dc, pm, ct, a, l, kc, kp, e⟩ := D.ex
  have F : Fun K x x st f (PySem.W.fnOf x x (defArgs st) (defBody st) (defScope st) .none kV dc pm an (.ref c) ct) := fun_mk l kc kp
  refine ⟨f, _, fn_XC F Sc len (fun cdv hc => ?_), PySem.W.mg_of X G a, kp, F.binds b⟩
  cases (show cdv = .ref c from hc.symm)
  exact body f _ T (codeT_of hx a l rfl rfl e)
end
/-! the expression -/
section
variable {X : Cx} {sc : Scope} {N : List Str} {x : Str} {Fr : List Nat} {px gpos : Pos} {elt iter : Expr} {k : Nat} {T : Addr} {v : Bool} {te : TE} {wi : TI}
/-- all (v = true), any (v = false) of a generator expression -/
def tGen (v : Bool) (T : Addr) (Fr : List Nat) (wi : TI) (te : TE) : TE := fun σ H Q => wi σ H fun J H1 => H1 T = some (.ext (tabPh T)) ∧ ∃ (n : Nat) (Lp : Nat → Hp → Prop), Lp 0 H1 ∧ ∀ i H', Lp i H' → i ≤ n ∧
  ((J.stop i H' ∧ Q (.bl v) H') ∨ (i < n ∧ J.go i H' ∧ ∀ y H2, J.yld i H' y H2 → te ((gσ σ Fr).set 1 (some y)) H2 fun u H3 => ∃ b, u = .bl b ∧ (b = v → Lp (i + 1) H3) ∧ (b ≠ v → Q (.bl b) H3)))
theorem gen_ready {pins : List (Addr × Obj)} {σ : L2.St} {H : Hp} {Q : VK} {s : Shared} {Q' : Value → Shared → Prop} (S : GenN X sc N x Fr) (hr : Room (k + 2) X.A) (hgd : X.A.guards = some []) (hbm : BmOk X.mg X.base) (hcd : CodeT X.K X.env.code T)
    (hi : PI X (.Name x px) iter wi) (hel : ∀ (cl : List (Str × Addr)) (C : Addr) (cd : Value) (A : Around) (fp : List Addr) (s0 : Shared) (H0 : Hp), (gnx X sc N cl C cd A fp s0 H0).A.guards = some [] → Room k (gnx X sc N cl C cd A fp s0 H0).A → PE (gnx X sc N cl C cd A fp s0 H0) elt te)
    (hs : ∀ v, genFold iter X.env v = pure v) (I : Inv X pins σ H s) (h : tGen v T Fr wi te σ H Q)
    (hQ : ∀ (Y : Cx) (a : Addr) (go : Obj) (fp : List Addr) (tn : Nat → Heap → Prop) (σ0 : L2.St) (g n : Nat) (Lp : Nat → Hp → Prop) (s5 : Shared), Y.prog = X.prog → go.cls = .type "generator" → (∃ nm qn, go.data = .fields #[.int g 0, nm, qn]) → go.slots = #[] →
      (∀ σ' H' s', Inv Y [(a, go)] σ' H' s' → Inv X pins σ H' s') → s5.heap.IsGen a g →
      GenC X Y X.A.in1.in1 [(a, go)] σ0 fp tn g n v Lp (fun b H' => Q (.bl b) H') 0 s5 → Q' (.ref a) s5) :
    wpAny (model X.prog X.w) X.A (eval (.GeneratorExp elt [⟨.Name x px, iter, [], 0⟩] sc gpos) X.env) Q' X.xe s := by
  refine wpAny_GeneratorExp_make S.co (closure_ok (fun y hy he => I.ok.has y.1 (S.free y hy he))) S.cell S.dot S.kind (by have := hr.dp; omega) ?_ hs
  refine thn (hi.run pins s σ H _ I h) fun xv s1 h1 => thn h1 fun itv s2 h2 => ?_
  obtain ⟨it, fp, tn, J, H2, rfl, I2, Tn, st2, f2, hT, n, Lp, lp0, stp⟩ := h2
  refine ⟨I2.nolimit, ?_⟩
  obtain ⟨⟨c, hc, ht⟩, tk⟩ := hcd
  obtain ⟨⟨ps, hP, htr⟩, thT, stT⟩ := I2.hok T _ hT
  have cd0 : PySem.W.CodeHd s2.heap c T := codeHd_of I2.kIn ht
  obtain ⟨bm, ob, b1, b2, b3, b4, b5, b6, b7⟩ := hbm
  have bT : bm ≠ T := fun z => by
    have := (I2.bs bm ob b4).2
    rw [z, hT] at this
    cases this
  have gT : mainGlobals ≠ T := fun z => by
    obtain ⟨o, es, ep, e, hd, _⟩ := I2.ok.mod.glob.keeps I2.bk
    rw [z, hP] at e
    cases e
    cases hd
  have lim : cStatics ≠ T := fun z => by
    obtain ⟨_, hns, _⟩ := I2.nolimit
    obtain ⟨o', es, ep, ho, hd, _⟩ := hns
    rw [z, hP] at ho
    cases ho
    cases hd
  have cont : ∀ (code : Value) (h3 : Heap) (t3 : Nat) (ps' : Array Value), Heap.ExtBut T s2.heap h3 → s2.heap.objs.size ≤ h3.objs.size → h3.get? T = some { cls := .none, data := .fields ps' } → TriplesOk ps'.toList →
      wpAny (model X.prog X.w) X.A (builtinsFor X.env.globals X.env.builtins) (fun bi s4 => ∀ h', h'.Ns s4.heap.objs.size (fun y => if y = ".0" then some (.ref it) else none) → Heap.SameBut s4.heap.objs.size (s4.heap.push { cls := .type "frame", data := .dict #[] }) h' →
          Q' (.ref h'.objs.size) { s4 with
            gens := s4.gens.push (.fresh (.compStart (.GeneratorExp elt [⟨.Name x px, iter, [], 0⟩] sc gpos) 0 (.ref it) .none (genEnv sc (cloFrom X.env.cells sc.names []) s4.heap.objs.size code bi X.env))),
            toks := s4.toks + 1 + 1 + 1,
            heap := h'.push { cls := .type "generator", data := .fields #[.int s4.gens.size 0, .str "<genexpr>" (s4.toks + 1), .str (X.env.qual ++ "<genexpr>") (s4.toks + 1 + 1)] } }) X.xe { s2 with heap := h3, toks := t3 } := by
    intro code h3 t3 ps' hx hsz hP3 ht3
    have keep3 : ∀ b u, b ≠ T → s2.heap.get? b = some u → h3.get? b = some u := fun b u hb e => hx b u hb e
    refine wpAny_builtinsFor (m := X.mg) (by rw [I2.ok.glob]; exact (I2.ok.mod.glob.keeps I2.bk).extBut hx gT) b1 b2 (keep3 _ _ bT (I2.bk _ _ b4)) b5 b6 b7 ?_
    intro h' hn' hs'
    have hsz' : h'.objs.size = h3.objs.size + 1 := by rw [hs'.1, Heap.size_push]
    have keep' : ∀ b o, h3.get? b = some o → h'.get? b = some o := fun b o e => hs'.extBut b o (Nat.ne_of_lt (Heap.lt_size e)) (Heap.get?_push_of_some _ e)
    have keep5 : ∀ b o, h3.get? b = some o → (h'.push { cls := .type "generator", data := .fields #[.int s2.gens.size 0, .str "<genexpr>" (t3 + 1), .str (X.env.qual ++ "<genexpr>") (t3 + 1 + 1)] }).get? b = some o :=
      fun b o e => Heap.get?_push_of_some _ (keep' b o e)
    have I5 := inv_made (gs := s2.gens.push (.fresh (.compStart (.GeneratorExp elt [⟨.Name x px, iter, [], 0⟩] sc gpos) 0 (.ref it) .none (genEnv sc (cloFrom X.env.cells sc.names []) h3.objs.size code builtinsNs X.env)))) (cd := code) (A := X.A.in1.in1) (tk := t3 + 1 + 1 + 1) S I2 hr.hd I2.ok.frames hT f2 (fun b hb => let ⟨o, e, _⟩ := Tn.obj 0 _ st2 b hb; ⟨o, e⟩) hsz (by rw [hsz']; exact Nat.lt_succ_self _)
      (fun b o hb e => keep5 b o (keep3 b o hb e)) ⟨ps', keep5 _ _ hP3, ht3⟩ ⟨_, hn'.push _⟩ (Heap.get?_push_size _ rfl) (fun v z => by cases z) (AllBare.push I2.bare rfl)
    have isg : (h'.push { cls := .type "generator", data := .fields #[.int s2.gens.size 0, .str "<genexpr>" (t3 + 1), .str (X.env.qual ++ "<genexpr>") (t3 + 1 + 1)] }).IsGen h'.objs.size s2.gens.size := ⟨_, _, _, Heap.get?_push_size _ rfl, rfl, rfl, rfl⟩
    have fpT : ∀ b ∈ fp, b ≠ T := fun b hb z => by
      have := (f2 b hb).1
      rw [z, hT] at this
      cases this
    have st5 : tn 0 (h'.push { cls := .type "generator", data := .fields #[.int s2.gens.size 0, .str "<genexpr>" (t3 + 1), .str (X.env.qual ++ "<genexpr>") (t3 + 1 + 1)] }) := Tn.keep _ _ _ st2 fun b hb o e => keep5 b o (keep3 b o (fpT b hb) e)
    have lt2 : ∀ b ∈ fp, b < s2.heap.objs.size := fun b hb => let ⟨o, e, _⟩ := Tn.obj 0 _ st2 b hb; Heap.lt_size e
    have room : Room k (gnx X sc N (cloFrom X.env.cells sc.names []) h3.objs.size code X.A.in1.in1 fp s2 H2).A := ⟨hr.hd, by have := hr.dp; show X.A.depth + 1 + 3 * k + 5 < _; omega, by have := hr.un; show X.A.units + 1 + 1 + 3 + 16 * k + 200 < _; omega⟩
    have gt : GenT (gnx X sc N (cloFrom X.env.cells sc.names []) h3.objs.size code X.A.in1.in1 fp s2 H2) [(h'.objs.size, { cls := .type "generator", data := .fields #[.int s2.gens.size 0, .str "<genexpr>" (t3 + 1), .str (X.env.qual ++ "<genexpr>") (t3 + 1 + 1)] })] (gσ σ Fr) (.Name x px) fp it tn J n v Lp (fun b H' => Q (.bl b) H') te := by
      refine ⟨Tn, fun H' hf b hb => ⟨hf b hb, ?_, fun hm => ?_, .inl hb, fun y cc e z => (f2 b hb).2.2.2.2.1 y cc (clo_at S I2.ok e) z, fun p hp z => ?_⟩, stp⟩
      · exact Nat.ne_of_lt (Nat.lt_of_lt_of_le (lt2 b hb) hsz)
      · rcases List.mem_cons.mp (I2.stkSub b hm) with z | z
        · exact (f2 b hb).2.1 z
        · exact (f2 b hb).2.2.1 z
      · have e : p.1 = h'.objs.size := by
          rcases List.mem_append.mp hp with y | y
          · cases (show p ∈ ([] : List (Addr × Obj)) from y)
          · rw [List.mem_singleton.mp y]
        have := lt2 b hb
        rw [← z, e, hsz'] at this
        have h9 : h3.objs.size + 1 < s2.heap.objs.size := this
        omega
    refine hQ (gnx X sc N (cloFrom X.env.cells sc.names []) h3.objs.size code X.A.in1.in1 fp s2 H2) _ { cls := .type "generator", data := .fields #[.int s2.gens.size 0, .str "<genexpr>" (t3 + 1), .str (X.env.qual ++ "<genexpr>") (t3 + 1 + 1)] } fp tn (gσ σ Fr) s2.gens.size n Lp _ rfl rfl ⟨_, _, rfl⟩ rfl (fun σ' H' s' J' => ?_) isg ⟨gσ σ Fr, H2, _, I5, st5, Array.getElem?_push_size .., fun s'' J'' st'' => ⟨rfl, ?_⟩⟩
    · exact I2.call' (ch := fp) J'.os J'.base J'.hok J'.bare fun b hb => ⟨(f2 b hb).2.2.2.1, (f2 b hb).2.1, (f2 b hb).2.2.2.2.1, (f2 b hb).2.2.2.2.2⟩
    · exact gen_start (s₀ := s'') S (hel _ _ _ _ _ _ _ (by show X.A.guards = some []; exact hgd) room) gt s'' H2 J'' (fun b hb => (f2 b hb).1) st'' lp0
  cases hf : codeAmong gpos ps.toList with
  | none =>
    refine wpAny_genexprCodeX hc (cd0.code hP htr) (cd0.tab hP) hf fun c' h' t3 hx hge hlt hco' _ htab' _ => ?_
    obtain ⟨o1, vs, f1, tf, fl, tg, inF, tx, tt, op, _, _, _, _, _, _, _, _, _, htr', _⟩ := hco'
    exact cont _ h' t3 _ hx (Nat.le_trans hge (Nat.le_of_lt hlt)) htab'.2 htr'
  | some cv =>
    refine wpAny_genexprCode_hit hc (cd0.code hP htr) hf ?_
    exact cont cv s2.heap s2.toks ps (Heap.ExtBut.refl _ _) (Nat.le_refl _) hP htr

theorem pe_allG {p pos : Pos} (hg : Gl X "all") (hm : X.mg "all" = none) (S : GenN X sc N x Fr) (hr : Room (k + 2) X.A) (hgd : X.A.guards = some []) (hbm : BmOk X.mg X.base) (hcd : CodeT X.K X.env.code T)
    (hi : PI X (.Name x px) iter wi) (hel : ∀ (cl : List (Str × Addr)) (C : Addr) (cd : Value) (A : Around) (fp : List Addr) (s0 : Shared) (H0 : Hp), (gnx X sc N cl C cd A fp s0 H0).A.guards = some [] → Room k (gnx X sc N cl C cd A fp s0 H0).A → PE (gnx X sc N cl C cd A fp s0 H0) elt te)
    (hs : ∀ v, genFold iter X.env v = pure v := by intro _; rfl)
    (he : starEach [.GeneratorExp elt [⟨.Name x px, iter, [], 0⟩] sc gpos] X.env = (false, eval (.GeneratorExp elt [⟨.Name x px, iter, [], 0⟩] sc gpos) X.env) :: starEach [] X.env := by rfl) :
    PE X (.Call (.Name "all" p) [.GeneratorExp elt [⟨.Name x px, iter, [], 0⟩] sc gpos] [] pos) (tGen true T Fr wi te) := by
  refine ⟨fun pins s σ H Q I h => ?_⟩
  refine wpAny_Call_Name_kw (ld_blt I hg hm (show bootBuiltins "all" = some (.builtin "all") by decide +kernel) ?_)
  refine PyProof.Rows.callWith_builtin1 ?_ he (by rfl)
  rw [he]
  show wpAny _ _ (spliced ((false, eval (.GeneratorExp elt [⟨.Name x px, iter, [], 0⟩] sc gpos) X.env) :: backTo pos (starEach [] X.env))) _ _ s
  refine Calls.spliced_cons (gen_ready (Q := Q) S hr hgd hbm hcd hi hel hs I h fun Y a go fp tn σ0 g n Lp s5 hp hc hd hsl hX hg5 hC => ?_)
  refine Calls.spliced_nil ?_
  refine call_function_tree F.kind_all F.plain_all F.entry_all (F.args_all1 _) ?_
  unfold Builtin.«all»
  refine wpAny_bind (m := oneArg "all" _) (wpAny_pure ?_)
  refine wpAny_bind (wpAny_pyIter_gen hg5 ?_)
  have isg : ∀ {σ' : L2.St} {H' : Hp} {s' : Shared}, Inv Y [(a, go)] σ' H' s' → s'.heap.IsGen a g := fun J => by
    obtain ⟨nm, qn, hd⟩ := hd
    exact ⟨go, nm, qn, (J.pin (a, go) (List.mem_append_right _ (List.mem_singleton.mpr rfl))).1, hc, hd, hsl⟩
  exact wpAny_pure ⟨plainId_quiet F.plain_all_loop _, all_turns hr.hd (by have := hr.dp; show X.A.depth < _; omega) isg (fun b s' ⟨σ', H', J, q⟩ => ⟨.bl b, H', hX _ _ _ J, rfl, q⟩) (n - 0) 0 s5 rfl hC⟩

theorem pe_anyG {p pos : Pos} (hg : Gl X "any") (hm : X.mg "any" = none) (S : GenN X sc N x Fr) (hr : Room (k + 2) X.A) (hgd : X.A.guards = some []) (hbm : BmOk X.mg X.base) (hcd : CodeT X.K X.env.code T)
    (hi : PI X (.Name x px) iter wi) (hel : ∀ (cl : List (Str × Addr)) (C : Addr) (cd : Value) (A : Around) (fp : List Addr) (s0 : Shared) (H0 : Hp), (gnx X sc N cl C cd A fp s0 H0).A.guards = some [] → Room k (gnx X sc N cl C cd A fp s0 H0).A → PE (gnx X sc N cl C cd A fp s0 H0) elt te)
    (hs : ∀ v, genFold iter X.env v = pure v := by intro _; rfl)
    (he : starEach [.GeneratorExp elt [⟨.Name x px, iter, [], 0⟩] sc gpos] X.env = (false, eval (.GeneratorExp elt [⟨.Name x px, iter, [], 0⟩] sc gpos) X.env) :: starEach [] X.env := by rfl) :
    PE X (.Call (.Name "any" p) [.GeneratorExp elt [⟨.Name x px, iter, [], 0⟩] sc gpos] [] pos) (tGen false T Fr wi te) := by
  refine ⟨fun pins s σ H Q I h => ?_⟩
  refine wpAny_Call_Name_kw (ld_blt I hg hm (show bootBuiltins "any" = some (.builtin "any") by decide +kernel) ?_)
  refine PyProof.Rows.callWith_builtin1 ?_ he (by rfl)
  rw [he]
  show wpAny _ _ (spliced ((false, eval (.GeneratorExp elt [⟨.Name x px, iter, [], 0⟩] sc gpos) X.env) :: backTo pos (starEach [] X.env))) _ _ s
  refine Calls.spliced_cons (gen_ready (Q := Q) S hr hgd hbm hcd hi hel hs I h fun Y a go fp tn σ0 g n Lp s5 hp hc hd hsl hX hg5 hC => ?_)
  refine Calls.spliced_nil ?_
  refine call_function_tree F.kind_any F.plain_any F.entry_any (F.args_any1 _) ?_
  unfold Builtin.«any»
  refine wpAny_bind (m := oneArg "any" _) (wpAny_pure ?_)
  refine wpAny_bind (wpAny_pyIter_gen hg5 ?_)
  have isg : ∀ {σ' : L2.St} {H' : Hp} {s' : Shared}, Inv Y [(a, go)] σ' H' s' → s'.heap.IsGen a g := fun J => by
    obtain ⟨nm, qn, hd⟩ := hd
    exact ⟨go, nm, qn, (J.pin (a, go) (List.mem_append_right _ (List.mem_singleton.mpr rfl))).1, hc, hd, hsl⟩
  exact wpAny_pure ⟨plainId_quiet F.plain_any_loop _, any_turns hr.hd (by have := hr.dp; show X.A.depth < _; omega) isg (fun b s' ⟨σ', H', J, q⟩ => ⟨.bl b, H', hX _ _ _ J, rfl, q⟩) (n - 0) 0 s5 rfl hC⟩
end
end DL
/-! DL: all, any of a generator expression over data -/
namespace DL
open PySem PySem.Spec PyProof.Rows L2
@[simp] def dOnly : Sl → Sl
  | .d x => .d x
  | _ => .un
/-- the slots of the generator expression's frame -/
@[simp] def gE (s : S) (Fr : List Nat) (x : PyData) : S := ⟨.un :: .d x :: Fr.map (fun j => dOnly (s.e.getD j .un)), []⟩
def gnAll (v : Bool) (w : DE) (E : PyData → S) : List PyData → (Bool → Prop) → Prop
  | [], k => k v
  | x :: xs, k => w (E x) fun d _ => ∃ b, d = .bool b ∧ (b = v → gnAll v w E xs k) ∧ (b ≠ v → k b)
def wGen (v : Bool) (Fr : List Nat) (wi : DI) (w : DE) : DE := fun s Φ => wi s fun xs s1 => gnAll v w (gE s1 Fr) xs fun b => Φ (.bool b) s1
theorem genN_mk {X : Cx} {sc xsc : Scope} {x : Str} {XN ys : List Str} {Fr : List Nat} (hN : X.N = XN) (hsc : X.env.scope = xsc) (kind : sc.kind = .function) (co : sc.isCoroutine = false) (cell : ∀ y ∈ sc.names, y.2 ≠ .cell) (dot : sc.names.lookup (".0" : Str) = some NameKind.local) (loc : sc.names.lookup x = some .local)
    (free : ∀ y ∈ sc.names, y.2 = .free → xsc.names.lookup y.1 = some .cell ∨ xsc.names.lookup y.1 = some .free) (nd : ((".0" : Str) :: x :: ys).Nodup) (len : ys.length = Fr.length) (fr : ∀ p ∈ ys.zip Fr, XN[p.2]? = some p.1 ∧ sc.names.lookup p.1 = some .free) : GenN X sc (".0" :: x :: ys) x Fr := by
  subst hN
  subst hsc
  refine ⟨kind, co, cell, dot, loc, free, nd, rfl, fun i y h => ?_, by simp [len]⟩
  have h' : ys[i]? = some y := h
  have hi : i < ys.length := (List.getElem?_eq_some_iff.mp h').1
  have hj : Fr[i]? = some (Fr[i]'(by omega)) := List.getElem?_eq_getElem (by omega)
  refine ⟨_, hj, fr (y, _) ?_⟩
  refine List.mem_iff_getElem?.mpr ⟨i, ?_⟩
  rw [List.getElem?_zip_eq_some]
  exact ⟨h', hj⟩
theorem rep_gen {K : PySem.W.Frag} {G F H : Hp} {P : Option Addr} {σ : L2.St} {s : S} {Fr : List Nat} {y : V} {x : PyData} (R : Rep K G P F H σ s) (d : Dq K F y x) : Rep K (partH F H none) none F H ((gσ σ Fr).set 1 (some y)) (gE s Fr x) := by
  have noT : ∀ (i : Nat) (z : Sl), (gE s Fr x).e[i]? = some z → z = .un ∨ ∃ u, z = .d u := fun i z h => by
    match i, h with
    | 0, h => exact .inl (Option.some.inj h).symm
    | 1, h => exact .inr ⟨x, (Option.some.inj h).symm⟩
    | i + 2, h =>
      have h' : (Fr.map fun j => dOnly (s.e.getD j .un))[i]? = some z := h
      rw [List.getElem?_map] at h'
      cases q : Fr[i]? with
      | none =>
        rw [q] at h'
        cases h'
      | some j =>
        rw [q] at h'
        cases h'
        show dOnly (s.e.getD j .un) = .un ∨ ∃ u, dOnly (s.e.getD j .un) = .d u
        cases s.e.getD j .un with
        | d u => exact .inr ⟨u, rfl⟩
        | _ => exact .inl rfl
  refine ⟨R.same, fun b o h => (partH_some h).2.2, fun b o h => (partH_some h).1, fun i z hz => ?_, fun i j xs ys p hi hj _ _ => ?_, fun a ha => (by cases ha), ?_, fun i j z z' r hi hj hr _ _ => ?_, tabs_part R.tabF fun _ _ z => by cases z⟩
  · match i, hz with
    | 0, hz =>
      cases (Option.some.inj hz : Sl.un = z)
      exact True.intro
    | 1, hz =>
      cases (Option.some.inj hz : Sl.d x = z)
      exact ⟨y, rfl, d⟩
    | i + 2, hz =>
      have h' : (Fr.map fun j => dOnly (s.e.getD j .un))[i]? = some z := hz
      rw [List.getElem?_map] at h'
      cases q : Fr[i]? with
      | none =>
        rw [q] at h'
        cases h'
      | some j =>
        rw [q] at h'
        cases h'
        show SlOk K (partH F H none) none F H ((gσ σ Fr).set 1 (some y)) (i + 2) (dOnly (s.e.getD j .un))
        rw [List.getD_eq_getElem?_getD]
        cases q2 : s.e[j]? with
        | none => exact True.intro
        | some w =>
          cases w with
          | d u =>
            obtain ⟨v, e1, e2⟩ := R.sl j _ q2
            refine ⟨v, ?_, e2⟩
            show (Fr.map fun j => σ.getD j none)[i]? = some (some v)
            rw [List.getElem?_map, q]
            show some (σ.getD j none) = _
            rw [List.getD_eq_getElem?_getD, e1]
            rfl
          | _ => exact True.intro
  · rcases noT i _ hi with z | ⟨u, z⟩
    · cases z
    · cases z
  · show ((gσ σ Fr).set 1 (some y)).length = (gE s Fr x).e.length
    rw [List.length_set]
    simp [gσ]
  · rcases noT i _ hi with z | ⟨u, z⟩
    · subst z
      cases hr
    · subst z
      cases hr
section
variable {X : Cx} {sc : Scope} {N : List Str} {x : Str} {Fr : List Nat} {px gpos p pos : Pos} {elt iter : Expr} {k : Nat} {T : Addr} {v : Bool} {w : DE} {wi : DI}
theorem gen_of (tk : TabK X.K T) (σ : L2.St) (H : Hp) (Q : VK) (h : tE X.K (wGen v Fr wi w) σ H Q) : tGen v T Fr (tI X.K wi) (tE X.K w) σ H Q := by
  obtain ⟨G, P, F, s, Φ, R, h, kk⟩ := h
  refine ⟨G, P, F, s, _, R, h, fun J F1 H1 s1 xs R1 e1 y1 h1 => ⟨(R1.tabF T tk).2, xs.length, fun i H' => i ≤ xs.length ∧ ∃ F', Rep X.K G P F' H' σ s1 ∧ Same F1 F' ∧ gnAll v w (gE s1 Fr) (xs.drop i) fun b => Φ (.bool b) s1, ⟨Nat.zero_le _, F1, R1, Same.refl F1, h1⟩, fun i H' hl => ?_⟩⟩
  obtain ⟨hi, F', R', e', q⟩ := hl
  obtain ⟨y2, y3⟩ := y1 F' H' e' R'.same i
  refine ⟨hi, ?_⟩
  by_cases hlt : i < xs.length
  · refine .inr ⟨hlt, ?_⟩
    have hx : xs[i]? = some xs[i] := List.getElem?_eq_getElem hlt
    obtain ⟨g1, g2⟩ := y2 _ hx
    refine ⟨g1, fun y H2 hy => ?_⟩
    obtain ⟨F2, fr, dy⟩ := g2 y H2 hy
    have R2 := R'.fresh fr
    rw [List.drop_eq_getElem_cons hlt] at q
    refine ⟨_, none, F2, _, _, rep_gen R2 dy, q, fun u F3 H3 s3 z R3 e3 dz ⟨b, hb, q1, q2⟩ => ?_⟩
    subst hb
    cases dz
    have f3 : Fresh F2 H2 F3 H3 := ⟨e3, R3.same, fun b o hb => by
      cases hF : F2 b with
      | none => exact R3.keep b o (partH_at hF (fun z => by cases z) hb)
      | some u =>
        have q := R2.same b u hF
        rw [hb] at q
        cases q
        exact R3.same b o (e3 b o hF), fun b o hb hF => R3.apart b o (partH_at hF (fun z => by cases z) hb)⟩
    have R4 := R2.fresh f3
    exact ⟨b, rfl, fun hb => ⟨hlt, F3, R4, e'.trans (fr.ff.trans e3), q1 hb⟩, fun hb => kk _ F3 H3 s1 _ R4 (e1.trans (e'.trans (fr.ff.trans e3))) (.bl b) (q2 hb)⟩
  · have hge : xs.length ≤ i := Nat.le_of_not_lt hlt
    rw [List.drop_of_length_le hge] at q
    exact .inl ⟨y3 hge, kk _ F' H' s1 _ R' (e1.trans e') (.bl v) q⟩
theorem xe_allG (hg : Gl X "all") (hm : X.mg "all" = none) (S : GenN X sc N x Fr) (hr : Room (k + 2) X.A) (hgd : X.A.guards = some []) (hbm : BmOk X.mg X.base) (hcd : CodeT X.K X.env.code T)
    (hi : XI X (.Name x px) iter wi) (hel : ∀ (cl : List (Str × Addr)) (C : Addr) (cd : Value) (A : Around) (fp : List Addr) (s0 : Shared) (H0 : Hp), (gnx X sc N cl C cd A fp s0 H0).A.guards = some [] → Room k (gnx X sc N cl C cd A fp s0 H0).A → XE (gnx X sc N cl C cd A fp s0 H0) elt w)
    (hs : ∀ v, genFold iter X.env v = pure v := by intro _; rfl)
    (he : starEach [.GeneratorExp elt [⟨.Name x px, iter, [], 0⟩] sc gpos] X.env = (false, eval (.GeneratorExp elt [⟨.Name x px, iter, [], 0⟩] sc gpos) X.env) :: starEach [] X.env := by rfl) :
    XE X (.Call (.Name "all" p) [.GeneratorExp elt [⟨.Name x px, iter, [], 0⟩] sc gpos] [] pos) (wGen true Fr wi w) := pe_imp (pe_allG hg hm S hr hgd hbm hcd hi hel hs he) fun σ H Q h => gen_of hcd.tab σ H Q h
theorem xe_anyG (hg : Gl X "any") (hm : X.mg "any" = none) (S : GenN X sc N x Fr) (hr : Room (k + 2) X.A) (hgd : X.A.guards = some []) (hbm : BmOk X.mg X.base) (hcd : CodeT X.K X.env.code T)
    (hi : XI X (.Name x px) iter wi) (hel : ∀ (cl : List (Str × Addr)) (C : Addr) (cd : Value) (A : Around) (fp : List Addr) (s0 : Shared) (H0 : Hp), (gnx X sc N cl C cd A fp s0 H0).A.guards = some [] → Room k (gnx X sc N cl C cd A fp s0 H0).A → XE (gnx X sc N cl C cd A fp s0 H0) elt w)
    (hs : ∀ v, genFold iter X.env v = pure v := by intro _; rfl)
    (he : starEach [.GeneratorExp elt [⟨.Name x px, iter, [], 0⟩] sc gpos] X.env = (false, eval (.GeneratorExp elt [⟨.Name x px, iter, [], 0⟩] sc gpos) X.env) :: starEach [] X.env := by rfl) :
    XE X (.Call (.Name "any" p) [.GeneratorExp elt [⟨.Name x px, iter, [], 0⟩] sc gpos] [] pos) (wGen false Fr wi w) := pe_imp (pe_anyG hg hm S hr hgd hbm hcd hi hel hs he) fun σ H Q h => gen_of hcd.tab σ H Q h
end
end DL
/-! DL: list(range(..)) -/
namespace DL
open PySem PySem.Spec PyProof.Rows L2
theorem cr_listR {X : Cx} {k : Nat} (hr : Room k X.A) : CallR X (.type "list") (fun xs H Q => ∃ p lo hi, xs = [.ref p] ∧ H p = some (.rng lo hi) ∧ RgOk lo hi ∧ ∀ l, H l = none → Q (.ref l) (upd H l (.lst (rgV lo hi)))) := by
  intro pins s σ H xs us Q I r h
  obtain ⟨p, a, b, rfl, hp, ⟨b1, b2, b3, b4, b5⟩, q⟩ := h
  obtain ⟨u, rfl, rx⟩ := vals1 r
  obtain rfl : u = Value.ref p := rx
  obtain ⟨t, u, v, e⟩ := I.hok p _ hp
  refine call_list_range (n := (b - a).toNat) hr.hd (show IsRange s.heap p a b 1 t u v from e) (small_one b1 b2 b3 b4) (rangeSize_nat a b) b5 fun h' tk acc c' hk e' hi => ?_
  refine ⟨.ref s.heap.objs.size, upd H s.heap.objs.size (.lst (rgV a b)), I.laid hk (Nat.le_refl _) (show ObjOk X.prog X.w _ _ _ (.lst (rgV a b)) from ⟨?_, acc.toList, c', vals_rg hi, ?_⟩), rfl, q _ (I.hok.fresh (Nat.le_refl _))⟩
  · rw [rgV_length, sizeLine_eq]; omega
  · rw [Array.toArray_toList]; exact e'
theorem rgV_dq {K : PySem.W.Frag} {F : Hp} (lo hi : Int) : DqA K F (rgV lo hi) (rangeD lo (hi - lo).toNat) := by
  unfold rgV rangeD
  induction (hi - lo).toNat with
  | zero => exact .nil
  | succ n ih =>
    rw [List.range_succ, List.map_append, List.map_append]
    exact ih.append (.cons (.int _) .nil)
@[simp] def gListR : PyData → (PyData → Prop) → Prop := fun x Φ => match x with
  | .dict [(.int lo, .int hi)] => RgOk lo hi ∧ Φ (.list (rangeD lo (hi - lo).toNat))
  | _ => False
theorem opn_listR {K : PySem.W.Frag} : OpN K (fun xs H Q => ∃ p lo hi, xs = [.ref p] ∧ H p = some (.rng lo hi) ∧ RgOk lo hi ∧ ∀ l, H l = none → Q (.ref l) (upd H l (.lst (rgV lo hi)))) (wN1 gListR) := opN1 fun F H v x Q Φ s d w k => by
  cases d with
  | @rng _ lo hi h1 =>
    refine ⟨_, _, _, rfl, s _ _ h1, w.1, fun l hl => ?_⟩
    have f := Fresh.new (o := .lst (rgV lo hi)) s hl
    exact k _ _ _ _ f (.lst upd_same (rgV_dq _ _)) w.2
  | _ => exact w.elim
end DL
namespace L58
open PySem PySem.Spec PyProof.Rows L2 DL
def ERL : List Str := ["HallError", "BadNumber", "BadSize"]
def ER0 : List Str := ["HallError", "BadNumber"]
def FLE : List Str := ["size"]
def bE (x c : Str) : Bool := x == c || x == "HallError"
def d_MOST_PARTS_OF_ONE : PyData := .int 100
/-- not yet told -/
def sp_d : DSp := fun _ _ => False
def sp_p : DSpP := fun _ _ _ => False
def sp_x : DSpX := fun _ _ _ => False
/-- numbers that the law's own loop can divide -/
abbrev Fit (n : Nat) : Prop := n < 2 ^ 4000
def isNum : PyData → Bool
  | .int _ => true
  | _ => false
def sp_is_number : DSp := fun ds Φ => ∃ x : PyData, ds = [x] ∧ (∀ kvs, x ≠ .dict kvs) ∧ Φ (.bool (isNum x))
def sp_ratio : DSp := fun ds Φ => ∃ a b : Nat, ds = [.int (a : Nat), .int (b : Nat)] ∧ 0 < b ∧ Fit b ∧ Φ (frD a b)
def sp_law_gcd : DSp := fun ds Φ => ∃ a b : Nat, ds = [.int (a : Nat), .int (b : Nat)] ∧ Fit b ∧ Φ (.int (Nat.gcd a b : Nat))
def sp_is_whole : DSp := fun ds Φ => ∃ i : Int, ds = [.int i] ∧ Φ (.bool true)
def sp_is_fraction : DSp := fun ds Φ => ∃ p q n d : Nat, ds = [.tuple [.int (p : Nat), .int (q : Nat)], .int (n : Nat), .int (d : Nat)] ∧ Fit p ∧ Fit q ∧ Fit n ∧ Fit d ∧ 0 < q ∧ p * d = n * q ∧ Nat.gcd p q = 1 ∧ Φ (.bool true)
def sp_product_of : DSp := fun ds Φ => ∃ a b c d : Nat, ds = [frD a b, frD c d] ∧ 0 < b ∧ 0 < d ∧ Fit a ∧ Fit b ∧ c < 2 ^ 64 ∧ d < 2 ^ 64 ∧ Fit (b * d) ∧ Φ (frD (a * c) (b * d))
/-- the sum of fractions, not brought to lowest terms -/
def sumFr (L : List (Nat × Nat)) : Nat × Nat := L.foldl (fun s x => (s.1 * x.2 + x.1 * s.2, s.2 * x.2)) (0, 1)
def sp_sum_of : DSp := fun ds Φ => ∃ L : List (Nat × Nat), ds = [.list (L.map fun x => frD x.1 x.2)] ∧ L.length ≤ 6 ∧ (∀ x, x ∈ L → 0 < x.2 ∧ x.1 < 2 ^ 64 ∧ x.2 < 2 ^ 64) ∧ Φ (frD (sumFr L).1 (sumFr L).2)
/-- letters and a word of theirs: its letters by their places -/
structure Wd (z : Str) (u : List Nat) : Prop where
  nd : z.cps.toList.Nodup
  hu : ∀ a, a ∈ u → a < z.length
  hl : u.length ≤ 200
def prodW (ω : Nat → Nat) (u : List Nat) : Nat := u.foldl (fun x a => x * ω a) 1
def sp_law_weight : DSp := fun ds Φ => ∃ (z : Str) (ω : Nat → Nat) (u : List Nat), ds = [.str z, .list (mkI z.length ω), .str (wS z u)] ∧ Wd z u ∧ (∀ a, a < z.length → ω a ≤ 2 ^ 16) ∧ Φ (.int (prodW ω u : Nat))
def sp_chance_of : DSp := fun ds Φ => ∃ (z : Str) (ω : Nat → Nat) (T : Nat) (u : List Nat), ds = [.str z, .list (mkL z.length fun k => frD (ω k) T), .str (wS z u)] ∧ Wd z u ∧ 0 < T ∧ T ≤ 2 ^ 16 ∧ (∀ a, a < z.length → ω a ≤ 2 ^ 16) ∧ Φ (frD (prodW ω u) (T ^ u.length))
def sp_law_source : DSp := fun ds Φ => ∃ (L : Nat) (ω : Nat → Nat) (T : Nat), ds = [.list (mkI L ω), .int (T : Nat)] ∧ L ≤ 6 ∧ 0 < T ∧ T ≤ 2 ^ 16 ∧ Φ (.list (mkL L fun k => frD (ω k) T))
/-- the numbers v over the whole W tell the same as ω over T -/
structure Scaled (L : Nat) (ω : Nat → Nat) (T : Nat) (v : Nat → Nat) (W : Nat) : Prop where
  pos : 0 < W
  dvd : W ∣ T
  eq : ∀ k, k < L → v k * T = ω k * W
def sp_in_wholes : DSp := fun ds Φ => ∃ (L : Nat) (ω : Nat → Nat) (T : Nat), ds = [.list (mkL L fun k => frD (ω k) T)] ∧ L ≤ 6 ∧ 0 < T ∧ T ≤ 2 ^ 16 ∧ (∀ k, k < L → ω k ≤ 2 ^ 16) ∧ ∀ v W, Scaled L ω T v W → Φ (.tuple [.list (mkI L v), .int (W : Nat)])
def sp_letters2 : DSpP := fun ds q Φ => ∃ m, ds = [.int m] ∧ 1 ≤ m ∧ m ≤ 6 ∧ PoolOk q ∧ ∀ z q', PoolOk q' → Letters m z → z.cps.toList.Nodup → Φ (.str z) q'
def sp_machine : DSpP := fun ds q Φ => ∃ (z : Str) (m : Nat), ds = [.str z, .int (m : Nat)] ∧ 1 ≤ m ∧ m ≤ 60 ∧ z.length ≤ 6 ∧ PoolOk q ∧ ∀ n T E q', PoolOk q' → MachOk z.length n T → n ≤ m → Φ (machD z.length n T E) q'
def sp_weights : DSpP := fun ds q Φ => ∃ L : Nat, ds = [.int (L : Nat)] ∧ 1 ≤ L ∧ L ≤ 6 ∧ PoolOk q ∧ ∀ ω T q', PoolOk q' → 0 < T → T ≤ 420 → ((List.range L).map ω).sum = T → (∀ k, k < L → T / Nat.gcd (ω k) T ≤ 100) → Φ (.tuple [.list (mkI L ω), .int (T : Nat)]) q'
/-- what is_chance tells -/
def isCh : PyData → Bool
  | .tuple [.int o, .int u] => decide (1 ≤ u ∧ u ≤ 100) && (decide (0 ≤ o ∧ o ≤ u) && decide (Int.gcd o u = 1))
  | _ => false
def sp_is_chance : DSp := fun ds Φ => ∃ x : PyData, ds = [x] ∧ x.hasDict = false ∧ Φ (.bool (isCh x))
/-- the two numbers of a fraction -/
def prD : PyData → Nat × Nat
  | .tuple [.int o, .int u] => (o.toNat, u.toNat)
  | _ => (0, 1)
/-- a right source: all are chances, and their sum is 1 -/
def okSrc (xs : List PyData) : Bool := xs.all isCh && decide ((sumFr (xs.map prD)).1 = (sumFr (xs.map prD)).2)
def sp_check_source : DSpX := fun ds Φ Ψ => ∃ (z : Str) (xs : List PyData), ds = [.str z, .list xs] ∧ z.length ≤ 6 ∧ xs.length ≤ 16 ∧ (∀ x, x ∈ xs → x.hasDict = false) ∧
  (xs.length ≠ z.length → Ψ "BadSize" [.tuple [.str "size", .int (xs.length : Nat)]]) ∧ (xs.length = z.length → okSrc xs = true → Φ .none) ∧ (xs.length = z.length → okSrc xs = false → Ψ "BadNumber" [])
/-- what checking a source does -/
def refD (n : Nat) (xs : List PyData) : PyData := if xs.length = n then (if okSrc xs = true then .tuple [.str "told", .bool true] else .tuple [.str "refused", .str "number"]) else .tuple [.str "refused", .str "size", .int (xs.length : Nat)]
def sp_law_refusal : DSp := fun ds Φ => ∃ (z : Str) (xs : List PyData), ds = [.str z, .list xs] ∧ z.length ≤ 6 ∧ xs.length ≤ 16 ∧ (∀ x, x ∈ xs → x.hasDict = false) ∧ Φ (refD z.length xs)
/-- weights as the law draws them -/
structure SrcOk (L : Nat) (ω : Nat → Nat) (T : Nat) : Prop where
  l1 : 1 ≤ L
  l6 : L ≤ 6
  t0 : 0 < T
  tm : T ≤ 420
  sum : ((List.range L).map ω).sum = T
  und : ∀ k, k < L → T / Nat.gcd (ω k) T ≤ 100
def srcD (L : Nat) (ω : Nat → Nat) (T : Nat) : List PyData := mkL L fun k => frD (ω k) T
def sp_law_wrong : DSpP := fun ds q Φ => ∃ (z : Str) (ω : Nat → Nat) (T : Nat), ds = [.str z, .list (srcD z.length ω T)] ∧ SrcOk z.length ω T ∧ PoolOk q ∧
  ∀ xs due q', PoolOk q' → xs.length ≤ 16 → (∀ x, x ∈ xs → x.hasDict = false) → Shw 4000 6 (.list xs) → due = refD z.length xs → Φ (.tuple [.list xs, due]) q'
def sp_law_checks : DSpP := fun ds q Φ => ∃ (z : Str) (ω : Nat → Nat) (T : Nat), ds = [.str z, .list (srcD z.length ω T)] ∧ SrcOk z.length ω T ∧ PoolOk q ∧ ∀ q', PoolOk q' → Φ (.bool true) q'
/-- weighted numbers of words -/
def bkW (L : Nat) (ω : Nat → Nat) (T : Nat → Nat → Nat) : Nat → (Nat → Nat) → Nat → Nat
  | 0, h, s => h s
  | k + 1, h, s => sumN L fun a => ω a * bkW L ω T k h (T s a)
/-- the machine that stands still at its ends -/
def stT (T : Nat → Nat → Nat) (E : Nat → Bool) (s a : Nat) : Nat := if E s = true then s else T s a
def sp_taken_upto : DSp := fun ds Φ => ∃ (L : Nat) (ω : Nat → Nat) (T0 n : Nat) (T : Nat → Nat → Nat) (E : Nat → Bool) (m : Nat), ds = [.list (srcD L ω T0), machD L n T E, .int (m : Nat)] ∧ L ≤ 6 ∧ 0 < T0 ∧ T0 ≤ 420 ∧ (∀ k, k < L → ω k ≤ 420) ∧ MachOk L n T ∧ n ≤ 60 ∧ m ≤ 60 ∧
  ∀ v W, Scaled L ω T0 v W → Φ (.list (mkL (m + 1) fun j => .tuple [.int (bkW L v T j (eN E) 0 : Nat), .int (W ^ j : Nat)]))
def sp_chance_at : DSp := fun ds Φ => ∃ (x : PyData) (L : Nat) (ω : Nat → Nat) (T0 n : Nat) (T : Nat → Nat → Nat) (E : Nat → Bool) (m : Nat), ds = [x, .list (srcD L ω T0), machD L n T E, .int (m : Nat)] ∧ L ≤ 6 ∧ 0 < T0 ∧ T0 ≤ 420 ∧ (∀ k, k < L → ω k ≤ 420) ∧ MachOk L n T ∧ n ≤ 60 ∧ m ≤ 60 ∧
  Φ (frD (bkW L ω T m (eN E) 0) (T0 ^ m))
def sp_staying : DSp := fun ds Φ => ∃ (z : Str) (n : Nat) (T : Nat → Nat → Nat) (E : Nat → Bool), ds = [.str z, machD z.length n T E] ∧ z.length ≤ 6 ∧ n ≤ 60 ∧ Φ (machD z.length n (stT T E) E)
def sp_taken_by : DSp := fun ds Φ => ∃ (z : Str) (ω : Nat → Nat) (T0 n : Nat) (T : Nat → Nat → Nat) (E : Nat → Bool) (m : Nat), ds = [.str z, .list (srcD z.length ω T0), machD z.length n T E, .int (m : Nat)] ∧ z.length ≤ 6 ∧ 0 < T0 ∧ T0 ≤ 420 ∧ (∀ k, k < z.length → ω k ≤ 420) ∧ MachOk z.length n T ∧ n ≤ 60 ∧ m ≤ 60 ∧
  Φ (frD (bkW z.length ω (stT T E) m (eN E) 0) (T0 ^ m))
def rowD (L : Nat) (ω : Nat → Nat) (T : Nat → Nat → Nat) (E : Nat → Bool) (m : Nat) : PyData := .tuple [.int (bkW L ω T m (eN E) 0 : Nat), .int (bkW L ω (stT T E) m (eN E) 0 : Nat)]
def sp_law_rows : DSp := fun ds Φ => ∃ (L : Nat) (ω : Nat → Nat) (T0 n : Nat) (T : Nat → Nat → Nat) (E : Nat → Bool) (m : Nat), ds = [.list (mkI L ω), .int (T0 : Nat), machD L n T E, .int (m : Nat)] ∧ SrcOk L ω T0 ∧ MachOk L n T ∧ n ≤ 60 ∧ m ≤ 60 ∧ Φ (rowD L ω T E m)
def sp_law_layer : DSp := fun ds Φ => ∃ (z : Str) (m : Nat), ds = [.str z, .int (m : Nat)] ∧ 1 ≤ z.length ∧ z.length ≤ 6 ∧ m ≤ 60 ∧ z.length ^ m ≤ 1000 ∧ Φ (.list ((wl z.length m).map fun u => .str (wS z u)))
def sp_law_taken : DSp := fun ds Φ => ∃ (z : Str) (n : Nat) (T : Nat → Nat → Nat) (E : Nat → Bool) (u : List Nat), ds = [.str z, machD z.length n T E, .str (wS z u)] ∧ Wd z u ∧ MachOk z.length n T ∧ n ≤ 60 ∧ z.length ≤ 6 ∧ Φ (.list (mkL (u.length + 1) fun j => .bool (E ((u.take j).foldl T 0))))
def sp_law_sums : DSp := fun ds Φ => ∃ (z : Str) (ω : Nat → Nat) (n : Nat) (T : Nat → Nat → Nat) (E : Nat → Bool) (m : Nat), ds = [.str z, .list (mkI z.length ω), machD z.length n T E, .int (m : Nat)] ∧ z.cps.toList.Nodup ∧ 1 ≤ z.length ∧ z.length ≤ 6 ∧ (∀ k, k < z.length → ω k ≤ 420) ∧ MachOk z.length n T ∧ n ≤ 60 ∧ m ≤ 10 ∧ z.length ^ m ≤ 1000 ∧ Φ (rowD z.length ω T E m)
end L58
namespace L58
open PySem PySem.Spec PyProof.Rows L2 DL PyProof.Rows
def topS (i : Nat) : Stmt := PySem.Challenge.pw_hallofwords_k58_sources_and_drawn_words.main.body.getD i (.Pass ⟨0, 0, 0, 0⟩)
section
variable {P : Program} {w : World} {K : PySem.W.Frag} {mg : Str → Option Value} {base : Heap} {k : Nat}
abbrev s__law_pool : Stmt := topS 22
theorem sc__law_pool : FnScope ["script", "pool", "state", "k", "cell", "step", "one", "two"] ["script"] (defScope s__law_pool) := ⟨rfl, rfl, rfl, by decide +kernel, rfl, by decide +kernel, by decide +kernel⟩
def W__law_pool : DS := (wSeq (wSetO 1 (wLst wNil))
    (wSeq (wSet 2 (wC (.int 17)))
    (wSeq (wFor (wRng1 (wCons (wCB (wN2 gMin) (wCons (wScLen 0) (wCons (wC (.int 63)) wNil))) wNil)) (gNm 3) (wSeq (wSet 4 (wScIxA 0 (wVar 3)))
    (wSeq (wSet 2 (wBin wMod (wCB (wN1 gInt) (wCons (wBin wAdd (wBin wAdd (wBin wMul (wVar 2) (wC (.int 69621))) (wBin wMul (wVar 4) (wC (.int 48271)))) (wVar 3)) wNil)) (wC (.int 2147483647))))
    (wIfS (wTst (wBin wGe (wVar 4) (wBin wPow (wC (.int 10)) (wC (.int 18))))) (wFor (wRng1 (wCons (wC (.int 60)) wNil)) (gNm 5) (wSeq (wIfS (wTst (wBin (wEq false) (wVar 4) (wC (.int 0)))) wBk wNext)
    (wSeq (wApp 1 (wBin wMod (wCB (wN1 gInt) (wCons (wVar 4) wNil)) (wC (.int 60))))
    (wSet 4 (wBin wDiv (wVar 4) (wC (.int 60))))))) (wSeq (wSet 6 (wBin wMod (wCB (wN1 gInt) (wCons (wBin wAdd (wBin wAdd (wBin wMul (wVar 4) (wC (.int 48271))) (wBin wMul (wVar 3) (wC (.int 69621)))) (wC (.int 7))) wNil)) (wC (.int 2147483647))))
    (wSeq (wSet 7 (wBin wMod (wCB (wN1 gInt) (wCons (wBin wAdd (wBin wAdd (wBin wMul (wVar 6) (wC (.int 16807))) (wBin wMul (wVar 4) (wC (.int 31)))) (wVar 3)) wNil)) (wC (.int 1000003))))
    (wSetO 1 (wBinL wCat (wVar 1) (wFz (wLst (wCons (wBin wMod (wCB (wN1 gInt) (wCons (wBin wDiv (wVar 6) (wC (.int 11))) wNil)) (wC (.int 60))) (wCons (wBin wMod (wCB (wN1 gInt) (wCons (wVar 7) wNil)) (wC (.int 60))) wNil))))))))))))
    (wSeq (wFor (wRng1 (wCons (wC (.int 300)) wNil)) (gNm 5) (wSeq (wSet 2 (wBin wMod (wCB (wN1 gInt) (wCons (wBin wAdd (wBin wMul (wVar 2) (wC (.int 48271))) (wC (.int 11))) wNil)) (wC (.int 2147483647))))
    (wApp 1 (wBin wMod (wCB (wN1 gInt) (wCons (wBin wDiv (wVar 2) (wC (.int 97))) wNil)) (wC (.int 60))))))
    (wRetO 1)))))
theorem dv__law_pool (B : Bi mg) {f : Addr} (cdv : Value) (A : Around) (outer : List Env) (s : Shared) (H : Hp) (E : XK) (hgd : (A.deeper (envOfC "_law_pool" (defScope s__law_pool) s.heap.objs.size f cdv)).guards = some []) (hr : Room 0 (A.deeper (envOfC "_law_pool" (defScope s__law_pool) s.heap.objs.size f cdv))) :
    XSs (cxOf CX0 P w K mg base ["script", "pool", "state", "k", "cell", "step", "one", "two"] "_law_pool" (defScope s__law_pool) f cdv A outer s H E).nox (defBody s__law_pool) (W__law_pool) := by
  have nd := sc__law_pool.nd
  exact (xs_cons (xs_setO (i := 1) nd rfl (Or.inl rfl) (xl_lst xa_nil))
    (xs_cons (xs_set (i := 2) nd rfl (Or.inl rfl) xe_int)
    (xs_cons (xs_for PassesOwn.never rfl (xi_range1 rfl B.range (xa_cons (xe_callB (call_min2 rfl) opn_min2 rfl B.min bb_min (xa_cons (xe_scLen (i := 0) rfl B.len (pv 0)) (xa_cons xe_int xa_nil))) xa_nil)) (xg_name (i := 3) nd rfl (Or.inl rfl)) (xs_cons (xs_set (i := 4) nd rfl (Or.inl rfl) (xe_scIx (i := 0) (pv 0) (xe_var 3)))
    (xs_cons (xs_set (i := 2) nd rfl (Or.inl rfl) (xe_op op_mod o_mod (xe_callTy call_int1 opn_int rfl B.int bb_int (xa_cons (xe_op opr_plus op2_plus (xe_op opr_plus op2_plus (xe_op op_mul o_mul (xe_var 2) xe_int) (xe_op op_mul o_mul (xe_var 4) xe_int)) (xe_var 3)) xa_nil)) xe_int))
    (xs_one (xs_if (xt_cmp op_ge o_ge (xe_var 4) (xe_op op_pow o_pow xe_int xe_int)) (xs_one (xs_for PassesOwn.never rfl (xi_range1 rfl B.range (xa_cons xe_int xa_nil)) (xg_name (i := 5) nd rfl (Or.inl rfl)) (xs_cons (xs_if (xt_cmp (opr_eq hr.units) op2_eq (xe_var 4) xe_int) (xs_one xs_break) xs_nil)
    (xs_cons (xs_append (i := 1) (pv 1) (xe_op op_mod o_mod (xe_callTy call_int1 opn_int rfl B.int bb_int (xa_cons (xe_var 4) xa_nil)) xe_int))
    (xs_one (xs_set (i := 4) nd rfl (Or.inl rfl) (xe_op op_fdiv o_div (xe_var 4) xe_int))))))) (xs_cons (xs_set (i := 6) nd rfl (Or.inl rfl) (xe_op op_mod o_mod (xe_callTy call_int1 opn_int rfl B.int bb_int (xa_cons (xe_op opr_plus op2_plus (xe_op opr_plus op2_plus (xe_op op_mul o_mul (xe_var 4) xe_int) (xe_op op_mul o_mul (xe_var 3) xe_int)) xe_int) xa_nil)) xe_int))
    (xs_cons (xs_set (i := 7) nd rfl (Or.inl rfl) (xe_op op_mod o_mod (xe_callTy call_int1 opn_int rfl B.int bb_int (xa_cons (xe_op opr_plus op2_plus (xe_op opr_plus op2_plus (xe_op op_mul o_mul (xe_var 6) xe_int) (xe_op op_mul o_mul (xe_var 4) xe_int)) (xe_var 3)) xa_nil)) xe_int))
    (xs_one (xs_setO (i := 1) nd rfl (Or.inl rfl) (xl_op op_cat op2L_cat (xe_var 1) (xl_fz (xl_lst (xa_cons (xe_op op_mod o_mod (xe_callTy call_int1 opn_int rfl B.int bb_int (xa_cons (xe_op op_fdiv o_div (xe_var 6) xe_int) xa_nil)) xe_int) (xa_cons (xe_op op_mod o_mod (xe_callTy call_int1 opn_int rfl B.int bb_int (xa_cons (xe_var 7) xa_nil)) xe_int) xa_nil))))))))))))))
    (xs_cons (xs_for PassesOwn.never rfl (xi_range1 rfl B.range (xa_cons xe_int xa_nil)) (xg_name (i := 5) nd rfl (Or.inl rfl)) (xs_cons (xs_set (i := 2) nd rfl (Or.inl rfl) (xe_op op_mod o_mod (xe_callTy call_int1 opn_int rfl B.int bb_int (xa_cons (xe_op opr_plus op2_plus (xe_op op_mul o_mul (xe_var 2) xe_int) xe_int) xa_nil)) xe_int))
    (xs_one (xs_append (i := 1) (pv 1) (xe_op op_mod o_mod (xe_callTy call_int1 opn_int rfl B.int bb_int (xa_cons (xe_op op_fdiv o_div (xe_var 2) xe_int) xa_nil)) xe_int)))))
    (xs_one (xs_retO (i := 1) (pv 1)))))))
abbrev s__law_stream : Stmt := topS 23
theorem sc__law_stream : FnScope ["script"] ["script"] (defScope s__law_stream) := ⟨rfl, rfl, rfl, by decide +kernel, rfl, by decide +kernel, by decide +kernel⟩
def W__law_stream : DS := (wRetL (wBinL wCat (wFz (wLst (wCons (wC (.int 0)) wNil))) (wFz (wCallS 0 sp_pool))))
theorem dv__law_stream (c__law_pool : Ca P w K mg base 1 "_law_pool" ["script"] (spS K sp_pool)) {f : Addr} (cdv : Value) (A : Around) (outer : List Env) (s : Shared) (H : Hp) (E : XK) (hgd : (A.deeper (envOfC "_law_stream" (defScope s__law_stream) s.heap.objs.size f cdv)).guards = some []) (hr : Room 1 (A.deeper (envOfC "_law_stream" (defScope s__law_stream) s.heap.objs.size f cdv))) :
    XSs (cxOf CX0 P w K mg base ["script"] "_law_stream" (defScope s__law_stream) f cdv A outer s H E).nox (defBody s__law_stream) (W__law_stream) := by
  have nd := sc__law_stream.nd
  exact (xs_one (xs_retL (xl_op op_cat op2L_cat (xl_fz (xl_lst (xa_cons xe_int xa_nil))) (xl_fz (c_callS (i := 0) c__law_pool hgd hr (by omega) rfl (pv 0))))))
abbrev s_ratio : Stmt := topS 2
theorem sc_ratio : FnScope ["over", "under", "shared"] ["over", "under"] (defScope s_ratio) := ⟨rfl, rfl, rfl, by decide +kernel, rfl, by decide +kernel, by decide +kernel⟩
def W_ratio : DS := (wSeq (wSet 2 (wCB (wN2 gGcd) (wCons (wVar 0) (wCons (wVar 1) wNil))))
    (wRet (wTup (wCons (wBin wDivW (wVar 0) (wVar 2)) (wCons (wBin wDivW (wVar 1) (wVar 2)) wNil)))))
theorem dv_ratio (m_gcd : mg "gcd" = some (.builtin "math.gcd")) {f : Addr} (cdv : Value) (A : Around) (outer : List Env) (s : Shared) (H : Hp) (E : XK) (hgd : (A.deeper (envOfC "ratio" (defScope s_ratio) s.heap.objs.size f cdv)).guards = some []) (hr : Room 0 (A.deeper (envOfC "ratio" (defScope s_ratio) s.heap.objs.size f cdv))) :
    XSs (cxOf CX0 P w K mg base ["over", "under", "shared"] "ratio" (defScope s_ratio) f cdv A outer s H E).nox (defBody s_ratio) (W_ratio) := by
  have nd := sc_ratio.nd
  exact (xs_cons (xs_set (i := 2) nd rfl (Or.inl rfl) (xe_callM cr_gcd opn_gcd rfl m_gcd (xa_cons (xe_var 0) (xa_cons (xe_var 1) xa_nil))))
    (xs_one (xs_ret (xe_tup (xa_cons (xe_op op_fdivW o_divW (xe_var 0) (xe_var 2)) (xa_cons (xe_op op_fdivW o_divW (xe_var 1) (xe_var 2)) xa_nil))))))
abbrev s_sum_of : Stmt := topS 3
theorem sc_sum_of : FnScope ["ratios", "over", "under", "more", "part"] ["ratios"] (defScope s_sum_of) := ⟨rfl, rfl, rfl, by decide +kernel, rfl, by decide +kernel, by decide +kernel⟩
def W_sum_of : DS := (wSeq (wSet 1 (wC (.int 0)))
    (wSeq (wSet 2 (wC (.int 1)))
    (wSeq (wFor (wIt (wVar 0)) (gTp 2 (gCs (gNm 3) (gCs (gNm 4) gNl))) (wAsgT (wCall sp_ratio (wCons (wBin wAdd (wBin wMulW (wVar 1) (wVar 4)) (wBin wMulW (wVar 3) (wVar 2))) (wCons (wBin wMulW (wVar 2) (wVar 4)) wNil))) (gTp 2 (gCs (gNm 1) (gCs (gNm 2) gNl)))))
    (wRet (wTup (wCons (wVar 1) (wCons (wVar 2) wNil)))))))
theorem dv_sum_of (c_ratio : Ca P w K mg base 1 "ratio" ["over", "under"] (spD K sp_ratio)) {f : Addr} (cdv : Value) (A : Around) (outer : List Env) (s : Shared) (H : Hp) (E : XK) (hgd : (A.deeper (envOfC "sum_of" (defScope s_sum_of) s.heap.objs.size f cdv)).guards = some []) (hr : Room 1 (A.deeper (envOfC "sum_of" (defScope s_sum_of) s.heap.objs.size f cdv))) :
    XSs (cxOf CX0 P w K mg base ["ratios", "over", "under", "more", "part"] "sum_of" (defScope s_sum_of) f cdv A outer s H E).nox (defBody s_sum_of) (W_sum_of) := by
  have nd := sc_sum_of.nd
  exact (xs_cons (xs_set (i := 1) nd rfl (Or.inl rfl) xe_int)
    (xs_cons (xs_set (i := 2) nd rfl (Or.inl rfl) xe_int)
    (xs_cons (xs_for PassesOwn.never rfl (xi_any (xe_var 0)) (xg_tup rfl (xgs_cons (xg_name (i := 3) nd rfl (Or.inl rfl)) (xgs_cons (xg_name (i := 4) nd rfl (Or.inl rfl)) xgs_nil))) (xs_one (xs_asgT (c_call c_ratio hgd hr (by omega) rfl (xa_cons (xe_op opr_plus op2_plus (xe_op op_mulW o_mulW (xe_var 1) (xe_var 4)) (xe_op op_mulW o_mulW (xe_var 3) (xe_var 2))) (xa_cons (xe_op op_mulW o_mulW (xe_var 2) (xe_var 4)) xa_nil))) (xg_tup rfl (xgs_cons (xg_name (i := 1) nd rfl (Or.inl rfl)) (xgs_cons (xg_name (i := 2) nd rfl (Or.inl rfl)) xgs_nil))))))
    (xs_one (xs_ret (xe_tup (xa_cons (xe_var 1) (xa_cons (xe_var 2) xa_nil))))))))
abbrev s_product_of : Stmt := topS 4
theorem sc_product_of : FnScope ["one", "other"] ["one", "other"] (defScope s_product_of) := ⟨rfl, rfl, rfl, by decide +kernel, rfl, by decide +kernel, by decide +kernel⟩
def W_product_of : DS := (wRet (wCall sp_ratio (wCons (wBin wMulW (wBin wIx (wVar 0) (wC (.int 0))) (wBin wIx (wVar 1) (wC (.int 0)))) (wCons (wBin wMulW (wBin wIx (wVar 0) (wC (.int 1))) (wBin wIx (wVar 1) (wC (.int 1)))) wNil))))
theorem dv_product_of (c_ratio : Ca P w K mg base 1 "ratio" ["over", "under"] (spD K sp_ratio)) {f : Addr} (cdv : Value) (A : Around) (outer : List Env) (s : Shared) (H : Hp) (E : XK) (hgd : (A.deeper (envOfC "product_of" (defScope s_product_of) s.heap.objs.size f cdv)).guards = some []) (hr : Room 1 (A.deeper (envOfC "product_of" (defScope s_product_of) s.heap.objs.size f cdv))) :
    XSs (cxOf CX0 P w K mg base ["one", "other"] "product_of" (defScope s_product_of) f cdv A outer s H E).nox (defBody s_product_of) (W_product_of) := by
  have nd := sc_product_of.nd
  exact (xs_one (xs_ret (c_call c_ratio hgd hr (by omega) rfl (xa_cons (xe_op op_mulW o_mulW (xe_ixR ix_seq op2_ix (xe_var 0) xe_int) (xe_ixR ix_seq op2_ix (xe_var 1) xe_int)) (xa_cons (xe_op op_mulW o_mulW (xe_ixR ix_seq op2_ix (xe_var 0) xe_int) (xe_ixR ix_seq op2_ix (xe_var 1) xe_int)) xa_nil)))))
abbrev s_in_wholes : Stmt := topS 5
theorem sc_in_wholes : FnScope ["ratios", "whole", "_", "part", "over"] ["ratios"] (defScope s_in_wholes) := ⟨rfl, rfl, rfl, by decide +kernel, rfl, by decide +kernel, by decide +kernel⟩
def W_in_wholes : DS := (wSeq (wSet 1 (wC (.int 1)))
    (wSeq (wFor (wIt (wVar 0)) (gTp 2 (gCs (gNm 2) (gCs (gNm 3) gNl))) (wSet 1 (wCB (wN2 gLcm) (wCons (wVar 1) (wCons (wVar 3) wNil)))))
    (wRet (wTup (wCons (wFz (wLc [4, 3] (wIt (wVar 0)) (gTp 2 (gCs (gNm 4) (gCs (gNm 3) gNl))) wYes (wBin wMul (wVar 4) (wBin wDiv (wVar 1) (wVar 3))))) (wCons (wVar 1) wNil))))))
theorem dv_in_wholes (m_lcm : mg "lcm" = some (.builtin "math.lcm")) {f : Addr} (cdv : Value) (A : Around) (outer : List Env) (s : Shared) (H : Hp) (E : XK) (hgd : (A.deeper (envOfC "in_wholes" (defScope s_in_wholes) s.heap.objs.size f cdv)).guards = some []) (hr : Room 0 (A.deeper (envOfC "in_wholes" (defScope s_in_wholes) s.heap.objs.size f cdv))) :
    XSs (cxOf CX0 P w K mg base ["ratios", "whole", "_", "part", "over"] "in_wholes" (defScope s_in_wholes) f cdv A outer s H E).nox (defBody s_in_wholes) (W_in_wholes) := by
  have nd := sc_in_wholes.nd
  exact (xs_cons (xs_set (i := 1) nd rfl (Or.inr rfl) xe_int)
    (xs_cons (xs_for PassesOwn.never rfl (xi_any (xe_var 0)) (xg_tup rfl (xgs_cons (xg_name (i := 2) nd rfl (Or.inl rfl)) (xgs_cons (xg_name (i := 3) nd rfl (Or.inl rfl)) xgs_nil))) (xs_one (xs_set (i := 1) nd rfl (Or.inr rfl) (xe_callM cr_lcm opn_lcm rfl m_lcm (xa_cons (xe_var 1) (xa_cons (xe_var 3) xa_nil))))))
    (xs_one (xs_ret (xe_tup (xa_cons (xl_fz (xl_lc (own := [(("over" : Str), 4), (("part" : Str), 3)]) rfl nd (xi_any (xe_var 0)) (blkOk_by (N := ["ratios", "whole", "_", "part", "over"]) (sc := (defScope s_in_wholes)) (by decide +kernel)) (by decide) (fun _ _ _ _ _ => (xg_tup rfl (xgs_cons (xg_name (i := 4) nd rfl (Or.inl rfl)) (xgs_cons (xg_name (i := 3) nd rfl (Or.inl rfl)) xgs_nil)))) (fun _ _ _ _ _ => xts_nil) (fun _ _ _ _ _ => (xe_op op_mul o_mul (xe_var 4) (xe_op op_fdiv o_div (xe_var 1) (xe_var 3)))))) (xa_cons (xe_var 1) xa_nil)))))))
abbrev s_is_number : Stmt := topS 11
theorem sc_is_number : FnScope ["value"] ["value"] (defScope s_is_number) := ⟨rfl, rfl, rfl, by decide +kernel, rfl, by decide +kernel, by decide +kernel⟩
def W_is_number : DS := (wRet (wAndV (wIsI "int" (wVar 0)) (wNotV (wIsI "bool" (wVar 0)))))
theorem dv_is_number (B : Bi mg) {f : Addr} (cdv : Value) (A : Around) (outer : List Env) (s : Shared) (H : Hp) (E : XK) (hgd : (A.deeper (envOfC "is_number" (defScope s_is_number) s.heap.objs.size f cdv)).guards = some []) (hr : Room 0 (A.deeper (envOfC "is_number" (defScope s_is_number) s.heap.objs.size f cdv))) :
    XSs (cxOf CX0 P w K mg base ["value"] "is_number" (defScope s_is_number) f cdv A outer s H E).nox (defBody s_is_number) (W_is_number) := by
  have nd := sc_is_number.nd
  exact (xs_one (xs_ret (xe_and (xe_isI (n := "int") rfl B.isinstance rfl B.int bb_int (xe_var 0)) (xe_one (xe_not (xe_isI (n := "bool") rfl B.isinstance rfl B.bool bb_bool (xe_var 0)))))))
abbrev s_is_chance : Stmt := topS 15
theorem sc_is_chance : FnScope ["value", "over", "under"] ["value"] (defScope s_is_chance) := ⟨rfl, rfl, rfl, by decide +kernel, rfl, by decide +kernel, by decide +kernel⟩
def W_is_chance : DS := (wSeq (wIfS (wOr (wNot (wTru (wIsI "tuple" (wVar 0)))) (wOr (wTst (wBin (wEq true) (wCB (wN1 gLen) (wCons (wVar 0) wNil)) (wC (.int 2)))) (wOr (wNot (wTru (wCall sp_is_number (wCons (wBin wIx (wVar 0) (wC (.int 0))) wNil)))) (wNot (wTru (wCall sp_is_number (wCons (wBin wIx (wVar 0) (wC (.int 1))) wNil))))))) (wRet (wC (.bool false))) wNext)
    (wSeq (wAsgT (wVar 0) (gTp 2 (gCs (gNm 1) (gCs (gNm 2) gNl))))
    (wRet (wAndV (wChain wLe wLe (wC (.int 1)) (wVar 2) (wC d_MOST_PARTS_OF_ONE)) (wAndV (wChain wLe wLe (wC (.int 0)) (wVar 1) (wVar 2)) (wBin (wEq false) (wCB (wN2 gGcd) (wCons (wVar 1) (wCons (wVar 2) wNil))) (wC (.int 1))))))))
theorem dv_is_chance (B : Bi mg) (c_is_number : Ca P w K mg base 1 "is_number" ["value"] (spD K sp_is_number)) (g_MOST_PARTS_OF_ONE : Gc K mg "MOST_PARTS_OF_ONE" d_MOST_PARTS_OF_ONE) (m_gcd : mg "gcd" = some (.builtin "math.gcd")) {f : Addr} (cdv : Value) (A : Around) (outer : List Env) (s : Shared) (H : Hp) (E : XK) (hgd : (A.deeper (envOfC "is_chance" (defScope s_is_chance) s.heap.objs.size f cdv)).guards = some []) (hr : Room 1 (A.deeper (envOfC "is_chance" (defScope s_is_chance) s.heap.objs.size f cdv))) :
    XSs (cxOf CX0 P w K mg base ["value", "over", "under"] "is_chance" (defScope s_is_chance) f cdv A outer s H E).nox (defBody s_is_chance) (W_is_chance) := by
  have nd := sc_is_chance.nd
  exact (xs_cons (xs_if (xw_t (xw_or (xt_not (xt_tru (xe_isI (n := "tuple") rfl B.isinstance rfl B.tuple bb_tuple (xe_var 0)))) (xw_or (xt_cmp (opr_ne hr.units) op2_ne (xe_callB call_lenA opn_len rfl B.len bb_len (xa_cons (xe_var 0) xa_nil)) xe_int) (xw_or (xt_not (xt_tru (c_call c_is_number hgd hr (by omega) rfl (xa_cons (xe_ixR ix_seq op2_ix (xe_var 0) xe_int) xa_nil)))) (xw_or1 (xt_not (xt_tru (c_call c_is_number hgd hr (by omega) rfl (xa_cons (xe_ixR ix_seq op2_ix (xe_var 0) xe_int) xa_nil))))))))) (xs_one (xs_ret xe_bl)) xs_nil)
    (xs_cons (xs_asgT (xe_var 0) (xg_tup rfl (xgs_cons (xg_name (i := 1) nd rfl (Or.inl rfl)) (xgs_cons (xg_name (i := 2) nd rfl (Or.inl rfl)) xgs_nil))))
    (xs_one (xs_ret (xe_and (xe_chain op_le o_le op_le o_le xe_int (xe_var 2) (xe_glob rfl g_MOST_PARTS_OF_ONE.mg g_MOST_PARTS_OF_ONE.rel g_MOST_PARTS_OF_ONE.dq)) (xe_and (xe_chain op_le o_le op_le o_le xe_int (xe_var 1) (xe_var 2)) (xe_one (xe_cmp (opr_eq hr.units) op2_eq (xe_callM cr_gcd opn_gcd rfl m_gcd (xa_cons (xe_var 1) (xa_cons (xe_var 2) xa_nil))) xe_int))))))))
abbrev s_chance_of : Stmt := topS 16
theorem sc_chance_of : FnScope ["letters", "source", "word", "chance", "sign"] ["letters", "source", "word"] (defScope s_chance_of) := ⟨rfl, rfl, rfl, by decide +kernel, rfl, by decide +kernel, by decide +kernel⟩
def W_chance_of : DS := (wSeq (wSet 3 (wTup (wCons (wC (.int 1)) (wCons (wC (.int 1)) wNil))))
    (wSeq (wFor (wIt (wVar 2)) (gNm 4) (wSet 3 (wCall sp_product_of (wCons (wVar 3) (wCons (wBin wIx (wVar 1) (wIndex (wVar 0) (wVar 4))) wNil)))))
    (wRet (wVar 3))))
theorem dv_chance_of (c_product_of : Ca P w K mg base 2 "product_of" ["one", "other"] (spD K sp_product_of)) {f : Addr} (cdv : Value) (A : Around) (outer : List Env) (s : Shared) (H : Hp) (E : XK) (hgd : (A.deeper (envOfC "chance_of" (defScope s_chance_of) s.heap.objs.size f cdv)).guards = some []) (hr : Room 2 (A.deeper (envOfC "chance_of" (defScope s_chance_of) s.heap.objs.size f cdv))) :
    XSs (cxOf CX0 P w K mg base ["letters", "source", "word", "chance", "sign"] "chance_of" (defScope s_chance_of) f cdv A outer s H E).nox (defBody s_chance_of) (W_chance_of) := by
  have nd := sc_chance_of.nd
  exact (xs_cons (xs_set (i := 3) nd rfl (Or.inl rfl) (xe_tup (xa_cons xe_int (xa_cons xe_int xa_nil))))
    (xs_cons (xs_for PassesOwn.never rfl (xi_any (xe_var 2)) (xg_name (i := 4) nd rfl (Or.inl rfl)) (xs_one (xs_set (i := 3) nd rfl (Or.inl rfl) (c_call c_product_of hgd hr (by omega) rfl (xa_cons (xe_var 3) (xa_cons (xe_ixR ix_seq op2_ix (xe_var 1) (xe_index (xe_var 0) (xe_var 4))) xa_nil))))))
    (xs_one (xs_ret (xe_var 3)))))
abbrev s_taken_upto : Stmt := topS 17
theorem sc_taken_upto : FnScope ["source", "machine", "n", "table", "ends", "weights", "whole", "standing", "every", "found", "_", "moved", "row", "number", "weight", "reached", "end"] ["source", "machine", "n"] (defScope s_taken_upto) := ⟨rfl, rfl, rfl, by decide +kernel, rfl, by decide +kernel, by decide +kernel⟩
def W_taken_upto : DS := (wSeq (wAsgT (wVar 1) (gTp 2 (gCs (gNm 3) (gCs (gNm 4) gNl))))
    (wSeq (wAsgT (wCall sp_in_wholes (wCons (wVar 0) wNil)) (gTp 2 (gCs (gNm 5) (gCs (gNm 6) gNl))))
    (wSeq (wSet 7 (wBin wAdd (wFz (wLst (wCons (wC (.int 1)) wNil))) (wFz (wBinL wRepL (wFz (wLst (wCons (wC (.int 0)) wNil))) (wBin wSub (wCB (wN1 gLen) (wCons (wVar 3) wNil)) (wC (.int 1)))))))
    (wSeq (wSet 8 (wC (.int 1)))
    (wSeq (wSetO 9 (wLst wNil))
    (wSeq (wFor (wRng1 (wCons (wBin wAdd (wVar 2) (wC (.int 1))) wNil)) (gNm 10) (wSeq (wApp 9 (wTup (wCons (wCB (wN1 gSum) (wCons (wFz (wLc [13, 16] (wZip (wCons (wVar 7) (wCons (wVar 4) wNil))) (gTp 2 (gCs (gNm 13) (gCs (gNm 16) gNl))) (wTru (wVar 16)) (wVar 13))) wNil)) (wCons (wVar 8) wNil))))
    (wSeq (wSetO 11 (wBinL wRepL (wFz (wLst (wCons (wC (.int 0)) wNil))) (wCB (wN1 gLen) (wCons (wVar 3) wNil))))
    (wSeq (wFor (wZip (wCons (wVar 3) (wCons (wVar 7) wNil))) (gTp 2 (gCs (gNm 12) (gCs (gNm 13) gNl))) (wFor (wZip (wCons (wVar 5) (wCons (wVar 12) wNil))) (gTp 2 (gCs (gNm 14) (gCs (gNm 15) gNl))) (wAugO 11 (fun i j => i + j) (wVar 15) (wBin wMul (wVar 14) (wVar 13)))))
    (wSeq (wSet 7 (wVar 11))
    (wSet 8 (wBin wMul (wVar 8) (wVar 6))))))))
    (wRet (wVar 9))))))))
theorem dv_taken_upto (B : Bi mg) (c_in_wholes : Ca P w K mg base 1 "in_wholes" ["ratios"] (spD K sp_in_wholes)) {f : Addr} (cdv : Value) (A : Around) (outer : List Env) (s : Shared) (H : Hp) (E : XK) (hgd : (A.deeper (envOfC "taken_upto" (defScope s_taken_upto) s.heap.objs.size f cdv)).guards = some []) (hr : Room 1 (A.deeper (envOfC "taken_upto" (defScope s_taken_upto) s.heap.objs.size f cdv))) :
    XSs (cxOf CX0 P w K mg base ["source", "machine", "n", "table", "ends", "weights", "whole", "standing", "every", "found", "_", "moved", "row", "number", "weight", "reached", "end"] "taken_upto" (defScope s_taken_upto) f cdv A outer s H E).nox (defBody s_taken_upto) (W_taken_upto) := by
  have nd := sc_taken_upto.nd
  exact (xs_cons (xs_asgT (xe_var 1) (xg_tup rfl (xgs_cons (xg_name (i := 3) nd rfl (Or.inl rfl)) (xgs_cons (xg_name (i := 4) nd rfl (Or.inl rfl)) xgs_nil))))
    (xs_cons (xs_asgT (c_call c_in_wholes hgd hr (by omega) rfl (xa_cons (xe_var 0) xa_nil)) (xg_tup rfl (xgs_cons (xg_name (i := 5) nd rfl (Or.inl rfl)) (xgs_cons (xg_name (i := 6) nd rfl (Or.inl rfl)) xgs_nil))))
    (xs_cons (xs_set (i := 7) nd rfl (Or.inl rfl) (xe_op opr_plus op2_plus (xl_fz (xl_lst (xa_cons xe_int xa_nil))) (xl_fz (xl_op op_rep op2L_rep (xl_fz (xl_lst (xa_cons xe_int xa_nil))) (xe_op op_sub o_sub (xe_callB call_lenA opn_len rfl B.len bb_len (xa_cons (xe_var 3) xa_nil)) xe_int)))))
    (xs_cons (xs_set (i := 8) nd rfl (Or.inl rfl) xe_int)
    (xs_cons (xs_setO (i := 9) nd rfl (Or.inl rfl) (xl_lst xa_nil))
    (xs_cons (xs_for PassesOwn.never rfl (xi_range1 rfl B.range (xa_cons (xe_op opr_plus op2_plus (xe_var 2) xe_int) xa_nil)) (xg_name (i := 10) nd rfl (Or.inl rfl)) (xs_cons (xs_append (i := 9) (pv 9) (xe_tup (xa_cons (xe_callB (cr_sum rfl) opn_sum rfl B.sum bb_sum (xa_cons (xl_fz (xl_lc (own := [(("number" : Str), 13), (("end" : Str), 16)]) rfl nd (xi_zip rfl B.zip (xa_cons (xe_var 7) (xa_cons (xe_var 4) xa_nil))) (blkOk_by (N := ["source", "machine", "n", "table", "ends", "weights", "whole", "standing", "every", "found", "_", "moved", "row", "number", "weight", "reached", "end"]) (sc := (defScope s_taken_upto)) (by decide +kernel)) (by decide) (fun _ _ _ _ _ => (xg_tup rfl (xgs_cons (xg_name (i := 13) nd rfl (Or.inl rfl)) (xgs_cons (xg_name (i := 16) nd rfl (Or.inl rfl)) xgs_nil)))) (fun _ _ _ _ _ => (xts_one (xt_tru (xe_var 16)))) (fun _ _ _ _ _ => (xe_var 13)))) xa_nil)) (xa_cons (xe_var 8) xa_nil))))
    (xs_cons (xs_setO (i := 11) nd rfl (Or.inl rfl) (xl_op op_rep op2L_rep (xl_fz (xl_lst (xa_cons xe_int xa_nil))) (xe_callB call_lenA opn_len rfl B.len bb_len (xa_cons (xe_var 3) xa_nil))))
    (xs_cons (xs_for PassesOwn.never rfl (xi_zip rfl B.zip (xa_cons (xe_var 3) (xa_cons (xe_var 7) xa_nil))) (xg_tup rfl (xgs_cons (xg_name (i := 12) nd rfl (Or.inl rfl)) (xgs_cons (xg_name (i := 13) nd rfl (Or.inl rfl)) xgs_nil))) (xs_one (xs_for PassesOwn.never rfl (xi_zip rfl B.zip (xa_cons (xe_var 5) (xa_cons (xe_var 12) xa_nil))) (xg_tup rfl (xgs_cons (xg_name (i := 14) nd rfl (Or.inl rfl)) (xgs_cons (xg_name (i := 15) nd rfl (Or.inl rfl)) xgs_nil))) (xs_one (xs_augO (i := 11) (pv 11) (xe_var 15) (xe_op op_mul o_mul (xe_var 14) (xe_var 13)) ip_add)))))
    (xs_cons (xs_set (i := 7) nd rfl (Or.inl rfl) (xe_var 11))
    (xs_one (xs_set (i := 8) nd rfl (Or.inl rfl) (xe_op op_mul o_mul (xe_var 8) (xe_var 6)))))))))
    (xs_one (xs_ret (xe_var 9)))))))))
abbrev s_chance_at : Stmt := topS 18
theorem sc_chance_at : FnScope ["letters", "source", "machine", "n", "over", "under"] ["letters", "source", "machine", "n"] (defScope s_chance_at) := ⟨rfl, rfl, rfl, by decide +kernel, rfl, by decide +kernel, by decide +kernel⟩
def W_chance_at : DS := (wSeq (wAsgT (wBin wIx (wCall sp_taken_upto (wCons (wVar 1) (wCons (wVar 2) (wCons (wVar 3) wNil)))) (wVar 3)) (gTp 2 (gCs (gNm 4) (gCs (gNm 5) gNl))))
    (wRet (wCall sp_ratio (wCons (wVar 4) (wCons (wVar 5) wNil)))))
theorem dv_chance_at (c_ratio : Ca P w K mg base 1 "ratio" ["over", "under"] (spD K sp_ratio)) (c_taken_upto : Ca P w K mg base 2 "taken_upto" ["source", "machine", "n"] (spD K sp_taken_upto)) {f : Addr} (cdv : Value) (A : Around) (outer : List Env) (s : Shared) (H : Hp) (E : XK) (hgd : (A.deeper (envOfC "chance_at" (defScope s_chance_at) s.heap.objs.size f cdv)).guards = some []) (hr : Room 2 (A.deeper (envOfC "chance_at" (defScope s_chance_at) s.heap.objs.size f cdv))) :
    XSs (cxOf CX0 P w K mg base ["letters", "source", "machine", "n", "over", "under"] "chance_at" (defScope s_chance_at) f cdv A outer s H E).nox (defBody s_chance_at) (W_chance_at) := by
  have nd := sc_chance_at.nd
  exact (xs_cons (xs_asgT (xe_ixR ix_seq op2_ix (c_call c_taken_upto hgd hr (by omega) rfl (xa_cons (xe_var 1) (xa_cons (xe_var 2) (xa_cons (xe_var 3) xa_nil)))) (xe_var 3)) (xg_tup rfl (xgs_cons (xg_name (i := 4) nd rfl (Or.inl rfl)) (xgs_cons (xg_name (i := 5) nd rfl (Or.inl rfl)) xgs_nil))))
    (xs_one (xs_ret (c_call c_ratio hgd hr (by omega) rfl (xa_cons (xe_var 4) (xa_cons (xe_var 5) xa_nil))))))
abbrev s_staying : Stmt := topS 19
theorem sc_staying : FnScope ["letters", "machine", "table", "ends", "row", "state"] ["letters", "machine"] (defScope s_staying) := ⟨rfl, rfl, rfl, by decide +kernel, rfl, by decide +kernel, by decide +kernel⟩
def W_staying : DS := (wSeq (wAsgT (wVar 1) (gTp 2 (gCs (gNm 2) (gCs (gNm 3) gNl))))
    (wRet (wTup (wCons (wFz (wLc [5, 4] (wEnum (wCons (wVar 2) wNil)) (gTp 2 (gCs (gNm 5) (gCs (gNm 4) gNl))) wYes (wIfE (wTru (wBin wIx (wVar 3) (wVar 5))) (wFz (wBinL wRepL (wFz (wLst (wCons (wVar 5) wNil))) (wCB (wN1 gLen) (wCons (wVar 0) wNil)))) (wVar 4)))) (wCons (wVar 3) wNil)))))
theorem dv_staying (B : Bi mg) {f : Addr} (cdv : Value) (A : Around) (outer : List Env) (s : Shared) (H : Hp) (E : XK) (hgd : (A.deeper (envOfC "staying" (defScope s_staying) s.heap.objs.size f cdv)).guards = some []) (hr : Room 0 (A.deeper (envOfC "staying" (defScope s_staying) s.heap.objs.size f cdv))) :
    XSs (cxOf CX0 P w K mg base ["letters", "machine", "table", "ends", "row", "state"] "staying" (defScope s_staying) f cdv A outer s H E).nox (defBody s_staying) (W_staying) := by
  have nd := sc_staying.nd
  exact (xs_cons (xs_asgT (xe_var 1) (xg_tup rfl (xgs_cons (xg_name (i := 2) nd rfl (Or.inl rfl)) (xgs_cons (xg_name (i := 3) nd rfl (by first | exact Or.inl rfl | exact Or.inr rfl)) xgs_nil))))
    (xs_one (xs_ret (xe_tup (xa_cons (xl_fz (xl_lc (own := [(("state" : Str), 5), (("row" : Str), 4)]) rfl nd (xi_enum rfl B.enumerate (xa_cons (xe_var 2) xa_nil)) (blkOk_by (N := ["letters", "machine", "table", "ends", "row", "state"]) (sc := (defScope s_staying)) (by decide +kernel)) (by decide) (fun _ _ _ _ _ => (xg_tup rfl (xgs_cons (xg_name (i := 5) nd rfl (Or.inl rfl)) (xgs_cons (xg_name (i := 4) nd rfl (Or.inl rfl)) xgs_nil)))) (fun _ _ _ _ _ => xts_nil) (fun _ _ _ _ _ => (xe_if (xt_tru (xe_ixR ix_seq op2_ix (xe_var 3) (xe_var 5))) (xl_fz (xl_op op_rep op2L_rep (xl_fz (xl_lst (xa_cons (xe_var 5) xa_nil))) (xe_callB call_lenA opn_len rfl B.len bb_len (xa_cons (xe_var 0) xa_nil)))) (xe_var 4))))) (xa_cons (xe_var 3) xa_nil))))))
abbrev s_taken_by : Stmt := topS 20
theorem sc_taken_by : FnScope ["letters", "source", "machine", "n"] ["letters", "source", "machine", "n"] (defScope s_taken_by) := ⟨rfl, rfl, rfl, by decide +kernel, rfl, by decide +kernel, by decide +kernel⟩
def W_taken_by : DS := (wRet (wCall sp_chance_at (wCons (wVar 0) (wCons (wVar 1) (wCons (wCall sp_staying (wCons (wVar 0) (wCons (wVar 2) wNil))) (wCons (wVar 3) wNil))))))
theorem dv_taken_by (c_chance_at : Ca P w K mg base 3 "chance_at" ["letters", "source", "machine", "n"] (spD K sp_chance_at)) (c_staying : Ca P w K mg base 1 "staying" ["letters", "machine"] (spD K sp_staying)) {f : Addr} (cdv : Value) (A : Around) (outer : List Env) (s : Shared) (H : Hp) (E : XK) (hgd : (A.deeper (envOfC "taken_by" (defScope s_taken_by) s.heap.objs.size f cdv)).guards = some []) (hr : Room 3 (A.deeper (envOfC "taken_by" (defScope s_taken_by) s.heap.objs.size f cdv))) :
    XSs (cxOf CX0 P w K mg base ["letters", "source", "machine", "n"] "taken_by" (defScope s_taken_by) f cdv A outer s H E).nox (defBody s_taken_by) (W_taken_by) := by
  have nd := sc_taken_by.nd
  exact (xs_one (xs_ret (c_call c_chance_at hgd hr (by omega) rfl (xa_cons (xe_var 0) (xa_cons (xe_var 1) (xa_cons (c_call c_staying hgd hr (by omega) rfl (xa_cons (xe_var 0) (xa_cons (xe_var 2) xa_nil))) (xa_cons (xe_var 3) xa_nil)))))))
abbrev s_check_source : Stmt := topS 14
theorem sc_check_source : FnScope ["letters", "source", "value"] ["letters", "source"] (defScope s_check_source) := ⟨rfl, rfl, rfl, by decide +kernel, rfl, by decide +kernel, by decide +kernel⟩
def W_check_source : DS := (wSeq (wIfS (wTst (wBin (wEq true) (wCB (wN1 gLen) (wCons (wVar 1) wNil)) (wCB (wN1 gLen) (wCons (wVar 0) wNil)))) (wRaise1 "BadSize" "size" (wCons (wCB (wN1 gLen) (wCons (wVar 1) wNil)) wNil)) wNext)
    (wIfS (wOr (wNot (wTru (wGen true [] (wIt (wVar 1)) (wCall sp_is_chance (wCons (wVar 1) wNil))))) (wTst (wBin (wEq true) (wCall sp_sum_of (wCons (wVar 1) wNil)) (wTup (wCons (wC (.int 1)) (wCons (wC (.int 1)) wNil)))))) (wRaise "BadNumber") wNext))
theorem dv_check_source (B : Bi mg) (c_sum_of : Ca P w K mg base 2 "sum_of" ["ratios"] (spD K sp_sum_of)) (c_is_chance : Ca P w K mg base 2 "is_chance" ["value"] (spD K sp_is_chance)) (T_BadNumber : ExC K mg "BadNumber") (hbm : BmOk mg base) (N_BadSize : ErN P w K mg base 1 "BadSize" 1 ["size"] (fun xs => [("size" : Str)].zip xs)) {f : Addr} (cdv : Value) {T : Addr} (hcd : CodeT K cdv T) (A : Around) (outer : List Env) (s : Shared) (H : Hp) (E : XK) (hgd : (A.deeper (envOfC "check_source" (defScope s_check_source) s.heap.objs.size f cdv)).guards = some []) (hr : Room 4 (A.deeper (envOfC "check_source" (defScope s_check_source) s.heap.objs.size f cdv))) :
    XSs (cxOf (L2.CX P w) P w K mg base ["letters", "source", "value"] "check_source" (defScope s_check_source) f cdv A outer s H E) (defBody s_check_source) (W_check_source) := by
  have nd := sc_check_source.nd
  exact (xs_cons (xs_if (xt_cmp (opr_ne hr.units) op2_ne (xe_callB call_lenA opn_len rfl B.len bb_len (xa_cons (xe_var 1) xa_nil)) (xe_callB call_lenA opn_len rfl B.len bb_len (xa_cons (xe_var 0) xa_nil))) (xs_one (xs_raise1 rfl N_BadSize hr (by omega) rfl (xa_cons (xe_callB call_lenA opn_len rfl B.len bb_len (xa_cons (xe_var 1) xa_nil)) xa_nil))) xs_nil)
    (xs_one (xs_if (xw_t (xw_or (xt_not (xt_tru (xe_allG (k := 2) rfl B.all (genN_mk (XN := ["letters", "source", "value"]) (xsc := defScope s_check_source) (ys := []) (Fr := []) rfl rfl rfl rfl (by decide +kernel) (by decide +kernel) (by decide +kernel) (by decide +kernel) (by decide +kernel) rfl (by decide +kernel)) (hr.mono (by omega)) hgd hbm hcd (xi_any (xe_var 1)) (fun cl C cd A fp s0 H0 hgd hr => (c_call c_is_chance hgd hr (by omega) rfl (xa_cons (xe_var 1) xa_nil)))))) (xw_or1 (xt_cmp (opr_ne hr.units) op2_ne (c_call c_sum_of hgd hr (by omega) rfl (xa_cons (xe_var 1) xa_nil)) (xe_tup (xa_cons xe_int (xa_cons xe_int xa_nil))))))) (xs_one (xs_raise0 rfl T_BadNumber rfl)) xs_nil)))
abbrev s__law_refusal : Stmt := topS 37
theorem sc__law_refusal : FnScope ["letters", "source", "told", "e"] ["letters", "source"] (defScope s__law_refusal) := ⟨rfl, rfl, rfl, by decide +kernel, rfl, by decide +kernel, by decide +kernel⟩
def W__law_refusal : DS := (wSeq (wTryN ERL bE ((3, "BadSize", fun ea ec ed => (wSeq (wIfS (wTru (wIsK ea ed (bE "BadNumber" ec) (wVar 3))) (wRet (wTup (wCons (wC (.str ("refused" : Str))) (wCons (wC (.str ("both" : Str))) wNil)))) wNext)
    (wRet (wTup (wCons (wC (.str ("refused" : Str))) (wCons (wC (.str ("size" : Str))) (wCons (wFldN ea ed "size" (wVar 3)) wNil))))))) :: ((3, "BadNumber", fun ea ec ed => (wRet (wTup (wCons (wC (.str ("refused" : Str))) (wCons (wC (.str ("number" : Str))) wNil))))) :: ((3, "HallError", fun ea ec ed => (wRet (wTup (wCons (wC (.str ("refused" : Str))) (wCons (wC (.str ("other" : Str))) wNil))))) :: []))) (wSetX 2 sp_check_source (wCons (wVar 0) (wCons (wVar 1) wNil))))
    (wRet (wTup (wCons (wC (.str ("told" : Str))) (wCons (wBin (wIsN false) (wVar 2) (wC .none)) wNil)))))
theorem dv__law_refusal (B : Bi mg) (c_check_source : CaX P w K mg base 5 "check_source" ["letters", "source"] sp_check_source) (hEs : Ers K mg ERL bE FLE) {f : Addr} (cdv : Value) (A : Around) (outer : List Env) (s : Shared) (H : Hp) (E : XK) (hgd : (A.deeper (envOfC "_law_refusal" (defScope s__law_refusal) s.heap.objs.size f cdv)).guards = some []) (hr : Room 5 (A.deeper (envOfC "_law_refusal" (defScope s__law_refusal) s.heap.objs.size f cdv))) :
    XSs (cxOf CX0 P w K mg base ["letters", "source", "told", "e"] "_law_refusal" (defScope s__law_refusal) f cdv A outer s H E).nox (defBody s__law_refusal) (W__law_refusal) := by
  have nd := sc__law_refusal.nd
  exact (xs_cons (xs_try_n (cl := ((3, "BadSize", fun ea ec ed => (wSeq (wIfS (wTru (wIsK ea ed (bE "BadNumber" ec) (wVar 3))) (wRet (wTup (wCons (wC (.str ("refused" : Str))) (wCons (wC (.str ("both" : Str))) wNil)))) wNext)
    (wRet (wTup (wCons (wC (.str ("refused" : Str))) (wCons (wC (.str ("size" : Str))) (wCons (wFldN ea ed "size" (wVar 3)) wNil))))))) :: ((3, "BadNumber", fun ea ec ed => (wRet (wTup (wCons (wC (.str ("refused" : Str))) (wCons (wC (.str ("number" : Str))) wNil))))) :: ((3, "HallError", fun ea ec ed => (wRet (wTup (wCons (wC (.str ("refused" : Str))) (wCons (wC (.str ("other" : Str))) wNil))))) :: [])))) rfl rfl nd hEs (fun pn xe pa => (xs_one (c_setX (i := 2) nd rfl (Or.inl rfl) c_check_source hgd hr (by omega) rfl (xa_cons (xe_var 0) (xa_cons (xe_var 1) xa_nil))))) (.cons (i := 3) rfl rfl (by decide +kernel) rfl (by decide) (fun p0 ec D ed pn hcL hnd => (xs_cons (xs_if (xt_tru (xe_isN (T := "BadNumber") hEs (by decide +kernel) hcL hnd rfl B.isinstance rfl (xe_var 3))) (xs_one (xs_ret (xe_tup (xa_cons xe_str (xa_cons xe_str xa_nil))))) xs_nil)
    (xs_one (xs_ret (xe_tup (xa_cons xe_str (xa_cons xe_str (xa_cons (xe_fldN (f := "size") hEs (by decide +kernel) hcL hnd (xe_var 3)) xa_nil)))))))) (.cons (i := 3) rfl rfl (by decide +kernel) rfl (by decide) (fun p0 ec D ed pn hcL hnd => (xs_one (xs_ret (xe_tup (xa_cons xe_str (xa_cons xe_str xa_nil)))))) (.cons (i := 3) rfl rfl (by decide +kernel) rfl (by decide) (fun p0 ec D ed pn hcL hnd => (xs_one (xs_ret (xe_tup (xa_cons xe_str (xa_cons xe_str xa_nil)))))) .nil))))
    (xs_one (xs_ret (xe_tup (xa_cons xe_str (xa_cons (xe_cmp op_isN op2_isN (xe_var 2) xe_non) xa_nil))))))
abbrev s__law_gcd : Stmt := topS 26
theorem sc__law_gcd : FnScope ["one", "other", "turn"] ["one", "other"] (defScope s__law_gcd) := ⟨rfl, rfl, rfl, by decide +kernel, rfl, by decide +kernel, by decide +kernel⟩
def W__law_gcd : DS := (wSeq (wFor (wRng1 (wCons (wC (.int 9000)) wNil)) (gNm 2) (wSeq (wIfS (wTst (wBin (wEq false) (wVar 1) (wC (.int 0)))) wBk wNext)
    (wPar 0 1 (wCons (wVar 1) (wCons (wBin wMod (wCB (wN1 gInt) (wCons (wVar 0) wNil)) (wVar 1)) wNil)))))
    (wRet (wVar 0)))
theorem dv__law_gcd (B : Bi mg) {f : Addr} (cdv : Value) (A : Around) (outer : List Env) (s : Shared) (H : Hp) (E : XK) (hgd : (A.deeper (envOfC "_law_gcd" (defScope s__law_gcd) s.heap.objs.size f cdv)).guards = some []) (hr : Room 0 (A.deeper (envOfC "_law_gcd" (defScope s__law_gcd) s.heap.objs.size f cdv))) :
    XSs (cxOf CX0 P w K mg base ["one", "other", "turn"] "_law_gcd" (defScope s__law_gcd) f cdv A outer s H E).nox (defBody s__law_gcd) (W__law_gcd) := by
  have nd := sc__law_gcd.nd
  exact (xs_cons (xs_for PassesOwn.never rfl (xi_range1 rfl B.range (xa_cons xe_int xa_nil)) (xg_name (i := 2) nd rfl (Or.inl rfl)) (xs_cons (xs_if (xt_cmp (opr_eq hr.units) op2_eq (xe_var 1) xe_int) (xs_one xs_break) xs_nil)
    (xs_one (xs_par (i := 0) (j := 1) rfl nd rfl rfl (by decide) rfl rfl (xa_cons (xe_var 1) (xa_cons (xe_op op_mod o_mod (xe_callTy call_int1 opn_int rfl B.int bb_int (xa_cons (xe_var 0) xa_nil)) (xe_var 1)) xa_nil)) rfl))))
    (xs_one (xs_ret (xe_var 0))))
abbrev s__law_pick : Stmt := topS 24
theorem sc__law_pick : FnScope ["pool", "many"] ["pool", "many"] (defScope s__law_pick) := ⟨rfl, rfl, rfl, by decide +kernel, rfl, by decide +kernel, by decide +kernel⟩
def W__law_pick : DS := (wSeq (wPlSet 0 (wC (.int 0)) (wBin wAdd (wC (.int 1)) (wBin wMod (wCB (wN1 gInt) (wCons (wPlIx 0 (wC (.int 0))) wNil)) (wBin wSub (wPlLen 0) (wC (.int 1))))))
    (wRet (wBin wMod (wCB (wN1 gInt) (wCons (wPlIx 0 (wPlIx 0 (wC (.int 0)))) wNil)) (wVar 1))))
theorem dv__law_pick (B : Bi mg) {f : Addr} (cdv : Value) (A : Around) (outer : List Env) (s : Shared) (H : Hp) (E : XK) (hgd : (A.deeper (envOfC "_law_pick" (defScope s__law_pick) s.heap.objs.size f cdv)).guards = some []) (hr : Room 0 (A.deeper (envOfC "_law_pick" (defScope s__law_pick) s.heap.objs.size f cdv))) :
    XSs (cxOf CX0 P w K mg base ["pool", "many"] "_law_pick" (defScope s__law_pick) f cdv A outer s H E).nox (defBody s__law_pick) (W__law_pick) := by
  have nd := sc__law_pick.nd
  exact (xs_cons (xs_plSet (i := 0) (pv 0) xe_int (xe_op opr_plus op2_plus xe_int (xe_op op_mod o_mod (xe_callTy call_int1 opn_int rfl B.int bb_int (xa_cons (xe_plIx (i := 0) (pv 0) xe_int) xa_nil)) (xe_op op_sub o_sub (xe_plLen (i := 0) rfl B.len (pv 0)) xe_int))))
    (xs_one (xs_ret (xe_op op_mod o_mod (xe_callTy call_int1 opn_int rfl B.int bb_int (xa_cons (xe_plIx (i := 0) (pv 0) (xe_plIx (i := 0) (pv 0) xe_int)) xa_nil)) (xe_var 1)))))
abbrev s__law_weights : Stmt := topS 27
theorem sc__law_weights : FnScope ["pool", "many", "told", "kind", "at", "total", "left", "weights", "k", "weight"] ["pool", "many"] (defScope s__law_weights) := ⟨rfl, rfl, rfl, by decide +kernel, rfl, by decide +kernel, by decide +kernel⟩
def W__law_weights : DS := (wSeq (wSet 2 (wFz (wLst (wCons (wFz (wLst wNil)) (wCons (wFz (wLst wNil)) (wCons (wFz (wLst (wCons (wC (.int 1)) (wCons (wC (.int 99)) (wCons (wC (.int 100)) wNil))))) (wCons (wFz (wLst (wCons (wC (.int 5)) (wCons (wC (.int 7)) (wCons (wC (.int 198)) (wCons (wC (.int 210)) wNil)))))) (wCons (wFz (wLst (wCons (wC (.int 5)) (wCons (wC (.int 7)) (wCons (wC (.int 3)) (wCons (wC (.int 195)) (wCons (wC (.int 210)) wNil))))))) (wCons (wFz (wLst (wCons (wC (.int 5)) (wCons (wC (.int 7)) (wCons (wC (.int 12)) (wCons (wC (.int 36)) (wCons (wC (.int 360)) (wCons (wC (.int 420)) wNil)))))))) (wCons (wFz (wLst (wCons (wC (.int 5)) (wCons (wC (.int 7)) (wCons (wC (.int 12)) (wCons (wC (.int 36)) (wCons (wC (.int 120)) (wCons (wC (.int 240)) (wCons (wC (.int 420)) wNil))))))))) wNil))))))))))
    (wSeq (wSet 3 (wCallP 0 sp_pick (wCons (wC (.int 6)) wNil)))
    (wSeq (wIfS (wAnd (wTst (wBin (wEq false) (wVar 3) (wC (.int 0)))) (wTst (wBin wGt (wVar 1) (wC (.int 1))))) (wSeq (wSet 4 (wCallP 0 sp_pick (wCons (wVar 1) wNil)))
    (wRet (wTup (wCons (wBin wAdd (wSl (wBin wIx (wVar 2) (wVar 1)) (wPart (wVar 4)) (wPart (wVar 1))) (wSl (wBin wIx (wVar 2) (wVar 1)) wNoP (wPart (wVar 4)))) (wCons (wBin wIx (wBin wIx (wVar 2) (wVar 1)) (wVar 1)) wNil))))) wNext)
    (wSeq (wSet 5 (wBin wIx (wFz (wLst (wCons (wC (.int 1)) (wCons (wC (.int 2)) (wCons (wC (.int 2)) (wCons (wC (.int 3)) (wCons (wC (.int 4)) (wCons (wC (.int 6)) (wCons (wC (.int 10)) (wCons (wC (.int 12)) (wCons (wC (.int 30)) (wCons (wC (.int 97)) (wCons (wC (.int 99)) (wCons (wC (.int 100)) wNil)))))))))))))) (wCallP 0 sp_pick (wCons (wC (.int 12)) wNil))))
    (wSeq (wIfS (wTst (wBin wLt (wVar 3) (wC (.int 3)))) (wSet 5 (wBin wMul (wVar 1) (wBin wAdd (wC (.int 1)) (wCallP 0 sp_pick (wCons (wC (.int 2)) wNil))))) wNext)
    (wSeq (wParO 6 7 (wVar 5) (wLst wNil))
    (wSeq (wFor (wRng1 (wCons (wBin wSub (wVar 1) (wC (.int 1))) wNil)) (gNm 8) (wSeq (wSet 9 (wBin wIx (wFz (wLst (wCons (wCB (wN2 gMin) (wCons (wVar 6) (wCons (wBin wDiv (wVar 5) (wVar 1)) wNil))) (wCons (wBin wMod (wCB (wN1 gInt) (wCons (wCallP 0 sp_pick (wCons (wC (.int 60)) wNil)) wNil)) (wBin wAdd (wVar 6) (wC (.int 1)))) (wCons (wC (.int 0)) wNil))))) (wBin wIx (wFz (wLst (wCons (wC (.int 0)) (wCons (wC (.int 0)) (wCons (wC (.int 0)) (wCons (wC (.int 1)) (wCons (wC (.int 1)) (wCons (wC (.int 2)) wNil)))))))) (wCallP 0 sp_pick (wCons (wC (.int 6)) wNil)))))
    (wSeq (wApp 7 (wVar 9))
    (wSet 6 (wBin wSub (wVar 6) (wVar 9))))))
    (wSeq (wSet 4 (wCallP 0 sp_pick (wCons (wVar 1) wNil)))
    (wRet (wTup (wCons (wBin wAdd (wBin wAdd (wSl (wVar 7) wNoP (wPart (wVar 4))) (wFz (wLst (wCons (wVar 6) wNil)))) (wSl (wVar 7) (wPart (wVar 4)) wNoP)) (wCons (wVar 5) wNil))))))))))))
theorem dv__law_weights (B : Bi mg) (c__law_pick : Ca P w K mg base 1 "_law_pick" ["pool", "many"] (spP K sp_pick)) {f : Addr} (cdv : Value) (A : Around) (outer : List Env) (s : Shared) (H : Hp) (E : XK) (hgd : (A.deeper (envOfC "_law_weights" (defScope s__law_weights) s.heap.objs.size f cdv)).guards = some []) (hr : Room 1 (A.deeper (envOfC "_law_weights" (defScope s__law_weights) s.heap.objs.size f cdv))) :
    XSs (cxOf CX0 P w K mg base ["pool", "many", "told", "kind", "at", "total", "left", "weights", "k", "weight"] "_law_weights" (defScope s__law_weights) f cdv A outer s H E).nox (defBody s__law_weights) (W__law_weights) := by
  have nd := sc__law_weights.nd
  exact (xs_cons (xs_set (i := 2) nd rfl (Or.inl rfl) (xl_fz (xl_lst (xa_cons (xl_fz (xl_lst xa_nil)) (xa_cons (xl_fz (xl_lst xa_nil)) (xa_cons (xl_fz (xl_lst (xa_cons xe_int (xa_cons xe_int (xa_cons xe_int xa_nil))))) (xa_cons (xl_fz (xl_lst (xa_cons xe_int (xa_cons xe_int (xa_cons xe_int (xa_cons xe_int xa_nil)))))) (xa_cons (xl_fz (xl_lst (xa_cons xe_int (xa_cons xe_int (xa_cons xe_int (xa_cons xe_int (xa_cons xe_int xa_nil))))))) (xa_cons (xl_fz (xl_lst (xa_cons xe_int (xa_cons xe_int (xa_cons xe_int (xa_cons xe_int (xa_cons xe_int (xa_cons xe_int xa_nil)))))))) (xa_cons (xl_fz (xl_lst (xa_cons xe_int (xa_cons xe_int (xa_cons xe_int (xa_cons xe_int (xa_cons xe_int (xa_cons xe_int (xa_cons xe_int xa_nil))))))))) xa_nil))))))))))
    (xs_cons (xs_set (i := 3) nd rfl (Or.inl rfl) (c_callP (i := 0) c__law_pick hgd hr (by omega) rfl (pv 0) (xa_cons xe_int xa_nil)))
    (xs_cons (xs_if (xw_t (xw_and (xt_cmp (opr_eq hr.units) op2_eq (xe_var 3) xe_int) (xw_and1 (xt_cmp op_gt o_gt (xe_var 1) xe_int)))) (xs_cons (xs_set (i := 4) nd rfl (Or.inl rfl) (c_callP (i := 0) c__law_pick hgd hr (by omega) rfl (pv 0) (xa_cons (xe_var 1) xa_nil)))
    (xs_one (xs_ret (xe_tup (xa_cons (xe_op opr_plus op2_plus (xe_slice (xe_ixR ix_seq op2_ix (xe_var 2) (xe_var 1)) (xo_some (xe_var 4)) (xo_some (xe_var 1))) (xe_slice (xe_ixR ix_seq op2_ix (xe_var 2) (xe_var 1)) xo_none (xo_some (xe_var 4)))) (xa_cons (xe_ixR ix_seq op2_ix (xe_ixR ix_seq op2_ix (xe_var 2) (xe_var 1)) (xe_var 1)) xa_nil)))))) xs_nil)
    (xs_cons (xs_set (i := 5) nd rfl (Or.inl rfl) (xe_ixR ix_seq op2_ix (xl_fz (xl_lst (xa_cons xe_int (xa_cons xe_int (xa_cons xe_int (xa_cons xe_int (xa_cons xe_int (xa_cons xe_int (xa_cons xe_int (xa_cons xe_int (xa_cons xe_int (xa_cons xe_int (xa_cons xe_int (xa_cons xe_int xa_nil)))))))))))))) (c_callP (i := 0) c__law_pick hgd hr (by omega) rfl (pv 0) (xa_cons xe_int xa_nil))))
    (xs_cons (xs_if (xt_cmp op_lt o_lt (xe_var 3) xe_int) (xs_one (xs_set (i := 5) nd rfl (Or.inl rfl) (xe_op op_mul o_mul (xe_var 1) (xe_op opr_plus op2_plus xe_int (c_callP (i := 0) c__law_pick hgd hr (by omega) rfl (pv 0) (xa_cons xe_int xa_nil)))))) xs_nil)
    (xs_cons (xs_parO (i := 6) (j := 7) rfl nd rfl rfl (by decide) rfl rfl (xe_var 5) (xl_lst xa_nil) rfl)
    (xs_cons (xs_for PassesOwn.never rfl (xi_range1 rfl B.range (xa_cons (xe_op op_sub o_sub (xe_var 1) xe_int) xa_nil)) (xg_name (i := 8) nd rfl (Or.inl rfl)) (xs_cons (xs_set (i := 9) nd rfl (Or.inl rfl) (xe_ixR ix_seq op2_ix (xl_fz (xl_lst (xa_cons (xe_callB (call_min2 rfl) opn_min2 rfl B.min bb_min (xa_cons (xe_var 6) (xa_cons (xe_op op_fdiv o_div (xe_var 5) (xe_var 1)) xa_nil))) (xa_cons (xe_op op_mod o_mod (xe_callTy call_int1 opn_int rfl B.int bb_int (xa_cons (c_callP (i := 0) c__law_pick hgd hr (by omega) rfl (pv 0) (xa_cons xe_int xa_nil)) xa_nil)) (xe_op opr_plus op2_plus (xe_var 6) xe_int)) (xa_cons xe_int xa_nil))))) (xe_ixR ix_seq op2_ix (xl_fz (xl_lst (xa_cons xe_int (xa_cons xe_int (xa_cons xe_int (xa_cons xe_int (xa_cons xe_int (xa_cons xe_int xa_nil)))))))) (c_callP (i := 0) c__law_pick hgd hr (by omega) rfl (pv 0) (xa_cons xe_int xa_nil)))))
    (xs_cons (xs_append (i := 7) (pv 7) (xe_var 9))
    (xs_one (xs_set (i := 6) nd rfl (Or.inl rfl) (xe_op op_sub o_sub (xe_var 6) (xe_var 9)))))))
    (xs_cons (xs_set (i := 4) nd rfl (Or.inl rfl) (c_callP (i := 0) c__law_pick hgd hr (by omega) rfl (pv 0) (xa_cons (xe_var 1) xa_nil)))
    (xs_one (xs_ret (xe_tup (xa_cons (xe_op opr_plus op2_plus (xe_op opr_plus op2_plus (xe_slice (xe_var 7) xo_none (xo_some (xe_var 4))) (xl_fz (xl_lst (xa_cons (xe_var 6) xa_nil)))) (xe_slice (xe_var 7) (xo_some (xe_var 4)) xo_none)) (xa_cons (xe_var 5) xa_nil)))))))))))))
abbrev s__law_source : Stmt := topS 28
theorem sc__law_source : FnScope ["weights", "total", "found", "weight", "shared"] ["weights", "total"] (defScope s__law_source) := ⟨rfl, rfl, rfl, by decide +kernel, rfl, by decide +kernel, by decide +kernel⟩
def W__law_source : DS := (wSeq (wSetO 2 (wLst wNil))
    (wSeq (wFor (wIt (wVar 0)) (gNm 3) (wSeq (wSet 4 (wCall sp_law_gcd (wCons (wVar 3) (wCons (wVar 1) wNil))))
    (wApp 2 (wTup (wCons (wBin wDiv (wVar 3) (wVar 4)) (wCons (wBin wDiv (wVar 1) (wVar 4)) wNil))))))
    (wRet (wVar 2))))
theorem dv__law_source (c__law_gcd : Ca P w K mg base 1 "_law_gcd" ["one", "other"] (spD K sp_law_gcd)) {f : Addr} (cdv : Value) (A : Around) (outer : List Env) (s : Shared) (H : Hp) (E : XK) (hgd : (A.deeper (envOfC "_law_source" (defScope s__law_source) s.heap.objs.size f cdv)).guards = some []) (hr : Room 1 (A.deeper (envOfC "_law_source" (defScope s__law_source) s.heap.objs.size f cdv))) :
    XSs (cxOf CX0 P w K mg base ["weights", "total", "found", "weight", "shared"] "_law_source" (defScope s__law_source) f cdv A outer s H E).nox (defBody s__law_source) (W__law_source) := by
  have nd := sc__law_source.nd
  exact (xs_cons (xs_setO (i := 2) nd rfl (Or.inl rfl) (xl_lst xa_nil))
    (xs_cons (xs_for PassesOwn.never rfl (xi_any (xe_var 0)) (xg_name (i := 3) nd rfl (Or.inl rfl)) (xs_cons (xs_set (i := 4) nd rfl (Or.inl rfl) (c_call c__law_gcd hgd hr (by omega) rfl (xa_cons (xe_var 3) (xa_cons (xe_var 1) xa_nil))))
    (xs_one (xs_append (i := 2) (pv 2) (xe_tup (xa_cons (xe_op op_fdiv o_div (xe_var 3) (xe_var 4)) (xa_cons (xe_op op_fdiv o_div (xe_var 1) (xe_var 4)) xa_nil)))))))
    (xs_one (xs_ret (xe_var 2)))))
abbrev s__law_is_whole : Stmt := topS 29
theorem sc__law_is_whole : FnScope ["value"] ["value"] (defScope s__law_is_whole) := ⟨rfl, rfl, rfl, by decide +kernel, rfl, by decide +kernel, by decide +kernel⟩
def W__law_is_whole : DS := (wRet (wAndV (wIsI "int" (wVar 0)) (wNotV (wIsI "bool" (wVar 0)))))
theorem dv__law_is_whole (B : Bi mg) {f : Addr} (cdv : Value) (A : Around) (outer : List Env) (s : Shared) (H : Hp) (E : XK) (hgd : (A.deeper (envOfC "_law_is_whole" (defScope s__law_is_whole) s.heap.objs.size f cdv)).guards = some []) (hr : Room 0 (A.deeper (envOfC "_law_is_whole" (defScope s__law_is_whole) s.heap.objs.size f cdv))) :
    XSs (cxOf CX0 P w K mg base ["value"] "_law_is_whole" (defScope s__law_is_whole) f cdv A outer s H E).nox (defBody s__law_is_whole) (W__law_is_whole) := by
  have nd := sc__law_is_whole.nd
  exact (xs_one (xs_ret (xe_and (xe_isI (n := "int") rfl B.isinstance rfl B.int bb_int (xe_var 0)) (xe_one (xe_not (xe_isI (n := "bool") rfl B.isinstance rfl B.bool bb_bool (xe_var 0)))))))
abbrev s__law_is_fraction : Stmt := topS 30
theorem sc__law_is_fraction : FnScope ["value", "n", "d"] ["value", "n", "d"] (defScope s__law_is_fraction) := ⟨rfl, rfl, rfl, by decide +kernel, rfl, by decide +kernel, by decide +kernel⟩
def W__law_is_fraction : DS := (wSeq (wIfS (wOr (wNot (wTru (wIsI "tuple" (wVar 0)))) (wOr (wTst (wBin (wEq true) (wCB (wN1 gLen) (wCons (wVar 0) wNil)) (wC (.int 2)))) (wOr (wNot (wTru (wCall sp_is_whole (wCons (wBin wIx (wVar 0) (wC (.int 0))) wNil)))) (wNot (wTru (wCall sp_is_whole (wCons (wBin wIx (wVar 0) (wC (.int 1))) wNil))))))) (wRet (wC (.bool false))) wNext)
    (wRet (wAndV (wBin wGe (wBin wIx (wVar 0) (wC (.int 1))) (wC (.int 1))) (wAndV (wBin (wEq false) (wBin wMulW (wBin wIx (wVar 0) (wC (.int 0))) (wVar 2)) (wBin wMulW (wVar 1) (wBin wIx (wVar 0) (wC (.int 1))))) (wBin (wEq false) (wCB (wN1 gAbs) (wCons (wCall sp_law_gcd (wCons (wBin wIx (wVar 0) (wC (.int 0))) (wCons (wBin wIx (wVar 0) (wC (.int 1))) wNil))) wNil)) (wC (.int 1)))))))
theorem dv__law_is_fraction (B : Bi mg) (c__law_gcd : Ca P w K mg base 1 "_law_gcd" ["one", "other"] (spD K sp_law_gcd)) (c__law_is_whole : Ca P w K mg base 1 "_law_is_whole" ["value"] (spD K sp_is_whole)) (mB_abs : mg "abs" = none) {f : Addr} (cdv : Value) (A : Around) (outer : List Env) (s : Shared) (H : Hp) (E : XK) (hgd : (A.deeper (envOfC "_law_is_fraction" (defScope s__law_is_fraction) s.heap.objs.size f cdv)).guards = some []) (hr : Room 1 (A.deeper (envOfC "_law_is_fraction" (defScope s__law_is_fraction) s.heap.objs.size f cdv))) :
    XSs (cxOf CX0 P w K mg base ["value", "n", "d"] "_law_is_fraction" (defScope s__law_is_fraction) f cdv A outer s H E).nox (defBody s__law_is_fraction) (W__law_is_fraction) := by
  have nd := sc__law_is_fraction.nd
  exact (xs_cons (xs_if (xw_t (xw_or (xt_not (xt_tru (xe_isI (n := "tuple") rfl B.isinstance rfl B.tuple bb_tuple (xe_var 0)))) (xw_or (xt_cmp (opr_ne hr.units) op2_ne (xe_callB call_lenA opn_len rfl B.len bb_len (xa_cons (xe_var 0) xa_nil)) xe_int) (xw_or (xt_not (xt_tru (c_call c__law_is_whole hgd hr (by omega) rfl (xa_cons (xe_ixR ix_seq op2_ix (xe_var 0) xe_int) xa_nil)))) (xw_or1 (xt_not (xt_tru (c_call c__law_is_whole hgd hr (by omega) rfl (xa_cons (xe_ixR ix_seq op2_ix (xe_var 0) xe_int) xa_nil))))))))) (xs_one (xs_ret xe_bl)) xs_nil)
    (xs_one (xs_ret (xe_and (xe_cmp op_ge o_ge (xe_ixR ix_seq op2_ix (xe_var 0) xe_int) xe_int) (xe_and (xe_cmp (opr_eq hr.units) op2_eq (xe_op op_mulW o_mulW (xe_ixR ix_seq op2_ix (xe_var 0) xe_int) (xe_var 2)) (xe_op op_mulW o_mulW (xe_var 1) (xe_ixR ix_seq op2_ix (xe_var 0) xe_int))) (xe_one (xe_cmp (opr_eq hr.units) op2_eq (xe_callB call_abs opn_abs rfl mB_abs boot_abs (xa_cons (c_call c__law_gcd hgd hr (by omega) rfl (xa_cons (xe_ixR ix_seq op2_ix (xe_var 0) xe_int) (xa_cons (xe_ixR ix_seq op2_ix (xe_var 0) xe_int) xa_nil))) xa_nil)) xe_int)))))))
abbrev s__law_machine : Stmt := topS 31
theorem sc__law_machine : FnScope ["pool", "letters", "most", "many", "table", "sign", "state"] ["pool", "letters", "most"] (defScope s__law_machine) := ⟨rfl, rfl, rfl, by decide +kernel, rfl, by decide +kernel, by decide +kernel⟩
def W__law_machine : DS := (wSeq (wSet 3 (wBin wAdd (wC (.int 1)) (wCallP 0 sp_pick (wCons (wVar 2) wNil))))
    (wSeq (wSet 4 (wFz (wLc [6] (wRng1 (wCons (wVar 3) wNil)) (gNm 6) wYes (wFz (wLc [5] (wIt (wVar 1)) (gNm 5) wYes (wCallP 0 sp_pick (wCons (wVar 3) wNil)))))))
    (wRet (wTup (wCons (wVar 4) (wCons (wFz (wLc [6] (wRng1 (wCons (wVar 3) wNil)) (gNm 6) wYes (wBin (wEq false) (wCallP 0 sp_pick (wCons (wC (.int 3)) wNil)) (wC (.int 0))))) wNil))))))
theorem dv__law_machine (B : Bi mg) (c__law_pick : Ca P w K mg base 1 "_law_pick" ["pool", "many"] (spP K sp_pick)) {f : Addr} (cdv : Value) (A : Around) (outer : List Env) (s : Shared) (H : Hp) (E : XK) (hgd : (A.deeper (envOfC "_law_machine" (defScope s__law_machine) s.heap.objs.size f cdv)).guards = some []) (hr : Room 1 (A.deeper (envOfC "_law_machine" (defScope s__law_machine) s.heap.objs.size f cdv))) :
    XSs (cxOf CX0 P w K mg base ["pool", "letters", "most", "many", "table", "sign", "state"] "_law_machine" (defScope s__law_machine) f cdv A outer s H E).nox (defBody s__law_machine) (W__law_machine) := by
  have nd := sc__law_machine.nd
  exact (xs_cons (xs_set (i := 3) nd rfl (Or.inr rfl) (xe_op opr_plus op2_plus xe_int (c_callP (i := 0) c__law_pick hgd hr (by omega) rfl (pv 0) (xa_cons (xe_var 2) xa_nil))))
    (xs_cons (xs_setLc (i := 4) (own := [(("state" : Str), 6)]) rfl nd rfl rfl (sw_true rfl rfl rfl (by decide +kernel)) (xi_range1 rfl B.range (xa_cons (xe_var 3) xa_nil)) (blkOk_by (N := ["pool", "letters", "most", "many", "table", "sign", "state"]) (sc := (defScope s__law_machine)) (by decide +kernel)) (by decide) (fun _ _ _ _ _ => (xg_name (i := 6) nd rfl (Or.inl rfl))) (fun _ _ _ _ _ => xts_nil) (fun _ _ _ _ _ => (xl_fz (xl_lc (own := [(("sign" : Str), 5)]) rfl nd (xi_any (xe_var 1)) (blkOk_by (by kernel_rfl)) (by decide) (fun _ _ _ _ _ => (xg_name (i := 5) nd rfl (Or.inl rfl))) (fun _ _ _ _ _ => xts_nil) (fun _ _ _ _ _ => (c_callP (i := 0) c__law_pick hgd hr (by omega) rfl (pv 0) (xa_cons (xe_var 3) xa_nil)))))))
    (xs_one (xs_ret (xe_tup (xa_cons (xe_var 4) (xa_cons (xl_fz (xl_lc (own := [(("state" : Str), 6)]) rfl nd (xi_range1 rfl B.range (xa_cons (xe_var 3) xa_nil)) (blkOk_by (N := ["pool", "letters", "most", "many", "table", "sign", "state"]) (sc := (defScope s__law_machine)) (by decide +kernel)) (by decide) (fun _ _ _ _ _ => (xg_name (i := 6) nd rfl (Or.inl rfl))) (fun _ _ _ _ _ => xts_nil) (fun _ _ _ _ _ => (xe_cmp (opr_eq hr.units) op2_eq (c_callP (i := 0) c__law_pick hgd hr (by omega) rfl (pv 0) (xa_cons xe_int xa_nil)) xe_int)))) xa_nil)))))))
abbrev s__law_layer : Stmt := topS 32
theorem sc__law_layer : FnScope ["letters", "length", "layer", "step", "longer", "word", "sign"] ["letters", "length"] (defScope s__law_layer) := ⟨rfl, rfl, rfl, by decide +kernel, rfl, by decide +kernel, by decide +kernel⟩
def W__law_layer : DS := (wSeq (wSet 2 (wFz (wLst (wCons (wC (.str ("" : Str))) wNil))))
    (wSeq (wFor (wRng1 (wCons (wVar 1) wNil)) (gNm 3) (wSeq (wSet 4 (wFz (wLst wNil)))
    (wSeq (wFor (wIt (wVar 2)) (gNm 5) (wSet 4 (wBin wAdd (wVar 4) (wFz (wLc [6] (wIt (wVar 0)) (gNm 6) wYes (wBin wAdd (wVar 5) (wVar 6)))))))
    (wSet 2 (wVar 4)))))
    (wRet (wVar 2))))
theorem dv__law_layer (B : Bi mg) {f : Addr} (cdv : Value) (A : Around) (outer : List Env) (s : Shared) (H : Hp) (E : XK) (hgd : (A.deeper (envOfC "_law_layer" (defScope s__law_layer) s.heap.objs.size f cdv)).guards = some []) (hr : Room 0 (A.deeper (envOfC "_law_layer" (defScope s__law_layer) s.heap.objs.size f cdv))) :
    XSs (cxOf CX0 P w K mg base ["letters", "length", "layer", "step", "longer", "word", "sign"] "_law_layer" (defScope s__law_layer) f cdv A outer s H E).nox (defBody s__law_layer) (W__law_layer) := by
  have nd := sc__law_layer.nd
  exact (xs_cons (xs_set (i := 2) nd rfl (Or.inl rfl) (xl_fz (xl_lst (xa_cons xe_str xa_nil))))
    (xs_cons (xs_for PassesOwn.never rfl (xi_range1 rfl B.range (xa_cons (xe_var 1) xa_nil)) (xg_name (i := 3) nd rfl (Or.inl rfl)) (xs_cons (xs_set (i := 4) nd rfl (Or.inl rfl) (xl_fz (xl_lst xa_nil)))
    (xs_cons (xs_for PassesOwn.never rfl (xi_any (xe_var 2)) (xg_name (i := 5) nd rfl (by first | exact Or.inl rfl | exact Or.inr rfl)) (xs_one (xs_set (i := 4) nd rfl (Or.inl rfl) (xe_op opr_plus op2_plus (xe_var 4) (xl_fz (xl_lc (own := [(("sign" : Str), 6)]) rfl nd (xi_any (xe_var 0)) (blkOk_by (N := ["letters", "length", "layer", "step", "longer", "word", "sign"]) (sc := (defScope s__law_layer)) (by decide +kernel)) (by decide) (fun _ _ _ _ _ => (xg_name (i := 6) nd rfl (Or.inl rfl))) (fun _ _ _ _ _ => xts_nil) (fun _ _ _ _ _ => (xe_op opr_plus op2_plus (xe_var 5) (xe_var 6)))))))))
    (xs_one (xs_set (i := 2) nd rfl (Or.inl rfl) (xe_var 4))))))
    (xs_one (xs_ret (xe_var 2)))))
abbrev s__law_weight : Stmt := topS 33
theorem sc__law_weight : FnScope ["letters", "weights", "word", "found", "sign"] ["letters", "weights", "word"] (defScope s__law_weight) := ⟨rfl, rfl, rfl, by decide +kernel, rfl, by decide +kernel, by decide +kernel⟩
def W__law_weight : DS := (wSeq (wSet 3 (wC (.int 1)))
    (wSeq (wFor (wIt (wVar 2)) (gNm 4) (wSet 3 (wBin wMul (wVar 3) (wBin wIx (wVar 1) (wIndex (wVar 0) (wVar 4))))))
    (wRet (wVar 3))))
theorem dv__law_weight {f : Addr} (cdv : Value) (A : Around) (outer : List Env) (s : Shared) (H : Hp) (E : XK) (hgd : (A.deeper (envOfC "_law_weight" (defScope s__law_weight) s.heap.objs.size f cdv)).guards = some []) (hr : Room 0 (A.deeper (envOfC "_law_weight" (defScope s__law_weight) s.heap.objs.size f cdv))) :
    XSs (cxOf CX0 P w K mg base ["letters", "weights", "word", "found", "sign"] "_law_weight" (defScope s__law_weight) f cdv A outer s H E).nox (defBody s__law_weight) (W__law_weight) := by
  have nd := sc__law_weight.nd
  exact (xs_cons (xs_set (i := 3) nd rfl (Or.inl rfl) xe_int)
    (xs_cons (xs_for PassesOwn.never rfl (xi_any (xe_var 2)) (xg_name (i := 4) nd rfl (Or.inl rfl)) (xs_one (xs_set (i := 3) nd rfl (Or.inl rfl) (xe_op op_mul o_mul (xe_var 3) (xe_ixR ix_seq op2_ix (xe_var 1) (xe_index (xe_var 0) (xe_var 4)))))))
    (xs_one (xs_ret (xe_var 3)))))
abbrev s__law_taken : Stmt := topS 34
theorem sc__law_taken : FnScope ["letters", "machine", "word", "state", "found", "sign"] ["letters", "machine", "word"] (defScope s__law_taken) := ⟨rfl, rfl, rfl, by decide +kernel, rfl, by decide +kernel, by decide +kernel⟩
def W__law_taken : DS := (wSeq (wSet 3 (wC (.int 0)))
    (wSeq (wSetO 4 (wLst (wCons (wBin wIx (wBin wIx (wVar 1) (wC (.int 1))) (wC (.int 0))) wNil)))
    (wSeq (wFor (wIt (wVar 2)) (gNm 5) (wSeq (wSet 3 (wBin wIx (wBin wIx (wBin wIx (wVar 1) (wC (.int 0))) (wVar 3)) (wIndex (wVar 0) (wVar 5))))
    (wApp 4 (wBin wIx (wBin wIx (wVar 1) (wC (.int 1))) (wVar 3)))))
    (wRet (wVar 4)))))
theorem dv__law_taken {f : Addr} (cdv : Value) (A : Around) (outer : List Env) (s : Shared) (H : Hp) (E : XK) (hgd : (A.deeper (envOfC "_law_taken" (defScope s__law_taken) s.heap.objs.size f cdv)).guards = some []) (hr : Room 0 (A.deeper (envOfC "_law_taken" (defScope s__law_taken) s.heap.objs.size f cdv))) :
    XSs (cxOf CX0 P w K mg base ["letters", "machine", "word", "state", "found", "sign"] "_law_taken" (defScope s__law_taken) f cdv A outer s H E).nox (defBody s__law_taken) (W__law_taken) := by
  have nd := sc__law_taken.nd
  exact (xs_cons (xs_set (i := 3) nd rfl (Or.inl rfl) xe_int)
    (xs_cons (xs_setO (i := 4) nd rfl (Or.inl rfl) (xl_lst (xa_cons (xe_ixR ix_seq op2_ix (xe_ixR ix_seq op2_ix (xe_var 1) xe_int) xe_int) xa_nil)))
    (xs_cons (xs_for PassesOwn.never rfl (xi_any (xe_var 2)) (xg_name (i := 5) nd rfl (Or.inl rfl)) (xs_cons (xs_set (i := 3) nd rfl (Or.inl rfl) (xe_ixR ix_seq op2_ix (xe_ixR ix_seq op2_ix (xe_ixR ix_seq op2_ix (xe_var 1) xe_int) (xe_var 3)) (xe_index (xe_var 0) (xe_var 5))))
    (xs_one (xs_append (i := 4) (pv 4) (xe_ixR ix_seq op2_ix (xe_ixR ix_seq op2_ix (xe_var 1) xe_int) (xe_var 3))))))
    (xs_one (xs_ret (xe_var 4))))))
abbrev s__law_sums : Stmt := topS 35
theorem sc__law_sums : FnScope ["letters", "weights", "machine", "n", "taken", "begun", "word", "weight", "told"] ["letters", "weights", "machine", "n"] (defScope s__law_sums) := ⟨rfl, rfl, rfl, by decide +kernel, rfl, by decide +kernel, by decide +kernel⟩
def W__law_sums : DS := (wSeq (wAsgT (wTup (wCons (wC (.int 0)) (wCons (wC (.int 0)) wNil))) (gTp 2 (gCs (gNm 4) (gCs (gNm 5) gNl))))
    (wSeq (wFor (wIt (wCall sp_law_layer (wCons (wVar 0) (wCons (wVar 3) wNil)))) (gNm 6) (wSeq (wSet 7 (wCall sp_law_weight (wCons (wVar 0) (wCons (wVar 1) (wCons (wVar 6) wNil)))))
    (wSeq (wSet 8 (wCall sp_law_taken (wCons (wVar 0) (wCons (wVar 2) (wCons (wVar 6) wNil)))))
    (wSeq (wSet 4 (wBin wAdd (wVar 4) (wBin wMul (wVar 7) (wCB (wN1 gInt) (wCons (wBin wIx (wVar 8) (wVar 3)) wNil)))))
    (wSet 5 (wBin wAdd (wVar 5) (wBin wMul (wVar 7) (wCB (wN1 gInt) (wCons (wCB (wN1 gAny) (wCons (wVar 8) wNil)) wNil)))))))))
    (wRet (wTup (wCons (wVar 4) (wCons (wVar 5) wNil))))))
theorem dv__law_sums (B : Bi mg) (c__law_layer : Ca P w K mg base 1 "_law_layer" ["letters", "length"] (spD K sp_law_layer)) (c__law_taken : Ca P w K mg base 1 "_law_taken" ["letters", "machine", "word"] (spD K sp_law_taken)) (c__law_weight : Ca P w K mg base 1 "_law_weight" ["letters", "weights", "word"] (spD K sp_law_weight)) {f : Addr} (cdv : Value) (A : Around) (outer : List Env) (s : Shared) (H : Hp) (E : XK) (hgd : (A.deeper (envOfC "_law_sums" (defScope s__law_sums) s.heap.objs.size f cdv)).guards = some []) (hr : Room 1 (A.deeper (envOfC "_law_sums" (defScope s__law_sums) s.heap.objs.size f cdv))) :
    XSs (cxOf CX0 P w K mg base ["letters", "weights", "machine", "n", "taken", "begun", "word", "weight", "told"] "_law_sums" (defScope s__law_sums) f cdv A outer s H E).nox (defBody s__law_sums) (W__law_sums) := by
  have nd := sc__law_sums.nd
  exact (xs_cons (xs_asgT (xe_tup (xa_cons xe_int (xa_cons xe_int xa_nil))) (xg_tup rfl (xgs_cons (xg_name (i := 4) nd rfl (Or.inl rfl)) (xgs_cons (xg_name (i := 5) nd rfl (Or.inl rfl)) xgs_nil))))
    (xs_cons (xs_for PassesOwn.never rfl (xi_any (c_call c__law_layer hgd hr (by omega) rfl (xa_cons (xe_var 0) (xa_cons (xe_var 3) xa_nil)))) (xg_name (i := 6) nd rfl (Or.inl rfl)) (xs_cons (xs_set (i := 7) nd rfl (Or.inl rfl) (c_call c__law_weight hgd hr (by omega) rfl (xa_cons (xe_var 0) (xa_cons (xe_var 1) (xa_cons (xe_var 6) xa_nil)))))
    (xs_cons (xs_set (i := 8) nd rfl (Or.inl rfl) (c_call c__law_taken hgd hr (by omega) rfl (xa_cons (xe_var 0) (xa_cons (xe_var 2) (xa_cons (xe_var 6) xa_nil)))))
    (xs_cons (xs_set (i := 4) nd rfl (Or.inl rfl) (xe_op opr_plus op2_plus (xe_var 4) (xe_op op_mul o_mul (xe_var 7) (xe_callTy call_int1 opn_int rfl B.int bb_int (xa_cons (xe_ixR ix_seq op2_ix (xe_var 8) (xe_var 3)) xa_nil)))))
    (xs_one (xs_set (i := 5) nd rfl (Or.inl rfl) (xe_op opr_plus op2_plus (xe_var 5) (xe_op op_mul o_mul (xe_var 7) (xe_callTy call_int1 opn_int rfl B.int bb_int (xa_cons (xe_callB (cr_any rfl) opn_any rfl B.any bb_any (xa_cons (xe_var 8) xa_nil)) xa_nil))))))))))
    (xs_one (xs_ret (xe_tup (xa_cons (xe_var 4) (xa_cons (xe_var 5) xa_nil)))))))
abbrev s__law_rows : Stmt := topS 36
theorem sc__law_rows : FnScope ["weights", "total", "machine", "n", "taken", "begun", "power", "step", "number", "one", "row", "target", "weight"] ["weights", "total", "machine", "n"] (defScope s__law_rows) := ⟨rfl, rfl, rfl, by decide +kernel, rfl, by decide +kernel, by decide +kernel⟩
def W__law_rows : DS := (wSeq (wSet 4 (wFz (wLc [9] (wIt (wBin wIx (wVar 2) (wC (.int 1)))) (gNm 9) wYes (wCB (wN1 gInt) (wCons (wVar 9) wNil)))))
    (wSeq (wSet 5 (wCB (wN1 gList) (wCons (wVar 4) wNil)))
    (wSeq (wSet 6 (wC (.int 1)))
    (wSeq (wFor (wRng1 (wCons (wVar 3) wNil)) (gNm 7) (wSeq (wSet 6 (wBin wMul (wVar 6) (wVar 1)))
    (wSeq (wSet 4 (wFz (wLc [10] (wIt (wBin wIx (wVar 2) (wC (.int 0)))) (gNm 10) wYes (wCB (wN1 gSum) (wCons (wFz (wLc [12, 11] (wZip (wCons (wVar 0) (wCons (wVar 10) wNil))) (gTp 2 (gCs (gNm 12) (gCs (gNm 11) gNl))) wYes (wBin wMul (wVar 12) (wBin wIx (wVar 4) (wVar 11))))) wNil)))))
    (wSeq (wSet 5 (wFz (wLc [10] (wIt (wBin wIx (wVar 2) (wC (.int 0)))) (gNm 10) wYes (wCB (wN1 gSum) (wCons (wFz (wLc [12, 11] (wZip (wCons (wVar 0) (wCons (wVar 10) wNil))) (gTp 2 (gCs (gNm 12) (gCs (gNm 11) gNl))) wYes (wBin wMul (wVar 12) (wBin wIx (wVar 5) (wVar 11))))) wNil)))))
    (wSet 5 (wFz (wLc [8, 9] (wZip (wCons (wVar 5) (wCons (wBin wIx (wVar 2) (wC (.int 1))) wNil))) (gTp 2 (gCs (gNm 8) (gCs (gNm 9) gNl))) wYes (wBin wIx (wFz (wLst (wCons (wVar 8) (wCons (wVar 6) wNil)))) (wCB (wN1 gInt) (wCons (wVar 9) wNil))))))))))
    (wRet (wTup (wCons (wBin wIx (wVar 4) (wC (.int 0))) (wCons (wBin wIx (wVar 5) (wC (.int 0))) wNil))))))))
theorem dv__law_rows (B : Bi mg) {f : Addr} (cdv : Value) (A : Around) (outer : List Env) (s : Shared) (H : Hp) (E : XK) (hgd : (A.deeper (envOfC "_law_rows" (defScope s__law_rows) s.heap.objs.size f cdv)).guards = some []) (hr : Room 0 (A.deeper (envOfC "_law_rows" (defScope s__law_rows) s.heap.objs.size f cdv))) :
    XSs (cxOf CX0 P w K mg base ["weights", "total", "machine", "n", "taken", "begun", "power", "step", "number", "one", "row", "target", "weight"] "_law_rows" (defScope s__law_rows) f cdv A outer s H E).nox (defBody s__law_rows) (W__law_rows) := by
  have nd := sc__law_rows.nd
  exact (xs_cons (xs_set (i := 4) nd rfl (Or.inr rfl) (xl_fz (xl_lc (own := [(("one" : Str), 9)]) rfl nd (xi_any (xe_ixR ix_seq op2_ix (xe_var 2) xe_int)) (blkOk_by (N := ["weights", "total", "machine", "n", "taken", "begun", "power", "step", "number", "one", "row", "target", "weight"]) (sc := (defScope s__law_rows)) (by decide +kernel)) (by decide) (fun _ _ _ _ _ => (xg_name (i := 9) nd rfl (Or.inl rfl))) (fun _ _ _ _ _ => xts_nil) (fun _ _ _ _ _ => (xe_callTy call_int1 opn_int rfl B.int bb_int (xa_cons (xe_var 9) xa_nil))))))
    (xs_cons (xs_set (i := 5) nd rfl (Or.inr rfl) (xe_callTy (cr_listA hr) opn_list rfl B.list bb_list (xa_cons (xe_var 4) xa_nil)))
    (xs_cons (xs_set (i := 6) nd rfl (Or.inr rfl) xe_int)
    (xs_cons (xs_for PassesOwn.never rfl (xi_range1 rfl B.range (xa_cons (xe_var 3) xa_nil)) (xg_name (i := 7) nd rfl (Or.inl rfl)) (xs_cons (xs_set (i := 6) nd rfl (Or.inr rfl) (xe_op op_mul o_mul (xe_var 6) (xe_var 1)))
    (xs_cons (xs_set (i := 4) nd rfl (Or.inr rfl) (xl_fz (xl_lc (own := [(("row" : Str), 10)]) rfl nd (xi_any (xe_ixR ix_seq op2_ix (xe_var 2) xe_int)) (blkOk_by (N := ["weights", "total", "machine", "n", "taken", "begun", "power", "step", "number", "one", "row", "target", "weight"]) (sc := (defScope s__law_rows)) (by decide +kernel)) (by decide) (fun _ _ _ _ _ => (xg_name (i := 10) nd rfl (Or.inl rfl))) (fun _ _ _ _ _ => xts_nil) (fun _ _ _ _ _ => (xe_callB (cr_sum rfl) opn_sum rfl B.sum bb_sum (xa_cons (xl_fz (xl_lc (own := [(("weight" : Str), 12), (("target" : Str), 11)]) rfl nd (xi_zip rfl B.zip (xa_cons (xe_var 0) (xa_cons (xe_var 10) xa_nil))) (blkOk_by (by kernel_rfl)) (by decide) (fun _ _ _ _ _ => (xg_tup rfl (xgs_cons (xg_name (i := 12) nd rfl (Or.inl rfl)) (xgs_cons (xg_name (i := 11) nd rfl (Or.inl rfl)) xgs_nil)))) (fun _ _ _ _ _ => xts_nil) (fun _ _ _ _ _ => (xe_op op_mul o_mul (xe_var 12) (xe_ixR ix_seq op2_ix (xe_var 4) (xe_var 11)))))) xa_nil))))))
    (xs_cons (xs_set (i := 5) nd rfl (Or.inr rfl) (xl_fz (xl_lc (own := [(("row" : Str), 10)]) rfl nd (xi_any (xe_ixR ix_seq op2_ix (xe_var 2) xe_int)) (blkOk_by (N := ["weights", "total", "machine", "n", "taken", "begun", "power", "step", "number", "one", "row", "target", "weight"]) (sc := (defScope s__law_rows)) (by decide +kernel)) (by decide) (fun _ _ _ _ _ => (xg_name (i := 10) nd rfl (Or.inl rfl))) (fun _ _ _ _ _ => xts_nil) (fun _ _ _ _ _ => (xe_callB (cr_sum rfl) opn_sum rfl B.sum bb_sum (xa_cons (xl_fz (xl_lc (own := [(("weight" : Str), 12), (("target" : Str), 11)]) rfl nd (xi_zip rfl B.zip (xa_cons (xe_var 0) (xa_cons (xe_var 10) xa_nil))) (blkOk_by (by kernel_rfl)) (by decide) (fun _ _ _ _ _ => (xg_tup rfl (xgs_cons (xg_name (i := 12) nd rfl (Or.inl rfl)) (xgs_cons (xg_name (i := 11) nd rfl (Or.inl rfl)) xgs_nil)))) (fun _ _ _ _ _ => xts_nil) (fun _ _ _ _ _ => (xe_op op_mul o_mul (xe_var 12) (xe_ixR ix_seq op2_ix (xe_var 5) (xe_var 11)))))) xa_nil))))))
    (xs_one (xs_set (i := 5) nd rfl (Or.inr rfl) (xl_fz (xl_lc (own := [(("number" : Str), 8), (("one" : Str), 9)]) rfl nd (xi_zip rfl B.zip (xa_cons (xe_var 5) (xa_cons (xe_ixR ix_seq op2_ix (xe_var 2) xe_int) xa_nil))) (blkOk_by (N := ["weights", "total", "machine", "n", "taken", "begun", "power", "step", "number", "one", "row", "target", "weight"]) (sc := (defScope s__law_rows)) (by decide +kernel)) (by decide) (fun _ _ _ _ _ => (xg_tup rfl (xgs_cons (xg_name (i := 8) nd rfl (Or.inl rfl)) (xgs_cons (xg_name (i := 9) nd rfl (Or.inl rfl)) xgs_nil)))) (fun _ _ _ _ _ => xts_nil) (fun _ _ _ _ _ => (xe_ixR ix_seq op2_ix (xl_fz (xl_lst (xa_cons (xe_var 8) (xa_cons (xe_var 6) xa_nil)))) (xe_callTy call_int1 opn_int rfl B.int bb_int (xa_cons (xe_var 9) xa_nil))))))))))))
    (xs_one (xs_ret (xe_tup (xa_cons (xe_ixR ix_seq op2_ix (xe_var 4) xe_int) (xa_cons (xe_ixR ix_seq op2_ix (xe_var 5) xe_int) xa_nil)))))))))
abbrev s__law_wrong : Stmt := topS 38
theorem sc__law_wrong : FnScope ["pool", "letters", "source", "values", "at", "kind", "pair", "row", "spoilt", "longer", "n", "d", "other", "one", "sign"] ["pool", "letters", "source"] (defScope s__law_wrong) := ⟨rfl, rfl, rfl, by decide +kernel, rfl, by decide +kernel, by decide +kernel⟩
def W__law_wrong : DS := (wSeq (wSet 3 (wFz (wLst (wCons (wC .none) (wCons (wC (.int 0)) (wCons (wC (.int 1)) (wCons (wC (.str ("ab" : Str))) (wCons (wTup (wCons (wC (.int 1)) wNil)) (wCons (wTup (wCons (wC (.int 1)) (wCons (wC (.int 2)) (wCons (wC (.int 3)) wNil)))) (wCons (wFz (wLst (wCons (wC (.int 1)) (wCons (wC (.int 2)) wNil)))) (wCons (wTup (wCons (wC (.int 1)) (wCons (wC (.bool true)) wNil))) (wCons (wTup (wCons (wC (.bool false)) (wCons (wC (.int 1)) wNil))) (wCons (wTup (wCons (wC (.int 2)) (wCons (wC (.int 4)) wNil))) (wCons (wTup (wCons (wC (.int 0)) (wCons (wC (.int 2)) wNil))) (wCons (wTup (wCons (wUn wNeg (wC (.int 1))) (wCons (wC (.int 2)) wNil))) (wCons (wTup (wCons (wC (.int 3)) (wCons (wC (.int 2)) wNil))) (wCons (wTup (wCons (wC (.int 1)) (wCons (wC (.int 0)) wNil))) (wCons (wTup (wCons (wUn wNeg (wC (.int 1))) (wCons (wUn wNeg (wC (.int 2))) wNil))) (wCons (wTup (wCons (wC (.int 1)) (wCons (wC (.int 101)) wNil))) (wCons (wTup (wCons (wC (.int 0)) (wCons (wUn wNeg (wC (.int 1))) wNil))) (wCons (wTup (wCons (wC (.str ("a" : Str))) (wCons (wC (.str ("b" : Str))) wNil))) wNil)))))))))))))))))))))
    (wSeq (wSet 4 (wCallP 0 sp_pick (wCons (wCB (wN1 gLen) (wCons (wVar 1) wNil)) wNil)))
    (wSeq (wSet 5 (wCallP 0 sp_pick (wCons (wC (.int 7)) wNil)))
    (wSeq (wIfS (wAnd (wTst (wBin (wEq false) (wVar 5) (wC (.int 6)))) (wTst (wBin wGt (wCB (wN1 gLen) (wCons (wVar 1) wNil)) (wC (.int 1))))) (wSeq (wSet 6 (wBin wIx (wFz (wLst (wCons (wFz (wLst (wCons (wTup (wCons (wC (.int 1)) (wCons (wC (.int 101)) wNil))) (wCons (wTup (wCons (wC (.int 100)) (wCons (wC (.int 101)) wNil))) wNil)))) (wCons (wFz (wLst (wCons (wTup (wCons (wC (.int 3)) (wCons (wC (.int 2)) wNil))) (wCons (wTup (wCons (wUn wNeg (wC (.int 1))) (wCons (wC (.int 2)) wNil))) wNil)))) (wCons (wFz (wLst (wCons (wTup (wCons (wUn wNeg (wC (.int 1))) (wCons (wC (.int 1)) wNil))) (wCons (wTup (wCons (wC (.int 2)) (wCons (wC (.int 1)) wNil))) wNil)))) wNil))))) (wCallP 0 sp_pick (wCons (wC (.int 3)) wNil))))
    (wSeq (wSetO 7 (wLc [14] (wIt (wVar 1)) (gNm 14) wYes (wTup (wCons (wC (.int 0)) (wCons (wC (.int 1)) wNil)))))
    (wSeq (wItem 7 (wVar 4) (wBin wIx (wVar 6) (wC (.int 0))))
    (wSeq (wItem 7 (wBin wMod (wCB (wN1 gInt) (wCons (wBin wAdd (wVar 4) (wC (.int 1))) wNil)) (wCB (wN1 gLen) (wCons (wVar 1) wNil))) (wBin wIx (wVar 6) (wC (.int 1))))
    (wRet (wTup (wCons (wVar 7) (wCons (wTup (wCons (wC (.str ("refused" : Str))) (wCons (wC (.str ("number" : Str))) wNil))) wNil)))))))) wNext)
    (wSeq (wSet 8 (wBin wAdd (wBin wAdd (wSl (wVar 2) wNoP (wPart (wVar 4))) (wFz (wLst (wCons (wBin wIx (wVar 3) (wCallP 0 sp_pick (wCons (wC (.int 18)) wNil))) wNil)))) (wSl (wVar 2) (wPart (wBin wAdd (wVar 4) (wC (.int 1)))) wNoP)))
    (wSeq (wSet 9 (wBin wIx (wFz (wLst (wCons (wBin wAdd (wVar 2) (wFz (wLst (wCons (wTup (wCons (wC (.int 0)) (wCons (wC (.int 1)) wNil))) wNil)))) (wCons (wSl (wVar 2) wNoP (wPart (wUn wNeg (wC (.int 1))))) (wCons (wBin wAdd (wVar 8) (wFz (wLst (wCons (wTup (wCons (wC (.int 0)) (wCons (wC (.int 1)) wNil))) wNil)))) (wCons (wBin wAdd (wVar 2) (wFz (wLst (wCons (wC .none) wNil)))) (wCons (wBin wAdd (wVar 2) (wSl (wVar 2) wNoP (wPart (wC (.int 1))))) wNil))))))) (wCallP 0 sp_pick (wCons (wC (.int 5)) wNil))))
    (wSeq (wIfS (wTst (wBin wLt (wVar 5) (wC (.int 2)))) (wRet (wTup (wCons (wVar 9) (wCons (wTup (wCons (wC (.str ("refused" : Str))) (wCons (wC (.str ("size" : Str))) (wCons (wCB (wN1 gLen) (wCons (wVar 9) wNil)) wNil)))) wNil)))) wNext)
    (wSeq (wIfS (wTst (wBin wLt (wVar 5) (wC (.int 5)))) (wRet (wTup (wCons (wVar 8) (wCons (wTup (wCons (wC (.str ("refused" : Str))) (wCons (wC (.str ("number" : Str))) wNil))) wNil)))) wNext)
    (wSeq (wAsgT (wBin wIx (wVar 2) (wVar 4)) (gTp 2 (gCs (gNm 10) (gCs (gNm 11) gNl))))
    (wSeq (wSet 12 (wFz (wLst (wCons (wTup (wCons (wC (.int 0)) (wCons (wC (.int 1)) wNil))) (wCons (wTup (wCons (wC (.int 1)) (wCons (wC (.int 1)) wNil))) (wCons (wTup (wCons (wC (.int 99)) (wCons (wC (.int 100)) wNil))) (wCons (wTup (wCons (wC (.int 1)) (wCons (wC (.int 100)) wNil))) (wCons (wTup (wCons (wC (.int 1)) (wCons (wC (.int 2)) wNil))) wNil))))))))
    (wSeq (wSet 12 (wFz (wLc [13] (wIt (wVar 12)) (gNm 13) (wTst (wBin (wEq true) (wVar 13) (wTup (wCons (wVar 10) (wCons (wVar 11) wNil))))) (wVar 13))))
    (wRet (wTup (wCons (wBin wAdd (wBin wAdd (wSl (wVar 2) wNoP (wPart (wVar 4))) (wFz (wLst (wCons (wBin wIx (wVar 12) (wCallP 0 sp_pick (wCons (wC (.int 4)) wNil))) wNil)))) (wSl (wVar 2) (wPart (wBin wAdd (wVar 4) (wC (.int 1)))) wNoP)) (wCons (wTup (wCons (wC (.str ("refused" : Str))) (wCons (wC (.str ("number" : Str))) wNil))) wNil)))))))))))))))
theorem dv__law_wrong (B : Bi mg) (c__law_pick : Ca P w K mg base 1 "_law_pick" ["pool", "many"] (spP K sp_pick)) {f : Addr} (cdv : Value) (A : Around) (outer : List Env) (s : Shared) (H : Hp) (E : XK) (hgd : (A.deeper (envOfC "_law_wrong" (defScope s__law_wrong) s.heap.objs.size f cdv)).guards = some []) (hr : Room 1 (A.deeper (envOfC "_law_wrong" (defScope s__law_wrong) s.heap.objs.size f cdv))) :
    XSs (cxOf CX0 P w K mg base ["pool", "letters", "source", "values", "at", "kind", "pair", "row", "spoilt", "longer", "n", "d", "other", "one", "sign"] "_law_wrong" (defScope s__law_wrong) f cdv A outer s H E).nox (defBody s__law_wrong) (W__law_wrong) := by
  have nd := sc__law_wrong.nd
  exact (xs_cons (xs_set (i := 3) nd rfl (Or.inl rfl) (xl_fz (xl_lst (xa_cons xe_non (xa_cons xe_int (xa_cons xe_int (xa_cons xe_str (xa_cons (xe_tup (xa_cons xe_int xa_nil)) (xa_cons (xe_tup (xa_cons xe_int (xa_cons xe_int (xa_cons xe_int xa_nil)))) (xa_cons (xl_fz (xl_lst (xa_cons xe_int (xa_cons xe_int xa_nil)))) (xa_cons (xe_tup (xa_cons xe_int (xa_cons xe_bl xa_nil))) (xa_cons (xe_tup (xa_cons xe_bl (xa_cons xe_int xa_nil))) (xa_cons (xe_tup (xa_cons xe_int (xa_cons xe_int xa_nil))) (xa_cons (xe_tup (xa_cons xe_int (xa_cons xe_int xa_nil))) (xa_cons (xe_tup (xa_cons (xe_un un_neg o_neg xe_int) (xa_cons xe_int xa_nil))) (xa_cons (xe_tup (xa_cons xe_int (xa_cons xe_int xa_nil))) (xa_cons (xe_tup (xa_cons xe_int (xa_cons xe_int xa_nil))) (xa_cons (xe_tup (xa_cons (xe_un un_neg o_neg xe_int) (xa_cons (xe_un un_neg o_neg xe_int) xa_nil))) (xa_cons (xe_tup (xa_cons xe_int (xa_cons xe_int xa_nil))) (xa_cons (xe_tup (xa_cons xe_int (xa_cons (xe_un un_neg o_neg xe_int) xa_nil))) (xa_cons (xe_tup (xa_cons xe_str (xa_cons xe_str xa_nil))) xa_nil)))))))))))))))))))))
    (xs_cons (xs_set (i := 4) nd rfl (Or.inl rfl) (c_callP (i := 0) c__law_pick hgd hr (by omega) rfl (pv 0) (xa_cons (xe_callB call_lenA opn_len rfl B.len bb_len (xa_cons (xe_var 1) xa_nil)) xa_nil)))
    (xs_cons (xs_set (i := 5) nd rfl (Or.inl rfl) (c_callP (i := 0) c__law_pick hgd hr (by omega) rfl (pv 0) (xa_cons xe_int xa_nil)))
    (xs_cons (xs_if (xw_t (xw_and (xt_cmp (opr_eq hr.units) op2_eq (xe_var 5) xe_int) (xw_and1 (xt_cmp op_gt o_gt (xe_callB call_lenA opn_len rfl B.len bb_len (xa_cons (xe_var 1) xa_nil)) xe_int)))) (xs_cons (xs_set (i := 6) nd rfl (Or.inl rfl) (xe_ixR ix_seq op2_ix (xl_fz (xl_lst (xa_cons (xl_fz (xl_lst (xa_cons (xe_tup (xa_cons xe_int (xa_cons xe_int xa_nil))) (xa_cons (xe_tup (xa_cons xe_int (xa_cons xe_int xa_nil))) xa_nil)))) (xa_cons (xl_fz (xl_lst (xa_cons (xe_tup (xa_cons xe_int (xa_cons xe_int xa_nil))) (xa_cons (xe_tup (xa_cons (xe_un un_neg o_neg xe_int) (xa_cons xe_int xa_nil))) xa_nil)))) (xa_cons (xl_fz (xl_lst (xa_cons (xe_tup (xa_cons (xe_un un_neg o_neg xe_int) (xa_cons xe_int xa_nil))) (xa_cons (xe_tup (xa_cons xe_int (xa_cons xe_int xa_nil))) xa_nil)))) xa_nil))))) (c_callP (i := 0) c__law_pick hgd hr (by omega) rfl (pv 0) (xa_cons xe_int xa_nil))))
    (xs_cons (xs_setLcO (i := 7) (own := [(("sign" : Str), 14)]) rfl nd rfl rfl (sw_true rfl rfl rfl (by decide +kernel)) (xi_any (xe_var 1)) (blkOk_by (N := ["pool", "letters", "source", "values", "at", "kind", "pair", "row", "spoilt", "longer", "n", "d", "other", "one", "sign"]) (sc := (defScope s__law_wrong)) (by decide +kernel)) (by decide) (fun _ _ _ _ _ => (xg_name (i := 14) nd rfl (Or.inl rfl))) (fun _ _ _ _ _ => xts_nil) (fun _ _ _ _ _ => (xe_tup (xa_cons xe_int (xa_cons xe_int xa_nil)))))
    (xs_cons (xs_item (i := 7) (pv 7) (xe_var 4) (xe_ixR ix_seq op2_ix (xe_var 6) xe_int))
    (xs_cons (xs_item (i := 7) (pv 7) (xe_op op_mod o_mod (xe_callTy call_int1 opn_int rfl B.int bb_int (xa_cons (xe_op opr_plus op2_plus (xe_var 4) xe_int) xa_nil)) (xe_callB call_lenA opn_len rfl B.len bb_len (xa_cons (xe_var 1) xa_nil))) (xe_ixR ix_seq op2_ix (xe_var 6) xe_int))
    (xs_one (xs_ret (xe_tup (xa_cons (xe_var 7) (xa_cons (xe_tup (xa_cons xe_str (xa_cons xe_str xa_nil))) xa_nil))))))))) xs_nil)
    (xs_cons (xs_set (i := 8) nd rfl (Or.inl rfl) (xe_op opr_plus op2_plus (xe_op opr_plus op2_plus (xe_slice (xe_var 2) xo_none (xo_some (xe_var 4))) (xl_fz (xl_lst (xa_cons (xe_ixR ix_seq op2_ix (xe_var 3) (c_callP (i := 0) c__law_pick hgd hr (by omega) rfl (pv 0) (xa_cons xe_int xa_nil))) xa_nil)))) (xe_slice (xe_var 2) (xo_some (xe_op opr_plus op2_plus (xe_var 4) xe_int)) xo_none)))
    (xs_cons (xs_set (i := 9) nd rfl (Or.inl rfl) (xe_ixR ix_seq op2_ix (xl_fz (xl_lst (xa_cons (xe_op opr_plus op2_plus (xe_var 2) (xl_fz (xl_lst (xa_cons (xe_tup (xa_cons xe_int (xa_cons xe_int xa_nil))) xa_nil)))) (xa_cons (xe_slice (xe_var 2) xo_none (xo_some (xe_un un_neg o_neg xe_int))) (xa_cons (xe_op opr_plus op2_plus (xe_var 8) (xl_fz (xl_lst (xa_cons (xe_tup (xa_cons xe_int (xa_cons xe_int xa_nil))) xa_nil)))) (xa_cons (xe_op opr_plus op2_plus (xe_var 2) (xl_fz (xl_lst (xa_cons xe_non xa_nil)))) (xa_cons (xe_op opr_plus op2_plus (xe_var 2) (xe_slice (xe_var 2) xo_none (xo_some xe_int))) xa_nil))))))) (c_callP (i := 0) c__law_pick hgd hr (by omega) rfl (pv 0) (xa_cons xe_int xa_nil))))
    (xs_cons (xs_if (xt_cmp op_lt o_lt (xe_var 5) xe_int) (xs_one (xs_ret (xe_tup (xa_cons (xe_var 9) (xa_cons (xe_tup (xa_cons xe_str (xa_cons xe_str (xa_cons (xe_callB call_lenA opn_len rfl B.len bb_len (xa_cons (xe_var 9) xa_nil)) xa_nil)))) xa_nil))))) xs_nil)
    (xs_cons (xs_if (xt_cmp op_lt o_lt (xe_var 5) xe_int) (xs_one (xs_ret (xe_tup (xa_cons (xe_var 8) (xa_cons (xe_tup (xa_cons xe_str (xa_cons xe_str xa_nil))) xa_nil))))) xs_nil)
    (xs_cons (xs_asgT (xe_ixR ix_seq op2_ix (xe_var 2) (xe_var 4)) (xg_tup rfl (xgs_cons (xg_name (i := 10) nd rfl (by first | exact Or.inl rfl | exact Or.inr rfl)) (xgs_cons (xg_name (i := 11) nd rfl (by first | exact Or.inl rfl | exact Or.inr rfl)) xgs_nil))))
    (xs_cons (xs_set (i := 12) nd rfl (Or.inl rfl) (xl_fz (xl_lst (xa_cons (xe_tup (xa_cons xe_int (xa_cons xe_int xa_nil))) (xa_cons (xe_tup (xa_cons xe_int (xa_cons xe_int xa_nil))) (xa_cons (xe_tup (xa_cons xe_int (xa_cons xe_int xa_nil))) (xa_cons (xe_tup (xa_cons xe_int (xa_cons xe_int xa_nil))) (xa_cons (xe_tup (xa_cons xe_int (xa_cons xe_int xa_nil))) xa_nil))))))))
    (xs_cons (xs_setLc (i := 12) (own := [(("one" : Str), 13)]) rfl nd rfl rfl (sw_true rfl rfl rfl (by decide +kernel)) (xi_any (xe_var 12)) (blkOk_by (N := ["pool", "letters", "source", "values", "at", "kind", "pair", "row", "spoilt", "longer", "n", "d", "other", "one", "sign"]) (sc := (defScope s__law_wrong)) (by decide +kernel)) (by decide) (fun _ _ _ _ _ => (xg_name (i := 13) nd rfl (Or.inl rfl))) (fun _ _ _ _ _ => (xts_one (xt_cmp (opr_ne hr.units) op2_ne (xe_var 13) (xe_tup (xa_cons (xe_var 10) (xa_cons (xe_var 11) xa_nil)))))) (fun _ _ _ _ _ => (xe_var 13)))
    (xs_one (xs_ret (xe_tup (xa_cons (xe_op opr_plus op2_plus (xe_op opr_plus op2_plus (xe_slice (xe_var 2) xo_none (xo_some (xe_var 4))) (xl_fz (xl_lst (xa_cons (xe_ixR ix_seq op2_ix (xe_var 12) (c_callP (i := 0) c__law_pick hgd hr (by omega) rfl (pv 0) (xa_cons xe_int xa_nil))) xa_nil)))) (xe_slice (xe_var 2) (xo_some (xe_op opr_plus op2_plus (xe_var 4) xe_int)) xo_none)) (xa_cons (xe_tup (xa_cons xe_str (xa_cons xe_str xa_nil))) xa_nil))))))))))))))))
abbrev s__law_checks : Stmt := topS 39
theorem sc__law_checks : FnScope ["pool", "letters", "source", "turn", "wrong", "due", "kept"] ["pool", "letters", "source"] (defScope s__law_checks) := ⟨rfl, rfl, rfl, by decide +kernel, rfl, by decide +kernel, by decide +kernel⟩
def W__law_checks : DS := (wSeq (wFor (wRng1 (wCons (wC (.int 4)) wNil)) (gNm 3) (wSeq (wIfS (wTst (wBin (wEq true) (wCall sp_law_refusal (wCons (wVar 1) (wCons (wCB (wN1 gList) (wCons (wVar 2) wNil)) wNil))) (wTup (wCons (wC (.str ("told" : Str))) (wCons (wC (.bool true)) wNil))))) (wRet (wC (.bool false))) wNext)
    (wSeq (wAsgT (wCallP 0 sp_law_wrong (wCons (wVar 1) (wCons (wVar 2) wNil))) (gTp 2 (gCs (gNm 4) (gCs (gNm 5) gNl))))
    (wSeq (wSet 6 (wCB (wN1 gRepr) (wCons (wVar 4) wNil)))
    (wIfS (wOr (wTst (wBin (wEq true) (wCall sp_law_refusal (wCons (wVar 1) (wCons (wVar 4) wNil))) (wVar 5))) (wTst (wBin (wEq true) (wCB (wN1 gRepr) (wCons (wVar 4) wNil)) (wVar 6)))) (wRet (wC (.bool false))) wNext)))))
    (wRet (wC (.bool true))))
theorem dv__law_checks (B : Bi mg) (c__law_refusal : Ca P w K mg base 6 "_law_refusal" ["letters", "source"] (spD K sp_law_refusal)) (c__law_wrong : Ca P w K mg base 2 "_law_wrong" ["pool", "letters", "source"] (spP K sp_law_wrong)) {f : Addr} (cdv : Value) (A : Around) (outer : List Env) (s : Shared) (H : Hp) (E : XK) (hgd : (A.deeper (envOfC "_law_checks" (defScope s__law_checks) s.heap.objs.size f cdv)).guards = some []) (hr : Room 6 (A.deeper (envOfC "_law_checks" (defScope s__law_checks) s.heap.objs.size f cdv))) :
    XSs (cxOf CX0 P w K mg base ["pool", "letters", "source", "turn", "wrong", "due", "kept"] "_law_checks" (defScope s__law_checks) f cdv A outer s H E).nox (defBody s__law_checks) (W__law_checks) := by
  have nd := sc__law_checks.nd
  exact (xs_cons (xs_for PassesOwn.never rfl (xi_range1 rfl B.range (xa_cons xe_int xa_nil)) (xg_name (i := 3) nd rfl (Or.inl rfl)) (xs_cons (xs_if (xt_cmp (opr_ne hr.units) op2_ne (c_call c__law_refusal hgd hr (by omega) rfl (xa_cons (xe_var 1) (xa_cons (xe_callTy (cr_listA hr) opn_list rfl B.list bb_list (xa_cons (xe_var 2) xa_nil)) xa_nil))) (xe_tup (xa_cons xe_str (xa_cons xe_bl xa_nil)))) (xs_one (xs_ret xe_bl)) xs_nil)
    (xs_cons (xs_asgT (c_callP (i := 0) c__law_wrong hgd hr (by omega) rfl (pv 0) (xa_cons (xe_var 1) (xa_cons (xe_var 2) xa_nil))) (xg_tup rfl (xgs_cons (xg_name (i := 4) nd rfl (Or.inl rfl)) (xgs_cons (xg_name (i := 5) nd rfl (Or.inl rfl)) xgs_nil))))
    (xs_cons (xs_set (i := 6) nd rfl (Or.inl rfl) (xe_callB (call_repr hgd hr) opn_repr rfl B.repr bb_repr (xa_cons (xe_var 4) xa_nil)))
    (xs_one (xs_if (xw_t (xw_or (xt_cmp (opr_ne hr.units) op2_ne (c_call c__law_refusal hgd hr (by omega) rfl (xa_cons (xe_var 1) (xa_cons (xe_var 4) xa_nil))) (xe_var 5)) (xw_or1 (xt_cmp (opr_ne hr.units) op2_ne (xe_callB (call_repr hgd hr) opn_repr rfl B.repr bb_repr (xa_cons (xe_var 4) xa_nil)) (xe_var 6))))) (xs_one (xs_ret xe_bl)) xs_nil))))))
    (xs_one (xs_ret xe_bl)))
abbrev s__law_letters : Stmt := topS 25
theorem sc__law_letters : FnScope ["pool", "most", "many", "signs", "at", "step", "k"] ["pool", "most"] (defScope s__law_letters) := ⟨rfl, rfl, rfl, by decide +kernel, rfl, by decide +kernel, by decide +kernel⟩
def W__law_letters : DS := (wSeq (wSet 2 (wBin wAdd (wC (.int 1)) (wCallP 0 sp_pick (wCons (wVar 1) wNil))))
    (wSeq (wSet 3 (wC (.str ("abcdefghijklmnopqrstuvwxyz" : Str))))
    (wSeq (wAsgT (wTup (wCons (wCallP 0 sp_pick (wCons (wC (.int 26)) wNil)) (wCons (wBin wIx (wFz (wLst (wCons (wC (.int 1)) (wCons (wC (.int 3)) (wCons (wC (.int 5)) (wCons (wC (.int 7)) (wCons (wC (.int 9)) (wCons (wC (.int 11)) wNil)))))))) (wCallP 0 sp_pick (wCons (wC (.int 6)) wNil))) wNil))) (gTp 2 (gCs (gNm 4) (gCs (gNm 5) gNl))))
    (wRet (wJoin (wC (.str ("" : Str))) (wFz (wLc [6] (wRng1 (wCons (wVar 2) wNil)) (gNm 6) wYes (wBin wIx (wVar 3) (wBin wMod (wCB (wN1 gInt) (wCons (wBin wAdd (wVar 4) (wBin wMul (wVar 5) (wVar 6))) wNil)) (wC (.int 26)))))))))))
theorem dv__law_letters (B : Bi mg) (c__law_pick : Ca P w K mg base 1 "_law_pick" ["pool", "many"] (spP K sp_pick)) {f : Addr} (cdv : Value) (A : Around) (outer : List Env) (s : Shared) (H : Hp) (E : XK) (hgd : (A.deeper (envOfC "_law_letters" (defScope s__law_letters) s.heap.objs.size f cdv)).guards = some []) (hr : Room 1 (A.deeper (envOfC "_law_letters" (defScope s__law_letters) s.heap.objs.size f cdv))) :
    XSs (cxOf CX0 P w K mg base ["pool", "most", "many", "signs", "at", "step", "k"] "_law_letters" (defScope s__law_letters) f cdv A outer s H E).nox (defBody s__law_letters) (W__law_letters) := by
  have nd := sc__law_letters.nd
  exact (xs_cons (xs_set (i := 2) nd rfl (Or.inl rfl) (xe_op opr_plus op2_plus xe_int (c_callP (i := 0) c__law_pick hgd hr (by omega) rfl (pv 0) (xa_cons (xe_var 1) xa_nil))))
    (xs_cons (xs_set (i := 3) nd rfl (Or.inr rfl) xe_str)
    (xs_cons (xs_asgT (xe_tup (xa_cons (c_callP (i := 0) c__law_pick hgd hr (by omega) rfl (pv 0) (xa_cons xe_int xa_nil)) (xa_cons (xe_ixR ix_seq op2_ix (xl_fz (xl_lst (xa_cons xe_int (xa_cons xe_int (xa_cons xe_int (xa_cons xe_int (xa_cons xe_int (xa_cons xe_int xa_nil)))))))) (c_callP (i := 0) c__law_pick hgd hr (by omega) rfl (pv 0) (xa_cons xe_int xa_nil))) xa_nil))) (xg_tup rfl (xgs_cons (xg_name (i := 4) nd rfl (by first | exact Or.inl rfl | exact Or.inr rfl)) (xgs_cons (xg_name (i := 5) nd rfl (by first | exact Or.inl rfl | exact Or.inr rfl)) xgs_nil))))
    (xs_one (xs_ret (xe_join xe_str (xl_fz (xl_lc (own := [(("k" : Str), 6)]) rfl nd (xi_range1 rfl B.range (xa_cons (xe_var 2) xa_nil)) (blkOk_by (N := ["pool", "most", "many", "signs", "at", "step", "k"]) (sc := (defScope s__law_letters)) (by decide +kernel)) (by decide) (fun _ _ _ _ _ => (xg_name (i := 6) nd rfl (Or.inl rfl))) (fun _ _ _ _ _ => xts_nil) (fun _ _ _ _ _ => (xe_ixR ix_seq op2_ix (xe_var 3) (xe_op op_mod o_mod (xe_callTy call_int1 opn_int rfl B.int bb_int (xa_cons (xe_op opr_plus op2_plus (xe_var 4) (xe_op op_mul o_mul (xe_var 5) (xe_var 6))) xa_nil)) xe_int)))))))))))
abbrev s_law : Stmt := topS 40
theorem sc_law : FnScope ["script", "pool", "letters", "weights", "total", "source", "machine", "kept", "size", "drawn", "word", "power", "sign", "small", "n", "step", "taken", "begun", "k"] ["script"] (defScope s_law) := ⟨rfl, rfl, rfl, by decide +kernel, rfl, by decide +kernel, by decide +kernel⟩
def W_law : DS := (wSeq (wSet 2 (wCallP 1 sp_letters2 (wCons (wC (.int 6)) wNil)))
    (wSeq (wAsgT (wCallP 1 sp_weights (wCons (wCB (wN1 gLen) (wCons (wVar 2) wNil)) wNil)) (gTp 2 (gCs (gNm 3) (gCs (gNm 4) gNl))))
    (wSeq (wSet 5 (wCall sp_law_source (wCons (wVar 3) (wCons (wVar 4) wNil))))
    (wSeq (wSet 6 (wCallP 1 sp_machine (wCons (wVar 2) (wCons (wBin wIx (wFz (wLst (wCons (wC (.int 6)) (wCons (wC (.int 40)) wNil)))) (wCB (wN1 gInt) (wCons (wBin (wEq false) (wCallP 1 sp_pick (wCons (wC (.int 30)) wNil)) (wC (.int 29))) wNil))) wNil))))
    (wSeq (wSet 7 (wCB (wN1 gRepr) (wCons (wTup (wCons (wVar 5) (wCons (wVar 6) wNil))) wNil)))
    (wSeq (wIfS (wNot (wTru (wCallP 1 sp_law_checks (wCons (wVar 2) (wCons (wVar 5) wNil))))) (wRet (wC (.bool false))) wNext)
    (wSeq (wSet 8 (wCallP 1 sp_pick (wCons (wC (.int 10)) wNil)))
    (wSeq (wIfS (wTst (wBin (wEq false) (wCallP 1 sp_pick (wCons (wC (.int 20)) wNil)) (wC (.int 7)))) (wSet 8 (wBin wSub (wC (.int 200)) (wVar 8))) wNext)
    (wSeq (wSet 9 (wFz (wLc [18] (wRng1 (wCons (wCB (wN1 gLen) (wCons (wVar 2) wNil)) wNil)) (gNm 18) (wTst (wBin wGt (wBin wIx (wVar 3) (wVar 18)) (wC (.int 0)))) (wBin wIx (wVar 2) (wVar 18)))))
    (wSeq (wIfS (wTst (wBin (wEq false) (wCallP 1 sp_pick (wCons (wC (.int 3)) wNil)) (wC (.int 0)))) (wSet 9 (wCB (wN1 gList) (wCons (wVar 2) wNil))) wNext)
    (wSeq (wSet 10 (wJoin (wC (.str ("" : Str))) (wFz (wLc [18] (wRng1 (wCons (wVar 8) wNil)) (gNm 18) wYes (wBin wIx (wVar 9) (wBin wMod (wCB (wN1 gInt) (wCons (wCallP 1 sp_pick (wCons (wC (.int 60)) wNil)) wNil)) (wCB (wN1 gLen) (wCons (wVar 9) wNil))))))))
    (wSeq (wSet 11 (wC (.int 1)))
    (wSeq (wFor (wIt (wVar 10)) (gNm 12) (wSet 11 (wBin wMul (wVar 11) (wVar 4))))
    (wSeq (wIfS (wNot (wTru (wCall sp_is_fraction (wCons (wCall sp_chance_of (wCons (wVar 2) (wCons (wVar 5) (wCons (wVar 10) wNil)))) (wCons (wCall sp_law_weight (wCons (wVar 2) (wCons (wVar 3) (wCons (wVar 10) wNil)))) (wCons (wVar 11) wNil)))))) (wRet (wC (.bool false))) wNext)
    (wSeq (wSet 13 (wCB (wN1 gListR) (wCons (wCB (wN1 gRng) (wCons (wBin wIx (wFz (wLst (wCons (wC (.int 10)) (wCons (wC (.int 10)) (wCons (wC (.int 6)) (wCons (wC (.int 5)) (wCons (wC (.int 5)) (wCons (wC (.int 4)) wNil)))))))) (wBin wSub (wCB (wN1 gLen) (wCons (wVar 2) wNil)) (wC (.int 1)))) wNil)) wNil)))
    (wSeq (wFor (wIt (wFz (wLst (wCons (wBin wIx (wVar 13) (wCallP 1 sp_pick (wCons (wCB (wN1 gLen) (wCons (wVar 13) wNil)) wNil))) (wCons (wBin wSub (wC (.int 60)) (wBin wIx (wFz (wLst (wCons (wC (.int 0)) (wCons (wC (.int 0)) (wCons (wCallP 1 sp_pick (wCons (wC (.int 60)) wNil)) wNil))))) (wCallP 1 sp_pick (wCons (wC (.int 3)) wNil)))) wNil))))) (gNm 14) (wSeq (wSet 11 (wC (.int 1)))
    (wSeq (wFor (wRng1 (wCons (wVar 14) wNil)) (gNm 15) (wSet 11 (wBin wMul (wVar 11) (wVar 4))))
    (wSeq (wAsgT (wCall sp_law_rows (wCons (wVar 3) (wCons (wVar 4) (wCons (wVar 6) (wCons (wVar 14) wNil))))) (gTp 2 (gCs (gNm 16) (gCs (gNm 17) gNl))))
    (wSeq (wIfS (wAnd (wTst (wBin (wIn false) (wVar 14) (wVar 13))) (wTst (wBin (wEq true) (wCall sp_law_sums (wCons (wVar 2) (wCons (wVar 3) (wCons (wVar 6) (wCons (wVar 14) wNil))))) (wTup (wCons (wVar 16) (wCons (wVar 17) wNil)))))) (wRet (wC (.bool false))) wNext)
    (wSeq (wIfS (wNot (wTru (wCall sp_is_fraction (wCons (wCall sp_chance_at (wCons (wVar 2) (wCons (wVar 5) (wCons (wVar 6) (wCons (wVar 14) wNil))))) (wCons (wVar 16) (wCons (wVar 11) wNil)))))) (wRet (wC (.bool false))) wNext)
    (wIfS (wNot (wTru (wCall sp_is_fraction (wCons (wCall sp_taken_by (wCons (wVar 2) (wCons (wVar 5) (wCons (wVar 6) (wCons (wVar 14) wNil))))) (wCons (wVar 17) (wCons (wVar 11) wNil)))))) (wRet (wC (.bool false))) wNext)))))))
    (wRet (wBin (wEq false) (wCB (wN1 gRepr) (wCons (wTup (wCons (wVar 5) (wCons (wVar 6) wNil))) wNil)) (wVar 7)))))))))))))))))))
theorem dv_law (B : Bi mg) (c__law_pick : Ca P w K mg base 1 "_law_pick" ["pool", "many"] (spP K sp_pick)) (c__law_is_fraction : Ca P w K mg base 2 "_law_is_fraction" ["value", "n", "d"] (spD K sp_is_fraction)) (c_taken_by : Ca P w K mg base 4 "taken_by" ["letters", "source", "machine", "n"] (spD K sp_taken_by)) (c_chance_at : Ca P w K mg base 3 "chance_at" ["letters", "source", "machine", "n"] (spD K sp_chance_at)) (c__law_sums : Ca P w K mg base 2 "_law_sums" ["letters", "weights", "machine", "n"] (spD K sp_law_sums)) (c__law_rows : Ca P w K mg base 1 "_law_rows" ["weights", "total", "machine", "n"] (spD K sp_law_rows)) (c__law_weight : Ca P w K mg base 1 "_law_weight" ["letters", "weights", "word"] (spD K sp_law_weight)) (c_chance_of : Ca P w K mg base 3 "chance_of" ["letters", "source", "word"] (spD K sp_chance_of)) (c__law_checks : Ca P w K mg base 7 "_law_checks" ["pool", "letters", "source"] (spP K sp_law_checks)) (c__law_machine : Ca P w K mg base 2 "_law_machine" ["pool", "letters", "most"] (spP K sp_machine)) (c__law_source : Ca P w K mg base 2 "_law_source" ["weights", "total"] (spD K sp_law_source)) (c__law_weights : Ca P w K mg base 2 "_law_weights" ["pool", "many"] (spP K sp_weights)) (c__law_letters : Ca P w K mg base 2 "_law_letters" ["pool", "most"] (spP K sp_letters2)) {f : Addr} (cdv : Value) (A : Around) (outer : List Env) (s : Shared) (H : Hp) (E : XK) (hgd : (A.deeper (envOfC "law" (defScope s_law) s.heap.objs.size f cdv)).guards = some []) (hr : Room 7 (A.deeper (envOfC "law" (defScope s_law) s.heap.objs.size f cdv))) :
    XSs (cxOf CX0 P w K mg base ["script", "pool", "letters", "weights", "total", "source", "machine", "kept", "size", "drawn", "word", "power", "sign", "small", "n", "step", "taken", "begun", "k"] "law" (defScope s_law) f cdv A outer s H E).nox ((defBody s_law).drop 1) (W_law) := by
  have nd := sc_law.nd
  exact (xs_cons (xs_set (i := 2) nd rfl (Or.inr rfl) (c_callP (i := 1) c__law_letters hgd hr (by omega) rfl (pv 1) (xa_cons xe_int xa_nil)))
    (xs_cons (xs_asgT (c_callP (i := 1) c__law_weights hgd hr (by omega) rfl (pv 1) (xa_cons (xe_callB call_lenA opn_len rfl B.len bb_len (xa_cons (xe_var 2) xa_nil)) xa_nil)) (xg_tup rfl (xgs_cons (xg_name (i := 3) nd rfl (by first | exact Or.inl rfl | exact Or.inr rfl)) (xgs_cons (xg_name (i := 4) nd rfl (Or.inl rfl)) xgs_nil))))
    (xs_cons (xs_set (i := 5) nd rfl (Or.inl rfl) (c_call c__law_source hgd hr (by omega) rfl (xa_cons (xe_var 3) (xa_cons (xe_var 4) xa_nil))))
    (xs_cons (xs_set (i := 6) nd rfl (Or.inl rfl) (c_callP (i := 1) c__law_machine hgd hr (by omega) rfl (pv 1) (xa_cons (xe_var 2) (xa_cons (xe_ixR ix_seq op2_ix (xl_fz (xl_lst (xa_cons xe_int (xa_cons xe_int xa_nil)))) (xe_callTy call_int1 opn_int rfl B.int bb_int (xa_cons (xe_cmp (opr_eq hr.units) op2_eq (c_callP (i := 1) c__law_pick hgd hr (by omega) rfl (pv 1) (xa_cons xe_int xa_nil)) xe_int) xa_nil))) xa_nil))))
    (xs_cons (xs_set (i := 7) nd rfl (Or.inl rfl) (xe_callB (call_repr hgd hr) opn_repr rfl B.repr bb_repr (xa_cons (xe_tup (xa_cons (xe_var 5) (xa_cons (xe_var 6) xa_nil))) xa_nil)))
    (xs_cons (xs_if (xt_not (xt_tru (c_callP (i := 1) c__law_checks hgd hr (by omega) rfl (pv 1) (xa_cons (xe_var 2) (xa_cons (xe_var 5) xa_nil))))) (xs_one (xs_ret xe_bl)) xs_nil)
    (xs_cons (xs_set (i := 8) nd rfl (Or.inl rfl) (c_callP (i := 1) c__law_pick hgd hr (by omega) rfl (pv 1) (xa_cons xe_int xa_nil)))
    (xs_cons (xs_if (xt_cmp (opr_eq hr.units) op2_eq (c_callP (i := 1) c__law_pick hgd hr (by omega) rfl (pv 1) (xa_cons xe_int xa_nil)) xe_int) (xs_one (xs_set (i := 8) nd rfl (Or.inl rfl) (xe_op op_sub o_sub xe_int (xe_var 8)))) xs_nil)
    (xs_cons (xs_set (i := 9) nd rfl (Or.inr rfl) (xl_fz (xl_lc (own := [(("k" : Str), 18)]) rfl nd (xi_range1 rfl B.range (xa_cons (xe_callB call_lenA opn_len rfl B.len bb_len (xa_cons (xe_var 2) xa_nil)) xa_nil)) (blkOk_by (N := ["script", "pool", "letters", "weights", "total", "source", "machine", "kept", "size", "drawn", "word", "power", "sign", "small", "n", "step", "taken", "begun", "k"]) (sc := (defScope s_law)) (by decide +kernel)) (by decide) (fun _ _ _ _ _ => (xg_name (i := 18) nd rfl (Or.inl rfl))) (fun _ _ _ _ _ => (xts_one (xt_cmp op_gt o_gt (xe_ixR ix_seq op2_ix (xe_var 3) (xe_var 18)) xe_int))) (fun _ _ _ _ _ => (xe_ixR ix_seq op2_ix (xe_var 2) (xe_var 18))))))
    (xs_cons (xs_if (xt_cmp (opr_eq hr.units) op2_eq (c_callP (i := 1) c__law_pick hgd hr (by omega) rfl (pv 1) (xa_cons xe_int xa_nil)) xe_int) (xs_one (xs_set (i := 9) nd rfl (Or.inr rfl) (xe_callTy (cr_listA hr) opn_list rfl B.list bb_list (xa_cons (xe_var 2) xa_nil)))) xs_nil)
    (xs_cons (xs_set (i := 10) nd rfl (Or.inl rfl) (xe_join xe_str (xl_fz (xl_lc (own := [(("k" : Str), 18)]) rfl nd (xi_range1 rfl B.range (xa_cons (xe_var 8) xa_nil)) (blkOk_by (N := ["script", "pool", "letters", "weights", "total", "source", "machine", "kept", "size", "drawn", "word", "power", "sign", "small", "n", "step", "taken", "begun", "k"]) (sc := (defScope s_law)) (by decide +kernel)) (by decide) (fun _ _ _ _ _ => (xg_name (i := 18) nd rfl (Or.inl rfl))) (fun _ _ _ _ _ => xts_nil) (fun _ _ _ _ _ => (xe_ixR ix_seq op2_ix (xe_var 9) (xe_op op_mod o_mod (xe_callTy call_int1 opn_int rfl B.int bb_int (xa_cons (c_callP (i := 1) c__law_pick hgd hr (by omega) rfl (pv 1) (xa_cons xe_int xa_nil)) xa_nil)) (xe_callB call_lenA opn_len rfl B.len bb_len (xa_cons (xe_var 9) xa_nil)))))))))
    (xs_cons (xs_set (i := 11) nd rfl (Or.inl rfl) xe_int)
    (xs_cons (xs_for PassesOwn.never rfl (xi_any (xe_var 10)) (xg_name (i := 12) nd rfl (Or.inl rfl)) (xs_one (xs_set (i := 11) nd rfl (Or.inl rfl) (xe_op op_mul o_mul (xe_var 11) (xe_var 4)))))
    (xs_cons (xs_if (xt_not (xt_tru (c_call c__law_is_fraction hgd hr (by omega) rfl (xa_cons (c_call c_chance_of hgd hr (by omega) rfl (xa_cons (xe_var 2) (xa_cons (xe_var 5) (xa_cons (xe_var 10) xa_nil)))) (xa_cons (c_call c__law_weight hgd hr (by omega) rfl (xa_cons (xe_var 2) (xa_cons (xe_var 3) (xa_cons (xe_var 10) xa_nil)))) (xa_cons (xe_var 11) xa_nil)))))) (xs_one (xs_ret xe_bl)) xs_nil)
    (xs_cons (xs_set (i := 13) nd rfl (Or.inl rfl) (xe_callTy (cr_listR hr) opn_listR rfl B.list bb_list (xa_cons (xe_callTy cr_range1 opn_rng rfl B.range bb_range (xa_cons (xe_ixR ix_seq op2_ix (xl_fz (xl_lst (xa_cons xe_int (xa_cons xe_int (xa_cons xe_int (xa_cons xe_int (xa_cons xe_int (xa_cons xe_int xa_nil)))))))) (xe_op op_sub o_sub (xe_callB call_lenA opn_len rfl B.len bb_len (xa_cons (xe_var 2) xa_nil)) xe_int)) xa_nil)) xa_nil)))
    (xs_cons (xs_for PassesOwn.never rfl (xi_any (xl_fz (xl_lst (xa_cons (xe_ixR ix_seq op2_ix (xe_var 13) (c_callP (i := 1) c__law_pick hgd hr (by omega) rfl (pv 1) (xa_cons (xe_callB call_lenA opn_len rfl B.len bb_len (xa_cons (xe_var 13) xa_nil)) xa_nil))) (xa_cons (xe_op op_sub o_sub xe_int (xe_ixR ix_seq op2_ix (xl_fz (xl_lst (xa_cons xe_int (xa_cons xe_int (xa_cons (c_callP (i := 1) c__law_pick hgd hr (by omega) rfl (pv 1) (xa_cons xe_int xa_nil)) xa_nil))))) (c_callP (i := 1) c__law_pick hgd hr (by omega) rfl (pv 1) (xa_cons xe_int xa_nil)))) xa_nil))))) (xg_name (i := 14) nd rfl (Or.inl rfl)) (xs_cons (xs_set (i := 11) nd rfl (Or.inl rfl) xe_int)
    (xs_cons (xs_for PassesOwn.never rfl (xi_range1 rfl B.range (xa_cons (xe_var 14) xa_nil)) (xg_name (i := 15) nd rfl (Or.inl rfl)) (xs_one (xs_set (i := 11) nd rfl (Or.inl rfl) (xe_op op_mul o_mul (xe_var 11) (xe_var 4)))))
    (xs_cons (xs_asgT (c_call c__law_rows hgd hr (by omega) rfl (xa_cons (xe_var 3) (xa_cons (xe_var 4) (xa_cons (xe_var 6) (xa_cons (xe_var 14) xa_nil))))) (xg_tup rfl (xgs_cons (xg_name (i := 16) nd rfl (Or.inl rfl)) (xgs_cons (xg_name (i := 17) nd rfl (Or.inl rfl)) xgs_nil))))
    (xs_cons (xs_if (xw_t (xw_and (xt_cmp opr_in op2_in (xe_var 14) (xe_var 13)) (xw_and1 (xt_cmp (opr_ne hr.units) op2_ne (c_call c__law_sums hgd hr (by omega) rfl (xa_cons (xe_var 2) (xa_cons (xe_var 3) (xa_cons (xe_var 6) (xa_cons (xe_var 14) xa_nil))))) (xe_tup (xa_cons (xe_var 16) (xa_cons (xe_var 17) xa_nil))))))) (xs_one (xs_ret xe_bl)) xs_nil)
    (xs_cons (xs_if (xt_not (xt_tru (c_call c__law_is_fraction hgd hr (by omega) rfl (xa_cons (c_call c_chance_at hgd hr (by omega) rfl (xa_cons (xe_var 2) (xa_cons (xe_var 5) (xa_cons (xe_var 6) (xa_cons (xe_var 14) xa_nil))))) (xa_cons (xe_var 16) (xa_cons (xe_var 11) xa_nil)))))) (xs_one (xs_ret xe_bl)) xs_nil)
    (xs_one (xs_if (xt_not (xt_tru (c_call c__law_is_fraction hgd hr (by omega) rfl (xa_cons (c_call c_taken_by hgd hr (by omega) rfl (xa_cons (xe_var 2) (xa_cons (xe_var 5) (xa_cons (xe_var 6) (xa_cons (xe_var 14) xa_nil))))) (xa_cons (xe_var 17) (xa_cons (xe_var 11) xa_nil)))))) (xs_one (xs_ret xe_bl)) xs_nil))))))))
    (xs_one (xs_ret (xe_cmp (opr_eq hr.units) op2_eq (xe_callB (call_repr hgd hr) opn_repr rfl B.repr bb_repr (xa_cons (xe_tup (xa_cons (xe_var 5) (xa_cons (xe_var 6) xa_nil))) xa_nil)) (xe_var 7))))))))))))))))))))
end
end L58
namespace L58
open PySem PySem.Spec PyProof.Rows L2 DL
theorem fit_div {b g : Nat} (h : Fit b) (hg : g ≤ b) (h0 : 0 < g) (i : Int) : CDivW i (g : Int) := wide_div (b := 4000) (by omega) (by rw [Int.natAbs_natCast]; exact Nat.lt_of_le_of_lt hg h) (by decide) (by decide)
theorem w_ratio (ds : List PyData) (Φ : PyData → Prop) (h : sp_ratio ds Φ) : W_ratio (endD Φ) ⟨startE ["over", "under", "shared"] (ds.map .d), []⟩ := by
  obtain ⟨a, b, rfl, hb, fb, h⟩ := h
  show W_ratio (endD Φ) ⟨[.d (.int (a : Nat)), .d (.int (b : Nat)), .un], []⟩
  have hg : 0 < Nat.gcd a b := Nat.gcd_pos_of_pos_right a hb
  have hl : Nat.gcd a b ≤ b := Nat.le_of_dvd hb (Nat.gcd_dvd_right a b)
  simp [W_ratio]
  refine ⟨fit_div fb hl hg _, fit_div fb hl hg _, sz_le (by omega), ?_⟩
  exact h
theorem w_is_whole (ds : List PyData) (Φ : PyData → Prop) (h : sp_is_whole ds Φ) : W__law_is_whole (endD Φ) ⟨startE ["value"] (ds.map .d), []⟩ := by
  obtain ⟨i, rfl, h⟩ := h
  show W__law_is_whole (endD Φ) ⟨[.d (.int i)], []⟩
  have e1 : kitB "int" "int" = some true := by decide +kernel
  have e2 : kitB "int" "bool" = some false := by decide +kernel
  simp [W__law_is_whole, e1, e2]
  exact h
theorem w_law_gcd (ds : List PyData) (Φ : PyData → Prop) (h : sp_law_gcd ds Φ) : W__law_gcd (endD Φ) ⟨startE ["one", "other", "turn"] (ds.map .d), []⟩ := by
  obtain ⟨a, b, rfl, fb, h⟩ := h
  show W__law_gcd (endD Φ) ⟨[.d (.int (a : Nat)), .d (.int (b : Nat)), .un], []⟩
  unfold W__law_gcd
  refine ⟨⟨by decide, by decide⟩, ?_⟩
  refine loop_rng (n := 9000) (fun i s => ∃ (a' b' : Nat) (a2 : Sl), s = ⟨[.d (.int (a' : Nat)), .d (.int (b' : Nat)), a2], []⟩ ∧ Nat.gcd a' b' = Nat.gcd a b ∧ (i = 0 → b' = b) ∧ (∀ j, i = j + 1 → Eu (Nat.gcd a b) (b * b) j a' b')) ⟨a, b, _, rfl, rfl, fun _ => rfl, fun j e => by omega⟩ ?_ ?_
  · rintro i s hi ⟨a', b', a2, rfl, hg, h0, hE⟩ Θ k1 k2 k3 k4 k5
    clear k2 k3 k5
    by_cases hb : b' = 0
    · subst hb
      have ea : a' = Nat.gcd a b := by rw [← hg, Nat.gcd_zero_right]
      subst ea
      simp
      rw [k4]
      exact h
    · have hp : 0 < b' := Nat.pos_of_ne_zero hb
      have hpi : (0 : Int) < (b' : Int) := by omega
      have hbi : ¬ ((b' : Int) = 0) := by omega
      simp [hb, hp]
      refine k1 _ ⟨b', a' % b', _, rfl, ?_, fun z => by omega, fun j e => ?_⟩
      · rw [← hg, Nat.gcd_comm a' b', Nat.gcd_rec b' a', Nat.gcd_comm]
      · cases i with
        | zero =>
          have ej : j = 0 := by omega
          have eb := h0 rfl
          subst ej
          subst eb
          rw [← hg]
          exact Eu.first hp
        | succ i =>
          have ej : j = i + 1 := by omega
          subst ej
          exact Eu.next hp (hE i rfl)
  · rintro s ⟨a', b', a2, rfl, hg, h0, hE⟩
    have hb : b' = 0 := (hE 8999 rfl).done (by
      have h1 : b * b < 2 ^ 4000 * 2 ^ 4000 := Nat.mul_lt_mul'' fb fb
      rw [← Nat.pow_add] at h1
      exact Nat.lt_of_lt_of_le h1 (Nat.pow_le_pow_right (by decide) (by decide)))
    subst hb
    have ea : a' = Nat.gcd a b := by rw [← hg, Nat.gcd_zero_right]
    subst ea
    simp
    exact h
end L58
namespace L58
open PySem PySem.Spec PyProof.Rows L2 DL
theorem fr_mul {a b c d : Nat} (hb : 0 < b) (hd : 0 < d) : frD (a / Nat.gcd a b * (c / Nat.gcd c d)) (b / Nat.gcd a b * (d / Nat.gcd c d)) = frD (a * c) (b * d) := by
  refine fr_same (Nat.mul_pos (fr_pos hb) (fr_pos hd)) (Nat.mul_pos hb hd) ?_
  have h1 := fr_eq (a := a) (b := b)
  have h2 := fr_eq (a := c) (b := d)
  generalize a / Nat.gcd a b = p at *
  generalize b / Nat.gcd a b = q at *
  generalize c / Nat.gcd c d = r at *
  generalize d / Nat.gcd c d = t at *
  rw [Nat.mul_mul_mul_comm p r b d, h1, h2, Nat.mul_mul_mul_comm a q c t]
theorem fr_add {a b c d : Nat} (hb : 0 < b) (hd : 0 < d) : frD (a / Nat.gcd a b * (d / Nat.gcd c d) + c / Nat.gcd c d * (b / Nat.gcd a b)) (b / Nat.gcd a b * (d / Nat.gcd c d)) = frD (a * d + c * b) (b * d) := by
  refine fr_same (Nat.mul_pos (fr_pos hb) (fr_pos hd)) (Nat.mul_pos hb hd) ?_
  have h1 := fr_eq (a := a) (b := b)
  have h2 := fr_eq (a := c) (b := d)
  generalize a / Nat.gcd a b = p at *
  generalize b / Nat.gcd a b = q at *
  generalize c / Nat.gcd c d = r at *
  generalize d / Nat.gcd c d = t at *
  rw [Nat.add_mul, Nat.add_mul]
  have e1 : p * t * (b * d) = a * d * (q * t) := by
    rw [Nat.mul_mul_mul_comm p t b d, h1, Nat.mul_comm t d, Nat.mul_mul_mul_comm a q d t]
  have e2 : r * q * (b * d) = c * b * (q * t) := by
    rw [Nat.mul_comm b d, Nat.mul_mul_mul_comm r q d b, h2, Nat.mul_mul_mul_comm c t q b, Nat.mul_comm t b, Nat.mul_comm q t, ← Nat.mul_mul_mul_comm, Nat.mul_comm q t]
  rw [e1, e2]
theorem div_le_self (a g : Nat) : a / g ≤ a := Nat.div_le_self a g
theorem mulW {a b m n : Nat} (ha : a < 2 ^ m) (hb : b < 2 ^ n) (h0 : 0 < m) (h1 : 0 < n) (h : m + n ≤ 1000000) : CMulW (a : Int) (b : Int) := wide_mul (by rw [Int.natAbs_natCast]; exact ha) (by rw [Int.natAbs_natCast]; exact hb) h0 h1 h
theorem w_product_of (ds : List PyData) (Φ : PyData → Prop) (h : sp_product_of ds Φ) : W_product_of (endD Φ) ⟨startE ["one", "other"] (ds.map .d), []⟩ := by
  obtain ⟨a, b, c, d, rfl, hb, hd, fa, fb, fc, fd, fbd, h⟩ := h
  have e := fr_mul (a := a) (c := c) hb hd
  have pb := fr_pos (a := a) hb
  have pd := fr_pos (a := c) hd
  have la := Nat.lt_of_le_of_lt (div_le_self a (Nat.gcd a b)) fa
  have lb := Nat.lt_of_le_of_lt (div_le_self b (Nat.gcd a b)) fb
  have lc := Nat.lt_of_le_of_lt (div_le_self c (Nat.gcd c d)) fc
  have ld := Nat.lt_of_le_of_lt (div_le_self d (Nat.gcd c d)) fd
  have lbd : b / Nat.gcd a b * (d / Nat.gcd c d) ≤ b * d := Nat.mul_le_mul (div_le_self _ _) (div_le_self _ _)
  unfold frD at e ⊢
  show W_product_of (endD Φ) ⟨[.d (.tuple [.int ((a / Nat.gcd a b : Nat) : Int), .int ((b / Nat.gcd a b : Nat) : Int)]), .d (.tuple [.int ((c / Nat.gcd c d : Nat) : Int), .int ((d / Nat.gcd c d : Nat) : Int)])], []⟩
  generalize a / Nat.gcd a b = p at *
  generalize b / Nat.gcd a b = q at *
  generalize c / Nat.gcd c d = r at *
  generalize d / Nat.gcd c d = t at *
  simp [W_product_of]
  refine ⟨mulW la lc (by decide) (by decide) (by decide), mulW lb ld (by decide) (by decide) (by decide), p * r, q * t, rfl, Nat.mul_pos pb pd, Nat.lt_of_le_of_lt lbd fbd, ?_⟩
  rw [show frD (p * r) (q * t) = frD (a * c) (b * d) from e]
  exact h
theorem sum_app (L : List (Nat × Nat)) (x : Nat × Nat) : sumFr (L ++ [x]) = ((sumFr L).1 * x.2 + x.1 * (sumFr L).2, (sumFr L).2 * x.2) := by
  unfold sumFr
  rw [List.foldl_append]
  rfl
theorem sum_pos : ∀ (L : List (Nat × Nat)), (∀ x, x ∈ L → 0 < x.2 ∧ x.1 < 2 ^ 64 ∧ x.2 < 2 ^ 64) → 0 < (sumFr L).2 ∧ (sumFr L).2 ≤ 2 ^ (64 * L.length) := fun L => by
  unfold sumFr
  have key : ∀ (L : List (Nat × Nat)) (s : Nat × Nat), 0 < s.2 → (∀ x, x ∈ L → 0 < x.2 ∧ x.1 < 2 ^ 64 ∧ x.2 < 2 ^ 64) → 0 < (L.foldl (fun s x => (s.1 * x.2 + x.1 * s.2, s.2 * x.2)) s).2 ∧ (L.foldl (fun s x => (s.1 * x.2 + x.1 * s.2, s.2 * x.2)) s).2 ≤ s.2 * 2 ^ (64 * L.length) := by
    intro L
    induction L with
    | nil => intro s h _; exact ⟨h, by simp⟩
    | cons x L ih =>
      intro s h hx
      have hx0 := hx x List.mem_cons_self
      obtain ⟨i1, i2⟩ := ih (s.1 * x.2 + x.1 * s.2, s.2 * x.2) (Nat.mul_pos h hx0.1) fun y hy => hx y (List.mem_cons_of_mem _ hy)
      refine ⟨i1, Nat.le_trans i2 ?_⟩
      show s.2 * x.2 * 2 ^ (64 * L.length) ≤ s.2 * 2 ^ (64 * (L.length + 1))
      have e : (2 : Nat) ^ (64 * (L.length + 1)) = 2 ^ 64 * 2 ^ (64 * L.length) := by rw [Nat.mul_add, Nat.mul_one, Nat.pow_add, Nat.mul_comm]
      rw [e, ← Nat.mul_assoc]
      exact Nat.mul_le_mul (Nat.mul_le_mul (Nat.le_refl _) (Nat.le_of_lt hx0.2.2)) (Nat.le_refl _)
  intro h
  have := key L (0, 1) (by decide) h
  rw [Nat.one_mul] at this
  exact this
theorem sum_fst : ∀ (L : List (Nat × Nat)), (∀ x, x ∈ L → 0 < x.2 ∧ x.1 < 2 ^ 64 ∧ x.2 < 2 ^ 64) → (sumFr L).1 ≤ L.length * 2 ^ (64 * L.length) := by
  intro L
  induction hL : L.length generalizing L with
  | zero =>
    intro _
    rw [List.length_eq_zero_iff.mp hL]
    decide
  | succ n ih =>
    intro h
    obtain ⟨M, x, rfl⟩ : ∃ M x, L = M ++ [x] := ⟨L.dropLast, L.getLast (by intro z; rw [z] at hL; cases hL), (List.dropLast_concat_getLast _).symm⟩
    have hm : M.length = n := by rw [List.length_append] at hL; simpa using hL
    have hM : ∀ y, y ∈ M → 0 < y.2 ∧ y.1 < 2 ^ 64 ∧ y.2 < 2 ^ 64 := fun y hy => h y (List.mem_append_left _ hy)
    have hx := h x (List.mem_append_right _ List.mem_cons_self)
    have h1 := ih M hm hM
    have h2 := (sum_pos M hM).2
    rw [hm] at h2
    rw [sum_app]
    show (sumFr M).1 * x.2 + x.1 * (sumFr M).2 ≤ (n + 1) * 2 ^ (64 * (n + 1))
    have e : (2 : Nat) ^ (64 * (n + 1)) = 2 ^ (64 * n) * 2 ^ 64 := by rw [Nat.mul_add, Nat.mul_one, Nat.pow_add]
    rw [e, Nat.add_mul, Nat.one_mul]
    refine Nat.add_le_add ?_ ?_
    · rw [← Nat.mul_assoc]
      exact Nat.mul_le_mul h1 (Nat.le_of_lt hx.2.2)
    · rw [Nat.mul_comm]
      exact Nat.mul_le_mul h2 (Nat.le_of_lt hx.2.1)
end L58
namespace L58
open PySem PySem.Spec PyProof.Rows L2 DL
theorem fit_le {n m k : Nat} (h : n ≤ 2 ^ k) (hk : k < m) : n < 2 ^ m := Nat.lt_of_le_of_lt h (Nat.pow_lt_pow_right (by decide) hk)
theorem w_sum_of (ds : List PyData) (Φ : PyData → Prop) (h : sp_sum_of ds Φ) : W_sum_of (endD Φ) ⟨startE ["ratios", "over", "under", "more", "part"] (ds.map .d), []⟩ := by
  obtain ⟨L, rfl, hl, hL, h⟩ := h
  show W_sum_of (endD Φ) ⟨[.d (.list (L.map fun x => frD x.1 x.2)), .un, .un, .un, .un], []⟩
  unfold W_sum_of
  simp only [wSeq, wSet, wC, S.put, List.set]
  have big : ∀ (M : List (Nat × Nat)), M.length ≤ 6 → (∀ x, x ∈ M → x ∈ L) → 0 < (sumFr M).2 ∧ (sumFr M).2 < 2 ^ 400 ∧ (sumFr M).1 < 2 ^ 400 := fun M h6 hm => by
    have hM : ∀ x, x ∈ M → 0 < x.2 ∧ x.1 < 2 ^ 64 ∧ x.2 < 2 ^ 64 := fun x hx => hL x (hm x hx)
    have h1 := sum_pos M hM
    have h2 := sum_fst M hM
    have h3 : (2 : Nat) ^ (64 * M.length) ≤ 2 ^ 384 := Nat.pow_le_pow_right (by decide) (by omega)
    refine ⟨h1.1, fit_le (Nat.le_trans h1.2 h3) (by decide), ?_⟩
    have h4 : M.length * 2 ^ (64 * M.length) ≤ 8 * 2 ^ 384 := Nat.mul_le_mul (by omega) h3
    have h5 : 8 * 2 ^ 384 = 2 ^ 387 := by decide +kernel
    exact fit_le (k := 387) (by omega) (by decide)
  refine loop_ix _ (fun i s => ∃ (a3 a4 : Sl), s = ⟨[.d (.list (L.map fun x => frD x.1 x.2)), .d (.int (((sumFr (L.take i)).1 / Nat.gcd (sumFr (L.take i)).1 (sumFr (L.take i)).2 : Nat) : Int)), .d (.int (((sumFr (L.take i)).2 / Nat.gcd (sumFr (L.take i)).1 (sumFr (L.take i)).2 : Nat) : Int)), a3, a4], []⟩) ⟨.un, .un, by simp [sumFr]⟩ ?_ ?_
  · rintro i x s hx ⟨a3, a4, rfl⟩ Θ k1 k2 k3 k4 k5
    clear k2 k3 k4 k5
    rw [List.getElem?_map] at hx
    obtain ⟨y, hy, rfl⟩ := Option.map_eq_some_iff.mp hx
    have hyL : y ∈ L := List.mem_of_getElem? hy
    have hi : i < L.length := (List.getElem?_eq_some_iff.mp hy).1
    have et := take_snoc hy
    have hB := big (L.take i) (by rw [List.length_take]; omega) fun x hx => List.mem_of_mem_take hx
    have hB1 := big (L.take (i + 1)) (by rw [List.length_take]; omega) fun x hx => List.mem_of_mem_take hx
    rw [et] at hB1
    have hk : ∀ s, (∃ a3 a4 : Sl, s = (⟨[.d (.list (L.map fun x => frD x.1 x.2)), .d (.int (((sumFr (L.take i ++ [y])).1 / Nat.gcd (sumFr (L.take i ++ [y])).1 (sumFr (L.take i ++ [y])).2 : Nat) : Int)), .d (.int (((sumFr (L.take i ++ [y])).2 / Nat.gcd (sumFr (L.take i ++ [y])).1 (sumFr (L.take i ++ [y])).2 : Nat) : Int)), a3, a4], []⟩ : S)) → Θ.nx s := fun s z => k1 s (by rw [et]; exact z)
    clear k1 et
    rw [sum_app] at hk hB1
    generalize sumFr (L.take i) = M at hk hB hB1 ⊢
    obtain ⟨N, D⟩ := M
    obtain ⟨c, d⟩ := y
    obtain ⟨hd, hc64, hd64⟩ := hL _ hyL
    obtain ⟨hD, fD, fN⟩ := hB
    obtain ⟨hDd, fDd, _⟩ := hB1
    simp only at hd hc64 hd64 hD fD fN hDd fDd hk ⊢
    have e := fr_add (a := N) (c := c) hD hd
    have pb := fr_pos (a := N) hD
    have pd := fr_pos (a := c) hd
    have lN := Nat.lt_of_le_of_lt (div_le_self N (Nat.gcd N D)) fN
    have lD := Nat.lt_of_le_of_lt (div_le_self D (Nat.gcd N D)) fD
    have lc := Nat.lt_of_le_of_lt (div_le_self c (Nat.gcd c d)) hc64
    have ld := Nat.lt_of_le_of_lt (div_le_self d (Nat.gcd c d)) hd64
    have lDd : D / Nat.gcd N D * (d / Nat.gcd c d) ≤ D * d := Nat.mul_le_mul (div_le_self _ _) (div_le_self _ _)
    have fit : Fit (D / Nat.gcd N D * (d / Nat.gcd c d)) := Nat.lt_of_lt_of_le (Nat.lt_of_le_of_lt lDd fDd) (Nat.pow_le_pow_right (by decide) (by decide))
    have ec : frD c d = .tuple [.int ((c / Nat.gcd c d : Nat) : Int), .int ((d / Nat.gcd c d : Nat) : Int)] := rfl
    rw [ec]
    generalize (PyData.list (L.map fun x => frD x.1 x.2)) = l0 at hk ⊢
    generalize N / Nat.gcd N D = p at *
    generalize D / Nat.gcd N D = q at *
    generalize c / Nat.gcd c d = r at *
    generalize d / Nat.gcd c d = t at *
    simp
    refine ⟨mulW lN ld (by decide) (by decide) (by decide), mulW lc lD (by decide) (by decide) (by decide), mulW lD ld (by decide) (by decide) (by decide), p * t + r * q, q * t, rfl, Nat.mul_pos pb pd, fit, ?_⟩
    rw [e]
    exact ⟨rfl, rfl, hk _ ⟨_, _, rfl⟩⟩
  · rintro s ⟨a3, a4, rfl⟩
    have el : L.take (L.map fun x => frD x.1 x.2).length = L := by rw [List.length_map, List.take_length]
    rw [el]
    simp
    exact ⟨sz_le (by omega), h⟩

theorem w_is_fraction (ds : List PyData) (Φ : PyData → Prop) (h : sp_is_fraction ds Φ) : W__law_is_fraction (endD Φ) ⟨startE ["value", "n", "d"] (ds.map .d), []⟩ := by
  obtain ⟨p, q, n, d, rfl, fp, fq, fn, fd, hq, he, hg, h⟩ := h
  show W__law_is_fraction (endD Φ) ⟨[.d (.tuple [.int (p : Nat), .int (q : Nat)]), .d (.int (n : Nat)), .d (.int (d : Nat))], []⟩
  have e1 : kitB "tuple" "tuple" = some true := by decide +kernel
  have hq1 : (1 : Int) ≤ (q : Int) := by omega
  have hei : ((p : Nat) : Int) * (d : Int) = (n : Int) * (q : Int) := by
    have := congrArg (fun x : Nat => (x : Int)) he
    simpa using this
  have hgi : decide ((if ((Nat.gcd p q : Nat) : Int) < 0 then -((Nat.gcd p q : Nat) : Int) else ((Nat.gcd p q : Nat) : Int)) = 1) = true := by
    rw [hg]
    decide
  simp [W__law_is_fraction, e1]
  refine ⟨_, rfl, ?_⟩
  refine ⟨_, rfl, ?_⟩
  show if (1 : Int) ≤ (q : Int) then _ else _
  rw [if_pos hq1]
  refine ⟨mulW fp fd (by decide) (by decide) (by decide), mulW fn fq (by decide) (by decide) (by decide), ?_⟩
  rw [if_pos hei]
  refine ⟨p, q, rfl, fq, ?_⟩
  show Φ (.bool (decide _))
  rw [hgi]
  exact h
end L58
namespace L58
open PySem PySem.Spec PyProof.Rows L2 DL
theorem signs_word (z : Str) (w : List Nat) : signsOf (wS z w) = w.map fun a => PyData.str (sg (cz z a)) := by
  unfold signsOf wS
  simp [sg]
theorem prod_snoc (ω : Nat → Nat) (u : List Nat) (a : Nat) : prodW ω (u ++ [a]) = prodW ω u * ω a := by
  unfold prodW
  rw [List.foldl_append]
  rfl
theorem prod_le {ω : Nat → Nat} {m : Nat} : ∀ (u : List Nat), (∀ a, a ∈ u → ω a ≤ 2 ^ m) → prodW ω u ≤ 2 ^ (m * u.length) := by
  intro u
  induction h : u.length generalizing u with
  | zero =>
    intro _
    rw [List.length_eq_zero_iff.mp h]
    exact Nat.le_refl _
  | succ n ih =>
    intro hu
    obtain ⟨v, a, rfl⟩ : ∃ v a, u = v ++ [a] := ⟨u.dropLast, u.getLast (by intro z; rw [z] at h; cases h), (List.dropLast_concat_getLast _).symm⟩
    have hv : v.length = n := by rw [List.length_append] at h; simpa using h
    rw [prod_snoc, Nat.mul_add, Nat.mul_one, Nat.pow_add]
    exact Nat.mul_le_mul (ih v hv fun b hb => hu b (List.mem_append_left _ hb)) (hu a (List.mem_append_right _ List.mem_cons_self))
theorem w_weight (ds : List PyData) (Φ : PyData → Prop) (h : sp_law_weight ds Φ) : W__law_weight (endD Φ) ⟨startE ["letters", "weights", "word", "found", "sign"] (ds.map .d), []⟩ := by
  obtain ⟨z, ω, u, rfl, ⟨nd, hu, hl⟩, hω, h⟩ := h
  show W__law_weight (endD Φ) ⟨[.d (.str z), .d (.list (mkI z.length ω)), .d (.str (wS z u)), .un, .un], []⟩
  simp [W__law_weight]
  rw [signs_word]
  refine loop_ix _ (fun i s => ∃ a4 : Sl, s = ⟨[.d (.str z), .d (.list (mkI z.length ω)), .d (.str (wS z u)), .d (.int (prodW ω (u.take i) : Nat)), a4], []⟩) ⟨.un, by simp [prodW]⟩ ?_ ?_
  · rintro i x s hx ⟨a4, rfl⟩ Θ k1 k2 k3 k4 k5
    clear k2 k3 k4 k5
    rw [List.getElem?_map] at hx
    obtain ⟨a, ha, rfl⟩ := Option.map_eq_some_iff.mp hx
    have haL := hu a (List.mem_of_getElem? ha)
    have hk : ∀ s, (∃ a4 : Sl, s = (⟨[.d (.str z), .d (.list (mkI z.length ω)), .d (.str (wS z u)), .d (.int (prodW ω (u.take i) * ω a : Nat)), a4], []⟩ : S)) → Θ.nx s := fun s h => k1 s (by rw [take_snoc ha, prod_snoc]; exact h)
    clear k1
    simp
    refine ⟨cz z a, rfl, by simpa using idx_mem haL, ?_⟩
    simp [idx_at nd haL, atI_mkI haL]
    refine ⟨.inr ⟨by omega, ?_⟩, hk _ ⟨_, rfl⟩⟩
    have := hω a haL
    omega
  · rintro s ⟨a4, rfl⟩
    rw [List.length_map, List.take_length]
    simp
    exact h
theorem w_chance_of (ds : List PyData) (Φ : PyData → Prop) (h : sp_chance_of ds Φ) : W_chance_of (endD Φ) ⟨startE ["letters", "source", "word", "chance", "sign"] (ds.map .d), []⟩ := by
  obtain ⟨z, ω, T, u, rfl, ⟨nd, hu, hl⟩, hT, hT2, hω, h⟩ := h
  show W_chance_of (endD Φ) ⟨[.d (.str z), .d (.list (mkL z.length fun k => frD (ω k) T)), .d (.str (wS z u)), .un, .un], []⟩
  simp [W_chance_of]
  refine ⟨sz_le (by omega), ?_⟩
  rw [signs_word]
  refine loop_ix _ (fun i s => ∃ a4 : Sl, s = ⟨[.d (.str z), .d (.list (mkL z.length fun k => frD (ω k) T)), .d (.str (wS z u)), .d (frD (prodW ω (u.take i)) (T ^ i)), a4], []⟩) ⟨.un, by simp [prodW, frD]⟩ ?_ ?_
  · rintro i x s hx ⟨a4, rfl⟩ Θ k1 k2 k3 k4 k5
    clear k2 k3 k4 k5
    rw [List.getElem?_map] at hx
    obtain ⟨a, ha, rfl⟩ := Option.map_eq_some_iff.mp hx
    have haL := hu a (List.mem_of_getElem? ha)
    have hi : i < u.length := (List.getElem?_eq_some_iff.mp ha).1
    have hk : ∀ s, (∃ a4 : Sl, s = (⟨[.d (.str z), .d (.list (mkL z.length fun k => frD (ω k) T)), .d (.str (wS z u)), .d (frD (prodW ω (u.take i) * ω a) (T ^ i * T)), a4], []⟩ : S)) → Θ.nx s := fun s h => k1 s (by rw [take_snoc ha, prod_snoc, Nat.pow_succ]; exact h)
    clear k1
    have pl : prodW ω (u.take i) ≤ 2 ^ (16 * (u.take i).length) := prod_le _ fun b hb => hω b (hu b (List.mem_of_mem_take hb))
    rw [List.length_take, Nat.min_eq_left (Nat.le_of_lt hi)] at pl
    have tp : ∀ j, j ≤ 200 → T ^ j ≤ 2 ^ 3200 := fun j hj => by
      refine Nat.le_trans (Nat.pow_le_pow_left hT2 j) ?_
      rw [← Nat.pow_mul]
      exact Nat.pow_le_pow_right (by decide) (by omega)
    have pl2 : prodW ω (u.take i) ≤ 2 ^ 3200 := Nat.le_trans pl (Nat.pow_le_pow_right (by decide) (by omega))
    have t1 := tp i (by omega)
    have t2 := tp (i + 1) (by omega)
    rw [Nat.pow_succ] at t2
    have hwa := hω a haL
    simp
    refine ⟨cz z a, rfl, by simpa using idx_mem haL, ?_⟩
    simp [idx_at nd haL, atI_mkL (f := fun k => frD (ω k) T) haL]
    refine ⟨prodW ω (u.take i), T ^ i, ω a, T, rfl, Nat.pow_pos hT, hT, fit_le pl2 (by decide), fit_le t1 (by decide), by omega, by omega, fit_le t2 (by decide), hk _ ⟨_, rfl⟩⟩
  · rintro s ⟨a4, rfl⟩
    rw [List.length_map, List.take_length]
    simp
    exact h
end L58
namespace L58
open PySem PySem.Spec PyProof.Rows L2 DL
theorem w_source (ds : List PyData) (Φ : PyData → Prop) (h : sp_law_source ds Φ) : W__law_source (endD Φ) ⟨startE ["weights", "total", "found", "weight", "shared"] (ds.map .d), []⟩ := by
  obtain ⟨L, ω, T, rfl, hL, hT, hT2, h⟩ := h
  show W__law_source (endD Φ) ⟨[.d (.list (mkI L ω)), .d (.int (T : Nat)), .un, .un, .un], []⟩
  simp [W__law_source]
  refine loop_ix _ (fun i s => ∃ a3 a4 : Sl, (a4 = .un ∨ ∃ x, a4 = .d x) ∧ s = ⟨[.d (.list (mkI L ω)), .d (.int (T : Nat)), .o (mkL i fun k => frD (ω k) T), a3, a4], []⟩) ⟨.un, .un, .inl rfl, by simp [mkL]⟩ ?_ ?_
  · rintro i x s hx ⟨a3, a4, h4, rfl⟩ Θ k1 k2 k3 k4 k5
    clear k2 k3 k4 k5
    have hi : i < L := by
      have := (List.getElem?_eq_some_iff.mp hx).1
      rw [mkI_len] at this
      exact this
    rw [mkI_get hi] at hx
    cases hx
    have hg : 0 < Nat.gcd (ω i) T := Nat.gcd_pos_of_pos_right _ hT
    have hgl : Nat.gcd (ω i) T ≤ T := Nat.le_of_dvd hT (Nat.gcd_dvd_right _ _)
    have hk : ∀ s, (∃ a3 a4 : Sl, (a4 = .un ∨ ∃ x, a4 = .d x) ∧ s = (⟨[.d (.list (mkI L ω)), .d (.int (T : Nat)), .o (mkL i (fun k => frD (ω k) T) ++ [frD (ω i) T]), a3, a4], []⟩ : S)) → Θ.nx s := fun s h => k1 s (by rw [← mkL_app]; exact h)
    clear k1
    simp
    refine ⟨ω i, T, rfl, fit_le hT2 (by decide), ?_⟩
    simp
    have hc : ∀ j : Int, CDiv j ((Nat.gcd (ω i) T : Nat) : Int) := fun j => ⟨by omega, by omega⟩
    exact ⟨hc _, hc _, sz_le (by omega), by rw [mkL_len]; exact sz_lt (by omega), hk _ ⟨_, _, .inr ⟨_, rfl⟩, rfl⟩⟩
  · rintro s ⟨a3, a4, h4, rfl⟩
    rw [mkI_len]
    simp
    exact h
end L58
namespace L58
open PySem PySem.Spec PyProof.Rows L2 DL
theorem und_dvd (a T : Nat) : T / Nat.gcd a T ∣ T := Nat.div_dvd_of_dvd (Nat.gcd_dvd_right a T)
theorem w_in_wholes (ds : List PyData) (Φ : PyData → Prop) (h : sp_in_wholes ds Φ) : W_in_wholes (endD Φ) ⟨startE ["ratios", "whole", "_", "part", "over"] (ds.map .d), []⟩ := by
  obtain ⟨L, ω, T, rfl, hL, hT, hT2, hω, h⟩ := h
  show W_in_wholes (endD Φ) ⟨[.d (.list (mkL L fun k => frD (ω k) T)), .un, .un, .un, .un], []⟩
  simp [W_in_wholes]
  refine loop_ix _ (fun i s => ∃ (W : Nat) (a2 a3 : Sl), (a3 = .un ∨ ∃ x, a3 = .d x) ∧ s = ⟨[.d (.list (mkL L fun k => frD (ω k) T)), .d (.int (W : Nat)), a2, a3, .un], []⟩ ∧ 0 < W ∧ W ∣ T ∧ ∀ k, k < i → T / Nat.gcd (ω k) T ∣ W) ⟨1, .un, .un, .inl rfl, rfl, by decide, Nat.one_dvd _, fun k hk => by omega⟩ ?_ ?_
  · rintro i x s hx ⟨W, a2, a3, h3, rfl, hW, hWT, hd⟩ Θ k1 k2 k3 k4 k5
    clear k2 k3 k4 k5
    have hi : i < L := by
      have := (List.getElem?_eq_some_iff.mp hx).1
      rw [mkL_len] at this
      exact this
    rw [mkL_get hi] at hx
    cases hx
    have hu : 0 < T / Nat.gcd (ω i) T := fr_pos hT
    have huT := und_dvd (ω i) T
    have hW2 := Nat.le_of_dvd hT hWT
    have hu2 := Nat.le_of_dvd hT huT
    have hk := k1 ⟨[.d (.list (mkL L fun k => frD (ω k) T)), .d (.int (Nat.lcm W (T / Nat.gcd (ω i) T) : Nat)), .d (.int ((ω i / Nat.gcd (ω i) T : Nat) : Int)), .d (.int ((T / Nat.gcd (ω i) T : Nat) : Int)), .un], []⟩ ⟨_, _, _, .inr ⟨_, rfl⟩, rfl, Nat.lcm_pos hW hu, Nat.lcm_dvd hWT huT, fun k hk => by
      rcases Nat.lt_succ_iff_lt_or_eq.mp hk with z | z
      · exact Nat.dvd_trans (hd k z) (Nat.dvd_lcm_left _ _)
      · subst z
        exact Nat.dvd_lcm_right _ _⟩
    clear k1
    rw [show frD (ω i) T = .tuple [.int ((ω i / Nat.gcd (ω i) T : Nat) : Int), .int ((T / Nat.gcd (ω i) T : Nat) : Int)] from rfl]
    generalize ω i / Nat.gcd (ω i) T = o at *
    generalize T / Nat.gcd (ω i) T = u at *
    simp
    refine ⟨by omega, by omega, ?_⟩
    simpa using hk
  · rintro s ⟨W, a2, a3, h3, rfl, hW, hWT, hd⟩
    rw [mkL_len] at hd
    simp
    have h3' : (match some a3 with
      | some (Sl.o xs) => false
      | some (Sl.tb p qs xss) => false
      | x => true) = true := by
      rcases h3 with rfl | ⟨x, rfl⟩ <;> rfl
    refine ⟨h3', ?_⟩
    have hW2 := Nat.le_of_dvd hT hWT
    refine lc_ix _ (fun k => .int ((ω k / Nat.gcd (ω k) T * (W / (T / Nat.gcd (ω k) T)) : Nat) : Int)) (by rw [mkL_len]; omega) (fun k x hx Y kY => ?_) ?_
    · have hk : k < L := by
        have := (List.getElem?_eq_some_iff.mp hx).1
        rw [mkL_len] at this
        exact this
      rw [mkL_get hk] at hx
      cases hx
      have hu : 0 < T / Nat.gcd (ω k) T := fr_pos hT
      have hu2 := Nat.le_of_dvd hT (und_dvd (ω k) T)
      have ho : ω k / Nat.gcd (ω k) T ≤ 2 ^ 16 := Nat.le_trans (div_le_self _ _) (hω k hk)
      rw [show frD (ω k) T = .tuple [.int ((ω k / Nat.gcd (ω k) T : Nat) : Int), .int ((T / Nat.gcd (ω k) T : Nat) : Int)] from rfl]
      generalize ω k / Nat.gcd (ω k) T = o at *
      generalize T / Nat.gcd (ω k) T = u at *
      simp
      refine ⟨⟨by omega, by omega⟩, .inl ⟨by omega, by omega⟩, ?_⟩
      exact kY _ _ rfl rfl
    · rw [mkL_len]
      refine ⟨sz_le (by omega), h (fun k => ω k / Nat.gcd (ω k) T * (W / (T / Nat.gcd (ω k) T))) W ⟨hW, hWT, fun k hk => ?_⟩⟩
      have h1 := fr_eq (a := ω k) (b := T)
      have h2 := Nat.div_mul_cancel (hd k hk)
      generalize ω k / Nat.gcd (ω k) T = o at *
      generalize T / Nat.gcd (ω k) T = u at *
      rw [Nat.mul_right_comm, h1, Nat.mul_assoc, Nat.mul_comm u, h2]
end L58
namespace L58
open PySem PySem.Spec PyProof.Rows L2 DL
theorem w_pick (ds : List PyData) (q : List Int) (Φ : PyData → List Int → Prop) (h : sp_pick ds q Φ) : W__law_pick (endP Φ) ⟨startE ["pool", "many"] (.pl :: ds.map .d), q⟩ := by
  obtain ⟨m, rfl, hm, hq, k⟩ := h
  obtain ⟨a, t, rfl, ha, h1, h2, h3⟩ := hq.head
  have e1 : (0 : Int) ≤ a % (t.length : Int) := Int.emod_nonneg _ (by omega)
  have e2 : a % (t.length : Int) < t.length := Int.emod_lt_of_pos _ (by omega)
  simp only [W__law_pick, wSeq, wPlSet, wC, wBin, wAdd, wMod, wII, wCB, wN1, gInt, wCons, wNil, wPlIx, poolAt, wSub, wI2, wPlLen, wRet, wVar, endP, startE, S.put, optP, atI_cons0, List.length_cons, List.cons_append, List.getElem?_cons_zero, List.map_cons, List.map_nil]
  simp only [ixN_zero, List.set_cons_zero, atI_cons0]
  have e3 : ((t.length + 1 : Nat) : Int) - 1 = t.length := by omega
  rw [e3]
  refine ⟨by omega, ?_⟩
  rw [atI_lt (xs := (1 + a % (t.length : Int)) :: t) (k := 1 + a % (t.length : Int)) (by omega) (by simp; omega)]
  have e4 : (1 + a % (t.length : Int)).toNat = (a % (t.length : Int)).toNat + 1 := by omega
  have hm' := h3 _ (List.getElem_mem (l := t) (n := (a % (t.length : Int)).toNat) (by omega))
  simp only [e4, List.getElem_cons_succ]
  refine ⟨hm, k _ _ (PoolOk.mk' (by omega) h1 h2 h3) (Int.emod_nonneg _ (by omega)) (Int.emod_lt_of_pos _ hm) ?_⟩
  exact Int.lt_of_le_of_lt (emod_le' hm'.1 hm) hm'.2
theorem w_stream (ns : List Int) (Φ : List PyData → Prop) (h : spStream ns Φ) : W__law_stream (endL Φ) ⟨startE ["script"] [.sc ns], []⟩ := by
  obtain ⟨h1, k⟩ := h
  simp [W__law_stream]
  refine ⟨sz_le (by omega), h1, fun q a b c => ⟨sz_le (by rw [List.length_map]; omega), ?_⟩⟩
  exact k (0 :: q) (PoolOk.mk' (by omega) a (by omega) c)
theorem w_pool (ns : List Int) (Φ : List PyData → Prop) (h : sp_pool ns Φ) : W__law_pool (endL Φ) ⟨startE ["script", "pool", "state", "k", "cell", "step", "one", "two"] [.sc ns], []⟩ := by
  obtain ⟨h1, k⟩ := h
  simp [W__law_pool]
  have hn : (if 63 < (ns.length : Int) then (63 : Int) else (ns.length : Int)) = (ns.length : Int) := by
    rw [if_neg (by omega)]
  rw [hn, Int.toNat_natCast]
  refine ⟨⟨by omega, by omega⟩, ?_⟩
  refine loop_rng (fun i s => ∃ (q : List Int) (st : Int) (a3 a4 a5 a6 a7 : Sl), s = ⟨[.sc ns, .o (q.map .int), .d (.int st), a3, a4, a5, a6, a7], []⟩ ∧ q.length ≤ 60 * i ∧ ∀ n ∈ q, 0 ≤ n ∧ n < 60) ⟨[], 17, _, _, _, _, _, rfl, by simp, by simp⟩ ?_ ?_
  · rintro i s hi ⟨q, st, a3, a4, a5, a6, a7, rfl, hq, ho⟩ Ψ k1 k2 k3 k4 k5
    clear k2 k3 k4 k5
    simp
    generalize ns[i]?.getD 0 = c
    have m59 : ∀ z : Int, 0 ≤ z % 60 ∧ z % 60 < 60 := fun z => ⟨Int.emod_nonneg _ (by decide), Int.emod_lt_of_pos _ (by decide)⟩
    refine ⟨hi, .inr ⟨by decide, by decide⟩, .inr ⟨by decide, by decide⟩, ⟨by decide, by decide, by decide⟩, ?_⟩
    split
    · refine ⟨⟨by decide, by decide⟩, ?_⟩
      generalize (st * 69621 + c * 48271 + (i : Int)) % 2147483647 = st'
      refine loop_rng (fun j s => ∃ (q' : List Int) (c : Int) (a5 : Sl), s = ⟨[.sc ns, .o (q'.map .int), .d (.int st'), .d (.int i), .d (.int c), a5, a6, a7], []⟩ ∧ q'.length ≤ q.length + j ∧ ∀ n ∈ q', 0 ≤ n ∧ n < 60) ⟨q, c, _, rfl, by omega, ho⟩ ?_ ?_
      · rintro j s hj ⟨q', c, a5, rfl, hq', ho'⟩ Ψ' k1' k2 k3 k4 k5
        clear k2 k3 k5
        simp
        refine ite2 (fun _ => ?_) (fun _ => ⟨sz_lt (by omega), ⟨by decide, by decide⟩, k1' _ ⟨q' ++ [c % 60], c / 60, .d (.int (j : Int)), by simp, by simp; omega, fun n hn => ?_⟩⟩)
        · rw [k4]
          exact k1 _ ⟨q', st', _, _, _, _, _, rfl, by omega, ho'⟩
        · rcases List.mem_append.mp hn with h | h
          · exact ho' n h
          · rw [List.mem_singleton.mp h]
            exact m59 c
      · rintro s ⟨q', c, a5, rfl, hq', ho'⟩
        exact k1 _ ⟨q', st', _, _, _, _, _, rfl, by omega, ho'⟩
    · refine ⟨.inr ⟨by decide, by decide⟩, .inr ⟨by decide, by decide⟩, .inr ⟨by decide, by decide⟩, .inr ⟨by decide, by decide⟩, ⟨by decide, by decide⟩, sz_le (by omega), sz_le (by omega), ?_⟩
      refine k1 _ ⟨q ++ [(c * 48271 + (i : Int) * 69621 + 7) % 2147483647 / 11 % 60, ((c * 48271 + (i : Int) * 69621 + 7) % 2147483647 * 16807 + c * 31 + (i : Int)) % 1000003 % 60], _, _, _, _, _, _, by simp; exact ⟨rfl, rfl, rfl, rfl, rfl, rfl⟩, by simp; omega, fun n hn => ?_⟩
      rcases List.mem_append.mp hn with h | h
      · exact ho n h
      · rcases List.mem_cons.mp h with h | h
        · rw [h]
          exact m59 _
        · rw [List.mem_singleton.mp h]
          exact m59 _
  · rintro s ⟨q, st, a3, a4, a5, a6, a7, rfl, hq, ho⟩
    simp
    have m59 : ∀ z : Int, 0 ≤ z % 60 ∧ z % 60 < 60 := fun z => ⟨Int.emod_nonneg _ (by decide), Int.emod_lt_of_pos _ (by decide)⟩
    refine ⟨⟨by decide, by decide⟩, ?_⟩
    refine loop_rng (fun j s => ∃ (q' : List Int) (st : Int) (a5 : Sl), s = ⟨[.sc ns, .o (q'.map .int), .d (.int st), a3, a4, a5, a6, a7], []⟩ ∧ q'.length = q.length + j ∧ ∀ n ∈ q', 0 ≤ n ∧ n < 60) ⟨q, st, _, rfl, by omega, ho⟩ ?_ ?_
    · rintro j s hj ⟨q', st, a5, rfl, hq', ho'⟩ Ψ' k1' k2 k3 k4 k5
      clear k2 k3 k4 k5
      simp
      refine ⟨.inr ⟨by decide, by decide⟩, ⟨by decide, by decide⟩, sz_lt (by omega), k1' _ ⟨q' ++ [(st * 48271 + 11) % 2147483647 / 97 % 60], _, _, by simp; exact ⟨rfl, rfl⟩, by simp; omega, fun n hn => ?_⟩⟩
      rcases List.mem_append.mp hn with h | h
      · exact ho' n h
      · rw [List.mem_singleton.mp h]
        exact m59 _
    · rintro s ⟨q', st, a5, rfl, hq', ho'⟩
      simp
      exact k q' (by omega) (by omega) ho'
end L58
namespace L58
open PySem PySem.Spec PyProof.Rows L2 DL
theorem letters_nodup {i a n : Nat} (hi : i < 6) (hn : n ≤ 6) : ((List.range n).map fun j => 97 + (a + (2 * i + 1) * j) % 26).Nodup := by
  refine nodup_map List.nodup_range ?_
  intro x hx y hy e
  have hx := List.mem_range.mp hx
  have hy := List.mem_range.mp hy
  have hc : i = 0 ∨ i = 1 ∨ i = 2 ∨ i = 3 ∨ i = 4 ∨ i = 5 := by omega
  rcases hc with rfl | rfl | rfl | rfl | rfl | rfl <;> omega
theorem w_letters (ds : List PyData) (q : List Int) (Φ : PyData → List Int → Prop) (h : sp_letters2 ds q Φ) : W__law_letters (endP Φ) ⟨startE ["pool", "most", "many", "signs", "at", "step", "k"] (.pl :: ds.map .d), q⟩ := by
  obtain ⟨m, rfl, h1, h2, hq, k⟩ := h
  simp [W__law_letters]
  refine pick_go (by omega) hq fun n q1 hq1 hn1 hn2 => ?_
  simp
  refine pick_go (by omega) hq1 fun a q2 hq2 ha1 ha2 => ?_
  refine ⟨sz_le (by omega), pick_go (by omega) hq2 fun i q3 hq3 hi1 hi2 => ?_⟩
  rw [show ((1 : Int) + (n : Int)) = ((n + 1 : Nat) : Int) by omega]
  simp only [odd_at (show i < 6 by omega)]
  refine ⟨sz_le (by omega), ⟨by omega, by omega⟩, ?_⟩
  rw [Int.toNat_natCast]
  refine lc_rng (fun j => .str (sg (97 + (a + (2 * i + 1) * j) % 26))) (by omega) (fun j hj Θ kΘ => ?_) ?_
  · have e : ((a : Int) + ((2 * i + 1 : Nat) : Int) * ((0 : Int) + (j : Int))) % 26 = (((a + (2 * i + 1) * j) % 26 : Nat) : Int) := by
      rw [Int.zero_add, ← Int.natCast_mul, ← Int.natCast_add]
      rfl
    simp only [gNm, S.put, wipeE, wBin, wIx, wVar, wII, wC, wAdd, wCB, wN1, gInt, wCons, wNil, optP, List.getElem?_cons_zero, List.getElem?_cons_succ, List.set_cons_zero, List.set_cons_succ, e, abc_at (Nat.mod_lt (a + (2 * i + 1) * j) (show 0 < 26 by omega))]
    exact ⟨trivial, .inr ⟨by omega, by omega⟩, by decide, sz_le (by decide +kernel), kΘ _ _ rfl rfl⟩
  · let cs := (List.range (n + 1)).map fun j => 97 + (a + (2 * i + 1) * j) % 26
    have ej := join_signs cs
    have hl : cs.length = n + 1 := by rw [List.length_map, List.length_range]
    refine ⟨cs.map sg, by simp [cs], ?_, k _ _ hq3 ⟨?_, ?_, ?_⟩ ?_⟩
    · rw [empty_len, Nat.mul_zero, Nat.add_zero, List.map_map]
      refine Nat.le_trans (sum_le (m := 1) fun a h => ?_) (by rw [List.length_map]; omega)
      obtain ⟨b, _, rfl⟩ := List.mem_map.mp h
      exact Nat.le_refl _
    · show 1 ≤ (Txt.join (Str.ofString "") (cs.map sg)).cps.size
      rw [← Array.length_toList, ej, hl]
      omega
    · show ((Txt.join (Str.ofString "") (cs.map sg)).cps.size : Int) ≤ m
      rw [← Array.length_toList, ej, hl]
      omega
    · rw [ej]
      intro c hc
      obtain ⟨j, _, rfl⟩ := List.mem_map.mp hc
      have := Nat.mod_lt (a + (2 * i + 1) * j) (show 0 < 26 by omega)
      omega
    · rw [ej]
      exact letters_nodup (by omega) (by omega)
end L58
namespace L58
open PySem PySem.Spec PyProof.Rows L2 DL
theorem w_machine (ds : List PyData) (q : List Int) (Φ : PyData → List Int → Prop) (h : sp_machine ds q Φ) : W__law_machine (endP Φ) ⟨startE ["pool", "letters", "most", "many", "table", "sign", "state"] (.pl :: ds.map .d), q⟩ := by
  obtain ⟨z, m, rfl, hm1, hm2, hz, hq, kΦ⟩ := h
  simp [W__law_machine]
  refine pick_go (by omega) hq fun v q1 hq1 hv1 hv2 => ?_
  dsimp only
  rw [show ((1 : Int) + (v : Int)) = ((v + 1 : Nat) : Int) by omega]
  refine ⟨⟨by omega, by omega⟩, ?_⟩
  rw [Int.toNat_natCast]
  refine lc_predE (P := fun x => ∃ f : Nat → Nat, (∀ a, a < z.length → f a < v + 1) ∧ x = .list (mkI z.length f)) (rangeD 0 (v + 1)) hq1 (by rw [rangeD_len]; omega) (fun x q2 hx hq2 Θ kΘ => ?_) fun ys q2 hq2 hl hy => ?_
  · simp
    rw [signs_rng]
    refine lc_predE (P := fun x => ∃ u : Nat, u < v + 1 ∧ x = .int (u : Nat)) _ hq2 (by rw [mkL_len]; omega) (fun y q3 hy hq3 Θ' kΘ' => ?_) fun us q3 hq3 hul hu => ?_
    · simp
      exact pick_go (by omega) hq3 fun u q4 hq4 hu1 hu2 => kΘ' _ _ _ rfl hq4 ⟨u, by omega, rfl⟩
    · obtain ⟨f, e, hf⟩ := mkI_of hu
      rw [mkL_len] at hul
      rw [hul] at e hf
      exact kΘ _ _ _ rfl hq3 ⟨f, hf, by rw [e]⟩
  · obtain ⟨T, eT, hT⟩ := mkM_of hy
    rw [rangeD_len] at hl
    rw [hl] at eT hT
    refine ⟨⟨by omega, by omega⟩, ?_⟩
    refine lc_predE (P := fun x => ∃ b : Bool, x = .bool b) (rangeD 0 (v + 1)) hq2 (by rw [rangeD_len]; omega) (fun x q3 hx hq3 Θ kΘ => ?_) fun es q3 hq3 hel he => ?_
    · simp
      exact pick_go (by omega) hq3 fun u q4 hq4 hu1 hu2 => (by
        simp
        exact kΘ _ _ _ rfl hq4 ⟨_, rfl⟩)
    · obtain ⟨E, eE⟩ := mkB_of he
      rw [rangeD_len] at hel
      rw [hel] at eE
      rw [eT, eE]
      exact ⟨sz_le (by omega), kΦ (v + 1) T E q3 hq3 ⟨by omega, hT⟩ (by omega)⟩
end L58
namespace L58
open PySem PySem.Spec PyProof.Rows L2 DL
theorem seq_go {a b : DS} {Φ : EN} {s : S} (h : ∀ Ψ : EN, Ψ.rt = Φ.rt → (∀ s', b Φ s' → Ψ.nx s') → a Ψ s) : wSeq a b Φ s := h _ rfl fun _ h => h
/-- the told weights of L letters, their sum behind them -/
def bw : Nat → List Nat
  | 2 => [1, 99, 100]
  | 3 => [5, 7, 198, 210]
  | 4 => [5, 7, 3, 195, 210]
  | 5 => [5, 7, 12, 36, 360, 420]
  | 6 => [5, 7, 12, 36, 120, 240, 420]
  | _ => []
def bT : Nat → Nat
  | 2 => 100
  | 3 => 210
  | 4 => 210
  | 5 => 420
  | _ => 420
abbrev nmsD (l : List Nat) : PyData := .list (l.map fun n => PyData.int (n : Nat))
def tabW : PyData := .list [nmsD [], nmsD [], nmsD (bw 2), nmsD (bw 3), nmsD (bw 4), nmsD (bw 5), nmsD (bw 6)]
/-- turned by p places, as weights of letters -/
def rot (L p : Nat) (k : Nat) : Nat := ((bw L).take L).getD ((p + k) % L) 0
def chk (L p : Nat) : Bool := ((List.range L).map (rot L p)).sum == bT L && ((bw L).take L).drop p ++ (bw L).take p == (List.range L).map (rot L p) && (bw L)[L]? == some (bT L) && (bw L).length == L + 1 && decide (0 < bT L) && decide (bT L ≤ 420) && (List.range L).all fun k => decide (bT L / Nat.gcd (rot L p k) (bT L) ≤ 100)
theorem rot_sum : ∀ L, 2 ≤ L → L ≤ 6 → ∀ p, p < L → ((List.range L).map (rot L p)).sum = bT L ∧ ((bw L).take L).drop p ++ (bw L).take p = (List.range L).map (rot L p) ∧ (bw L)[L]? = some (bT L) ∧ (bw L).length = L + 1 ∧ 0 < bT L ∧ bT L ≤ 420 ∧ ∀ k, k < L → bT L / Nat.gcd (rot L p k) (bT L) ≤ 100 := by
  intro L h1 h2 p hp
  have h : ((List.range 7).all fun L => (List.range 7).all fun p => !(decide (2 ≤ L) && decide (p < L)) || chk L p) = true := by decide +kernel
  have h3 := List.all_eq_true.mp (List.all_eq_true.mp h L (List.mem_range.mpr (by omega))) p (List.mem_range.mpr (by omega))
  rw [decide_eq_true h1, decide_eq_true hp] at h3
  have h4 : chk L p = true := h3
  unfold chk at h4
  simp only [Bool.and_eq_true, beq_iff_eq, decide_eq_true_eq] at h4
  obtain ⟨⟨⟨⟨⟨⟨a, b⟩, c⟩, d⟩, e⟩, f⟩, g⟩ := h4
  exact ⟨a, b, c, d, e, f, fun k hk => of_decide_eq_true (List.all_eq_true.mp g k (List.mem_range.mpr hk))⟩
theorem tab_at {L : Nat} (h1 : 1 ≤ L) (h2 : L ≤ 6) : atI [nmsD [], nmsD [], nmsD (bw 2), nmsD (bw 3), nmsD (bw 4), nmsD (bw 5), nmsD (bw 6)] (L : Int) = some (nmsD (bw L)) := by
  have : L = 1 ∨ L = 2 ∨ L = 3 ∨ L = 4 ∨ L = 5 ∨ L = 6 := by omega
  rcases this with rfl | rfl | rfl | rfl | rfl | rfl <;> rfl
theorem cut_mid {xs : List PyData} {a b : Nat} (hab : a ≤ b) (hb : b ≤ xs.length) : DL.cutD xs (some (a : Int)) (some (b : Int)) = (xs.take b).drop a := by
  unfold DL.cutD
  rw [sIx_in (by omega) (by omega), sIx_in (by omega) (by omega)]
  simp [List.drop_take]
theorem cut_to {xs : List PyData} {b : Nat} (h : b ≤ xs.length) : DL.cutD xs none (some (b : Int)) = xs.take b := by
  unfold DL.cutD
  rw [sIx_in (by omega) (by omega)]
  simp [HT.sIx]
theorem cut_from {xs : List PyData} {a : Nat} (h : a ≤ xs.length) : DL.cutD xs (some (a : Int)) none = xs.drop a := by
  unfold DL.cutD
  rw [sIx_in (by omega) (by omega)]
  rw [Int.toNat_natCast]
  exact List.take_of_length_le (by rw [List.length_drop]; exact Nat.le_refl _)
theorem tot_at {i : Nat} (h : i < 12) : ∃ t : Nat, 1 ≤ t ∧ t ≤ 100 ∧ atI [PyData.int 1, .int 2, .int 2, .int 3, .int 4, .int 6, .int 10, .int 12, .int 30, .int 97, .int 99, .int 100] (i : Int) = some (.int (t : Nat)) := by
  have : i = 0 ∨ i = 1 ∨ i = 2 ∨ i = 3 ∨ i = 4 ∨ i = 5 ∨ i = 6 ∨ i = 7 ∨ i = 8 ∨ i = 9 ∨ i = 10 ∨ i = 11 := by omega
  rcases this with rfl | rfl | rfl | rfl | rfl | rfl | rfl | rfl | rfl | rfl | rfl | rfl
  · exact ⟨1, by decide, by decide, rfl⟩
  · exact ⟨2, by decide, by decide, rfl⟩
  · exact ⟨2, by decide, by decide, rfl⟩
  · exact ⟨3, by decide, by decide, rfl⟩
  · exact ⟨4, by decide, by decide, rfl⟩
  · exact ⟨6, by decide, by decide, rfl⟩
  · exact ⟨10, by decide, by decide, rfl⟩
  · exact ⟨12, by decide, by decide, rfl⟩
  · exact ⟨30, by decide, by decide, rfl⟩
  · exact ⟨97, by decide, by decide, rfl⟩
  · exact ⟨99, by decide, by decide, rfl⟩
  · exact ⟨100, by decide, by decide, rfl⟩
theorem kd_at {i : Nat} (h : i < 6) : ∃ t : Nat, t < 3 ∧ atI [PyData.int 0, .int 0, .int 0, .int 1, .int 1, .int 2] (i : Int) = some (.int (t : Nat)) := by
  have : i = 0 ∨ i = 1 ∨ i = 2 ∨ i = 3 ∨ i = 4 ∨ i = 5 := by omega
  rcases this with rfl | rfl | rfl | rfl | rfl | rfl
  · exact ⟨0, by decide, rfl⟩
  · exact ⟨0, by decide, rfl⟩
  · exact ⟨0, by decide, rfl⟩
  · exact ⟨1, by decide, rfl⟩
  · exact ⟨1, by decide, rfl⟩
  · exact ⟨2, by decide, rfl⟩
end L58
namespace L58
open PySem PySem.Spec PyProof.Rows L2 DL
theorem range_getD (l : List Nat) : (List.range l.length).map (fun k => l.getD k 0) = l := by
  refine List.ext_getElem? fun i => ?_
  rw [List.getElem?_map]
  by_cases h : i < l.length
  · rw [List.getElem?_range h, List.getElem?_eq_getElem h]
    simp [List.getD, h]
  · rw [List.getElem?_eq_none (by rw [List.length_range]; omega), List.getElem?_eq_none (by omega)]
    rfl
theorem w_weights (ds : List PyData) (q : List Int) (Φ : PyData → List Int → Prop) (h : sp_weights ds q Φ) : W__law_weights (endP Φ) ⟨startE ["pool", "many", "told", "kind", "at", "total", "left", "weights", "k", "weight"] (.pl :: ds.map .d), q⟩ := by
  obtain ⟨L, rfl, h1, h6, hq, h⟩ := h
  show W__law_weights (endP Φ) ⟨[.pl, .d (.int (L : Nat)), .un, .un, .un, .un, .un, .un, .un, .un], q⟩
  have s0 : 3 ≤ sizeLine := sz_le (by omega)
  have s1 : 4 ≤ sizeLine := sz_le (by omega)
  have s2 : 5 ≤ sizeLine := sz_le (by omega)
  have s3 : 6 ≤ sizeLine := sz_le (by omega)
  have s4 : 7 ≤ sizeLine := sz_le (by omega)
  unfold W__law_weights
  refine seq_go fun Ψ _ k => ?_
  simp [s0, s1, s2, s3, s4]
  refine k ⟨[.pl, .d (.int (L : Nat)), .d tabW, .un, .un, .un, .un, .un, .un, .un], q⟩ ?_
  clear k
  refine seq_go fun Ψ _ k => ?_
  simp
  refine pick_go (by omega) hq fun kd q1 hq1 hk1 hk2 => k _ ?_
  clear k
  refine seq_go fun Ψ hΨ k => ?_
  simp [tabW, tab_at h1 h6]
  have key : ∀ s, s = (⟨[.pl, .d (.int (L : Nat)), .d tabW, .d (.int (kd : Nat)), .un, .un, .un, .un, .un, .un], q1⟩ : S) → Ψ.nx s := fun s e => by
    subst e
    refine k _ ?_
    clear k hΨ
    refine seq_go fun Ψ hΨ k => ?_
    simp
    refine ⟨sz_le (by omega), pick_go (by omega) hq1 fun i q2 hq2 hi1 hi2 => ?_⟩
    obtain ⟨t, ht1, ht2, et⟩ := tot_at (i := i) (by omega)
    simp only [et]
    refine k _ ?_
    clear k et
    refine seq_go fun Ψ hΨ k => ?_
    simp
    have go : ∀ (T : Nat) q', PoolOk q' → 1 ≤ T → T ≤ 100 → Ψ.nx ⟨[.pl, .d (.int (L : Nat)), .d tabW, .d (.int (kd : Nat)), .un, .d (.int (T : Nat)), .un, .un, .un, .un], q'⟩ := fun T q3 hq3 hT1 hT2 => by
      refine k _ ?_
      clear k
      refine seq_go fun Ψ hΨ k => ?_
      simp
      refine k _ ?_
      clear k
      refine seq_go fun Ψ hΨ k => ?_
      simp
      refine ⟨⟨by omega, by omega⟩, ?_⟩
      refine loop_rng (fun i s => ∃ (ω : Nat → Nat) (left : Nat) (a8 a9 : Sl) (q' : List Int), PoolOk q' ∧ ((List.range i).map ω).sum + left = T ∧ s = ⟨[.pl, .d (.int (L : Nat)), .d tabW, .d (.int (kd : Nat)), .un, .d (.int (T : Nat)), .d (.int (left : Nat)), .o (mkI i ω), a8, a9], q'⟩) ⟨fun _ => 0, T, .un, .un, q3, hq3, by simp, rfl⟩ ?_ ?_
      · rintro i s hi ⟨ω, left, a8, a9, q4, hq4, hsum, rfl⟩ Θ k1 k2 k3 k4 k5
        clear k2 k3 k4 k5
        have fin : ∀ (w : Nat) (a8 : Sl) q', PoolOk q' → w ≤ left → Θ.nx ⟨[.pl, .d (.int (L : Nat)), .d tabW, .d (.int (kd : Nat)), .un, .d (.int (T : Nat)), .d (.int ((left : Int) - (w : Int))), .o (mkI i ω ++ [.int (w : Nat)]), a8, .d (.int (w : Nat))], q'⟩ := fun w a8 q' hq' hw => by
          refine k1 _ ⟨setF ω i w, left - w, a8, .d (.int (w : Nat)), q', hq', ?_, ?_⟩
          · rw [List.range_succ, List.map_append, List.sum_append]
            have e1 : (List.range i).map (setF ω i w) = (List.range i).map ω := List.map_congr_left fun b hb => setF_ne (by have := List.mem_range.mp hb; omega)
            rw [e1]
            simp [setF]
            omega
          · rw [mkI_snoc, Int.ofNat_sub hw]
        clear k1
        have hi6 : i < 6 := by omega
        have slen : (mkI i ω).length < sizeLine := by rw [mkI_len]; exact sz_lt (by omega)
        simp
        refine ⟨⟨by omega, by omega⟩, pick_go (by omega) hq4 fun u q5 hq5 hu1 hu2 => ⟨sz_le (by omega), sz_le (by omega), pick_go (by omega) hq5 fun v q6 hq6 hv1 hv2 => ?_⟩⟩
        obtain ⟨t3, ht3, et3⟩ := kd_at (i := v) (by omega)
        simp only [et3]
        have hcase : t3 = 0 ∨ t3 = 1 ∨ t3 = 2 := by omega
        rcases hcase with rfl | rfl | rfl
        · by_cases hlt : ((T : Nat) : Int) / (L : Int) < (left : Int)
          · rw [if_pos hlt]
            exact ⟨slen, fin (T / L) _ q6 hq6 (by
              have : (((T / L : Nat) : Nat) : Int) < (left : Int) := hlt
              omega)⟩
          · rw [if_neg hlt]
            exact ⟨slen, fin left _ q6 hq6 (Nat.le_refl _)⟩
        · exact ⟨slen, fin (u % (left + 1)) _ q6 hq6 (Nat.le_of_lt_succ (Nat.mod_lt _ (by omega)))⟩
        · exact ⟨slen, fin 0 _ q6 hq6 (Nat.zero_le _)⟩
      · rintro s ⟨ω, left, a8, a9, q4, hq4, hsum, rfl⟩
        refine k _ ?_
        clear k
        refine seq_go fun Ψ hΨ k => ?_
        simp
        refine pick_go (by omega) hq4 fun p q5 hq5 hp1 hp2 => k _ ?_
        clear k
        simp
        have hp : p ≤ (mkI (L - 1) ω).length := by rw [mkI_len]; omega
        rw [cut_to hp, cut_from hp]
        have hl : ((mkI (L - 1) ω).take p).length = p := by rw [List.length_take, mkI_len]; omega
        have hl2 : ((mkI (L - 1) ω).drop p).length = L - 1 - p := by rw [List.length_drop, mkI_len]
        refine ⟨sz_le (by omega), sz_le (by omega), sz_le (by omega), sz_le (by omega), ?_⟩
        obtain ⟨l, hlL, hls, hlm⟩ : ∃ l : List Nat, l.length = L ∧ l.sum = T ∧ (mkI (L - 1) ω).take p ++ PyData.int (left : Nat) :: (mkI (L - 1) ω).drop p = l.map fun n => PyData.int (n : Nat) := by
          refine ⟨((List.range (L - 1)).map ω).take p ++ left :: ((List.range (L - 1)).map ω).drop p, ?_, ?_, ?_⟩
          · rw [List.length_append, List.length_cons, List.length_take, List.length_drop, List.length_map, List.length_range]
            omega
          · rw [List.sum_append, List.sum_cons]
            have e := congrArg List.sum (List.take_append_drop p ((List.range (L - 1)).map ω))
            rw [List.sum_append] at e
            omega
          · rw [List.map_append, List.map_cons, List.map_take, List.map_drop, List.map_map]
            rfl
        rw [hlm]
        have er := range_getD l
        rw [hlL] at er
        have em : mkI L (fun k => l.getD k 0) = l.map fun n => PyData.int (n : Nat) := by
          have := congrArg (List.map fun n : Nat => PyData.int (n : Nat)) er
          rw [List.map_map] at this
          exact this
        rw [← em]
        exact h _ T q5 hq5 hT1 (by omega) (by rw [er]; exact hls) fun k _ => Nat.le_trans (Nat.div_le_self _ _) (by omega)
    by_cases h3 : (kd : Int) < 3
    · rw [if_pos h3]
      refine pick_go (by omega) hq2 fun m q3 hq3 hm1 hm2 => ?_
      simp
      refine ⟨.inl ⟨by omega, by omega⟩, ?_⟩
      have em : (L : Int) * (1 + (m : Int)) = ((L * (1 + m) : Nat) : Int) := by rw [Int.natCast_mul, Int.natCast_add]; rfl
      rw [em]
      have hm : m < 2 := by omega
      have h1' : L * 1 ≤ L * (1 + m) := Nat.mul_le_mul (Nat.le_refl _) (by omega)
      have h2' : L * (1 + m) ≤ 6 * 2 := Nat.mul_le_mul h6 (by omega)
      exact go (L * (1 + m)) q3 hq3 (by omega) (by omega)
    · rw [if_neg h3]
      exact go t q2 hq2 ht1 ht2
  by_cases hk : kd = 0
  · rw [if_pos hk]
    by_cases hL : 1 < (L : Int)
    · rw [if_pos hL]
      refine pick_go (by omega) hq1 fun p q2 hq2 hp1 hp2 => ?_
      obtain ⟨r1, r2, r3, r4, r5, r6, r7⟩ := rot_sum L (by omega) h6 p (by omega)
      have hlen : ((bw L).map fun n => PyData.int (n : Nat)).length = L + 1 := by rw [List.length_map, r4]
      have hat : atI ((bw L).map fun n => PyData.int (n : Nat)) (L : Int) = some (.int (bT L : Nat)) := by
        rw [DL.atI_nat (by rw [hlen]; omega), List.getElem?_map, r3]
        rfl
      have hcut : DL.cutD ((bw L).map fun n => PyData.int (n : Nat)) (some (p : Int)) (some (L : Int)) ++ DL.cutD ((bw L).map fun n => PyData.int (n : Nat)) none (some (p : Int)) = mkI L (rot L p) := by
        rw [cut_mid (by omega) (by rw [hlen]; omega), cut_to (by rw [hlen]; omega), ← List.map_take, ← List.map_drop, ← List.map_take, ← List.map_append, r2, List.map_map]
        rfl
      have hcl : (DL.cutD ((bw L).map fun n => PyData.int (n : Nat)) (some (p : Int)) (some (L : Int))).length + (DL.cutD ((bw L).map fun n => PyData.int (n : Nat)) none (some (p : Int))).length ≤ sizeLine := by
        rw [← List.length_append, hcut, mkI_len]
        exact sz_le (by omega)
      dsimp only
      rw [hat, hcut]
      refine ⟨hcl, sz_le (by omega), ?_⟩
      rw [hΨ]
      exact h (rot L p) (bT L) q2 hq2 r5 r6 r1 r7
    · rw [if_neg hL]
      exact key _ rfl
  · rw [if_neg hk]
    exact key _ rfl
end L58
namespace L58
open PySem PySem.Spec PyProof.Rows L2 DL
theorem w_is_number (ds : List PyData) (Φ : PyData → Prop) (h : sp_is_number ds Φ) : W_is_number (endD Φ) ⟨startE ["value"] (ds.map .d), []⟩ := by
  obtain ⟨x, rfl, hx, h⟩ := h
  show W_is_number (endD Φ) ⟨[.d x], []⟩
  have e1 : kitB "int" "int" = some true := by decide +kernel
  have e2 : kitB "int" "bool" = some false := by decide +kernel
  have e3 : kitB "bool" "int" = some true := by decide +kernel
  have e4 : kitB "bool" "bool" = some true := by decide +kernel
  have e5 : kitB "str" "int" = some false := by decide +kernel
  have e6 : kitB "list" "int" = some false := by decide +kernel
  have e7 : kitB "tuple" "int" = some false := by decide +kernel
  have e8 : kitB "NoneType" "int" = some false := by decide +kernel
  cases x with
  | dict kvs => exact absurd rfl (hx kvs)
  | _ => 
    simp [W_is_number, kindD, e1, e2, e3, e4, e5, e6, e7, e8]
    exact h
end L58
namespace L58
open PySem PySem.Spec PyProof.Rows L2 DL
theorem noD {x : PyData} (h : x.hasDict = false) : ∀ kvs, x ≠ .dict kvs := fun kvs e => by
  rw [e] at h
  simp [PyData.hasDict] at h
theorem isCh_no {x : PyData} (h : ∀ o u, x ≠ .tuple [.int o, .int u]) : isCh x = false := by
  unfold isCh
  split
  · rename_i o u
    exact absurd rfl (h o u)
  · rfl
theorem w_is_chance (ds : List PyData) (Φ : PyData → Prop) (h : sp_is_chance ds Φ) : W_is_chance (endD Φ) ⟨startE ["value", "over", "under"] (ds.map .d), []⟩ := by
  obtain ⟨x, rfl, hx, h⟩ := h
  show W_is_chance (endD Φ) ⟨[.d x, .un, .un], []⟩
  have e1 : kitB "int" "tuple" = some false := by decide +kernel
  have e3 : kitB "bool" "tuple" = some false := by decide +kernel
  have e5 : kitB "str" "tuple" = some false := by decide +kernel
  have e6 : kitB "list" "tuple" = some false := by decide +kernel
  have e7 : kitB "tuple" "tuple" = some true := by decide +kernel
  have e8 : kitB "NoneType" "tuple" = some false := by decide +kernel
  cases x with
  | dict kvs => exact absurd rfl (noD hx kvs)
  | tuple l =>
    match l, hx, h with
    | [], hx, h =>
      simp [W_is_chance, kindD, e7]
      rw [isCh_no (fun o u z => by cases z)] at h
      exact h
    | [a], hx, h =>
      simp [W_is_chance, kindD, e7]
      rw [isCh_no (fun o u z => by cases z)] at h
      exact h
    | a :: b :: c :: l, hx, h =>
      have hl : ¬ ((l.length : Int) + 1 + 1 + 1 = 2) := by omega
      simp [W_is_chance, kindD, e7, hl]
      rw [isCh_no (fun o u z => by cases z)] at h
      exact h
    | [a, b], hx, h =>
      have ha : a.hasDict = false := by
        simp [PyData.hasDict, PyData.hasDictAll] at hx
        exact hx.1
      have hb : b.hasDict = false := by
        simp [PyData.hasDict, PyData.hasDictAll] at hx
        exact hx.2
      simp [W_is_chance, kindD, e7]
      refine ⟨a, rfl, noD ha, ?_⟩
      by_cases na : isNum a = true
      · cases a with
        | int o =>
          simp [isNum]
          refine ⟨b, rfl, noD hb, ?_⟩
          by_cases nb : isNum b = true
          · cases b with
            | int u =>
              simp [isNum, gGcd, d_MOST_PARTS_OF_ONE]
              have e : isCh (.tuple [.int o, .int u]) = (decide (1 ≤ u ∧ u ≤ 100) && (decide (0 ≤ o ∧ o ≤ u) && decide (Int.gcd o u = 1))) := rfl
              rw [e] at h
              by_cases c1 : 1 ≤ u
              · by_cases c2 : u ≤ 100
                · by_cases c3 : 0 ≤ o
                  · by_cases c4 : o ≤ u
                    · simp only [c1, c2, c3, c4, if_true, and_self, decide_true, Bool.true_and] at h ⊢
                      have e2 : decide ((o.natAbs.gcd u.natAbs : Int) = 1) = decide (Int.gcd o u = 1) := by
                        unfold Int.gcd
                        exact decide_eq_decide.mpr ⟨fun z => by omega, fun z => by omega⟩
                      rw [e2]
                      exact h
                    · simp [c1, c2, c3, c4] at h ⊢
                      exact h
                  · simp [c1, c2, c3] at h ⊢
                    exact h
                · simp [c1, c2] at h ⊢
                  exact h
              · simp [c1] at h ⊢
                exact h
            | _ => cases nb
          · simp [nb]
            rw [isCh_no (fun o u z => by cases z; exact nb rfl)] at h
            exact h
        | _ => cases na
      · simp [na]
        rw [isCh_no (fun o u z => by cases z; exact na rfl)] at h
        exact h
  | _ =>
    simp [W_is_chance, kindD, e1, e3, e5, e6, e7, e8]
    exact h
end L58
namespace L58
open PySem PySem.Spec PyProof.Rows L2 DL
/-- a chance is a fraction of small numbers -/
theorem isCh_pr {x : PyData} (h : isCh x = true) : ∃ o u : Nat, x = .tuple [.int (o : Nat), .int (u : Nat)] ∧ prD x = (o, u) ∧ 1 ≤ u ∧ u ≤ 100 ∧ o ≤ u ∧ Nat.gcd o u = 1 := by
  unfold isCh at h
  split at h
  · rename_i o u
    simp only [Bool.and_eq_true, decide_eq_true_eq] at h
    obtain ⟨⟨h1, h2⟩, ⟨h3, h4⟩, h5⟩ := h
    obtain ⟨a, rfl⟩ := Int.eq_ofNat_of_zero_le h3
    obtain ⟨b, rfl⟩ := Int.eq_ofNat_of_zero_le (show 0 ≤ u by omega)
    exact ⟨a, b, rfl, rfl, by omega, by omega, by omega, h5⟩
  · cases h
theorem fr_one {o u : Nat} (h : Nat.gcd o u = 1) : frD o u = .tuple [.int (o : Nat), .int (u : Nat)] := by
  unfold frD
  rw [h, Nat.div_one, Nat.div_one]
theorem src_pr : ∀ {xs : List PyData}, xs.all isCh = true → xs = (xs.map prD).map fun x => frD x.1 x.2
  | [], _ => rfl
  | x :: xs, h => by
    simp only [List.all_cons, Bool.and_eq_true] at h
    obtain ⟨o, u, e, e2, _, _, _, g⟩ := isCh_pr h.1
    rw [List.map_cons, List.map_cons, ← src_pr h.2, e2, fr_one g, ← e]
theorem gn_all {Φ : Bool → Prop} {s : S} : ∀ (xs : List PyData), (∀ x, x ∈ xs → x.hasDict = false) → Φ (xs.all isCh) → gnAll true (wCall sp_is_chance (wCons (wVar 1) wNil)) (gE s []) xs Φ
  | [], _, h => h
  | x :: xs, hx, h => by
    unfold gnAll
    simp only [gE, List.map_nil, wCall, wCons, wVar, wNil, List.getElem?_cons_succ, List.getElem?_cons_zero]
    refine ⟨x, rfl, hx x List.mem_cons_self, _, rfl, fun hb => ?_, fun hb => ?_⟩
    · refine gn_all xs (fun y hy => hx y (List.mem_cons_of_mem _ hy)) ?_
      rw [List.all_cons, hb, Bool.true_and] at h
      exact h
    · have hb : isCh x = false := by simpa using hb
      rw [List.all_cons, hb, Bool.false_and] at h
      rw [hb]
      exact h
theorem fr_is_one {n d : Nat} (hd : 0 < d) : PyData.eqv (frD n d) (.tuple [.int 1, .int 1]) = decide (n = d) := by
  have e : PyData.eqv (frD n d) (.tuple [.int 1, .int 1]) = (decide (((n / Nat.gcd n d : Nat) : Int) = 1) && decide (((d / Nat.gcd n d : Nat) : Int) = 1)) := by
    unfold frD
    simp [PyData.eqv, PyData.eqvAll]
    rfl
  rw [e]
  have g := Nat.gcd_pos_of_pos_right n hd
  by_cases h : n = d
  · subst h
    rw [Nat.gcd_self, Nat.div_self hd]
    simp
  · rw [decide_eq_false h]
    by_cases h1 : d / Nat.gcd n d = 1
    · have h2 : ¬ n / Nat.gcd n d = 1 := fun z => h (by
        have a := Nat.div_mul_cancel (Nat.gcd_dvd_left n d)
        have b := Nat.div_mul_cancel (Nat.gcd_dvd_right n d)
        rw [z] at a
        rw [h1] at b
        omega)
      have h3 : ¬ ((n / Nat.gcd n d : Nat) : Int) = 1 := by omega
      rw [decide_eq_false h3, Bool.false_and]
    · have h3 : ¬ ((d / Nat.gcd n d : Nat) : Int) = 1 := by omega
      rw [decide_eq_false h3, Bool.and_false]
theorem src_small {xs : List PyData} (h : xs.all isCh = true) : ∀ x, x ∈ xs.map prD → 0 < x.2 ∧ x.1 < 2 ^ 64 ∧ x.2 < 2 ^ 64 := fun x hx => by
  obtain ⟨y, hy, rfl⟩ := List.mem_map.mp hx
  obtain ⟨o, u, _, e2, a, b, c, _⟩ := isCh_pr (List.all_eq_true.mp h y hy)
  rw [e2]
  exact ⟨by omega, by omega, by omega⟩
theorem fmt16 {k : Nat} (h : k ≤ 16) : fmtD (.int (k : Nat)) := by
  have h2 : ∀ k : Fin 17, (k.val.log2 < 1920 ∧ (Str.ofString ((k.val : Int).repr)).length ≤ 1000) := by decide +kernel
  have h3 := h2 ⟨k, by omega⟩
  simp [fmtD]
  exact h3
theorem w_check_source (ds : List PyData) (Φ : PyData → Prop) (Ψ : Str → List PyData → Prop) (h : sp_check_source ds Φ Ψ) : W_check_source (endX Φ Ψ) ⟨startE ["letters", "source", "value"] (ds.map .d), []⟩ := by
  obtain ⟨z, xs, rfl, hz, hl, hd, h1, h2, h3⟩ := h
  show W_check_source (endX Φ Ψ) ⟨[.d (.str z), .d (.list xs), .un], []⟩
  have one : eqD (frD (sumFr (xs.map prD)).1 (sumFr (xs.map prD)).2) (.tuple [.int 1, .int 1]) := ⟨rfl, rfl⟩
  unfold W_check_source
  simp only [wSeq, wIfS]
  by_cases e : xs.length = z.length
  · simp [e]
    refine ⟨sz_le (by omega), ?_⟩
    show gnAll true _ (gE _ []) xs _
    refine gn_all xs hd ?_
    cases hc : xs.all isCh with
    | false =>
      simp
      exact h3 e (by unfold okSrc; rw [hc]; rfl)
    | true =>
      simp
      refine ⟨xs.map prD, by rw [← src_pr hc], by simp; omega, fun x hx => ?_, sz_le (by omega), one, ?_⟩
      · exact src_small hc x hx
      · rw [fr_is_one (sum_pos _ (src_small hc)).1]
        have ok : okSrc xs = decide ((sumFr (xs.map prD)).1 = (sumFr (xs.map prD)).2) := by unfold okSrc; rw [hc, Bool.true_and]
        cases hk : decide ((sumFr (xs.map prD)).1 = (sumFr (xs.map prD)).2) with
        | true => exact h2 e (by rw [ok, hk])
        | false => exact h3 e (by rw [ok, hk])
  · have e' : ¬ ((xs.length : Int) = (z.length : Int)) := by omega
    simp [e']
    exact ⟨sz_le (by omega), fmt16 hl, h1 e⟩
theorem w_refusal (ds : List PyData) (Φ : PyData → Prop) (h : sp_law_refusal ds Φ) : W__law_refusal (endD Φ) ⟨startE ["letters", "source", "told", "e"] (ds.map .d), []⟩ := by
  obtain ⟨z, xs, rfl, hz, hl, hd, h⟩ := h
  show W__law_refusal (endD Φ) ⟨[.d (.str z), .d (.list xs), .un, .un], []⟩
  have s2 : 2 ≤ sizeLine := sz_le (by omega)
  have s3 : 3 ≤ sizeLine := sz_le (by omega)
  unfold W__law_refusal
  simp only [wSeq, wTryN, wSetX, wCons, wVar, wNil, List.getElem?_cons_zero, List.getElem?_cons_succ]
  refine ⟨z, xs, rfl, hz, hl, hd, fun e => ?_, fun e ok => ?_, fun e ok => ?_⟩
  · refine ⟨by decide, ?_⟩
    simp [pickC, bE]
    intro a dd
    refine ⟨⟨_, rfl⟩, ?_⟩
    rw [if_neg (by decide)]
    refine ⟨_, by first | rfl | exact if_pos rfl | (simp [fldAt]), s3, ?_⟩
    show Φ _
    unfold refD at h
    rw [if_neg e] at h
    exact h
  · simp [s2]
    unfold refD at h
    rw [if_pos e, if_pos ok] at h
    exact h
  · refine ⟨by decide, ?_⟩
    simp [pickC, bE]
    rw [if_neg (by decide)]
    intro a
    refine ⟨s2, ?_⟩
    show Φ _
    unfold refD at h
    rw [if_pos e, if_neg (by rw [ok]; decide)] at h
    exact h
end L58
namespace L58
open PySem PySem.Spec PyProof.Rows L2 DL
/-! weighted numbers of words -/
def bkW1 (L : Nat) (ω : Nat → Nat) (T : Nat → Nat → Nat) (h : Nat → Nat) (s : Nat) : Nat := sumN L fun a => ω a * h (T s a)
theorem bkW_comm (L : Nat) (ω : Nat → Nat) (T : Nat → Nat → Nat) : ∀ (k : Nat) (h : Nat → Nat) (s : Nat), bkW L ω T (k + 1) h s = bkW L ω T k (bkW1 L ω T h) s
  | 0, h, s => rfl
  | k + 1, h, s => by
    show sumN L (fun a => ω a * bkW L ω T (k + 1) h (T s a)) = sumN L fun a => ω a * bkW L ω T k (bkW1 L ω T h) (T s a)
    exact sumN_congr fun a _ => by rw [bkW_comm L ω T k h (T s a)]
theorem bkW_congr {L n : Nat} {ω : Nat → Nat} {T : Nat → Nat → Nat} (lt : ∀ s a, s < n → a < L → T s a < n) {h g : Nat → Nat} (e : ∀ s, s < n → h s = g s) : ∀ (k : Nat) (s : Nat), s < n → bkW L ω T k h s = bkW L ω T k g s
  | 0, s, hs => e s hs
  | k + 1, s, hs => sumN_congr fun a ha => by rw [bkW_congr lt e k (T s a) (lt s a hs ha)]
theorem wlW_sum (L : Nat) (ω : Nat → Nat) (T : Nat → Nat → Nat) : ∀ (k : Nat) (h : Nat → Nat), ((wl L k).map fun w => prodW ω w * h (w.foldl T 0)).sum = bkW L ω T k h 0
  | 0, h => by
    simp [wl, bkW, prodW]
  | k + 1, h => by
    rw [bkW_comm, ← wlW_sum L ω T k (bkW1 L ω T h)]
    have e : wl L (k + 1) = (wl L k).flatMap fun w => (List.range L).map fun a => w ++ [a] := rfl
    rw [e]
    generalize wl L k = l
    induction l with
    | nil => rfl
    | cons w l ih =>
      rw [List.flatMap_cons, List.map_append, List.sum_append, ih, List.map_cons, List.sum_cons]
      congr 1
      rw [List.map_map]
      unfold bkW1
      rw [← sumN_mul]
      unfold sumN
      congr 1
      refine List.map_congr_left fun a _ => ?_
      show prodW ω (w ++ [a]) * h ((w ++ [a]).foldl T 0) = _
      rw [List.foldl_append, prod_snoc, Nat.mul_assoc]
      rfl
/-- the same weights over another whole -/
theorem bkW_scale {L W T0 : Nat} {v ω : Nat → Nat} {T : Nat → Nat → Nat} (S : Scaled L ω T0 v W) (h : Nat → Nat) : ∀ (k s : Nat), bkW L v T k h s * T0 ^ k = bkW L ω T k h s * W ^ k
  | 0, s => by simp [bkW]
  | k + 1, s => by
    show sumN L (fun a => v a * bkW L v T k h (T s a)) * T0 ^ (k + 1) = sumN L (fun a => ω a * bkW L ω T k h (T s a)) * W ^ (k + 1)
    rw [Nat.mul_comm, Nat.mul_comm (sumN L _) (W ^ (k + 1)), ← sumN_mul, ← sumN_mul]
    refine sumN_congr fun a ha => ?_
    have e1 := bkW_scale (T := T) S h k (T s a)
    have e2 := S.eq a ha
    rw [Nat.pow_succ, Nat.pow_succ]
    calc T0 ^ k * T0 * (v a * bkW L v T k h (T s a)) = (v a * T0) * (bkW L v T k h (T s a) * T0 ^ k) := by ac_rfl
      _ = (ω a * W) * (bkW L ω T k h (T s a) * W ^ k) := by rw [e1, e2]
      _ = W ^ k * W * (ω a * bkW L ω T k h (T s a)) := by ac_rfl
/-- bounds -/
theorem sumN_le' {n m : Nat} {f : Nat → Nat} (h : ∀ i, i < n → f i ≤ m) : sumN n f ≤ n * m := by
  induction n with
  | zero => simp [sumN]
  | succ n ih =>
    rw [sumN_succ, Nat.succ_mul]
    have a := ih fun i hi => h i (by omega)
    have b := h n (by omega)
    omega
theorem bkW_le {L m : Nat} {ω : Nat → Nat} {T : Nat → Nat → Nat} (hω : ∀ a, a < L → ω a ≤ m) {h : Nat → Nat} (hh : ∀ s, h s ≤ 1) : ∀ (k s : Nat), bkW L ω T k h s ≤ (L * m) ^ k
  | 0, s => by simpa [bkW] using hh s
  | k + 1, s => by
    have := sumN_le' (n := L) (m := m * (L * m) ^ k) (f := fun a => ω a * bkW L ω T k h (T s a)) fun a ha => Nat.mul_le_mul (hω a ha) (bkW_le hω hh k (T s a))
    show sumN L _ ≤ _
    rw [Nat.pow_succ, Nat.mul_comm ((L * m) ^ k), Nat.mul_assoc]
    exact this
theorem eN_le (E : Nat → Bool) (s : Nat) : eN E s ≤ 1 := by
  unfold eN
  split <;> omega
/-- behind an end all words count -/
theorem bkW_end {L T0 : Nat} {ω : Nat → Nat} {T : Nat → Nat → Nat} {E : Nat → Bool} (hs : sumN L ω = T0) {s : Nat} (he : E s = true) : ∀ k, bkW L ω (stT T E) k (eN E) s = T0 ^ k
  | 0 => by simp [bkW, eN, he]
  | k + 1 => by
    show sumN L (fun a => ω a * bkW L ω (stT T E) k (eN E) (stT T E s a)) = _
    rw [sumN_congr (g := fun a => T0 ^ k * ω a) fun a _ => ?_, sumN_mul, hs, Nat.pow_succ]
    have : stT T E s a = s := if_pos he
    rw [this, bkW_end hs he k, Nat.mul_comm]
theorem sum_sumN (L : Nat) (f : Nat → Nat) : ((List.range L).map f).sum = sumN L f := rfl
theorem stT_lt {L n : Nat} {T : Nat → Nat → Nat} {E : Nat → Bool} (h : MachOk L n T) : MachOk L n (stT T E) := ⟨h.pos, fun s a hs ha => by
  unfold stT
  split
  · exact hs
  · exact h.lt s a hs ha⟩
/-- the word has a beginning that is taken -/
theorem st_any {T : Nat → Nat → Nat} {E : Nat → Bool} : ∀ (u : List Nat) (s : Nat), (List.range (u.length + 1)).any (fun j => E ((u.take j).foldl T s)) = E (u.foldl (stT T E) s)
  | [], s => by simp
  | a :: u, s => by
    rw [List.length_cons, List.range_succ_eq_map, List.any_cons, List.any_map]
    simp only [Function.comp_def, List.take_succ_cons, List.foldl_cons, List.take_zero, List.foldl_nil]
    cases hE : E s with
    | false =>
      rw [Bool.false_or, st_any u (T s a)]
      unfold stT
      rw [hE]
      simp
    | true =>
      have : ∀ u : List Nat, u.foldl (stT T E) s = s := fun u => by
        induction u with
        | nil => rfl
        | cons b u ih =>
          rw [List.foldl_cons]
          have : stT T E s b = s := if_pos hE
          rw [this, ih]
      have e : stT T E s a = s := if_pos hE
      rw [e, this u, hE, Bool.true_or]
end L58
namespace L58
open PySem PySem.Spec PyProof.Rows L2 DL
theorem zip_mkL (n : Nat) (f g : Nat → PyData) : zipD (mkL n f) (mkL n g) = mkL n fun i => .tuple [f i, g i] := by
  unfold zipD mkL
  induction (List.range n) with
  | nil => rfl
  | cons a l ih => simp [ih]
theorem enum_mkL (n : Nat) (f : Nat → PyData) : enumD (mkL n f) = mkL n fun i => .tuple [.int (i : Nat), f i] := by
  have hl := mkL_len n f
  unfold enumD
  rw [hl]
  unfold mkL
  refine List.map_congr_left fun i hi => ?_
  have hi := List.mem_range.mp hi
  rw [List.getD_eq_getElem?_getD, List.getElem?_map, List.getElem?_range hi]
  rfl
abbrev dOr (x : Sl) : Prop := x = .un ∨ ∃ y, x = .d y
theorem rep_int (n c : Nat) : (List.replicate n (PyData.int (c : Nat))) = mkI n fun _ => c := by
  unfold mkI
  induction n with
  | zero => rfl
  | succ n ih => rw [List.replicate_succ', ih, List.range_succ, List.map_append]; rfl
theorem w_staying (ds : List PyData) (Φ : PyData → Prop) (h : sp_staying ds Φ) : W_staying (endD Φ) ⟨startE ["letters", "machine", "table", "ends", "row", "state"] (ds.map .d), []⟩ := by
  obtain ⟨z, n, T, E, rfl, hz, hn, h⟩ := h
  show W_staying (endD Φ) ⟨[.d (.str z), .d (machD z.length n T E), .un, .un, .un, .un], []⟩
  simp [W_staying, enum_mkL]
  refine lc_mkL (n := n) (fun i => .list (mkI z.length (stT T E i))) (by omega) (fun i hi Θ kΘ => ?_) ?_
  · simp [atI_mkL hi]
    cases hE : E i with
    | true =>
      simp
      have e : stT T E i = fun _ => i := funext fun a => if_pos hE
      refine ⟨sz_le (by omega), sz_le (by omega), ⟨by omega, sz_le (by omega)⟩, ?_⟩
      rw [rep_int, ← e]
      exact kΘ _ _ rfl rfl
    | false =>
      simp
      have e : stT T E i = T i := funext fun a => if_neg (by rw [hE]; decide)
      have := kΘ ⟨[.d (.str z), .d (machD z.length n T E), .d (.list (mkM n z.length T)), .d (.list (mkB n E)), .d (.list (mkI z.length (T i))), .d (.int (i : Nat))], []⟩ ⟨[.d (.str z), .d (machD z.length n T E), .d (.list (mkM n z.length T)), .d (.list (mkB n E)), .d (.list (mkI z.length (T i))), .d (.int (i : Nat))], []⟩ rfl rfl
      rw [e] at this
      exact this
  · exact ⟨sz_le (by omega), h⟩
/-- the numbers that stand at the states, told for every weight of the states -/
def VecW (n : Nat) (st : Nat → Nat) (L : Nat) (v : Nat → Nat) (T : Nat → Nat → Nat) (i : Nat) : Prop := ∀ h : Nat → Nat, sumN n (fun s => st s * h s) = bkW L v T i h 0
/-- .. while the rows below k, and of row k the letters below j, are gone through -/
def PartW (n : Nat) (st mv : Nat → Nat) (L : Nat) (v : Nat → Nat) (T : Nat → Nat → Nat) (k j : Nat) : Prop := ∀ h : Nat → Nat, sumN n (fun t => mv t * h t) = sumN k (fun s => st s * bkW1 L v T h s) + st k * sumN j (fun a => v a * h (T k a))
theorem part_step {n L k j : Nat} {st mv v : Nat → Nat} {T : Nat → Nat → Nat} (hT : T k j < n) (h : PartW n st mv L v T k j) : PartW n st (setF mv (T k j) (mv (T k j) + v j * st k)) L v T k (j + 1) := fun g => by
  rw [sumN_setF hT, h g, sumN_succ, Nat.mul_add]
  have : v j * st k * g (T k j) = st k * (v j * g (T k j)) := by ac_rfl
  omega
theorem part_row {n L k : Nat} {st mv v : Nat → Nat} {T : Nat → Nat → Nat} (h : PartW n st mv L v T k L) : PartW n st mv L v T (k + 1) 0 := fun g => by
  rw [h g, sumN_succ]
  show _ + st k * bkW1 L v T g k = _ + st k * bkW1 L v T g k + st (k + 1) * 0
  omega
theorem part_end {n L i : Nat} {st mv v : Nat → Nat} {T : Nat → Nat → Nat} (hv : VecW n st L v T i) (h : PartW n st mv L v T n 0) : VecW n mv L v T (i + 1) := fun g => by
  rw [h g, bkW_comm, ← hv]
  show _ + st n * 0 = _
  omega
theorem sum_ends (n : Nat) (st : Nat → Nat) (E : Nat → Bool) : (((List.range n).filter E).map fun s => ((st s : Nat) : Int)).sum = ((sumN n fun s => st s * eN E s : Nat) : Int) := by
  induction n with
  | zero => rfl
  | succ n ih =>
    rw [List.range_succ, List.filter_append, List.map_append, List.sum_append, ih, sumN_succ]
    cases hE : E n with
    | true => simp [hE, eN]
    | false => simp [hE, eN]
def tkE (L : Nat) (v : Nat → Nat) (T : Nat → Nat → Nat) (E : Nat → Bool) (W j : Nat) : PyData := .tuple [.int (bkW L v T j (eN E) 0 : Nat), .int (W ^ j : Nat)]
theorem vec_zero {n L : Nat} {v : Nat → Nat} {T : Nat → Nat → Nat} (h : 1 ≤ n) : VecW n (eN fun s => s == 0) L v T 0 := fun g => by
  obtain ⟨m, rfl⟩ : ∃ m, n = m + 1 := ⟨n - 1, by omega⟩
  clear h
  induction m with
  | zero => simp [sumN, eN, bkW]
  | succ m ih =>
    rw [sumN_succ, ih]
    simp [eN, bkW]
theorem one_zeros {n : Nat} (h : 1 ≤ n) : PyData.int 1 :: List.replicate (n - 1) (PyData.int 0) = mkI n (eN fun s => s == 0) := by
  obtain ⟨m, rfl⟩ : ∃ m, n = m + 1 := ⟨n - 1, by omega⟩
  rw [mkI_cons, Nat.add_sub_cancel]
  have e := rep_int m 0
  rw [show List.replicate m (PyData.int 0) = List.replicate m (PyData.int ((0 : Nat) : Int)) from rfl, e]
  congr 1
theorem w_taken_upto (ds : List PyData) (Φ : PyData → Prop) (h : sp_taken_upto ds Φ) : W_taken_upto (endD Φ) ⟨startE ["source", "machine", "n", "table", "ends", "weights", "whole", "standing", "every", "found", "_", "moved", "row", "number", "weight", "reached", "end"] (ds.map .d), []⟩ := by
  obtain ⟨L, ω, T0, n, T, E, m, rfl, hL, h0, h1, hω, hM, hn, hm, h⟩ := h
  show W_taken_upto (endD Φ) ⟨[.d (.list (srcD L ω T0)), .d (machD L n T E), .d (.int (m : Nat)), .un, .un, .un, .un, .un, .un, .un, .un, .un, .un, .un, .un, .un, .un], []⟩
  unfold W_taken_upto
  refine seq_go fun Ψ _ k => ?_
  simp
  refine k _ ?_
  clear k
  refine seq_go fun Ψ _ k => ?_
  simp
  refine ⟨L, ω, T0, rfl, hL, h0, by omega, fun a ha => by have := hω a ha; omega, fun v W S => ?_⟩
  have h := h v W S
  simp
  refine k _ ?_
  clear k
  refine seq_go fun Ψ _ k => ?_
  simp
  have hlM : (mkM n L T).length = n := mkL_len _ _
  have hlI : ∀ f : Nat → Nat, (mkI n f).length = n := fun f => mkI_len n f
  have hp := hM.pos
  rw [hlM]
  refine ⟨sz_le (by omega), ⟨by omega, by omega, Nat.le_succ_of_le (sz_le (by omega))⟩, sz_le (by omega), ?_⟩
  rw [one_zeros hp]
  refine k _ ?_
  clear k
  refine seq_go fun Ψ _ k => ?_
  simp
  refine k _ ?_
  clear k
  refine seq_go fun Ψ _ k => ?_
  simp
  refine k _ ?_
  clear k
  have e2 : ((m : Int) + 1) = ((m + 1 : Nat) : Int) := rfl
  have hv : ∀ a, a < L → v a ≤ 420 := fun a ha => by
    have h1' := S.eq a ha
    have h2' := Nat.le_of_dvd h0 S.dvd
    have h3 := hω a ha
    have h4 : ω a * W ≤ 420 * T0 := Nat.mul_le_mul h3 h2'
    have h5 : v a * T0 ≤ 420 * T0 := by rw [h1']; exact h4
    exact Nat.le_of_mul_le_mul_right h5 h0
  have hW : W ≤ 420 := Nat.le_trans (Nat.le_of_dvd h0 S.dvd) h1
  refine seq_go fun Ψ hΨ k => ?_
  simp only [wFor, wRng1, wCons, wBin, wVar, wAdd, wC, wNil, List.getElem?_cons_zero, List.getElem?_cons_succ]
  rw [e2]
  refine ⟨⟨by omega, by omega⟩, ?_⟩
  have h : Φ (.list (mkL (m + 1) (tkE L v T E W))) := h
  have zi : ∀ st : Nat → Nat, zipD (mkI n st) (mkB n E) = mkL n fun i => .tuple [.int (st i : Nat), .bool (E i)] := fun st => zip_mkL n _ _
  have zr : ∀ st : Nat → Nat, zipD (mkM n L T) (mkI n st) = mkL n fun i => .tuple [.list (mkI L (T i)), .int (st i : Nat)] := fun st => zip_mkL n _ _
  have zw : ∀ k, zipD (mkI L v) (mkI L (T k)) = mkL L fun a => .tuple [.int (v a : Nat), .int (T k a : Nat)] := fun k => zip_mkL L _ _
  refine loop_rng (fun i s => ∃ (st : Nat → Nat) (Wi : Nat) (a10 a11 a12 a13 a14 a15 a16 : Sl), s = ⟨[.d (.list (srcD L ω T0)), .d (machD L n T E), .d (.int (m : Nat)), .d (.list (mkM n L T)), .d (.list (mkB n E)), .d (.list (mkI L v)), .d (.int (W : Nat)), .d (.list (mkI n st)), .d (.int (Wi : Nat)), .o (mkL i (tkE L v T E W)), a10, a11, a12, a13, a14, a15, a16], []⟩ ∧ Wi = W ^ i ∧ dOr a13 ∧ dOr a16 ∧ VecW n st L v T i)
    ⟨_, 1, _, _, _, _, _, _, _, rfl, rfl, .inl rfl, .inl rfl, vec_zero hp⟩ ?_ ?_
  · rintro i s hi ⟨st, Wi, a10, a11, a12, a13, a14, a15, a16, rfl, hWi, h13, h16, hV⟩ Θ k1 k2 k3 k4 k5
    clear k2 k3 k4 k5
    have hll : (mkL i (tkE L v T E W)).length = i := mkL_len _ _
    have hi61 : i < 61 := by omega
    simp [hlM]
    refine ⟨⟨by rcases h13 with rfl | ⟨_, rfl⟩ <;> rfl, by rcases h16 with rfl | ⟨_, rfl⟩ <;> rfl⟩, ?_⟩
    rw [zi]
    refine lc_fml (List.range n) (fun s => PyData.tuple [.int (st s : Nat), .bool (E s)]) (fun s => .int (st s : Nat)) E (by rw [List.length_range]; omega) (fun c hc Y N kY kN => ?_) ?_
    · cases hE : E c with
      | true =>
        simp [hE] at kY ⊢
        exact kY _ _ rfl rfl
      | false =>
        simp [hE] at kN ⊢
        exact kN _ rfl
    · refine ⟨((List.range n).filter E).map fun s => ((st s : Nat) : Int), by rw [List.map_map]; rfl, ?_⟩
      rw [sum_ends, hV (eN E), hll]
      refine ⟨sz_le (by omega), sz_lt (by omega), sz_le (by omega), ⟨by omega, sz_le (by omega)⟩, ?_⟩
      have e1 : PyData.tuple [.int (bkW L v T i (eN E) 0 : Nat), .int (Wi : Nat)] = tkE L v T E W i := by rw [hWi]; rfl
      rw [e1, mkL_app, show List.replicate n (PyData.int 0) = mkI n fun _ => 0 from rep_int n 0, zr]
      refine loop_mkL (fun k s => ∃ (mv : Nat → Nat) (a12 a13 a14 a15 : Sl), s = ⟨[.d (.list (srcD L ω T0)), .d (machD L n T E), .d (.int (m : Nat)), .d (.list (mkM n L T)), .d (.list (mkB n E)), .d (.list (mkI L v)), .d (.int (W : Nat)), .d (.list (mkI n st)), .d (.int (Wi : Nat)), .o (mkL (i + 1) (tkE L v T E W)), .d (.int (i : Nat)), .o (mkI n mv), a12, a13, a14, a15, a16], []⟩ ∧ dOr a13 ∧ PartW n st mv L v T k 0)
        ⟨_, _, _, _, _, rfl, h13, fun g => ?_⟩ ?_ ?_
      · rw [sumN_congr (g := fun _ => 0) (fun _ _ => Nat.zero_mul _), sumN_0]
        show 0 = 0 + st 0 * 0
        omega
      · rintro k s hk ⟨mv, b12, b13, b14, b15, rfl, hb13, hP⟩ Θ2 q1 q2 q3 q4 q5
        clear q2 q3 q4 q5
        simp
        rw [zw]
        refine loop_mkL (fun j s => ∃ (mv : Nat → Nat) (a14 a15 : Sl), s = ⟨[.d (.list (srcD L ω T0)), .d (machD L n T E), .d (.int (m : Nat)), .d (.list (mkM n L T)), .d (.list (mkB n E)), .d (.list (mkI L v)), .d (.int (W : Nat)), .d (.list (mkI n st)), .d (.int (Wi : Nat)), .o (mkL (i + 1) (tkE L v T E W)), .d (.int (i : Nat)), .o (mkI n mv), .d (.list (mkI L (T k))), .d (.int (st k : Nat)), a14, a15, a16], []⟩ ∧ PartW n st mv L v T k j)
          ⟨_, _, _, rfl, hP⟩ ?_ ?_
        · rintro j s hj ⟨mv, b14, b15, rfl, hP⟩ Θ3 r1 r2 r3 r4 r5
          clear r2 r3 r4 r5
          have ht := hM.lt k j hk hj
          have hvj := hv j hj
          simp [atI_mkI ht, mkI_len, ixN_nat ht, optP]
          have e := mkI_set (f := mv) (v := mv (T k j) + v j * st k) ht
          rw [Int.natCast_add, Int.natCast_mul] at e
          rw [e]
          exact ⟨.inl ⟨by omega, by omega⟩, r1 _ ⟨_, _, _, rfl, part_step ht hP⟩⟩
        · rintro s ⟨mv, b14, b15, rfl, hP⟩
          exact q1 _ ⟨_, _, _, _, _, rfl, .inr ⟨_, rfl⟩, part_row hP⟩
      · rintro s ⟨mv, b12, b13, b14, b15, rfl, hb13, hP⟩
        simp
        refine ⟨.inr ⟨by omega, by omega⟩, k1 _ ⟨mv, _, _, _, _, _, _, _, _, rfl, ?_, hb13, h16, part_end hV hP⟩⟩
        rw [hWi, Nat.pow_succ]
  · rintro s ⟨st, Wi, a10, a11, a12, a13, a14, a15, a16, rfl, hWi, h13, h16, hV⟩
    refine k _ ?_
    simp
    exact h
end L58
namespace L58
open PySem PySem.Spec PyProof.Rows L2 DL
theorem fit_pow {W m : Nat} (hW : W ≤ 420) (hm : m ≤ 60) : Fit (W ^ m) := by
  have h1 : W ^ m ≤ (2 ^ 9) ^ m := Nat.pow_le_pow_left (by omega) m
  rw [← Nat.pow_mul] at h1
  exact Nat.lt_of_le_of_lt h1 (Nat.pow_lt_pow_right (by decide) (by omega))
theorem sc_pos {L T0 W : Nat} {ω v : Nat → Nat} (S : Scaled L ω T0 v W) (h0 : 0 < T0) (h1 : T0 ≤ 420) : 0 < W ∧ W ≤ 420 := ⟨S.pos, Nat.le_trans (Nat.le_of_dvd h0 S.dvd) h1⟩
theorem w_chance_at (ds : List PyData) (Φ : PyData → Prop) (h : sp_chance_at ds Φ) : W_chance_at (endD Φ) ⟨startE ["letters", "source", "machine", "n", "over", "under"] (ds.map .d), []⟩ := by
  obtain ⟨x, L, ω, T0, n, T, E, m, rfl, hL, h0, h1, hω, hM, hn, hm, h⟩ := h
  show W_chance_at (endD Φ) ⟨[.d x, .d (.list (srcD L ω T0)), .d (machD L n T E), .d (.int (m : Nat)), .un, .un], []⟩
  simp [W_chance_at]
  refine ⟨L, ω, T0, n, T, E, m, rfl, hL, h0, h1, hω, hM, hn, hm, fun v W S => ?_⟩
  obtain ⟨p0, p1⟩ := sc_pos S h0 h1
  rw [show (fun j => PyData.tuple [.int (bkW L v T j (eN E) 0 : Nat), .int (W ^ j : Nat)]) = tkE L v T E W from rfl]
  simp only [atI_mkL (show m < m + 1 by omega)]
  simp [tkE]
  refine ⟨bkW L v T m (eN E) 0, W ^ m, by rw [Int.natCast_pow], Nat.pow_pos p0, fit_pow p1 hm, ?_⟩
  rw [fr_same (Nat.pow_pos p0) (Nat.pow_pos h0) (bkW_scale (T := T) S (eN E) m 0)]
  exact h
theorem w_taken_by (ds : List PyData) (Φ : PyData → Prop) (h : sp_taken_by ds Φ) : W_taken_by (endD Φ) ⟨startE ["letters", "source", "machine", "n"] (ds.map .d), []⟩ := by
  obtain ⟨z, ω, T0, n, T, E, m, rfl, hL, h0, h1, hω, hM, hn, hm, h⟩ := h
  show W_taken_by (endD Φ) ⟨[.d (.str z), .d (.list (srcD z.length ω T0)), .d (machD z.length n T E), .d (.int (m : Nat))], []⟩
  simp [W_taken_by]
  exact ⟨z, n, T, E, rfl, hL, hn, .str z, z.length, ω, T0, n, stT T E, E, m, rfl, hL, h0, h1, hω, stT_lt hM, hn, hm, h⟩
theorem le_sumN {f : Nat → Nat} : ∀ {n a : Nat}, a < n → f a ≤ sumN n f
  | 0, _, h => by omega
  | n + 1, a, h => by
    rw [sumN_succ]
    by_cases e : a = n
    · subst e
      omega
    · have := le_sumN (f := f) (n := n) (a := a) (by omega)
      omega
theorem sum_nat (n : Nat) (f : Nat → Nat) : ((List.range n).map fun a => ((f a : Nat) : Int)).sum = ((sumN n f : Nat) : Int) := by
  induction n with
  | zero => rfl
  | succ n ih => rw [List.range_succ, List.map_append, List.sum_append, ih, sumN_succ]; simp
theorem gSum_mkI {n : Nat} {f : Nat → Nat} {Φ : PyData → Prop} (h : Φ (.int (sumN n f : Nat))) : gSum (.list (mkI n f)) Φ := ⟨(List.range n).map fun a => ((f a : Nat) : Int), by rw [List.map_map]; rfl, by rw [sum_nat]; exact h⟩
/-- the rows of numbers, one turn further -/
theorem w_rows (ds : List PyData) (Φ : PyData → Prop) (h : sp_law_rows ds Φ) : W__law_rows (endD Φ) ⟨startE ["weights", "total", "machine", "n", "taken", "begun", "power", "step", "number", "one", "row", "target", "weight"] (ds.map .d), []⟩ := by
  obtain ⟨L, ω, T0, n, T, E, m, rfl, hS, hM, hn, hm, h⟩ := h
  show W__law_rows (endD Φ) ⟨[.d (.list (mkI L ω)), .d (.int (T0 : Nat)), .d (machD L n T E), .d (.int (m : Nat)), .un, .un, .un, .un, .un, .un, .un, .un, .un], []⟩
  have hp := hM.pos
  have hL := hS.l6
  have hlM : (mkM n L T).length = n := mkL_len _ _
  have hsum : sumN L ω = T0 := hS.sum
  unfold W__law_rows
  refine seq_go fun Ψ _ k => ?_
  simp
  refine lc_mkL (n := n) (fun i => .int (eN E i : Nat)) (by omega) (fun i hi Θ kΘ => ?_) ?_
  · cases hE : E i with
    | true =>
      simp [eN, hE] at kΘ ⊢
      exact kΘ _ _ rfl rfl
    | false =>
      simp [eN, hE] at kΘ ⊢
      exact kΘ _ _ rfl rfl
  refine k _ ?_
  clear k
  refine seq_go fun Ψ _ k => ?_
  simp
  refine k _ ?_
  clear k
  refine seq_go fun Ψ _ k => ?_
  simp
  refine k _ ?_
  clear k
  refine seq_go fun Ψ hΨ k => ?_
  have zw : ∀ k, zipD (mkI L ω) (mkI L (T k)) = mkL L fun a => .tuple [.int (ω a : Nat), .int (T k a : Nat)] := fun k => zip_mkL L _ _
  have ze : ∀ f : Nat → Nat, zipD (mkI n f) (mkB n E) = mkL n fun i => .tuple [.int (f i : Nat), .bool (E i)] := fun f => zip_mkL n _ _
  have hω : ∀ a, a < L → ω a ≤ 420 := fun a ha => by
    have h1 := hS.tm
    have := le_sumN (f := ω) ha
    omega
  simp only [wFor, wRng1, wCons, wVar, wNil, List.getElem?_cons_zero, List.getElem?_cons_succ]
  refine ⟨⟨by omega, by omega⟩, ?_⟩
  refine loop_rng (fun i s => ∃ (pw : Nat) (a7 a8 a9 a10 a11 a12 : Sl), s = ⟨[.d (.list (mkI L ω)), .d (.int (T0 : Nat)), .d (machD L n T E), .d (.int (m : Nat)), .d (.list (mkI n fun s => bkW L ω T i (eN E) s)), .d (.list (mkI n fun s => bkW L ω (stT T E) i (eN E) s)), .d (.int (pw : Nat)), a7, a8, a9, a10, a11, a12], []⟩ ∧ pw = T0 ^ i ∧ dOr a8 ∧ dOr a9 ∧ dOr a10 ∧ dOr a11 ∧ dOr a12)
    ⟨1, _, _, _, _, _, _, rfl, rfl, .inl rfl, .inl rfl, .inl rfl, .inl rfl, .inl rfl⟩ ?_ ?_
  · rintro i s hi ⟨pw, a7, a8, a9, a10, a11, a12, rfl, hpw, h8, h9, h10, h11, h12⟩ Θ k1 k2 k3 k4 k5
    clear k2 k3 k4 k5
    have htm := hS.tm
    have step : ∀ (x : Nat → Nat) (b10 b11 b12 : Sl) (a7 a8 a9 c4 c5 c6 : Sl) (j : Nat) (Ψ : List PyData → List Int → Prop), dOr b11 → dOr b12 → ([c4, c5][j]? = some (.d (.list (mkI n x)))) → j < 2 → Ψ (mkI n fun s => sumN L fun a => ω a * x (T s a)) [] →
        lcW [10] [.d (.list (mkI L ω)), .d (.int (T0 : Nat)), .d (machD L n T E), .d (.int (m : Nat)), c4, c5, c6, a7, a8, a9, b10, b11, b12] (gNm 10) wYes
          (wCB (wN1 gSum) (wCons (wFz (wLc [12, 11] (wZip (wCons (wVar 0) (wCons (wVar 10) wNil))) (gTp 2 (gCs (gNm 12) (gCs (gNm 11) gNl))) wYes (wBin wMul (wVar 12) (wBin wIx (wVar (4 + j)) (wVar 11))))) wNil)) Ψ (mkM n L T) [] [] := fun x b10 b11 b12 a7 a8 a9 c4 c5 c6 j Ψ d11 d12 hc hj hd => by
      refine lc_mkL (n := n) (fun s => .int (sumN L fun a => ω a * x (T s a) : Nat)) (by omega) (fun s hs Θ' kΘ => ?_) hd
      have key : lcW [12, 11] [.d (.list (mkI L ω)), .d (.int (T0 : Nat)), .d (machD L n T E), .d (.int (m : Nat)), c4, c5, c6, a7, a8, a9, .d (.list (mkI L (T s))), b11, b12] (gTp 2 (gCs (gNm 12) (gCs (gNm 11) gNl))) wYes (wBin wMul (wVar 12) (wBin wIx (wVar (4 + j)) (wVar 11)))
          (fun ys q => gSum (.list ys) fun z => Θ' ⟨[.d (.list (mkI L ω)), .d (.int (T0 : Nat)), .d (machD L n T E), .d (.int (m : Nat)), c4, c5, c6, a7, a8, a9, .d (.list (mkI L (T s))), b11, b12], []⟩ z ⟨[.d (.list (mkI L ω)), .d (.int (T0 : Nat)), .d (machD L n T E), .d (.int (m : Nat)), c4, c5, c6, a7, a8, a9, .d (.list (mkI L (T s))), b11, b12], q⟩) (zipD (mkI L ω) (mkI L (T s))) [] [] := by
        rw [zw]
        refine lc_mkL (n := L) (fun a => .int (ω a * x (T s a) : Nat)) (by omega) (fun a ha Θ2 kΘ2 => ?_) (gSum_mkI (kΘ _ _ rfl rfl))
        have ht := hM.lt s a hs ha
        have hw := hω a ha
        have hj' : j = 0 ∨ j = 1 := by omega
        rcases hj' with rfl | rfl
        · cases (Option.some.inj hc : c4 = _)
          simp [atI_mkI ht]
          exact ⟨.inl ⟨by omega, by omega⟩, kΘ2 _ _ rfl rfl⟩
        · cases (Option.some.inj hc : c5 = _)
          simp [atI_mkI ht]
          exact ⟨.inl ⟨by omega, by omega⟩, kΘ2 _ _ rfl rfl⟩
      simp
      exact ⟨⟨by rcases d12 with rfl | ⟨_, rfl⟩ <;> rfl, by rcases d11 with rfl | ⟨_, rfl⟩ <;> rfl⟩, key⟩
    have nw : ∀ {c : Sl}, dOr c → (match some c with
        | some (Sl.o xs) => false
        | some (Sl.tb p qs xss) => false
        | x => true) = true := fun {c} d => by rcases d with rfl | ⟨_, rfl⟩ <;> rfl
    simp
    refine ⟨.inr ⟨by omega, by omega⟩, nw h10, ?_⟩
    refine step (fun s => bkW L ω T i (eN E) s) _ _ _ _ _ _ _ _ _ 0 _ h11 h12 rfl (by omega) ?_
    refine ⟨nw h10, ?_⟩
    refine step (fun s => bkW L ω (stT T E) i (eN E) s) _ _ _ _ _ _ _ _ _ 1 _ h11 h12 rfl (by omega) ?_
    refine ⟨⟨nw h8, nw h9⟩, ?_⟩
    rw [ze]
    refine lc_mkL (n := n) (fun s => .int (bkW L ω (stT T E) (i + 1) (eN E) s : Nat)) (by omega) (fun s hs Θ' kΘ => ?_) ?_
    · cases hE : E s with
      | true =>
        have e := bkW_end (T := T) hsum hE (i + 1)
        rw [Nat.pow_succ, ← hpw] at e
        rw [e] at kΘ
        simp
        exact ⟨sz_le (by omega), kΘ _ _ rfl rfl⟩
      | false =>
        have e : bkW L ω (stT T E) (i + 1) (eN E) s = sumN L fun a => ω a * bkW L ω (stT T E) i (eN E) (T s a) := sumN_congr fun a _ => by
          have : stT T E s a = T s a := if_neg (by rw [hE]; decide)
          rw [this]
        rw [e] at kΘ
        simp
        exact ⟨sz_le (by omega), kΘ _ _ rfl rfl⟩
    · exact k1 _ ⟨pw * T0, _, _, _, _, _, _, rfl, by rw [hpw, Nat.pow_succ], h8, h9, h10, h11, h12⟩
  · rintro s ⟨pw, a7, a8, a9, a10, a11, a12, rfl, hpw, h8, h9, h10, h11, h12⟩
    refine k _ ?_
    have z0 : ∀ f : Nat → Nat, atI (mkI n f) 0 = some (.int (f 0 : Nat)) := fun f => atI_mkI (i := 0) hp
    simp [z0]
    exact ⟨sz_le (by omega), h⟩
end L58
namespace L58
open PySem PySem.Spec PyProof.Rows L2 DL
theorem run_lt {L n : Nat} {T : Nat → Nat → Nat} (hM : MachOk L n T) : ∀ (l : List Nat) s, s < n → (∀ a, a ∈ l → a < L) → l.foldl T s < n := by
  intro l
  induction l with
  | nil => intro s hs _; exact hs
  | cons a l ih => intro s hs h; exact ih _ (hM.lt s a hs (h a List.mem_cons_self)) fun b hb => h b (List.mem_cons_of_mem _ hb)
theorem w_taken (ds : List PyData) (Φ : PyData → Prop) (h : sp_law_taken ds Φ) : W__law_taken (endD Φ) ⟨startE ["letters", "machine", "word", "state", "found", "sign"] (ds.map .d), []⟩ := by
  obtain ⟨z, n, T, E, u, rfl, ⟨nd, hu, hl⟩, hM, hn, hz, h⟩ := h
  show W__law_taken (endD Φ) ⟨[.d (.str z), .d (machD z.length n T E), .d (.str (wS z u)), .un, .un, .un], []⟩
  have h0 : atI (mkB n E) 0 = some (.bool (E 0)) := atI_mkL (i := 0) hM.pos
  simp [W__law_taken, h0]
  refine ⟨sz_le (by omega), ?_⟩
  rw [signs_word]
  refine loop_ix _ (fun i s => ∃ a5 : Sl, s = ⟨[.d (.str z), .d (machD z.length n T E), .d (.str (wS z u)), .d (.int ((u.take i).foldl T 0 : Nat)), .o (mkL (i + 1) fun j => .bool (E ((u.take j).foldl T 0))), a5], []⟩) ⟨.un, rfl⟩ ?_ ?_
  · rintro i x s hx ⟨a5, rfl⟩ Θ k1 k2 k3 k4 k5
    clear k2 k3 k4 k5
    rw [List.getElem?_map] at hx
    obtain ⟨a, ha, rfl⟩ := Option.map_eq_some_iff.mp hx
    have haL := hu a (List.mem_of_getElem? ha)
    have hi : i < u.length := (List.getElem?_eq_some_iff.mp ha).1
    have hr := run_lt hM (u.take i) 0 hM.pos fun b hb => hu b (List.mem_of_mem_take hb)
    have hr2 := run_lt hM (u.take (i + 1)) 0 hM.pos fun b hb => hu b (List.mem_of_mem_take hb)
    have er : (u.take (i + 1)).foldl T 0 = T ((u.take i).foldl T 0) a := by rw [take_snoc ha, List.foldl_append]; rfl
    have hll : (mkL (i + 1) fun j => PyData.bool (E ((u.take j).foldl T 0))).length = i + 1 := mkL_len _ _
    simp [atI_mkL (f := fun b => PyData.list (mkI z.length (T b))) hr]
    refine ⟨cz z a, rfl, by simpa using idx_mem haL, ?_⟩
    simp [idx_at nd haL, atI_mkI haL]
    rw [← er, atI_mkL hr2]
    refine ⟨by rw [hll]; exact sz_lt (by omega), ?_⟩
    refine k1 _ ⟨.d (.str (sg (cz z a))), ?_⟩
    rw [← mkL_app (i + 1)]
  · rintro s ⟨a5, rfl⟩
    rw [List.length_map, List.take_length]
    simp
    exact h
theorem w_layer (ds : List PyData) (Φ : PyData → Prop) (h : sp_law_layer ds Φ) : W__law_layer (endD Φ) ⟨startE ["letters", "length", "layer", "step", "longer", "word", "sign"] (ds.map .d), []⟩ := by
  obtain ⟨z, m, rfl, hz1, hz, hm, hb, h⟩ := h
  show W__law_layer (endD Φ) ⟨[.d (.str z), .d (.int (m : Nat)), .un, .un, .un, .un, .un], []⟩
  let S1 := fun u : List Nat => PyData.str (wS z u)
  let X1 := fun w : List Nat => (List.range z.length).map fun a => w ++ [a]
  have e0 : [PyData.str ("" : Str)] = (wl z.length 0).map S1 := rfl
  simp [W__law_layer]
  refine ⟨sz_le (by omega), ⟨by omega, by omega⟩, ?_⟩
  refine loop_rng (fun i s => ∃ a3 a4 a5 a6 : Sl, s = ⟨[.d (.str z), .d (.int (m : Nat)), .d (.list ((wl z.length i).map S1)), a3, a4, a5, a6], []⟩ ∧ dOr a6) ⟨_, _, _, _, rfl, .inl rfl⟩ ?_ ?_
  · rintro i s hi ⟨a3, a4, a5, a6, rfl, h6⟩ Θ k1 k2 k3 k4 k5
    clear k2 k3 k4 k5
    have hpw : z.length ^ (i + 1) ≤ 1000 := Nat.le_trans (Nat.pow_le_pow_right hz1 (by omega)) hb
    have hX : ∀ l : List (List Nat), (l.flatMap X1).length = l.length * z.length := fun l => flat_len z.length l
    simp
    refine loop_ix _ (fun j s => ∃ a5 a6 : Sl, s = ⟨[.d (.str z), .d (.int (m : Nat)), .d (.list ((wl z.length i).map S1)), .d (.int (i : Nat)), .d (.list ((((wl z.length i).take j).flatMap X1).map S1)), a5, a6], []⟩ ∧ dOr a6) ⟨_, _, rfl, h6⟩ ?_ ?_
    · rintro j x s hx ⟨a5, a6, rfl, h6⟩ Θ2 q1 q2 q3 q4 q5
      clear q2 q3 q4 q5
      rw [List.getElem?_map] at hx
      obtain ⟨u, hu, rfl⟩ := Option.map_eq_some_iff.mp hx
      have hj : j < (wl z.length i).length := (List.getElem?_eq_some_iff.mp hu).1
      have hul := (wl_mem (List.mem_of_getElem? hu)).1
      rw [wl_len] at hj
      simp
      refine ⟨by rcases h6 with rfl | ⟨_, rfl⟩ <;> rfl, ?_⟩
      rw [signs_rng]
      refine lc_mkL (n := z.length) (fun a => S1 (u ++ [a])) (by omega) (fun a ha Θ' kΘ => ?_) ?_
      · simp [S1]
        rw [wS_snoc]
        refine ⟨?_, kΘ _ _ rfl rfl⟩
        rw [wS_len, hul]
        exact sz_le (by show i + 1 ≤ _; omega)
      · have e1 : (((wl z.length i).take (j + 1)).flatMap X1).map S1 = (((wl z.length i).take j).flatMap X1).map S1 ++ mkL z.length fun a => S1 (u ++ [a]) := by
          rw [take_snoc hu, List.flatMap_append, List.map_append]
          congr 1
          simp [X1, mkL]
        have e2 : ((((wl z.length i).take (j + 1)).flatMap X1).map S1).length ≤ 1000 := by
          rw [List.length_map, hX, List.length_take, wl_len]
          refine Nat.le_trans (Nat.mul_le_mul (Nat.min_le_right _ _) (Nat.le_refl _)) ?_
          rw [← Nat.pow_succ]
          exact hpw
        rw [e1] at e2
        rw [List.length_append, mkL_len] at e2
        refine ⟨?_, q1 _ ⟨.d (S1 u), a6, ?_, h6⟩⟩
        · simp [mkL_len] at e2 ⊢
          exact sz_le (by omega)
        · rw [e1]
    · rintro s ⟨a5, a6, rfl, h6⟩
      rw [List.length_map, List.take_length]
      simp
      exact k1 _ ⟨_, _, _, _, rfl, h6⟩
  · rintro s ⟨a3, a4, a5, a6, rfl, h6⟩
    simp
    exact h
theorem w_sums (ds : List PyData) (Φ : PyData → Prop) (h : sp_law_sums ds Φ) : W__law_sums (endD Φ) ⟨startE ["letters", "weights", "machine", "n", "taken", "begun", "word", "weight", "told"] (ds.map .d), []⟩ := by
  obtain ⟨z, ω, n, T, E, m, rfl, nd, hz1, hz, hω, hM, hn, hm, hb, h⟩ := h
  show W__law_sums (endD Φ) ⟨[.d (.str z), .d (.list (mkI z.length ω)), .d (machD z.length n T E), .d (.int (m : Nat)), .un, .un, .un, .un, .un], []⟩
  simp [W__law_sums]
  refine ⟨sz_le (by omega), z, m, rfl, hz1, hz, by omega, hb, ?_⟩
  simp
  refine loop_ix _ (fun i s => ∃ (A B : Nat) (a6 a7 a8 : Sl), s = ⟨[.d (.str z), .d (.list (mkI z.length ω)), .d (machD z.length n T E), .d (.int (m : Nat)), .d (.int (A : Nat)), .d (.int (B : Nat)), a6, a7, a8], []⟩ ∧ A = (((wl z.length m).take i).map fun u => prodW ω u * eN E (u.foldl T 0)).sum ∧ B = (((wl z.length m).take i).map fun u => prodW ω u * eN E (u.foldl (stT T E) 0)).sum) ⟨0, 0, _, _, _, rfl, rfl, rfl⟩ ?_ ?_
  · rintro i x s hx ⟨A, B, a6, a7, a8, rfl, hA, hB⟩ Θ k1 k2 k3 k4 k5
    clear k2 k3 k4 k5
    rw [List.getElem?_map] at hx
    obtain ⟨u, hu, rfl⟩ := Option.map_eq_some_iff.mp hx
    obtain ⟨hul, hua⟩ := wl_mem (List.mem_of_getElem? hu)
    have wd : Wd z u := ⟨nd, hua, by omega⟩
    have k1 := k1 ⟨[.d (.str z), .d (.list (mkI z.length ω)), .d (machD z.length n T E), .d (.int (m : Nat)), .d (.int ((A + prodW ω u * eN E (u.foldl T 0) : Nat) : Int)), .d (.int ((B + prodW ω u * eN E (u.foldl (stT T E) 0) : Nat) : Int)), .d (.str (wS z u)), .d (.int (prodW ω u : Nat)), .d (.list (mkL (u.length + 1) fun j => .bool (E ((u.take j).foldl T 0))))], []⟩
      ⟨_, _, _, _, _, rfl, by rw [take_snoc hu, List.map_append, List.sum_append, ← hA]; simp, by rw [take_snoc hu, List.map_append, List.sum_append, ← hB]; simp⟩
    have ea : atI (mkL (u.length + 1) fun j => PyData.bool (E ((u.take j).foldl T 0))) (m : Int) = some (.bool (E (u.foldl T 0))) := by
      rw [atI_mkL (by omega), ← hul, List.take_length]
    have i1 : ∀ b : Bool, (if b = true then (1 : Int) else 0) = ((if b = true then 1 else 0 : Nat) : Int) := fun b => by cases b <;> rfl
    simp
    refine ⟨z, ω, u, rfl, wd, fun a ha => Nat.le_trans (hω a ha) (by decide), ?_⟩
    simp
    refine ⟨z, n, T, E, u, rfl, wd, hM, hn, hz, ?_⟩
    dsimp only
    rw [ea]
    dsimp only
    have cm : ∀ (a : Int) (b : Bool), CMul a (if b = true then 1 else 0) := fun a b => .inr (by cases b <;> decide)
    refine ⟨cm _ _, (List.range (u.length + 1)).map fun j => E ((u.take j).foldl T 0), by rw [List.map_map]; rfl, cm _ _, ?_⟩
    have any : ((List.range (u.length + 1)).map fun j => E ((u.take j).foldl T 0)).any id = E (u.foldl (stT T E) 0) := by
      rw [List.any_map]
      exact st_any (T := T) (E := E) u 0
    rw [any, i1, i1]
    rw [Int.natCast_add, Int.natCast_add, Int.natCast_mul, Int.natCast_mul] at k1
    exact k1
  · rintro s ⟨A, B, a6, a7, a8, rfl, hA, hB⟩
    rw [List.length_map, List.take_length, wlW_sum] at hA hB
    subst hA
    subst hB
    simp
    exact ⟨sz_le (by omega), h⟩
end L58
namespace L58
open PySem PySem.Spec PyProof.Rows L2 DL
/-! sources, right and wrong ones -/
abbrev Gd (x : PyData) : Prop := Shw 20 2 x
theorem gd_list {xs : List PyData} (h : ∀ x, x ∈ xs → Gd x) (hl : xs.length ≤ 16) : Shw 4000 6 (.list xs) := by
  have h1 := shw_list (shwA_all h)
  exact shw_mono h1 (by omega) (by omega)
theorem gd_dict {xs : List PyData} (h : ∀ x, x ∈ xs → Gd x) : ∀ x, x ∈ xs → x.hasDict = false := fun x hx => (h x hx).nd
theorem shw_100 {n : Nat} (h : n ≤ 101) : Shw 4 0 (.int (n : Nat)) := by
  have key : ∀ n, n < 102 → (PyData.int (n : Nat)).shown.length ≤ 4 := by decide +kernel
  have key2 : ∀ n, n < 102 → (PyData.int (n : Nat)).showable = true := by decide +kernel
  exact ⟨key2 n (by omega), rfl, Nat.le_refl _, key n (by omega)⟩
theorem gd_pair {o u : Nat} (ho : o ≤ 101) (hu : u ≤ 101) : Gd (.tuple [.int (o : Nat), .int (u : Nat)]) :=
  shw_mono (shw_tuple (shwA_cons (shw_100 ho) (shwA_cons (shw_100 hu) (shwA_nil 0)))) (by omega) (by omega)
theorem ch_gd {x : PyData} (h : isCh x = true) : Gd x := by
  obtain ⟨o, u, rfl, _, _, h2, h3, _⟩ := isCh_pr h
  exact gd_pair (by omega) (by omega)
theorem ref_no {n : Nat} {xs : List PyData} (hl : xs.length = n) (x : PyData) (hx : x ∈ xs) (hc : isCh x = false) : refD n xs = .tuple [.str "refused", .str "number"] := by
  unfold refD
  rw [if_pos hl, if_neg]
  intro z
  unfold okSrc at z
  rw [Bool.and_eq_true] at z
  have := List.all_eq_true.mp z.1 x hx
  rw [hc] at this
  cases this
theorem ref_size {n : Nat} {xs : List PyData} (hl : xs.length ≠ n) : refD n xs = .tuple [.str "refused", .str "size", .int (xs.length : Nat)] := if_neg hl
theorem snoc_ind {α : Type} {P : List α → Prop} (h0 : P []) (hs : ∀ l x, P l → P (l ++ [x])) : ∀ l, P l := fun l => by
  have h : ∀ l : List α, P l.reverse := fun l => by
    induction l with
    | nil => exact h0
    | cons a l ih =>
      rw [List.reverse_cons]
      exact hs _ _ ih
  have := h l.reverse
  rw [List.reverse_reverse] at this
  exact this
/-- fractions of one whole D: their sum is that of the numbers over D -/
theorem sum_over (D : Nat) : ∀ (L : List (Nat × Nat)) (c : Nat → Nat), (∀ i p, L[i]? = some p → p.1 * D = c i * p.2) → (sumFr L).1 * D = sumN L.length c * (sumFr L).2 := by
  refine snoc_ind ?_ ?_
  · intro c _
    simp [sumFr, sumN]
  · intro L x ih c h
    rw [sum_app, List.length_append, List.length_singleton, sumN_succ]
    have h1 := ih c fun i p hp => h i p (by rw [List.getElem?_append_left (List.getElem?_eq_some_iff.mp hp).1]; exact hp)
    have h2 := h L.length x (by simp)
    show ((sumFr L).1 * x.2 + x.1 * (sumFr L).2) * D = (sumN L.length c + c L.length) * ((sumFr L).2 * x.2)
    calc ((sumFr L).1 * x.2 + x.1 * (sumFr L).2) * D = (sumFr L).1 * D * x.2 + x.1 * D * (sumFr L).2 := by rw [Nat.add_mul]; ac_rfl
      _ = sumN L.length c * (sumFr L).2 * x.2 + c L.length * x.2 * (sumFr L).2 := by rw [h1, h2]
      _ = (sumN L.length c + c L.length) * ((sumFr L).2 * x.2) := by rw [Nat.add_mul]; ac_rfl
section
variable {L T : Nat} {ω : Nat → Nat}
theorem src_le (h : SrcOk L ω T) {k : Nat} (hk : k < L) : ω k ≤ T := by
  have := le_sumN (f := ω) hk
  have e : sumN L ω = T := h.sum
  omega
/-- the elements of a right source are chances -/
theorem src_ch (h : SrcOk L ω T) {k : Nat} (hk : k < L) : isCh (frD (ω k) T) = true ∧ prD (frD (ω k) T) = (ω k / Nat.gcd (ω k) T, T / Nat.gcd (ω k) T) := by
  have h1 := src_le h hk
  have h2 := h.und k hk
  have h3 : 0 < T / Nat.gcd (ω k) T := fr_pos h.t0
  have h4 := fr_low (a := ω k) h.t0
  have h5 : ω k / Nat.gcd (ω k) T ≤ T / Nat.gcd (ω k) T := Nat.div_le_div_right h1
  refine ⟨?_, rfl⟩
  unfold frD isCh
  simp only [Bool.and_eq_true, decide_eq_true_eq]
  exact ⟨⟨Int.ofNat_le.mpr h3, Int.ofNat_le.mpr h2⟩, ⟨Int.natCast_nonneg _, Int.ofNat_le.mpr h5⟩, h4⟩
theorem src_len : (srcD L ω T).length = L := mkL_len _ _
theorem src_get {k : Nat} (hk : k < L) : (srcD L ω T)[k]? = some (frD (ω k) T) := mkL_get hk
theorem src_all (h : SrcOk L ω T) : ∀ x, x ∈ srcD L ω T → isCh x = true := fun x hx => by
  obtain ⟨k, hk, rfl⟩ := mkL_mem hx
  exact (src_ch h hk).1
theorem src_ok (h : SrcOk L ω T) : okSrc (srcD L ω T) = true := by
  unfold okSrc
  rw [Bool.and_eq_true]
  refine ⟨List.all_eq_true.mpr (src_all h), decide_eq_true ?_⟩
  have key := sum_over T ((srcD L ω T).map prD) ω fun i p hp => by
    rw [List.getElem?_map] at hp
    obtain ⟨x, hx, rfl⟩ := Option.map_eq_some_iff.mp hp
    have hi : i < L := by rw [← src_len (L := L) (ω := ω) (T := T)]; exact (List.getElem?_eq_some_iff.mp hx).1
    rw [src_get hi] at hx
    cases hx
    rw [(src_ch h hi).2]
    exact fr_eq
  rw [List.length_map, src_len, show sumN L ω = T from h.sum, Nat.mul_comm T] at key
  exact Nat.eq_of_mul_eq_mul_right h.t0 key
/-- another chance at one place: the sum is no longer 1 -/
theorem src_other (h : SrcOk L ω T) {p : Nat} (hp : p < L) {y : PyData} (hy : isCh y = true) (ne : y ≠ frD (ω p) T) : okSrc ((srcD L ω T).take p ++ [y] ++ (srcD L ω T).drop (p + 1)) = false := by
  obtain ⟨o, u, ey, ep, u1, u2, ou, g⟩ := isCh_pr hy
  have hlen : ((srcD L ω T).take p ++ [y] ++ (srcD L ω T).drop (p + 1)).length = L := by
    rw [List.length_append, List.length_append, List.length_take, List.length_drop, src_len, List.length_singleton]
    omega
  have hset : (srcD L ω T).take p ++ [y] ++ (srcD L ω T).drop (p + 1) = (srcD L ω T).set p y := by
    rw [List.set_eq_take_append_cons_drop, if_pos (by rw [src_len]; exact hp), List.append_assoc]
    rfl
  rw [hset] at hlen ⊢
  cases hk : okSrc ((srcD L ω T).set p y) with
  | false => rfl
  | true =>
    exfalso
    unfold okSrc at hk
    rw [Bool.and_eq_true, decide_eq_true_eq] at hk
    obtain ⟨hall, hs⟩ := hk
    have key := sum_over (T * u) (((srcD L ω T).set p y).map prD) (fun i => if i = p then o * T else ω i * u) fun i q hq => by
      rw [List.getElem?_map, List.getElem?_set] at hq
      by_cases e : p = i
      · subst e
        rw [if_pos rfl, if_pos (by rw [src_len]; exact hp)] at hq
        cases (Option.some.inj hq : prD y = q)
        rw [ep, if_pos rfl]
        show o * (T * u) = o * T * u
        ac_rfl
      · rw [if_neg e] at hq
        obtain ⟨x, hx, rfl⟩ := Option.map_eq_some_iff.mp hq
        have hi : i < L := by rw [← src_len (L := L) (ω := ω) (T := T)]; exact (List.getElem?_eq_some_iff.mp hx).1
        rw [src_get hi] at hx
        cases hx
        rw [if_neg (fun z => e z.symm), (src_ch h hi).2]
        show ω i / Nat.gcd (ω i) T * (T * u) = ω i * u * (T / Nat.gcd (ω i) T)
        have := fr_eq (a := ω i) (b := T)
        calc ω i / Nat.gcd (ω i) T * (T * u) = ω i / Nat.gcd (ω i) T * T * u := by ac_rfl
          _ = ω i * (T / Nat.gcd (ω i) T) * u := by rw [this]
          _ = _ := by ac_rfl
    rw [List.length_map, hlen, hs] at key
    have hpos : 0 < (sumFr (((srcD L ω T).set p y).map prD)).2 := (sum_pos _ (src_small hall)).1
    rw [Nat.mul_comm] at key
    have e1 := Nat.eq_of_mul_eq_mul_right hpos key
    have e2 : sumN L (fun i => if i = p then o * T else ω i * u) + ω p * u = sumN L ω * u + o * T := by
      have gen : ∀ m, sumN m (fun i => if i = p then o * T else ω i * u) + (if p < m then ω p * u else 0) = sumN m ω * u + (if p < m then o * T else 0) := by
        intro m
        induction m with
        | zero => simp [sumN]
        | succ m ih =>
          rw [sumN_succ, sumN_succ, Nat.add_mul]
          by_cases e : m = p
          · subst e
            rw [if_pos rfl, if_pos (by omega), if_pos (by omega)]
            rw [if_neg (by omega), if_neg (by omega)] at ih
            omega
          · rw [if_neg e]
            by_cases e3 : p < m
            · rw [if_pos e3, if_pos e3] at ih
              rw [if_pos (by omega), if_pos (by omega)]
              omega
            · rw [if_neg e3, if_neg e3] at ih
              rw [if_neg (by omega), if_neg (by omega)]
              omega
      have := gen L
      rw [if_pos hp, if_pos hp] at this
      exact this
    rw [show sumN L ω = T from h.sum] at e2
    have e3 : ω p * u = o * T := by omega
    refine ne ?_
    rw [ey, ← fr_one g]
    exact fr_same (by omega) h.t0 e3.symm
end
end L58
namespace L58
open PySem PySem.Spec PyProof.Rows L2 DL
/-- the values that are no chances -/
def valsW : List PyData := [.none, .int 0, .int 1, .str ("ab" : Str), .tuple [.int 1], .tuple [.int 1, .int 2, .int 3], .list [.int 1, .int 2], .tuple [.int 1, .bool true], .tuple [.bool false, .int 1], .tuple [.int 2, .int 4], .tuple [.int 0, .int 2], .tuple [.int (-1), .int 2], .tuple [.int 3, .int 2], .tuple [.int 1, .int 0], .tuple [.int (-1), .int (-2)], .tuple [.int 1, .int 101], .tuple [.int 0, .int (-1)], .tuple [.str ("a" : Str), .str ("b" : Str)]]
def gdB (x : PyData) : Bool := x.showable && !x.hasDict && decide (x.depth ≤ 2) && decide (x.shown.length ≤ 20)
theorem gd_of {x : PyData} (h : gdB x = true) : Gd x := by
  unfold gdB at h
  simp only [Bool.and_eq_true, decide_eq_true_eq, Bool.not_eq_true'] at h
  exact ⟨h.1.1.1, h.1.1.2, h.1.2, h.2⟩
theorem vals_at {i : Nat} (h : i < 18) : ∃ y, atI valsW (i : Int) = some y ∧ isCh y = false ∧ Gd y := by
  have hl : valsW.length = 18 := rfl
  have key : (valsW.all fun y => !isCh y && gdB y) = true := by decide +kernel
  have hi : i < valsW.length := by omega
  refine ⟨valsW[i], by rw [DL.atI_nat hi, List.getElem?_eq_getElem hi], ?_⟩
  have := List.all_eq_true.mp key _ (List.getElem_mem hi)
  rw [Bool.and_eq_true, Bool.not_eq_true'] at this
  exact ⟨this.1, gd_of this.2⟩
def pairsW : List PyData := [.list [.tuple [.int 1, .int 101], .tuple [.int 100, .int 101]], .list [.tuple [.int 3, .int 2], .tuple [.int (-1), .int 2]], .list [.tuple [.int (-1), .int 1], .tuple [.int 2, .int 1]]]
theorem pairs_at {i : Nat} (h : i < 3) : ∃ x y, atI pairsW (i : Int) = some (.list [x, y]) ∧ isCh y = false ∧ Gd x ∧ Gd y := by
  have hc : i = 0 ∨ i = 1 ∨ i = 2 := by omega
  rcases hc with rfl | rfl | rfl
  · exact ⟨_, _, rfl, by decide +kernel, gd_of (by decide +kernel), gd_of (by decide +kernel)⟩
  · exact ⟨_, _, rfl, by decide +kernel, gd_of (by decide +kernel), gd_of (by decide +kernel)⟩
  · exact ⟨_, _, rfl, by decide +kernel, gd_of (by decide +kernel), gd_of (by decide +kernel)⟩
abbrev fiveD : List PyData := [.tuple [.int 0, .int 1], .tuple [.int 1, .int 1], .tuple [.int 99, .int 100], .tuple [.int 1, .int 100], .tuple [.int 1, .int 2]]
theorem cut_neg {xs : List PyData} (h : 1 ≤ xs.length) : DL.cutD xs none (some (-1)) = xs.take (xs.length - 1) := by
  have e : HT.sIx xs.length xs.length (some (-1)) = xs.length - 1 := by
    unfold HT.sIx
    simp only
    rw [if_pos (by omega)]
    omega
  unfold DL.cutD
  rw [e]
  simp [HT.sIx]
def fiveN : List (Nat × Nat) := [(0, 1), (1, 1), (99, 100), (1, 100), (1, 2)]
theorem pr_eqv (a b c d : Nat) : PyData.eqv (.tuple [.int (a : Nat), .int (b : Nat)]) (.tuple [.int (c : Nat), .int (d : Nat)]) = decide ((a, b) = (c, d)) := by
  simp [PyData.eqv, PyData.eqvAll]
  by_cases h1 : a = c
  · by_cases h2 : b = d
    · simp [h1, h2]
    · have h2' : ¬ ((b : Int) = (d : Int)) := by omega
      simp [h1, h2, h2']
  · have h1' : ¬ ((a : Int) = (c : Int)) := by omega
    simp [h1, h1']
theorem five_len (y : Nat × Nat) : 4 ≤ (fiveN.filter fun x => !decide (x = y)).length := by
  by_cases h1 : y = (0, 1)
  · subst h1; decide
  · by_cases h2 : y = (1, 1)
    · subst h2; decide
    · by_cases h3 : y = (99, 100)
      · subst h3; decide
      · by_cases h4 : y = (1, 100)
        · subst h4; decide
        · have e : (fiveN.filter fun x => !decide (x = y)) = [(0, 1), (1, 1), (99, 100), (1, 100)] ++ ([(1, 2)].filter fun x => !decide (x = y)) := by
            have a1 : ¬ ((0, 1) = y) := fun z => h1 z.symm
            have a2 : ¬ ((1, 1) = y) := fun z => h2 z.symm
            have a3 : ¬ ((99, 100) = y) := fun z => h3 z.symm
            have a4 : ¬ ((1, 100) = y) := fun z => h4 z.symm
            unfold fiveN
            rw [List.filter_cons_of_pos (by simp [a1]), List.filter_cons_of_pos (by simp [a2]), List.filter_cons_of_pos (by simp [a3]), List.filter_cons_of_pos (by simp [a4])]
            rfl
          rw [e, List.length_append]
          exact Nat.le_add_right _ _
theorem five_at {o u i : Nat} (h : i < 4) : ∃ c : Nat × Nat, atI ((fiveN.filter fun x => !decide (x = (o, u))).map fun p : Nat × Nat => PyData.tuple [.int (p.1 : Nat), .int (p.2 : Nat)]) (i : Int) = some (.tuple [.int (c.1 : Nat), .int (c.2 : Nat)]) ∧ c ≠ (o, u) ∧ isCh (.tuple [.int (c.1 : Nat), .int (c.2 : Nat)]) = true := by
  have hl := five_len (o, u)
  have hi : i < (fiveN.filter fun x => !decide (x = (o, u))).length := by omega
  refine ⟨(fiveN.filter fun x => !decide (x = (o, u)))[i], ?_, ?_, ?_⟩
  · rw [DL.atI_nat (by rw [List.length_map]; exact hi), List.getElem?_map, List.getElem?_eq_getElem hi]
    rfl
  · have := (List.mem_filter.mp (List.getElem_mem hi)).2
    simpa using this
  · have hm := (List.mem_filter.mp (List.getElem_mem hi)).1
    have key : (fiveN.all fun c => isCh (.tuple [.int (c.1 : Nat), .int (c.2 : Nat)])) = true := by decide +kernel
    exact List.all_eq_true.mp key _ hm
theorem longs_at {i L : Nat} {src sp : List PyData} (h : i < 5) (h1 : 1 ≤ L) (h6 : L ≤ 6) (hl : src.length = L) (hs : sp.length = L) (gS : ∀ x, x ∈ src → Gd x) (gs : ∀ x, x ∈ sp → Gd x) :
    ∃ xs, atI [PyData.list (src ++ [PyData.tuple [.int 0, .int 1]]), .list (src.take (L - 1)), .list (sp ++ [PyData.tuple [.int 0, .int 1]]), .list (src ++ [PyData.none]), .list (src ++ src.take 1)] (i : Int) = some (.list xs) ∧ xs.length ≠ L ∧ xs.length ≤ 16 ∧ ∀ x, x ∈ xs → Gd x := by
  have g0 : Gd (.tuple [.int 0, .int 1]) := gd_of (by decide +kernel)
  have gn : Gd .none := gd_of (by decide +kernel)
  have app : ∀ (a b : List PyData), (∀ x, x ∈ a → Gd x) → (∀ x, x ∈ b → Gd x) → ∀ x, x ∈ a ++ b → Gd x := fun a b ha hb x hx => by
    rcases List.mem_append.mp hx with hx | hx
    · exact ha x hx
    · exact hb x hx
  have one : ∀ y : PyData, Gd y → ∀ x, x ∈ [y] → Gd x := fun y hy x hx => by rw [List.mem_singleton.mp hx]; exact hy
  have hc : i = 0 ∨ i = 1 ∨ i = 2 ∨ i = 3 ∨ i = 4 := by omega
  rcases hc with rfl | rfl | rfl | rfl | rfl
  · exact ⟨_, rfl, by rw [List.length_append, hl]; simp, by rw [List.length_append, hl]; simp; omega, app _ _ gS (one _ g0)⟩
  · exact ⟨_, rfl, by rw [List.length_take, hl]; omega, by rw [List.length_take, hl]; omega, fun x hx => gS x (List.mem_of_mem_take hx)⟩
  · exact ⟨_, rfl, by rw [List.length_append, hs]; simp, by rw [List.length_append, hs]; simp; omega, app _ _ gs (one _ g0)⟩
  · exact ⟨_, rfl, by rw [List.length_append, hl]; simp, by rw [List.length_append, hl]; simp; omega, app _ _ gS (one _ gn)⟩
  · exact ⟨_, rfl, by rw [List.length_append, List.length_take, hl]; omega, by rw [List.length_append, List.length_take, hl]; omega, app _ _ gS fun x hx => gS x (List.mem_of_mem_take hx)⟩
theorem w_wrong (ds : List PyData) (q : List Int) (Φ : PyData → List Int → Prop) (h : sp_law_wrong ds q Φ) : W__law_wrong (endP Φ) ⟨startE ["pool", "letters", "source", "values", "at", "kind", "pair", "row", "spoilt", "longer", "n", "d", "other", "one", "sign"] (.pl :: ds.map .d), q⟩ := by
  obtain ⟨z, ω, T, rfl, hS, hq, h⟩ := h
  show W__law_wrong (endP Φ) ⟨[.pl, .d (.str z), .d (.list (srcD z.length ω T)), .un, .un, .un, .un, .un, .un, .un, .un, .un, .un, .un, .un], q⟩
  have sz : ∀ {n : Nat}, n ≤ 100 → n ≤ sizeLine := fun h => sz_le (by omega)
  have hl : (srcD z.length ω T).length = z.length := src_len
  have h1 := hS.l1
  have h6 := hS.l6
  have gS : ∀ x, x ∈ srcD z.length ω T → Gd x := fun x hx => ch_gd (src_all hS x hx)
  have s1 : 1 ≤ sizeLine := sz (by omega)
  have s2 : 2 ≤ sizeLine := sz (by omega)
  have s3 : 3 ≤ sizeLine := sz (by omega)
  have s5 : 5 ≤ sizeLine := sz (by omega)
  have s18 : 18 ≤ sizeLine := sz (by omega)
  have hlI : (z.length : Int) ≤ 6 := by omega
  have cp : ∀ p, p ≤ z.length → DL.cutD (srcD z.length ω T) none (some (p : Int)) = (srcD z.length ω T).take p := fun p hp => cut_to (by rw [hl]; exact hp)
  have c1' : ∀ p : Nat, p < z.length → DL.cutD (srcD z.length ω T) (some ((p : Int) + 1)) none = (srcD z.length ω T).drop (p + 1) := fun p hp => cut_from (a := p + 1) (by rw [hl]; exact hp)
  unfold W__law_wrong
  refine seq_go fun Ψ _ k => ?_
  simp [s1, s2, s3, s18]
  refine k ⟨[.pl, .d (.str z), .d (.list (srcD z.length ω T)), .d (.list valsW), .un, .un, .un, .un, .un, .un, .un, .un, .un, .un, .un], q⟩ ?_
  clear k
  refine seq_go fun Ψ _ k => ?_
  simp
  refine ⟨sz (by omega), pick_go (by omega) hq fun p q1 hq1 hp1 hp2 => k _ ?_⟩
  clear k
  refine seq_go fun Ψ _ k => ?_
  simp
  refine pick_go (by omega) hq1 fun kd q2 hq2 hk1 hk2 => k _ ?_
  clear k
  have hp : p < z.length := by omega
  refine seq_go fun Ψ hΨ k => ?_
  have key : ∀ s, s = (⟨[.pl, .d (.str z), .d (.list (srcD z.length ω T)), .d (.list valsW), .d (.int (p : Nat)), .d (.int (kd : Nat)), .un, .un, .un, .un, .un, .un, .un, .un, .un], q2⟩ : S) → Ψ.nx s := fun s e => by
    subst e
    refine k _ ?_
    clear k hΨ
    refine seq_go fun Ψ hΨ k => ?_
    simp
    refine pick_go (by omega) hq2 fun i q3 hq3 hi1 hi2 => ?_
    obtain ⟨y, ey, hy, gy⟩ := vals_at (i := i) (by omega)
    dsimp only
    rw [ey]
    rw [cp p (by omega), c1' p hp]
    obtain ⟨sp, hsp⟩ : ∃ sp, (srcD z.length ω T).take p ++ y :: (srcD z.length ω T).drop (p + 1) = sp := ⟨_, rfl⟩
    have hspl : sp.length = z.length := by
      rw [← hsp, List.length_append, List.length_cons, List.length_take, List.length_drop, hl]
      omega
    have gsp : ∀ x, x ∈ sp → Gd x := fun x hx => by
      rw [← hsp] at hx
      rcases List.mem_append.mp hx with hx | hx
      · exact gS x (List.mem_of_mem_take hx)
      · rcases List.mem_cons.mp hx with rfl | hx
        · exact gy
        · exact gS x (List.mem_of_mem_drop hx)
    have ysp : y ∈ sp := by rw [← hsp]; simp
    have hlt : ((srcD z.length ω T).take p).length = p := by rw [List.length_take, hl]; omega
    have hld : ((srcD z.length ω T).drop (p + 1)).length = z.length - (p + 1) := by rw [List.length_drop, hl]
    have hla : ((srcD z.length ω T).take p).length + 1 ≤ 8 := by omega
    simp only [List.append_assoc, List.cons_append, List.nil_append, hlt, hld]
    rw [hsp]
    refine ⟨s1, sz (by omega), sz (by omega), k _ ?_⟩
    clear k
    refine seq_go fun Ψ hΨ k => ?_
    simp [hl, hspl, s1, s2, s5]
    have c2 : DL.cutD (srcD z.length ω T) none (some (-1)) = (srcD z.length ω T).take (z.length - 1) := by rw [cut_neg (by rw [hl]; exact h1), hl]
    have c3 : DL.cutD (srcD z.length ω T) none (some 1) = (srcD z.length ω T).take 1 := cp 1 h1
    rw [c2, c3]
    refine ⟨sz (by omega), sz (by rw [List.length_take, hl]; omega), ?_⟩
    refine pick_go (by omega) hq3 fun i2 q4 hq4 hj1 hj2 => ?_
    obtain ⟨xs, exs, xl, xl2, gx⟩ := longs_at (i := i2) (sp := sp) (by omega) h1 h6 hl hspl gS gsp
    dsimp only
    rw [exs]
    refine k _ ?_
    clear k
    refine seq_go fun Ψ hΨ k => ?_
    simp [s2, s3]
    by_cases hk2' : (kd : Int) < 2
    · rw [if_pos hk2', hΨ]
      exact h xs _ q4 hq4 xl2 (gd_dict gx) (gd_list gx xl2) (ref_size xl).symm
    · rw [if_neg hk2']
      refine k _ ?_
      clear k
      refine seq_go fun Ψ hΨ k => ?_
      simp [s2, s3]
      by_cases hk5 : (kd : Int) < 5
      · rw [if_pos hk5, hΨ]
        exact h sp _ q4 hq4 (by omega) (gd_dict gsp) (gd_list gsp (by omega)) (ref_no hspl y ysp hy).symm
      · rw [if_neg hk5]
        refine k _ ?_
        clear k
        refine seq_go fun Ψ hΨ k => ?_
        have hch := (src_ch hS hp).1
        obtain ⟨o, u, eo, _, _, _, _, _⟩ := isCh_pr hch
        have hat : atI (srcD z.length ω T) (p : Int) = some (.tuple [.int (o : Nat), .int (u : Nat)]) := by rw [← eo]; exact atI_mkL hp
        simp [hat]
        refine k _ ?_
        clear k
        refine seq_go fun Ψ hΨ k => ?_
        simp [s2, s5]
        refine k _ ?_
        clear k
        refine seq_go fun Ψ hΨ k => ?_
        simp
        have t5 : [PyData.tuple [.int 0, .int 1], .tuple [.int 1, .int 1], .tuple [.int 99, .int 100], .tuple [.int 1, .int 100], .tuple [.int 1, .int 2]] = fiveN.map fun p : Nat × Nat => PyData.tuple [.int (p.1 : Nat), .int (p.2 : Nat)] := rfl
        rw [t5]
        refine lc_fml fiveN (fun p : Nat × Nat => PyData.tuple [.int (p.1 : Nat), .int (p.2 : Nat)]) (fun p : Nat × Nat => PyData.tuple [.int (p.1 : Nat), .int (p.2 : Nat)]) (fun x => !(decide (x = (o, u)))) (by decide) (fun c hc Y N kY kN => ?_) ?_
        · simp [s2]
          refine ⟨⟨rfl, rfl⟩, ?_⟩
          rw [pr_eqv]
          by_cases hc2 : c = (o, u)
          · rw [if_pos (decide_eq_true (show (c.1, c.2) = (o, u) from hc2))]
            exact kN (by simp [hc2]) _ rfl
          · rw [if_neg (by rw [decide_eq_true_eq]; exact hc2)]
            exact kY (by simp [hc2]) _ _ rfl rfl
        · refine k _ ?_
          clear k
          simp
          rw [cp p (by omega), c1' p hp]
          refine pick_go (by omega) hq4 fun i3 q5 hq5 hi31 hi32 => ?_
          obtain ⟨c, ec, hne, hcc⟩ := five_at (o := o) (u := u) (i := i3) (by omega)
          dsimp only
          rw [ec]
          have ne : PyData.tuple [.int (c.1 : Nat), .int (c.2 : Nat)] ≠ frD (ω p) T := fun z => by
            rw [eo] at z
            have := pr_eqv c.1 c.2 o u
            rw [z] at this
            have e1 : PyData.eqv (.tuple [.int (o : Nat), .int (u : Nat)]) (.tuple [.int (o : Nat), .int (u : Nat)]) = true := by rw [pr_eqv]; simp
            rw [e1] at this
            exact hne (of_decide_eq_true this.symm)
          have hno := src_other hS hp hcc ne
          have gc := ch_gd hcc
          generalize PyData.tuple [.int (c.1 : Nat), .int (c.2 : Nat)] = y2 at hno gc hcc
          have hno2 : okSrc ((srcD z.length ω T).take p ++ y2 :: (srcD z.length ω T).drop (p + 1)) = false := by
            rw [List.append_assoc] at hno
            exact hno
          have hl2 : ((srcD z.length ω T).take p ++ y2 :: (srcD z.length ω T).drop (p + 1)).length = z.length := by
            rw [List.length_append, List.length_cons, hlt, hld]
            omega
          have g2 : ∀ x, x ∈ (srcD z.length ω T).take p ++ y2 :: (srcD z.length ω T).drop (p + 1) → Gd x := fun x hx => by
            rcases List.mem_append.mp hx with hx | hx
            · exact gS x (List.mem_of_mem_take hx)
            · rcases List.mem_cons.mp hx with rfl | hx
              · exact gc
              · exact gS x (List.mem_of_mem_drop hx)
          dsimp only
          rw [hlt, hld]
          refine ⟨s1, sz (by omega), sz (by omega), s2, ?_⟩
          · refine h _ _ q5 hq5 (by omega) (gd_dict g2) (gd_list g2 (by omega)) ?_
            unfold refD
            rw [if_pos hl2, if_neg (by rw [hno2]; decide)]
  simp [s2, s3]
  by_cases hk6 : (kd : Int) = 6
  · have hk6' : kd = 6 := by omega
    rw [if_pos hk6]
    refine ⟨sz (by omega), ?_⟩
    by_cases hL : 1 < (z.length : Int)
    · rw [if_pos hL]
      clear key k
      refine pick_go (by omega) hq2 fun i q3 hq3 hi1 hi2 => ?_
      obtain ⟨x, y, ey, hy, gx, gy⟩ := pairs_at (i := i) (by omega)
      have ey' : atI [PyData.list [.tuple [.int 1, .int 101], .tuple [.int 100, .int 101]], .list [.tuple [.int 3, .int 2], .tuple [.int (-1), .int 2]], .list [.tuple [.int (-1), .int 1], .tuple [.int 2, .int 1]]] (i : Int) = some (.list [x, y]) := ey
      dsimp only
      rw [ey']
      dsimp only
      rw [signs_rng]
      refine lc_mkL (n := z.length) (fun _ => .tuple [.int 0, .int 1]) (by omega) (fun j hj Θ kΘ => ?_) ?_
      · simp [s2]
        exact kΘ _ _ rfl rfl
      · simp [mkL_len]
        have ej : ((p : Int) + 1) % (z.length : Int) = (((p + 1) % z.length : Nat) : Int) := rfl
        have hm : (p + 1) % z.length < z.length := Nat.mod_lt _ (by omega)
        rw [ej, ixN_nat hp]
        simp only [ixN_nat hm]
        rw [hΨ]
        have hlen : (((mkL z.length fun _ => PyData.tuple [.int 0, .int 1]).set p x).set ((p + 1) % z.length) y).length = z.length := by rw [List.length_set, List.length_set, mkL_len]
        have hmem : y ∈ ((mkL z.length fun _ => PyData.tuple [.int 0, .int 1]).set p x).set ((p + 1) % z.length) y := List.mem_set (by rw [List.length_set, mkL_len]; exact hm) _
        have g0 : Gd (.tuple [.int 0, .int 1]) := gd_of (by decide +kernel)
        have gall : ∀ u, u ∈ ((mkL z.length fun _ => PyData.tuple [.int 0, .int 1]).set p x).set ((p + 1) % z.length) y → Gd u := fun u hu => by
          rcases List.mem_or_eq_of_mem_set hu with hu | rfl
          · rcases List.mem_or_eq_of_mem_set hu with hu | rfl
            · obtain ⟨_, _, rfl⟩ := mkL_mem hu
              exact g0
            · exact gx
          · exact gy
        exact ⟨sz (by omega), by omega, h _ _ q3 hq3 (by omega) (gd_dict gall) (gd_list gall (by omega)) (ref_no hlen y hmem hy).symm⟩
    · rw [if_neg hL]
      exact key _ rfl
  · rw [if_neg hk6]
    exact key _ rfl
end L58
namespace L58
open PySem PySem.Spec PyProof.Rows L2 DL
theorem ref_ok {L T : Nat} {ω : Nat → Nat} (h : SrcOk L ω T) : refD L (srcD L ω T) = .tuple [.str "told", .bool true] := by
  unfold refD
  rw [if_pos src_len, if_pos (src_ok h)]
theorem eqv_self_str2 : PyData.eqv (.tuple [.str "told", .bool true]) (.tuple [.str "told", .bool true]) = true := by decide +kernel
theorem shp {n : Nat} (h : n ≤ 16) : SeqAt.shaped (PyData.tuple [.str "refused", .str "size", .int (n : Nat)]) = true := by
  have key : ∀ n : Fin 17, SeqAt.shaped (PyData.tuple [.str "refused", .str "size", .int (n.val : Nat)]) = true := by decide +kernel
  exact key ⟨n, by omega⟩
theorem ref_eqv (n : Nat) (xs : List PyData) (hx : xs.length ≤ 16) : eqD (refD n xs) (refD n xs) ∧ PyData.eqv (refD n xs) (refD n xs) = true := by
  unfold refD
  split
  · split
    · exact ⟨⟨by decide +kernel, by decide +kernel⟩, by decide +kernel⟩
    · exact ⟨⟨by decide +kernel, by decide +kernel⟩, by decide +kernel⟩
  · refine ⟨⟨shp hx, shp hx⟩, ?_⟩
    simp [PyData.eqv, PyData.eqvAll]
theorem w_checks (ds : List PyData) (q : List Int) (Φ : PyData → List Int → Prop) (h : sp_law_checks ds q Φ) : W__law_checks (endP Φ) ⟨startE ["pool", "letters", "source", "turn", "wrong", "due", "kept"] (.pl :: ds.map .d), q⟩ := by
  obtain ⟨z, ω, T, rfl, hS, hq, h⟩ := h
  show W__law_checks (endP Φ) ⟨[.pl, .d (.str z), .d (.list (srcD z.length ω T)), .un, .un, .un, .un], q⟩
  have s2 : 2 ≤ sizeLine := sz_le (by omega)
  have hl : (srcD z.length ω T).length = z.length := src_len
  have h6 := hS.l6
  have gS : ∀ x, x ∈ srcD z.length ω T → x.hasDict = false := fun x hx => (ch_gd (src_all hS x hx)).nd
  unfold W__law_checks
  simp
  refine ⟨⟨by decide, by decide⟩, ?_⟩
  refine loop_rng (fun i s => ∃ (a3 a4 a5 a6 : Sl) (q' : List Int), PoolOk q' ∧ s = ⟨[.pl, .d (.str z), .d (.list (srcD z.length ω T)), a3, a4, a5, a6], q'⟩) ⟨_, _, _, _, q, hq, rfl⟩ ?_ ?_
  · rintro i s hi ⟨a3, a4, a5, a6, q1, hq1, rfl⟩ Θ k1 k2 k3 k4 k5
    clear k2 k3 k4 k5
    simp
    refine ⟨z, srcD z.length ω T, rfl, h6, by omega, gS, ?_⟩
    rw [ref_ok hS]
    simp [s2]
    refine ⟨⟨by decide +kernel, by decide +kernel⟩, ?_⟩
    rw [if_pos eqv_self_str2]
    refine ⟨z, ω, T, rfl, hS, hq1, fun xs due q2 hq2 hl2 hd hsh hdue => ?_⟩
    subst hdue
    simp [gRepr]
    refine ⟨hsh.ok, hsh.nd, Nat.le_trans hsh.dp (by decide), sz_le (Nat.le_trans hsh.le (by decide)), ?_⟩
    refine ⟨z, xs, rfl, h6, hl2, hd, ?_⟩
    obtain ⟨e1, e2⟩ := ref_eqv z.length xs hl2
    obtain ⟨l, el⟩ : ∃ l, refD z.length xs = .tuple l := by
      unfold refD
      split
      · split
        · exact ⟨_, rfl⟩
        · exact ⟨_, rfl⟩
      · exact ⟨_, rfl⟩
    rw [el] at e1 e2 ⊢
    dsimp only
    refine ⟨e1, ?_⟩
    rw [if_pos e2]
    exact ⟨hsh.ok, hsh.nd, Nat.le_trans hsh.dp (by decide), sz_le (Nat.le_trans hsh.le (by decide)), k1 _ ⟨_, _, _, _, q2, hq2, rfl⟩⟩
  · rintro s ⟨a3, a4, a5, a6, q1, hq1, rfl⟩
    simp
    exact h q1 hq1
end L58
namespace L58
open PySem PySem.Spec PyProof.Rows L2 DL
theorem shw_60 {n : Nat} (h : n < 60) : Shw 4 0 (.int (n : Nat)) := shw_100 (by omega)
theorem shw_bool (b : Bool) : Shw 5 0 (.bool b) := by
  cases b
  · exact ⟨rfl, rfl, Nat.le_refl _, by decide +kernel⟩
  · exact ⟨rfl, rfl, Nat.le_refl _, by decide +kernel⟩
theorem shw_mach {L n : Nat} {T : Nat → Nat → Nat} {E : Nat → Bool} (hM : MachOk L n T) (hL : L ≤ 6) (hn : n ≤ 60) : Shw 4000 3 (machD L n T E) := by
  have r : ∀ s, s < n → Shw 40 1 (.list (mkI L (T s))) := fun s hs => by
    have h1 : ShwA ((mkI L (T s)).length * (4 + 2)) 0 (mkI L (T s)) := shwA_all fun x hx => by
      obtain ⟨a, ha, rfl⟩ := mkL_mem hx
      exact shw_60 (Nat.lt_of_lt_of_le (hM.lt s a hs ha) hn)
    rw [mkI_len] at h1
    exact shw_mono (shw_list h1) (by omega) (Nat.le_refl _)
  have h2 : ShwA ((mkM n L T).length * (40 + 2)) 1 (mkM n L T) := shwA_all fun x hx => by
    obtain ⟨s, hs, rfl⟩ := mkL_mem hx
    exact r s hs
  have h3 : ShwA ((mkB n E).length * (5 + 2)) 0 (mkB n E) := shwA_all fun x hx => by
    obtain ⟨s, hs, rfl⟩ := mkL_mem hx
    exact shw_bool _
  rw [mkL_len] at h2 h3
  have h4 := shw_mono (shw_list h2) (show _ ≤ 2600 by omega) (Nat.le_refl _)
  have h5 := shw_mono (shw_list h3) (show _ ≤ 500 by omega) (show _ ≤ 2 by omega)
  exact shw_mono (shw_tuple (shwA_cons h4 (shwA_cons h5 (shwA_nil 2)))) (by omega) (by omega)
theorem shw_both {L n T0 : Nat} {ω : Nat → Nat} {T : Nat → Nat → Nat} {E : Nat → Bool} (hS : SrcOk L ω T0) (hM : MachOk L n T) (hn : n ≤ 60) : Shw 9000 8 (.tuple [.list (srcD L ω T0), machD L n T E]) := by
  have h1 := gd_list (fun x hx => ch_gd (src_all hS x hx)) (by rw [src_len]; have := hS.l6; omega)
  have h2 := shw_mono (shw_mach (E := E) hM hS.l6 hn) (Nat.le_refl _) (show 3 ≤ 6 by omega)
  exact shw_mono (shw_tuple (shwA_cons h1 (shwA_cons h2 (shwA_nil 6)))) (by omega) (by omega)
theorem drawn_pos {L T0 : Nat} {ω : Nat → Nat} (hS : SrcOk L ω T0) : 1 ≤ ((List.range L).filter fun k => decide (0 < ω k)).length := by
  cases hl : (List.range L).filter fun k => decide (0 < ω k) with
  | cons a l => simp
  | nil =>
    have h0 : ∀ k, k ∈ List.range L → ω k = 0 := fun k hk => by
      have := List.filter_eq_nil_iff.mp hl k hk
      simpa using this
    have e : ((List.range L).map ω).sum = 0 := by
      rw [List.map_congr_left h0]
      generalize List.range L = l
      induction l with
      | nil => rfl
      | cons a l ih => simpa using ih
    have := hS.sum
    have := hS.t0
    omega
theorem at_let {z : Str} {a : Nat} (ha : a < z.length) : atI z.cps.toList (a : Int) = some (cz z a) := by
  rw [DL.atI_nat (by rw [Array.length_toList]; exact ha)]
  unfold cz
  rw [List.getD_eq_getElem?_getD, List.getElem?_eq_getElem (by rw [Array.length_toList]; exact ha)]
  rfl
theorem join_wS (z : Str) (l : List Nat) : Txt.join (Str.ofString "") (l.map fun a => sg (cz z a)) = wS z l := by
  have h := join_signs (l.map fun a => cz z a)
  rw [List.map_map] at h
  have e : (Txt.join (Str.ofString "") (l.map fun a => sg (cz z a))).cps = (wS z l).cps := by
    apply Array.toList_inj.mp
    exact h
  cases hx : Txt.join (Str.ofString "") (l.map fun a => sg (cz z a)) with
  | mk c =>
    rw [hx] at e
    cases hy : wS z l with
    | mk d =>
      rw [hy] at e
      exact congrArg Str.mk e
theorem join_go {z : Str} {xs : List PyData} {c : Nat} (hl : xs.length = c) (hc : c ≤ 4000) (h : ∀ x, x ∈ xs → ∃ a : Nat, a < z.length ∧ x = .str (sg (cz z a))) : ∃ w : List Nat, w.length = c ∧ (∀ a, a ∈ w → a < z.length) ∧
    ∀ Φ : PyData → Prop, Φ (.str (wS z w)) → ∃ ys : List Str, PyData.list xs = .list (ys.map .str) ∧ (ys.map fun x => x.length).sum + ys.length * (Str.ofString "").length ≤ 16777216 ∧ Φ (.str (Txt.join (Str.ofString "") ys)) := by
  obtain ⟨f, e, hf⟩ := mkL_of (c := fun a : Nat => PyData.str (sg (cz z a))) (Q := fun a => a < z.length) h
  rw [hl] at e hf
  refine ⟨(List.range c).map f, by simp, fun a ha => ?_, fun Φ k => ⟨((List.range c).map f).map fun a => sg (cz z a), ?_, ?_, ?_⟩⟩
  · obtain ⟨i, hi, rfl⟩ := List.mem_map.mp ha
    exact hf i (List.mem_range.mp hi)
  · rw [e]
    simp [mkL]
  · rw [empty_len, Nat.mul_zero, Nat.add_zero, List.map_map]
    refine Nat.le_trans (sum_le (m := 1) fun a h => ?_) (by simp; omega)
    obtain ⟨b, _, rfl⟩ := List.mem_map.mp h
    exact Nat.le_refl _
  · rw [join_wS]
    exact k
theorem is_fr {a b : Nat} {Φ : PyData → Prop} (h0 : 0 < b) (ha : Fit a) (hb : Fit b) (k : Φ (.bool true)) : sp_is_fraction [frD a b, .int (a : Nat), .int (b : Nat)] Φ :=
  ⟨a / Nat.gcd a b, b / Nat.gcd a b, a, b, rfl, Nat.lt_of_le_of_lt (Nat.div_le_self _ _) ha, Nat.lt_of_le_of_lt (Nat.div_le_self _ _) hb, ha, hb, fr_pos h0, fr_eq, fr_low h0, k⟩
theorem src_420 {L T0 : Nat} {ω : Nat → Nat} (hS : SrcOk L ω T0) : ∀ k, k < L → ω k ≤ 420 := fun k hk => Nat.le_trans (src_le hS hk) hS.tm
theorem small_at {L : Nat} (h1 : 1 ≤ L) (h6 : L ≤ 6) : ∃ s : Nat, atI [PyData.int 10, PyData.int 10, PyData.int 6, PyData.int 5, PyData.int 5, PyData.int 4] ((L : Int) - 1) = some (.int (s : Nat)) ∧ 1 ≤ s ∧ s ≤ 10 ∧ ∀ m, m < s → L ^ m ≤ 1000 := by
  have hc : L = 1 ∨ L = 2 ∨ L = 3 ∨ L = 4 ∨ L = 5 ∨ L = 6 := by omega
  rcases hc with rfl | rfl | rfl | rfl | rfl | rfl
  · exact ⟨10, rfl, by decide, by decide, by decide⟩
  · exact ⟨10, rfl, by decide, by decide, by decide⟩
  · exact ⟨6, rfl, by decide, by decide, by decide⟩
  · exact ⟨5, rfl, by decide, by decide, by decide⟩
  · exact ⟨5, rfl, by decide, by decide, by decide⟩
  · exact ⟨4, rfl, by decide, by decide, by decide⟩
theorem rangeD_at {i n : Nat} (h : i < n) : (rangeD 0 n)[i]? = some (.int (i : Nat)) := by
  unfold rangeD
  rw [List.getElem?_map, List.getElem?_range h]
  show some (PyData.int (0 + (i : Int))) = _
  rw [Int.zero_add]
theorem in_small {m n : Nat} (h : inF (.int (m : Nat)) (rangeD 0 n) = true) : m < n := by
  obtain ⟨x, hx, e⟩ := List.any_eq_true.mp h
  obtain ⟨i, hi⟩ := List.mem_iff_getElem?.mp hx
  obtain ⟨hin, rfl⟩ := rangeD_get hi
  have : (0 + (i : Int)) = (m : Int) := by simpa [eqF] using e
  omega
theorem shaped2 (a b : Nat) : SeqAt.shaped (.tuple [.int (a : Nat), .int (b : Nat)]) = true := by
  simp [SeqAt.shaped, PyData.canLay0, PyData.canLayAll0, PyData.depth, PyData.depthAll]
theorem eqv2 (a b : Nat) : PyData.eqv (.tuple [.int (a : Nat), .int (b : Nat)]) (.tuple [.int (a : Nat), .int (b : Nat)]) = true := by
  rw [pr_eqv]
  simp
theorem fit_bk {L m : Nat} {ω h : Nat → Nat} {T : Nat → Nat → Nat} (hL : L ≤ 6) (hω : ∀ k, k < L → ω k ≤ 420) (hh : ∀ s, h s ≤ 1) (hm : m ≤ 60) : Fit (bkW L ω T m h 0) := by
  have h1 := bkW_le (T := T) hω hh m 0
  have h2 : (L * 420) ^ m ≤ (2 ^ 12) ^ m := Nat.pow_le_pow_left (by omega) m
  rw [← Nat.pow_mul] at h2
  exact Nat.lt_of_le_of_lt (Nat.le_trans h1 h2) (Nat.pow_lt_pow_right (by decide) (by omega))
theorem w_law (ns q : List Int) (hq : PoolOk q) : W_law endTrue ⟨(startE ["script", "pool", "letters", "weights", "total", "source", "machine", "kept", "size", "drawn", "word", "power", "sign", "small", "n", "step", "taken", "begun", "k"] [.sc ns]).set 1 .pl, q⟩ := by
  show W_law endTrue ⟨[.sc ns, .pl, .un, .un, .un, .un, .un, .un, .un, .un, .un, .un, .un, .un, .un, .un, .un, .un, .un], q⟩
  have s2 : 2 ≤ sizeLine := sz_le (by omega)
  unfold W_law
  refine seq_go fun Ψ _ k => ?_
  simp
  refine ⟨6, rfl, by decide, by decide, hq, fun z q1 hq1 hz nd => k _ ?_⟩
  clear k
  obtain ⟨hz1, hz2, hz3⟩ := hz
  have hz6 : z.length ≤ 6 := by omega
  have szz : z.length ≤ sizeLine := sz_le (by omega)
  refine seq_go fun Ψ _ k => ?_
  simp
  refine ⟨szz, z.length, rfl, hz1, hz6, hq1, fun ω T0 q2 hq2 t0 t1 hsum hund => ?_⟩
  have hS : SrcOk z.length ω T0 := ⟨hz1, hz6, t0, t1, hsum, hund⟩
  simp
  refine k _ ?_
  clear k
  refine seq_go fun Ψ _ k => ?_
  simp
  refine ⟨z.length, ω, T0, rfl, hz6, t0, by omega, k _ ?_⟩
  clear k
  refine seq_go fun Ψ _ k => ?_
  simp
  refine ⟨s2, pick_go (by omega) hq2 fun u q3 hq3 _ _ => ?_⟩
  dsimp only
  have em : ∃ m : Nat, 1 ≤ m ∧ m ≤ 60 ∧ atI [PyData.int 6, .int 40] (if (u : Int) = 29 then 1 else 0) = some (.int (m : Nat)) := by
    split
    · exact ⟨40, by omega, by omega, rfl⟩
    · exact ⟨6, by omega, by omega, rfl⟩
  obtain ⟨m, m1, m60, em⟩ := em
  rw [em]
  refine ⟨z, m, rfl, m1, m60, hz6, hq3, fun n T E q4 hq4 hM hnm => k _ ?_⟩
  have hn : n ≤ 60 := by omega
  clear k em hnm m60 m1 m
  have hsh := shw_both (E := E) hS hM hn
  have sh1 := hsh.ok
  have sh2 := hsh.nd
  have sh3 : (PyData.tuple [.list (srcD z.length ω T0), machD z.length n T E]).depth ≤ 60 := Nat.le_trans hsh.dp (by decide)
  have sh4 : (PyData.tuple [.list (srcD z.length ω T0), machD z.length n T E]).shown.length ≤ sizeLine := sz_le (Nat.le_trans hsh.le (by decide))
  clear hsh
  refine seq_go fun Ψ _ k => ?_
  simp [gRepr]
  refine ⟨s2, sh1, sh2, sh3, sh4, k _ ?_⟩
  clear k
  generalize hkept : (PyData.tuple [.list (mkL z.length fun k => frD (ω k) T0), machD z.length n T E]).shown = kept
  refine seq_go fun Ψ _ k => ?_
  simp
  refine ⟨z, ω, T0, rfl, hS, hq4, fun q5 hq5 => ?_⟩
  simp
  refine k _ ?_
  clear k
  refine seq_go fun Ψ _ k => ?_
  simp
  refine pick_go (by omega) hq5 fun s0 q6 hq6 _ _ => k _ ?_
  clear k
  refine seq_go fun Ψ _ k => ?_
  simp
  refine pick_go (by omega) hq6 fun u7 q7 hq7 _ _ => ?_
  dsimp only
  have k2 : ∀ c : Nat, c ≤ 200 → Ψ.nx ⟨[.sc ns, .pl, .d (.str z), .d (.list (mkI z.length ω)), .d (.int (T0 : Nat)), .d (.list (mkL z.length fun k => frD (ω k) T0)), .d (machD z.length n T E), .d (.str kept), .d (.int (c : Nat)), .un, .un, .un, .un, .un, .un, .un, .un, .un, .un], q7⟩ := fun c hc => k _ ?_
  rotate_left
  · refine seq_go fun Ψ _ k => ?_
    simp
    have szr : small62 (z.length : Int) := by
      simp only [small62]
      omega
    have k3 : ∀ dr : List Nat, 1 ≤ dr.length → dr.length ≤ 6 → (∀ a, a ∈ dr → a < z.length) → Ψ.nx ⟨[.sc ns, .pl, .d (.str z), .d (.list (mkI z.length ω)), .d (.int (T0 : Nat)), .d (.list (mkL z.length fun k => frD (ω k) T0)), .d (machD z.length n T E), .d (.str kept), .d (.int (c : Nat)), .d (.list (dr.map fun a => .str (sg (cz z a)))), .un, .un, .un, .un, .un, .un, .un, .un, .un], q7⟩ := fun dr d1 d6 dr0 => k _ ?_
    rotate_left
    · refine seq_go fun Ψ _ k => ?_
      simp
      have k4 : ∀ (dr : List Nat) q, PoolOk q → 1 ≤ dr.length → dr.length ≤ 6 → (∀ a, a ∈ dr → a < z.length) → Ψ.nx ⟨[.sc ns, .pl, .d (.str z), .d (.list (mkI z.length ω)), .d (.int (T0 : Nat)), .d (.list (mkL z.length fun k => frD (ω k) T0)), .d (machD z.length n T E), .d (.str kept), .d (.int (c : Nat)), .d (.list (dr.map fun a => .str (sg (cz z a)))), .un, .un, .un, .un, .un, .un, .un, .un, .un], q⟩ := fun dr q hq d1 d6 dr0 => k _ ?_
      rotate_left
      · refine seq_go fun Ψ _ k => ?_
        simp
        have k5 : ∀ (w : List Nat) q, PoolOk q → w.length = c → (∀ a, a ∈ w → a < z.length) → Ψ.nx ⟨[.sc ns, .pl, .d (.str z), .d (.list (mkI z.length ω)), .d (.int (T0 : Nat)), .d (.list (mkL z.length fun k => frD (ω k) T0)), .d (machD z.length n T E), .d (.str kept), .d (.int (c : Nat)), .d (.list (dr.map fun a => .str (sg (cz z a)))), .d (.str (wS z w)), .un, .un, .un, .un, .un, .un, .un, .un], q⟩ := fun w q hq hwl hw => k _ ?_
        rotate_left
        · refine seq_go fun Ψ _ k => ?_
          simp
          refine k _ ?_
          clear k
          refine seq_go fun Ψ _ k => ?_
          simp
          rw [signs_word]
          refine loop_ix _ (fun i s => ∃ (p : Nat) (a12 : Sl), p = T0 ^ i ∧ s = ⟨[.sc ns, .pl, .d (.str z), .d (.list (mkI z.length ω)), .d (.int (T0 : Nat)), .d (.list (mkL z.length fun k => frD (ω k) T0)), .d (machD z.length n T E), .d (.str kept), .d (.int (c : Nat)), .d (.list (dr.map fun a => .str (sg (cz z a)))), .d (.str (wS z w)), .d (.int (p : Nat)), a12, .un, .un, .un, .un, .un, .un], q⟩) ⟨1, .un, by simp, rfl⟩ ?_ ?_
          · rintro i x s hx ⟨p, a12, hp, rfl⟩ Θ k1 k2 k3 k4 k5
            clear k2 k3 k4 k5 k
            simp
            refine ⟨.inr ⟨by omega, by omega⟩, k1 _ ⟨p * T0, _, by rw [hp, Nat.pow_succ], rfl⟩⟩
          · rintro s ⟨p, a12, hp, rfl⟩
            rw [List.length_map, hwl] at hp
            refine k _ ?_
            clear k
            refine seq_go fun Ψ _ k => ?_
            simp
            have w4 := src_420 hS
            have wd : Wd z w := ⟨nd, hw, by omega⟩
            have f1 : prodW ω w ≤ 2 ^ 1800 := Nat.le_trans (prod_le (m := 9) w fun a ha => Nat.le_trans (w4 a (hw a ha)) (by decide)) (Nat.pow_le_pow_right (by decide) (by omega))
            have f2 : p ≤ 2 ^ 1800 := by
              rw [hp]
              refine Nat.le_trans (Nat.pow_le_pow_left (show T0 ≤ 2 ^ 9 by omega) c) ?_
              rw [← Nat.pow_mul]
              exact Nat.pow_le_pow_right (by decide) (by omega)
            refine ⟨z, ω, T0, w, rfl, wd, t0, by omega, fun a ha => Nat.le_trans (w4 a ha) (by decide), ?_⟩
            refine ⟨z, ω, w, rfl, wd, fun a ha => Nat.le_trans (w4 a ha) (by decide), ?_⟩
            rw [hwl, ← hp]
            refine is_fr (hp ▸ Nat.pow_pos t0) (fit_le f1 (by decide)) (fit_le f2 (by decide)) ?_
            simp
            refine k _ ?_
            clear k f1 f2
            obtain ⟨sm, sm0, sm1, sm10, smp⟩ := small_at hz1 hz6
            have s6 : 6 ≤ sizeLine := sz_le (by omega)
            refine seq_go fun Ψ _ k => ?_
            simp
            rw [sm0]
            refine ⟨s6, szz, ?_⟩
            dsimp only
            refine ⟨⟨by omega, by omega⟩, k _ ?_⟩
            clear k
            rw [Int.toNat_natCast]
            refine seq_go fun Ψ hrt k => ?_
            simp
            rw [rangeD_len]
            refine pick_go (by omega) hq fun ua qa hqa hua _ => ?_
            dsimp only
            have e1 : atI (rangeD 0 sm) (ua : Int) = some (.int (ua : Nat)) := by
              rw [DL.atI_nat (by rw [rangeD_len]; omega), rangeD_at (by omega)]
            rw [e1]
            dsimp only
            refine pick_go (by omega) hqa fun ub qb hqb _ hub => ?_
            refine ⟨sz_le (by omega), pick_go (by omega) hqb fun uc qc hqc huc _ => ?_⟩
            dsimp only
            have e2 : ∃ v : Nat, v < 60 ∧ atI [PyData.int 0, .int 0, .int (ub : Nat)] (uc : Int) = some (.int (v : Nat)) := by
              have hc : uc = 0 ∨ uc = 1 ∨ uc = 2 := by omega
              rcases hc with rfl | rfl | rfl
              · exact ⟨0, by omega, rfl⟩
              · exact ⟨0, by omega, rfl⟩
              · exact ⟨ub, hub, rfl⟩
            obtain ⟨v, hv, e2⟩ := e2
            rw [e2]
            dsimp only
            refine ⟨s2, ?_⟩
            have e3 : ((60 : Int) - (v : Int)) = ((60 - v : Nat) : Int) := by omega
            rw [e3]
            refine loop_ix _ (fun i s => ∃ (a11 a12 a14 a15 a16 a17 : Sl), s = ⟨[.sc ns, .pl, .d (.str z), .d (.list (mkI z.length ω)), .d (.int (T0 : Nat)), .d (.list (mkL z.length fun k => frD (ω k) T0)), .d (machD z.length n T E), .d (.str kept), .d (.int (c : Nat)), .d (.list (dr.map fun a => .str (sg (cz z a)))), .d (.str (wS z w)), a11, a12, .d (.list (rangeD 0 sm)), a14, a15, a16, a17, .un], qc⟩) ⟨_, _, _, _, _, _, rfl⟩ ?_ ?_
            · rintro i x s hx ⟨a11, a12, a14, a15, a16, a17, rfl⟩ Θ k1 k2 k3 k4 k5
              clear k2 k4 k5 k e1 e2 e3
              have ex : ∃ m : Nat, m ≤ 60 ∧ x = .int (m : Nat) := by
                match i, hx with
                | 0, hx => exact ⟨ua, by omega, (Option.some.inj hx).symm⟩
                | 1, hx => exact ⟨60 - v, by omega, (Option.some.inj hx).symm⟩
              obtain ⟨m, hm, rfl⟩ := ex
              simp
              refine ⟨by simp only [small62]; omega, ?_⟩
              refine loop_rng (fun i s => ∃ (p : Nat) (a15 : Sl), p = T0 ^ i ∧ s = ⟨[.sc ns, .pl, .d (.str z), .d (.list (mkI z.length ω)), .d (.int (T0 : Nat)), .d (.list (mkL z.length fun k => frD (ω k) T0)), .d (machD z.length n T E), .d (.str kept), .d (.int (c : Nat)), .d (.list (dr.map fun a => .str (sg (cz z a)))), .d (.str (wS z w)), .d (.int (p : Nat)), a12, .d (.list (rangeD 0 sm)), .d (.int (m : Nat)), a15, a16, a17, .un], qc⟩) ⟨1, a15, by simp, rfl⟩ ?_ ?_
              · rintro j s hj ⟨p, a15, hp, rfl⟩ Θ k1 k2 k3 k4 k5
                clear k2 k3 k4 k5
                simp
                refine ⟨.inr ⟨by omega, by omega⟩, k1 _ ⟨p * T0, _, by rw [hp, Nat.pow_succ], rfl⟩⟩
              · rintro s ⟨p, a15, hp, rfl⟩
                have w4 := src_420 hS
                dsimp only
                refine seq_go fun Ψ _ k => ?_
                simp
                refine ⟨z.length, ω, T0, n, T, E, m, rfl, hS, hM, hn, hm, ?_⟩
                simp [rowD]
                refine k _ ?_
                clear k
                refine seq_go fun Ψ _ k => ?_
                simp
                refine ⟨fun x hx => ?_, ?_⟩
                · obtain ⟨i, hi⟩ := List.mem_iff_getElem?.mp hx
                  obtain ⟨_, rfl⟩ := rangeD_get hi
                  rfl
                have kk : ∀ s : S, s = ⟨[.sc ns, .pl, .d (.str z), .d (.list (mkI z.length ω)), .d (.int (T0 : Nat)), .d (.list (mkL z.length fun k => frD (ω k) T0)), .d (machD z.length n T E), .d (.str kept), .d (.int (c : Nat)), .d (.list (dr.map fun a => .str (sg (cz z a)))), .d (.str (wS z w)), .d (.int (p : Nat)), a12, .d (.list (rangeD 0 sm)), .d (.int (m : Nat)), a15, .d (.int (bkW z.length ω T m (eN E) 0 : Nat)), .d (.int (bkW z.length ω (stT T E) m (eN E) 0 : Nat)), .un], qc⟩ → Ψ.nx s := fun s hs => k _ ?_
                rotate_left
                · subst hs
                  clear k
                  have b0 : 0 < p := hp ▸ Nat.pow_pos t0
                  have bf : Fit p := hp ▸ fit_pow t1 hm
                  refine seq_go fun Ψ _ k => ?_
                  simp
                  refine ⟨_, z.length, ω, T0, n, T, E, m, rfl, hz6, t0, t1, w4, hM, hn, hm, ?_⟩
                  rw [← hp]
                  refine is_fr b0 (fit_bk hz6 w4 (eN_le E) hm) bf ?_
                  simp
                  refine k _ ?_
                  clear k
                  simp
                  refine ⟨z, ω, T0, n, T, E, m, rfl, hz6, t0, t1, w4, hM, hn, hm, ?_⟩
                  rw [← hp]
                  refine is_fr b0 (fit_bk hz6 w4 (eN_le E) hm) bf ?_
                  simp
                  exact k1 _ ⟨_, _, _, _, _, _, rfl⟩
                · split
                  · rename_i hin
                    have hlt := in_small hin
                    refine ⟨z, ω, n, T, E, m, rfl, nd, hz1, hz6, w4, hM, hn, by omega, smp m hlt, ?_⟩
                    refine ⟨s2, ⟨shaped2 _ _, shaped2 _ _⟩, ?_⟩
                    rw [rowD, if_pos (eqv2 _ _)]
                    exact kk _ rfl
                  · exact kk _ rfl
            · rintro s ⟨a11, a12, a14, a15, a16, a17, rfl⟩
              refine k _ ?_
              clear k
              simp [gRepr]
              exact ⟨s2, sh1, sh2, sh3, sh4, hkept⟩
        · have szd : dr.length ≤ sizeLine := sz_le (by omega)
          refine ⟨by simp only [small62]; omega, ?_⟩
          refine lc_predE (P := fun y => ∃ a : Nat, a < z.length ∧ y = .str (sg (cz z a))) _ hq (by rw [rangeD_len]; omega) (fun x q2 hx hq2 Θ kΘ => ?_) fun ys q2 hq2 hl hy => ?_
          · simp
            refine pick_go (by omega) hq2 fun u9 q9 hq9 _ _ => ?_
            simp
            have hlt : u9 % dr.length < dr.length := Nat.mod_lt _ d1
            refine ⟨d1, ?_⟩
            rw [show ((u9 : Int) % (dr.length : Nat)) = ((u9 % dr.length : Nat) : Int) from rfl]
            rw [DL.atI_nat (by rw [List.length_map]; exact hlt), List.getElem?_map, List.getElem?_eq_getElem hlt]
            exact kΘ _ _ _ rfl hq9 ⟨_, dr0 _ (List.getElem_mem hlt), rfl⟩
          · rw [rangeD_len] at hl
            obtain ⟨w, hw1, hw2, hw3⟩ := join_go (z := z) hl (by omega) hy
            obtain ⟨ys, e1, e2, e3⟩ := hw3 (fun x => Ψ.nx ⟨[.sc ns, .pl, .d (.str z), .d (.list (mkI z.length ω)), .d (.int (T0 : Nat)), .d (.list (mkL z.length fun k => frD (ω k) T0)), .d (machD z.length n T E), .d (.str kept), .d (.int (c : Nat)), .d (.list (dr.map fun a => .str (sg (cz z a)))), .d x, .un, .un, .un, .un, .un, .un, .un, .un], q2⟩) (k5 w q2 hq2 hw1 hw2)
            exact ⟨ys, PyData.list.inj e1, e2, e3⟩
      · refine pick_go (by omega) hq7 fun u3 q8 hq8 _ _ => ?_
        dsimp only
        split
        · refine ⟨szz, ?_⟩
          have h := k4 (List.range z.length) q8 hq8 (by simpa using hz1) (by simpa using hz6) fun a ha => List.mem_range.mp ha
          rw [signs_rng]
          exact h
        · exact k4 dr q8 hq8 d1 d6 dr0
    · refine ⟨szz, szr, ?_⟩
      refine lc_filt (n := z.length) (fun k => decide (0 < ω k)) (fun k => .str (sg (cz z k))) (by omega) (fun i hi Y N kY kN => ?_) ?_
      · simp [atI_mkI hi, at_let hi]
        split
        · rename_i hp
          exact ⟨szz, kY (decide_eq_true hp) _ _ rfl rfl⟩
        · rename_i hp
          exact kN (decide_eq_false hp) _ rfl
      · refine k3 _ (drawn_pos hS) (Nat.le_trans (List.length_filter_le _ _) (by simpa using hz6)) fun a ha => ?_
        exact List.mem_range.mp (List.mem_filter.mp ha).1
  · split
    · have := k2 (200 - s0) (by omega)
      rw [Int.ofNat_sub (by omega)] at this
      exact this
    · exact k2 s0 (by omega)
end L58
namespace L58
open PySem PySem.Spec PyProof.Rows L2 DL
section
variable {P : Program} {w : World} {K : PySem.W.Frag} {mg : Str → Option Value} {base : Heap} {k : Nat}
abbrev m_BadSize : Stmt := mt0 (topS 9)
theorem scm_BadSize : FnScope ["self", "size"] ["self", "size"] (defScope m_BadSize) := ⟨rfl, rfl, rfl, by decide +kernel, rfl, by decide +kernel, by decide +kernel⟩
theorem init_BadSize {fI B : Addr} {fd : FuncData} (F : Fun K "__init__" "BadSize.__init__" m_BadSize fI fd) (T : BaseC K B) (gB : mg "HallError" = some (.ref B)) : FnOk P w K mg base CX0 1 fI fd ["self", "size"] (spInit K 1 ["size"] (fun xs => [("size" : Str)].zip xs)) := by
  refine F.ok scm_BadSize (fun vs H Q E ⟨a, C, xs, e, l, _⟩ => by rw [e, List.length_cons, l]; rfl) fun cdv A outer s H vs Q E hr h => ⟨_, pss_cons (ps_expr (pe_heinit T (by rfl) gB (pa_cons (pv 0) (pa_cons (pe_joined (.cons pe_str (.cons (pe_fmt (pv 1)) .nil))) pa_nil)))) (pss_one (ps_ost (pv 0) (pv 1))), ?_⟩
  obtain ⟨a, C, xs, rfl, l, T1, hno, hf, ha, kk⟩ := h
  obtain ⟨x, rfl⟩ := List.length_eq_one_iff.mp l
  refine init1 T1 (hno _ (List.mem_cons_self ..)) (hf _ (List.mem_cons_self ..)) ha kk ?_ rfl rfl
  decide +kernel
theorem n_BadSize {h : Heap} {C B : Addr} (X : K.In h) (G : h.Ns mainGlobals mg) (a : PySem.W.nsIn K mainGlobals "BadSize" = some (some (.ref C))) (o : OexC K C) (no : PySem.W.findIn K (.ref C) "size" = some none) (I : InitK K C "BadSize.__init__" m_BadSize) (aB : PySem.W.nsIn K mainGlobals "HallError" = some (some (.ref B))) (T : BaseC K B) : ∀ base : Heap, ErN P w K mg base 1 "BadSize" 1 ["size"] (fun xs => [("size" : Str)].zip xs) := by
  intro base
  obtain ⟨fI, fd, ii, ti, F⟩ := I.ex
  refine erN_mk X G a o (fun f hf => ?_) ii ti (init_BadSize F T (PySem.W.mg_of X G aB)) (F.binds (fun _ _ _ _ _ _ us hl => match us, hl with | [_, _], _ => rfl))
  rw [List.mem_singleton.mp hf]
  exact no
end
end L58
namespace L58
open PySem PySem.Spec PyProof.Rows L2 DL
section
variable {P : Program} {w : World} {K : PySem.W.Frag} {mg : Str → Option Value} {base h : Heap}

theorem ca__law_pool (X : K.In h) (G : h.Ns mainGlobals mg) (D : DefK K "_law_pool" s__law_pool) (B : Bi mg) : Ca P w K mg base 1 "_law_pool" ["script"] (spS K sp_pool) :=
  caS (k := 0) D X G sc__law_pool (fun _ _ _ _ _ _ us hl => match us, hl with | [_], _ => rfl) rfl
    fun f cdv A outer s H E g r => ⟨_, dv__law_pool B cdv A outer s H E g r, w_pool⟩
theorem ca__law_stream (X : K.In h) (G : h.Ns mainGlobals mg) (D : DefK K "_law_stream" s__law_stream) (c__law_pool : Ca P w K mg base 1 "_law_pool" ["script"] (spS K sp_pool)) : Ca P w K mg base 2 "_law_stream" ["script"] (spS K spStream) :=
  caS (k := 1) D X G sc__law_stream (fun _ _ _ _ _ _ us hl => match us, hl with | [_], _ => rfl) rfl
    fun f cdv A outer s H E g r => ⟨_, dv__law_stream c__law_pool cdv A outer s H E g r, w_stream⟩
theorem ca_ratio (X : K.In h) (G : h.Ns mainGlobals mg) (D : DefK K "ratio" s_ratio) (m_gcd : mg "gcd" = some (.builtin "math.gcd")) : Ca P w K mg base 1 "ratio" ["over", "under"] (spD K sp_ratio) :=
  caD (k := 0) D X G sc_ratio (fun _ _ _ _ _ _ us hl => match us, hl with | [_, _], _ => rfl) (fun ds Φ q => by first | (obtain ⟨rfl, _⟩ := q; rfl) | (obtain ⟨_, rfl, _⟩ := q; rfl) | (obtain ⟨_, _, rfl, _⟩ := q; rfl) | (obtain ⟨_, _, _, rfl, _⟩ := q; rfl) | (obtain ⟨_, _, _, _, rfl, _⟩ := q; rfl) | (obtain ⟨_, _, _, _, _, rfl, _⟩ := q; rfl) | (obtain ⟨_, _, _, _, _, _, rfl, _⟩ := q; rfl) | (obtain ⟨_, _, _, _, _, _, _, rfl, _⟩ := q; rfl) | (obtain ⟨_, _, _, _, _, _, _, _, rfl, _⟩ := q; rfl) | (obtain ⟨_, _, _, _, _, _, _, _, _, rfl, _⟩ := q; rfl) | (obtain ⟨_, _, _, _, _, _, _, _, _, _, rfl, _⟩ := q; rfl) | (obtain ⟨_, _, _, _, _, _, _, _, _, _, _, rfl, _⟩ := q; rfl))
    fun f cdv A outer s H E g r => ⟨_, dv_ratio m_gcd cdv A outer s H E g r, w_ratio⟩
theorem ca_sum_of (X : K.In h) (G : h.Ns mainGlobals mg) (D : DefK K "sum_of" s_sum_of) (c_ratio : Ca P w K mg base 1 "ratio" ["over", "under"] (spD K sp_ratio)) : Ca P w K mg base 2 "sum_of" ["ratios"] (spD K sp_sum_of) :=
  caD (k := 1) D X G sc_sum_of (fun _ _ _ _ _ _ us hl => match us, hl with | [_], _ => rfl) (fun ds Φ q => by first | (obtain ⟨rfl, _⟩ := q; rfl) | (obtain ⟨_, rfl, _⟩ := q; rfl) | (obtain ⟨_, _, rfl, _⟩ := q; rfl) | (obtain ⟨_, _, _, rfl, _⟩ := q; rfl) | (obtain ⟨_, _, _, _, rfl, _⟩ := q; rfl) | (obtain ⟨_, _, _, _, _, rfl, _⟩ := q; rfl) | (obtain ⟨_, _, _, _, _, _, rfl, _⟩ := q; rfl) | (obtain ⟨_, _, _, _, _, _, _, rfl, _⟩ := q; rfl) | (obtain ⟨_, _, _, _, _, _, _, _, rfl, _⟩ := q; rfl) | (obtain ⟨_, _, _, _, _, _, _, _, _, rfl, _⟩ := q; rfl) | (obtain ⟨_, _, _, _, _, _, _, _, _, _, rfl, _⟩ := q; rfl) | (obtain ⟨_, _, _, _, _, _, _, _, _, _, _, rfl, _⟩ := q; rfl))
    fun f cdv A outer s H E g r => ⟨_, dv_sum_of c_ratio cdv A outer s H E g r, w_sum_of⟩
theorem ca_product_of (X : K.In h) (G : h.Ns mainGlobals mg) (D : DefK K "product_of" s_product_of) (c_ratio : Ca P w K mg base 1 "ratio" ["over", "under"] (spD K sp_ratio)) : Ca P w K mg base 2 "product_of" ["one", "other"] (spD K sp_product_of) :=
  caD (k := 1) D X G sc_product_of (fun _ _ _ _ _ _ us hl => match us, hl with | [_, _], _ => rfl) (fun ds Φ q => by first | (obtain ⟨rfl, _⟩ := q; rfl) | (obtain ⟨_, rfl, _⟩ := q; rfl) | (obtain ⟨_, _, rfl, _⟩ := q; rfl) | (obtain ⟨_, _, _, rfl, _⟩ := q; rfl) | (obtain ⟨_, _, _, _, rfl, _⟩ := q; rfl) | (obtain ⟨_, _, _, _, _, rfl, _⟩ := q; rfl) | (obtain ⟨_, _, _, _, _, _, rfl, _⟩ := q; rfl) | (obtain ⟨_, _, _, _, _, _, _, rfl, _⟩ := q; rfl) | (obtain ⟨_, _, _, _, _, _, _, _, rfl, _⟩ := q; rfl) | (obtain ⟨_, _, _, _, _, _, _, _, _, rfl, _⟩ := q; rfl) | (obtain ⟨_, _, _, _, _, _, _, _, _, _, rfl, _⟩ := q; rfl) | (obtain ⟨_, _, _, _, _, _, _, _, _, _, _, rfl, _⟩ := q; rfl))
    fun f cdv A outer s H E g r => ⟨_, dv_product_of c_ratio cdv A outer s H E g r, w_product_of⟩
theorem ca_in_wholes (X : K.In h) (G : h.Ns mainGlobals mg) (D : DefK K "in_wholes" s_in_wholes) (m_lcm : mg "lcm" = some (.builtin "math.lcm")) : Ca P w K mg base 1 "in_wholes" ["ratios"] (spD K sp_in_wholes) :=
  caD (k := 0) D X G sc_in_wholes (fun _ _ _ _ _ _ us hl => match us, hl with | [_], _ => rfl) (fun ds Φ q => by first | (obtain ⟨rfl, _⟩ := q; rfl) | (obtain ⟨_, rfl, _⟩ := q; rfl) | (obtain ⟨_, _, rfl, _⟩ := q; rfl) | (obtain ⟨_, _, _, rfl, _⟩ := q; rfl) | (obtain ⟨_, _, _, _, rfl, _⟩ := q; rfl) | (obtain ⟨_, _, _, _, _, rfl, _⟩ := q; rfl) | (obtain ⟨_, _, _, _, _, _, rfl, _⟩ := q; rfl) | (obtain ⟨_, _, _, _, _, _, _, rfl, _⟩ := q; rfl) | (obtain ⟨_, _, _, _, _, _, _, _, rfl, _⟩ := q; rfl) | (obtain ⟨_, _, _, _, _, _, _, _, _, rfl, _⟩ := q; rfl) | (obtain ⟨_, _, _, _, _, _, _, _, _, _, rfl, _⟩ := q; rfl) | (obtain ⟨_, _, _, _, _, _, _, _, _, _, _, rfl, _⟩ := q; rfl))
    fun f cdv A outer s H E g r => ⟨_, dv_in_wholes m_lcm cdv A outer s H E g r, w_in_wholes⟩
theorem ca_is_number (X : K.In h) (G : h.Ns mainGlobals mg) (D : DefK K "is_number" s_is_number) (B : Bi mg) : Ca P w K mg base 1 "is_number" ["value"] (spD K sp_is_number) :=
  caD (k := 0) D X G sc_is_number (fun _ _ _ _ _ _ us hl => match us, hl with | [_], _ => rfl) (fun ds Φ q => by first | (obtain ⟨rfl, _⟩ := q; rfl) | (obtain ⟨_, rfl, _⟩ := q; rfl) | (obtain ⟨_, _, rfl, _⟩ := q; rfl) | (obtain ⟨_, _, _, rfl, _⟩ := q; rfl) | (obtain ⟨_, _, _, _, rfl, _⟩ := q; rfl) | (obtain ⟨_, _, _, _, _, rfl, _⟩ := q; rfl) | (obtain ⟨_, _, _, _, _, _, rfl, _⟩ := q; rfl) | (obtain ⟨_, _, _, _, _, _, _, rfl, _⟩ := q; rfl) | (obtain ⟨_, _, _, _, _, _, _, _, rfl, _⟩ := q; rfl) | (obtain ⟨_, _, _, _, _, _, _, _, _, rfl, _⟩ := q; rfl) | (obtain ⟨_, _, _, _, _, _, _, _, _, _, rfl, _⟩ := q; rfl) | (obtain ⟨_, _, _, _, _, _, _, _, _, _, _, rfl, _⟩ := q; rfl))
    fun f cdv A outer s H E g r => ⟨_, dv_is_number B cdv A outer s H E g r, w_is_number⟩
theorem ca_is_chance (X : K.In h) (G : h.Ns mainGlobals mg) (D : DefK K "is_chance" s_is_chance) (B : Bi mg) (c_is_number : Ca P w K mg base 1 "is_number" ["value"] (spD K sp_is_number)) (g_MOST_PARTS_OF_ONE : Gc K mg "MOST_PARTS_OF_ONE" d_MOST_PARTS_OF_ONE) (m_gcd : mg "gcd" = some (.builtin "math.gcd")) : Ca P w K mg base 2 "is_chance" ["value"] (spD K sp_is_chance) :=
  caD (k := 1) D X G sc_is_chance (fun _ _ _ _ _ _ us hl => match us, hl with | [_], _ => rfl) (fun ds Φ q => by first | (obtain ⟨rfl, _⟩ := q; rfl) | (obtain ⟨_, rfl, _⟩ := q; rfl) | (obtain ⟨_, _, rfl, _⟩ := q; rfl) | (obtain ⟨_, _, _, rfl, _⟩ := q; rfl) | (obtain ⟨_, _, _, _, rfl, _⟩ := q; rfl) | (obtain ⟨_, _, _, _, _, rfl, _⟩ := q; rfl) | (obtain ⟨_, _, _, _, _, _, rfl, _⟩ := q; rfl) | (obtain ⟨_, _, _, _, _, _, _, rfl, _⟩ := q; rfl) | (obtain ⟨_, _, _, _, _, _, _, _, rfl, _⟩ := q; rfl) | (obtain ⟨_, _, _, _, _, _, _, _, _, rfl, _⟩ := q; rfl) | (obtain ⟨_, _, _, _, _, _, _, _, _, _, rfl, _⟩ := q; rfl) | (obtain ⟨_, _, _, _, _, _, _, _, _, _, _, rfl, _⟩ := q; rfl))
    fun f cdv A outer s H E g r => ⟨_, dv_is_chance B c_is_number g_MOST_PARTS_OF_ONE m_gcd cdv A outer s H E g r, w_is_chance⟩
theorem ca_chance_of (X : K.In h) (G : h.Ns mainGlobals mg) (D : DefK K "chance_of" s_chance_of) (c_product_of : Ca P w K mg base 2 "product_of" ["one", "other"] (spD K sp_product_of)) : Ca P w K mg base 3 "chance_of" ["letters", "source", "word"] (spD K sp_chance_of) :=
  caD (k := 2) D X G sc_chance_of (fun _ _ _ _ _ _ us hl => match us, hl with | [_, _, _], _ => rfl) (fun ds Φ q => by first | (obtain ⟨rfl, _⟩ := q; rfl) | (obtain ⟨_, rfl, _⟩ := q; rfl) | (obtain ⟨_, _, rfl, _⟩ := q; rfl) | (obtain ⟨_, _, _, rfl, _⟩ := q; rfl) | (obtain ⟨_, _, _, _, rfl, _⟩ := q; rfl) | (obtain ⟨_, _, _, _, _, rfl, _⟩ := q; rfl) | (obtain ⟨_, _, _, _, _, _, rfl, _⟩ := q; rfl) | (obtain ⟨_, _, _, _, _, _, _, rfl, _⟩ := q; rfl) | (obtain ⟨_, _, _, _, _, _, _, _, rfl, _⟩ := q; rfl) | (obtain ⟨_, _, _, _, _, _, _, _, _, rfl, _⟩ := q; rfl) | (obtain ⟨_, _, _, _, _, _, _, _, _, _, rfl, _⟩ := q; rfl) | (obtain ⟨_, _, _, _, _, _, _, _, _, _, _, rfl, _⟩ := q; rfl))
    fun f cdv A outer s H E g r => ⟨_, dv_chance_of c_product_of cdv A outer s H E g r, w_chance_of⟩
theorem ca_taken_upto (X : K.In h) (G : h.Ns mainGlobals mg) (D : DefK K "taken_upto" s_taken_upto) (B : Bi mg) (c_in_wholes : Ca P w K mg base 1 "in_wholes" ["ratios"] (spD K sp_in_wholes)) : Ca P w K mg base 2 "taken_upto" ["source", "machine", "n"] (spD K sp_taken_upto) :=
  caD (k := 1) D X G sc_taken_upto (fun _ _ _ _ _ _ us hl => match us, hl with | [_, _, _], _ => rfl) (fun ds Φ q => by first | (obtain ⟨rfl, _⟩ := q; rfl) | (obtain ⟨_, rfl, _⟩ := q; rfl) | (obtain ⟨_, _, rfl, _⟩ := q; rfl) | (obtain ⟨_, _, _, rfl, _⟩ := q; rfl) | (obtain ⟨_, _, _, _, rfl, _⟩ := q; rfl) | (obtain ⟨_, _, _, _, _, rfl, _⟩ := q; rfl) | (obtain ⟨_, _, _, _, _, _, rfl, _⟩ := q; rfl) | (obtain ⟨_, _, _, _, _, _, _, rfl, _⟩ := q; rfl) | (obtain ⟨_, _, _, _, _, _, _, _, rfl, _⟩ := q; rfl) | (obtain ⟨_, _, _, _, _, _, _, _, _, rfl, _⟩ := q; rfl) | (obtain ⟨_, _, _, _, _, _, _, _, _, _, rfl, _⟩ := q; rfl) | (obtain ⟨_, _, _, _, _, _, _, _, _, _, _, rfl, _⟩ := q; rfl))
    fun f cdv A outer s H E g r => ⟨_, dv_taken_upto B c_in_wholes cdv A outer s H E g r, w_taken_upto⟩
theorem ca_chance_at (X : K.In h) (G : h.Ns mainGlobals mg) (D : DefK K "chance_at" s_chance_at) (c_ratio : Ca P w K mg base 1 "ratio" ["over", "under"] (spD K sp_ratio)) (c_taken_upto : Ca P w K mg base 2 "taken_upto" ["source", "machine", "n"] (spD K sp_taken_upto)) : Ca P w K mg base 3 "chance_at" ["letters", "source", "machine", "n"] (spD K sp_chance_at) :=
  caD (k := 2) D X G sc_chance_at (fun _ _ _ _ _ _ us hl => match us, hl with | [_, _, _, _], _ => rfl) (fun ds Φ q => by first | (obtain ⟨rfl, _⟩ := q; rfl) | (obtain ⟨_, rfl, _⟩ := q; rfl) | (obtain ⟨_, _, rfl, _⟩ := q; rfl) | (obtain ⟨_, _, _, rfl, _⟩ := q; rfl) | (obtain ⟨_, _, _, _, rfl, _⟩ := q; rfl) | (obtain ⟨_, _, _, _, _, rfl, _⟩ := q; rfl) | (obtain ⟨_, _, _, _, _, _, rfl, _⟩ := q; rfl) | (obtain ⟨_, _, _, _, _, _, _, rfl, _⟩ := q; rfl) | (obtain ⟨_, _, _, _, _, _, _, _, rfl, _⟩ := q; rfl) | (obtain ⟨_, _, _, _, _, _, _, _, _, rfl, _⟩ := q; rfl) | (obtain ⟨_, _, _, _, _, _, _, _, _, _, rfl, _⟩ := q; rfl) | (obtain ⟨_, _, _, _, _, _, _, _, _, _, _, rfl, _⟩ := q; rfl))
    fun f cdv A outer s H E g r => ⟨_, dv_chance_at c_ratio c_taken_upto cdv A outer s H E g r, w_chance_at⟩
theorem ca_staying (X : K.In h) (G : h.Ns mainGlobals mg) (D : DefK K "staying" s_staying) (B : Bi mg) : Ca P w K mg base 1 "staying" ["letters", "machine"] (spD K sp_staying) :=
  caD (k := 0) D X G sc_staying (fun _ _ _ _ _ _ us hl => match us, hl with | [_, _], _ => rfl) (fun ds Φ q => by first | (obtain ⟨rfl, _⟩ := q; rfl) | (obtain ⟨_, rfl, _⟩ := q; rfl) | (obtain ⟨_, _, rfl, _⟩ := q; rfl) | (obtain ⟨_, _, _, rfl, _⟩ := q; rfl) | (obtain ⟨_, _, _, _, rfl, _⟩ := q; rfl) | (obtain ⟨_, _, _, _, _, rfl, _⟩ := q; rfl) | (obtain ⟨_, _, _, _, _, _, rfl, _⟩ := q; rfl) | (obtain ⟨_, _, _, _, _, _, _, rfl, _⟩ := q; rfl) | (obtain ⟨_, _, _, _, _, _, _, _, rfl, _⟩ := q; rfl) | (obtain ⟨_, _, _, _, _, _, _, _, _, rfl, _⟩ := q; rfl) | (obtain ⟨_, _, _, _, _, _, _, _, _, _, rfl, _⟩ := q; rfl) | (obtain ⟨_, _, _, _, _, _, _, _, _, _, _, rfl, _⟩ := q; rfl))
    fun f cdv A outer s H E g r => ⟨_, dv_staying B cdv A outer s H E g r, w_staying⟩
theorem ca_taken_by (X : K.In h) (G : h.Ns mainGlobals mg) (D : DefK K "taken_by" s_taken_by) (c_chance_at : Ca P w K mg base 3 "chance_at" ["letters", "source", "machine", "n"] (spD K sp_chance_at)) (c_staying : Ca P w K mg base 1 "staying" ["letters", "machine"] (spD K sp_staying)) : Ca P w K mg base 4 "taken_by" ["letters", "source", "machine", "n"] (spD K sp_taken_by) :=
  caD (k := 3) D X G sc_taken_by (fun _ _ _ _ _ _ us hl => match us, hl with | [_, _, _, _], _ => rfl) (fun ds Φ q => by first | (obtain ⟨rfl, _⟩ := q; rfl) | (obtain ⟨_, rfl, _⟩ := q; rfl) | (obtain ⟨_, _, rfl, _⟩ := q; rfl) | (obtain ⟨_, _, _, rfl, _⟩ := q; rfl) | (obtain ⟨_, _, _, _, rfl, _⟩ := q; rfl) | (obtain ⟨_, _, _, _, _, rfl, _⟩ := q; rfl) | (obtain ⟨_, _, _, _, _, _, rfl, _⟩ := q; rfl) | (obtain ⟨_, _, _, _, _, _, _, rfl, _⟩ := q; rfl) | (obtain ⟨_, _, _, _, _, _, _, _, rfl, _⟩ := q; rfl) | (obtain ⟨_, _, _, _, _, _, _, _, _, rfl, _⟩ := q; rfl) | (obtain ⟨_, _, _, _, _, _, _, _, _, _, rfl, _⟩ := q; rfl) | (obtain ⟨_, _, _, _, _, _, _, _, _, _, _, rfl, _⟩ := q; rfl))
    fun f cdv A outer s H E g r => ⟨_, dv_taken_by c_chance_at c_staying cdv A outer s H E g r, w_taken_by⟩
theorem ca_check_source (X : K.In h) (G : h.Ns mainGlobals mg) (D : CodeD K "check_source" s_check_source) (B : Bi mg) (c_sum_of : Ca P w K mg base 2 "sum_of" ["ratios"] (spD K sp_sum_of)) (c_is_chance : Ca P w K mg base 2 "is_chance" ["value"] (spD K sp_is_chance)) (T_BadNumber : ExC K mg "BadNumber") (hbm : BmOk mg base) (N_BadSize : ErN P w K mg base 1 "BadSize" 1 ["size"] (fun xs => [("size" : Str)].zip xs)) : CaX P w K mg base 5 "check_source" ["letters", "source"] sp_check_source :=
  caXC (k := 4) (by decide) D X G sc_check_source (fun _ _ _ _ _ _ us hl => match us, hl with | [_, _], _ => rfl) (fun ds Φ Ψ q => by first | (obtain ⟨rfl, _⟩ := q; rfl) | (obtain ⟨_, rfl, _⟩ := q; rfl) | (obtain ⟨_, _, rfl, _⟩ := q; rfl) | (obtain ⟨_, _, _, rfl, _⟩ := q; rfl) | (obtain ⟨_, _, _, _, rfl, _⟩ := q; rfl) | (obtain ⟨_, _, _, _, _, rfl, _⟩ := q; rfl) | (obtain ⟨_, _, _, _, _, _, rfl, _⟩ := q; rfl) | (obtain ⟨_, _, _, _, _, _, _, rfl, _⟩ := q; rfl) | (obtain ⟨_, _, _, _, _, _, _, _, rfl, _⟩ := q; rfl) | (obtain ⟨_, _, _, _, _, _, _, _, _, rfl, _⟩ := q; rfl) | (obtain ⟨_, _, _, _, _, _, _, _, _, _, rfl, _⟩ := q; rfl) | (obtain ⟨_, _, _, _, _, _, _, _, _, _, _, rfl, _⟩ := q; rfl))
    fun f cdv T hcd A outer s H E g r => ⟨_, dv_check_source B c_sum_of c_is_chance T_BadNumber hbm N_BadSize cdv hcd A outer s H E g r, w_check_source⟩
theorem ca__law_refusal (X : K.In h) (G : h.Ns mainGlobals mg) (D : DefK K "_law_refusal" s__law_refusal) (B : Bi mg) (c_check_source : CaX P w K mg base 5 "check_source" ["letters", "source"] sp_check_source) (hEs : Ers K mg ERL bE FLE) : Ca P w K mg base 6 "_law_refusal" ["letters", "source"] (spD K sp_law_refusal) :=
  caD (k := 5) D X G sc__law_refusal (fun _ _ _ _ _ _ us hl => match us, hl with | [_, _], _ => rfl) (fun ds Φ q => by first | (obtain ⟨rfl, _⟩ := q; rfl) | (obtain ⟨_, rfl, _⟩ := q; rfl) | (obtain ⟨_, _, rfl, _⟩ := q; rfl) | (obtain ⟨_, _, _, rfl, _⟩ := q; rfl) | (obtain ⟨_, _, _, _, rfl, _⟩ := q; rfl) | (obtain ⟨_, _, _, _, _, rfl, _⟩ := q; rfl) | (obtain ⟨_, _, _, _, _, _, rfl, _⟩ := q; rfl) | (obtain ⟨_, _, _, _, _, _, _, rfl, _⟩ := q; rfl) | (obtain ⟨_, _, _, _, _, _, _, _, rfl, _⟩ := q; rfl) | (obtain ⟨_, _, _, _, _, _, _, _, _, rfl, _⟩ := q; rfl) | (obtain ⟨_, _, _, _, _, _, _, _, _, _, rfl, _⟩ := q; rfl) | (obtain ⟨_, _, _, _, _, _, _, _, _, _, _, rfl, _⟩ := q; rfl))
    fun f cdv A outer s H E g r => ⟨_, dv__law_refusal B c_check_source hEs cdv A outer s H E g r, w_refusal⟩
theorem ca__law_gcd (X : K.In h) (G : h.Ns mainGlobals mg) (D : DefK K "_law_gcd" s__law_gcd) (B : Bi mg) : Ca P w K mg base 1 "_law_gcd" ["one", "other"] (spD K sp_law_gcd) :=
  caD (k := 0) D X G sc__law_gcd (fun _ _ _ _ _ _ us hl => match us, hl with | [_, _], _ => rfl) (fun ds Φ q => by first | (obtain ⟨rfl, _⟩ := q; rfl) | (obtain ⟨_, rfl, _⟩ := q; rfl) | (obtain ⟨_, _, rfl, _⟩ := q; rfl) | (obtain ⟨_, _, _, rfl, _⟩ := q; rfl) | (obtain ⟨_, _, _, _, rfl, _⟩ := q; rfl) | (obtain ⟨_, _, _, _, _, rfl, _⟩ := q; rfl) | (obtain ⟨_, _, _, _, _, _, rfl, _⟩ := q; rfl) | (obtain ⟨_, _, _, _, _, _, _, rfl, _⟩ := q; rfl) | (obtain ⟨_, _, _, _, _, _, _, _, rfl, _⟩ := q; rfl) | (obtain ⟨_, _, _, _, _, _, _, _, _, rfl, _⟩ := q; rfl) | (obtain ⟨_, _, _, _, _, _, _, _, _, _, rfl, _⟩ := q; rfl) | (obtain ⟨_, _, _, _, _, _, _, _, _, _, _, rfl, _⟩ := q; rfl))
    fun f cdv A outer s H E g r => ⟨_, dv__law_gcd B cdv A outer s H E g r, w_law_gcd⟩
theorem ca__law_pick (X : K.In h) (G : h.Ns mainGlobals mg) (D : DefK K "_law_pick" s__law_pick) (B : Bi mg) : Ca P w K mg base 1 "_law_pick" ["pool", "many"] (spP K sp_pick) :=
  caP (k := 0) D X G sc__law_pick (fun _ _ _ _ _ _ us hl => match us, hl with | [_, _], _ => rfl) (fun ds p Φ q => by first | (obtain ⟨rfl, _⟩ := q; rfl) | (obtain ⟨_, rfl, _⟩ := q; rfl) | (obtain ⟨_, _, rfl, _⟩ := q; rfl) | (obtain ⟨_, _, _, rfl, _⟩ := q; rfl) | (obtain ⟨_, _, _, _, rfl, _⟩ := q; rfl) | (obtain ⟨_, _, _, _, _, rfl, _⟩ := q; rfl) | (obtain ⟨_, _, _, _, _, _, rfl, _⟩ := q; rfl) | (obtain ⟨_, _, _, _, _, _, _, rfl, _⟩ := q; rfl) | (obtain ⟨_, _, _, _, _, _, _, _, rfl, _⟩ := q; rfl) | (obtain ⟨_, _, _, _, _, _, _, _, _, rfl, _⟩ := q; rfl) | (obtain ⟨_, _, _, _, _, _, _, _, _, _, rfl, _⟩ := q; rfl) | (obtain ⟨_, _, _, _, _, _, _, _, _, _, _, rfl, _⟩ := q; rfl))
    fun f cdv A outer s H E g r => ⟨_, dv__law_pick B cdv A outer s H E g r, w_pick⟩
theorem ca__law_weights (X : K.In h) (G : h.Ns mainGlobals mg) (D : DefK K "_law_weights" s__law_weights) (B : Bi mg) (c__law_pick : Ca P w K mg base 1 "_law_pick" ["pool", "many"] (spP K sp_pick)) : Ca P w K mg base 2 "_law_weights" ["pool", "many"] (spP K sp_weights) :=
  caP (k := 1) D X G sc__law_weights (fun _ _ _ _ _ _ us hl => match us, hl with | [_, _], _ => rfl) (fun ds p Φ q => by first | (obtain ⟨rfl, _⟩ := q; rfl) | (obtain ⟨_, rfl, _⟩ := q; rfl) | (obtain ⟨_, _, rfl, _⟩ := q; rfl) | (obtain ⟨_, _, _, rfl, _⟩ := q; rfl) | (obtain ⟨_, _, _, _, rfl, _⟩ := q; rfl) | (obtain ⟨_, _, _, _, _, rfl, _⟩ := q; rfl) | (obtain ⟨_, _, _, _, _, _, rfl, _⟩ := q; rfl) | (obtain ⟨_, _, _, _, _, _, _, rfl, _⟩ := q; rfl) | (obtain ⟨_, _, _, _, _, _, _, _, rfl, _⟩ := q; rfl) | (obtain ⟨_, _, _, _, _, _, _, _, _, rfl, _⟩ := q; rfl) | (obtain ⟨_, _, _, _, _, _, _, _, _, _, rfl, _⟩ := q; rfl) | (obtain ⟨_, _, _, _, _, _, _, _, _, _, _, rfl, _⟩ := q; rfl))
    fun f cdv A outer s H E g r => ⟨_, dv__law_weights B c__law_pick cdv A outer s H E g r, w_weights⟩
theorem ca__law_source (X : K.In h) (G : h.Ns mainGlobals mg) (D : DefK K "_law_source" s__law_source) (c__law_gcd : Ca P w K mg base 1 "_law_gcd" ["one", "other"] (spD K sp_law_gcd)) : Ca P w K mg base 2 "_law_source" ["weights", "total"] (spD K sp_law_source) :=
  caD (k := 1) D X G sc__law_source (fun _ _ _ _ _ _ us hl => match us, hl with | [_, _], _ => rfl) (fun ds Φ q => by first | (obtain ⟨rfl, _⟩ := q; rfl) | (obtain ⟨_, rfl, _⟩ := q; rfl) | (obtain ⟨_, _, rfl, _⟩ := q; rfl) | (obtain ⟨_, _, _, rfl, _⟩ := q; rfl) | (obtain ⟨_, _, _, _, rfl, _⟩ := q; rfl) | (obtain ⟨_, _, _, _, _, rfl, _⟩ := q; rfl) | (obtain ⟨_, _, _, _, _, _, rfl, _⟩ := q; rfl) | (obtain ⟨_, _, _, _, _, _, _, rfl, _⟩ := q; rfl) | (obtain ⟨_, _, _, _, _, _, _, _, rfl, _⟩ := q; rfl) | (obtain ⟨_, _, _, _, _, _, _, _, _, rfl, _⟩ := q; rfl) | (obtain ⟨_, _, _, _, _, _, _, _, _, _, rfl, _⟩ := q; rfl) | (obtain ⟨_, _, _, _, _, _, _, _, _, _, _, rfl, _⟩ := q; rfl))
    fun f cdv A outer s H E g r => ⟨_, dv__law_source c__law_gcd cdv A outer s H E g r, w_source⟩
theorem ca__law_is_whole (X : K.In h) (G : h.Ns mainGlobals mg) (D : DefK K "_law_is_whole" s__law_is_whole) (B : Bi mg) : Ca P w K mg base 1 "_law_is_whole" ["value"] (spD K sp_is_whole) :=
  caD (k := 0) D X G sc__law_is_whole (fun _ _ _ _ _ _ us hl => match us, hl with | [_], _ => rfl) (fun ds Φ q => by first | (obtain ⟨rfl, _⟩ := q; rfl) | (obtain ⟨_, rfl, _⟩ := q; rfl) | (obtain ⟨_, _, rfl, _⟩ := q; rfl) | (obtain ⟨_, _, _, rfl, _⟩ := q; rfl) | (obtain ⟨_, _, _, _, rfl, _⟩ := q; rfl) | (obtain ⟨_, _, _, _, _, rfl, _⟩ := q; rfl) | (obtain ⟨_, _, _, _, _, _, rfl, _⟩ := q; rfl) | (obtain ⟨_, _, _, _, _, _, _, rfl, _⟩ := q; rfl) | (obtain ⟨_, _, _, _, _, _, _, _, rfl, _⟩ := q; rfl) | (obtain ⟨_, _, _, _, _, _, _, _, _, rfl, _⟩ := q; rfl) | (obtain ⟨_, _, _, _, _, _, _, _, _, _, rfl, _⟩ := q; rfl) | (obtain ⟨_, _, _, _, _, _, _, _, _, _, _, rfl, _⟩ := q; rfl))
    fun f cdv A outer s H E g r => ⟨_, dv__law_is_whole B cdv A outer s H E g r, w_is_whole⟩
theorem ca__law_is_fraction (X : K.In h) (G : h.Ns mainGlobals mg) (D : DefK K "_law_is_fraction" s__law_is_fraction) (B : Bi mg) (c__law_gcd : Ca P w K mg base 1 "_law_gcd" ["one", "other"] (spD K sp_law_gcd)) (c__law_is_whole : Ca P w K mg base 1 "_law_is_whole" ["value"] (spD K sp_is_whole)) (mB_abs : mg "abs" = none) : Ca P w K mg base 2 "_law_is_fraction" ["value", "n", "d"] (spD K sp_is_fraction) :=
  caD (k := 1) D X G sc__law_is_fraction (fun _ _ _ _ _ _ us hl => match us, hl with | [_, _, _], _ => rfl) (fun ds Φ q => by first | (obtain ⟨rfl, _⟩ := q; rfl) | (obtain ⟨_, rfl, _⟩ := q; rfl) | (obtain ⟨_, _, rfl, _⟩ := q; rfl) | (obtain ⟨_, _, _, rfl, _⟩ := q; rfl) | (obtain ⟨_, _, _, _, rfl, _⟩ := q; rfl) | (obtain ⟨_, _, _, _, _, rfl, _⟩ := q; rfl) | (obtain ⟨_, _, _, _, _, _, rfl, _⟩ := q; rfl) | (obtain ⟨_, _, _, _, _, _, _, rfl, _⟩ := q; rfl) | (obtain ⟨_, _, _, _, _, _, _, _, rfl, _⟩ := q; rfl) | (obtain ⟨_, _, _, _, _, _, _, _, _, rfl, _⟩ := q; rfl) | (obtain ⟨_, _, _, _, _, _, _, _, _, _, rfl, _⟩ := q; rfl) | (obtain ⟨_, _, _, _, _, _, _, _, _, _, _, rfl, _⟩ := q; rfl))
    fun f cdv A outer s H E g r => ⟨_, dv__law_is_fraction B c__law_gcd c__law_is_whole mB_abs cdv A outer s H E g r, w_is_fraction⟩
theorem ca__law_machine (X : K.In h) (G : h.Ns mainGlobals mg) (D : DefK K "_law_machine" s__law_machine) (B : Bi mg) (c__law_pick : Ca P w K mg base 1 "_law_pick" ["pool", "many"] (spP K sp_pick)) : Ca P w K mg base 2 "_law_machine" ["pool", "letters", "most"] (spP K sp_machine) :=
  caP (k := 1) D X G sc__law_machine (fun _ _ _ _ _ _ us hl => match us, hl with | [_, _, _], _ => rfl) (fun ds p Φ q => by first | (obtain ⟨rfl, _⟩ := q; rfl) | (obtain ⟨_, rfl, _⟩ := q; rfl) | (obtain ⟨_, _, rfl, _⟩ := q; rfl) | (obtain ⟨_, _, _, rfl, _⟩ := q; rfl) | (obtain ⟨_, _, _, _, rfl, _⟩ := q; rfl) | (obtain ⟨_, _, _, _, _, rfl, _⟩ := q; rfl) | (obtain ⟨_, _, _, _, _, _, rfl, _⟩ := q; rfl) | (obtain ⟨_, _, _, _, _, _, _, rfl, _⟩ := q; rfl) | (obtain ⟨_, _, _, _, _, _, _, _, rfl, _⟩ := q; rfl) | (obtain ⟨_, _, _, _, _, _, _, _, _, rfl, _⟩ := q; rfl) | (obtain ⟨_, _, _, _, _, _, _, _, _, _, rfl, _⟩ := q; rfl) | (obtain ⟨_, _, _, _, _, _, _, _, _, _, _, rfl, _⟩ := q; rfl))
    fun f cdv A outer s H E g r => ⟨_, dv__law_machine B c__law_pick cdv A outer s H E g r, w_machine⟩
theorem ca__law_layer (X : K.In h) (G : h.Ns mainGlobals mg) (D : DefK K "_law_layer" s__law_layer) (B : Bi mg) : Ca P w K mg base 1 "_law_layer" ["letters", "length"] (spD K sp_law_layer) :=
  caD (k := 0) D X G sc__law_layer (fun _ _ _ _ _ _ us hl => match us, hl with | [_, _], _ => rfl) (fun ds Φ q => by first | (obtain ⟨rfl, _⟩ := q; rfl) | (obtain ⟨_, rfl, _⟩ := q; rfl) | (obtain ⟨_, _, rfl, _⟩ := q; rfl) | (obtain ⟨_, _, _, rfl, _⟩ := q; rfl) | (obtain ⟨_, _, _, _, rfl, _⟩ := q; rfl) | (obtain ⟨_, _, _, _, _, rfl, _⟩ := q; rfl) | (obtain ⟨_, _, _, _, _, _, rfl, _⟩ := q; rfl) | (obtain ⟨_, _, _, _, _, _, _, rfl, _⟩ := q; rfl) | (obtain ⟨_, _, _, _, _, _, _, _, rfl, _⟩ := q; rfl) | (obtain ⟨_, _, _, _, _, _, _, _, _, rfl, _⟩ := q; rfl) | (obtain ⟨_, _, _, _, _, _, _, _, _, _, rfl, _⟩ := q; rfl) | (obtain ⟨_, _, _, _, _, _, _, _, _, _, _, rfl, _⟩ := q; rfl))
    fun f cdv A outer s H E g r => ⟨_, dv__law_layer B cdv A outer s H E g r, w_layer⟩
theorem ca__law_weight (X : K.In h) (G : h.Ns mainGlobals mg) (D : DefK K "_law_weight" s__law_weight)  : Ca P w K mg base 1 "_law_weight" ["letters", "weights", "word"] (spD K sp_law_weight) :=
  caD (k := 0) D X G sc__law_weight (fun _ _ _ _ _ _ us hl => match us, hl with | [_, _, _], _ => rfl) (fun ds Φ q => by first | (obtain ⟨rfl, _⟩ := q; rfl) | (obtain ⟨_, rfl, _⟩ := q; rfl) | (obtain ⟨_, _, rfl, _⟩ := q; rfl) | (obtain ⟨_, _, _, rfl, _⟩ := q; rfl) | (obtain ⟨_, _, _, _, rfl, _⟩ := q; rfl) | (obtain ⟨_, _, _, _, _, rfl, _⟩ := q; rfl) | (obtain ⟨_, _, _, _, _, _, rfl, _⟩ := q; rfl) | (obtain ⟨_, _, _, _, _, _, _, rfl, _⟩ := q; rfl) | (obtain ⟨_, _, _, _, _, _, _, _, rfl, _⟩ := q; rfl) | (obtain ⟨_, _, _, _, _, _, _, _, _, rfl, _⟩ := q; rfl) | (obtain ⟨_, _, _, _, _, _, _, _, _, _, rfl, _⟩ := q; rfl) | (obtain ⟨_, _, _, _, _, _, _, _, _, _, _, rfl, _⟩ := q; rfl))
    fun f cdv A outer s H E g r => ⟨_, dv__law_weight cdv A outer s H E g r, w_weight⟩
theorem ca__law_taken (X : K.In h) (G : h.Ns mainGlobals mg) (D : DefK K "_law_taken" s__law_taken)  : Ca P w K mg base 1 "_law_taken" ["letters", "machine", "word"] (spD K sp_law_taken) :=
  caD (k := 0) D X G sc__law_taken (fun _ _ _ _ _ _ us hl => match us, hl with | [_, _, _], _ => rfl) (fun ds Φ q => by first | (obtain ⟨rfl, _⟩ := q; rfl) | (obtain ⟨_, rfl, _⟩ := q; rfl) | (obtain ⟨_, _, rfl, _⟩ := q; rfl) | (obtain ⟨_, _, _, rfl, _⟩ := q; rfl) | (obtain ⟨_, _, _, _, rfl, _⟩ := q; rfl) | (obtain ⟨_, _, _, _, _, rfl, _⟩ := q; rfl) | (obtain ⟨_, _, _, _, _, _, rfl, _⟩ := q; rfl) | (obtain ⟨_, _, _, _, _, _, _, rfl, _⟩ := q; rfl) | (obtain ⟨_, _, _, _, _, _, _, _, rfl, _⟩ := q; rfl) | (obtain ⟨_, _, _, _, _, _, _, _, _, rfl, _⟩ := q; rfl) | (obtain ⟨_, _, _, _, _, _, _, _, _, _, rfl, _⟩ := q; rfl) | (obtain ⟨_, _, _, _, _, _, _, _, _, _, _, rfl, _⟩ := q; rfl))
    fun f cdv A outer s H E g r => ⟨_, dv__law_taken cdv A outer s H E g r, w_taken⟩
theorem ca__law_sums (X : K.In h) (G : h.Ns mainGlobals mg) (D : DefK K "_law_sums" s__law_sums) (B : Bi mg) (c__law_layer : Ca P w K mg base 1 "_law_layer" ["letters", "length"] (spD K sp_law_layer)) (c__law_taken : Ca P w K mg base 1 "_law_taken" ["letters", "machine", "word"] (spD K sp_law_taken)) (c__law_weight : Ca P w K mg base 1 "_law_weight" ["letters", "weights", "word"] (spD K sp_law_weight)) : Ca P w K mg base 2 "_law_sums" ["letters", "weights", "machine", "n"] (spD K sp_law_sums) :=
  caD (k := 1) D X G sc__law_sums (fun _ _ _ _ _ _ us hl => match us, hl with | [_, _, _, _], _ => rfl) (fun ds Φ q => by first | (obtain ⟨rfl, _⟩ := q; rfl) | (obtain ⟨_, rfl, _⟩ := q; rfl) | (obtain ⟨_, _, rfl, _⟩ := q; rfl) | (obtain ⟨_, _, _, rfl, _⟩ := q; rfl) | (obtain ⟨_, _, _, _, rfl, _⟩ := q; rfl) | (obtain ⟨_, _, _, _, _, rfl, _⟩ := q; rfl) | (obtain ⟨_, _, _, _, _, _, rfl, _⟩ := q; rfl) | (obtain ⟨_, _, _, _, _, _, _, rfl, _⟩ := q; rfl) | (obtain ⟨_, _, _, _, _, _, _, _, rfl, _⟩ := q; rfl) | (obtain ⟨_, _, _, _, _, _, _, _, _, rfl, _⟩ := q; rfl) | (obtain ⟨_, _, _, _, _, _, _, _, _, _, rfl, _⟩ := q; rfl) | (obtain ⟨_, _, _, _, _, _, _, _, _, _, _, rfl, _⟩ := q; rfl))
    fun f cdv A outer s H E g r => ⟨_, dv__law_sums B c__law_layer c__law_taken c__law_weight cdv A outer s H E g r, w_sums⟩
theorem ca__law_rows (X : K.In h) (G : h.Ns mainGlobals mg) (D : DefK K "_law_rows" s__law_rows) (B : Bi mg) : Ca P w K mg base 1 "_law_rows" ["weights", "total", "machine", "n"] (spD K sp_law_rows) :=
  caD (k := 0) D X G sc__law_rows (fun _ _ _ _ _ _ us hl => match us, hl with | [_, _, _, _], _ => rfl) (fun ds Φ q => by first | (obtain ⟨rfl, _⟩ := q; rfl) | (obtain ⟨_, rfl, _⟩ := q; rfl) | (obtain ⟨_, _, rfl, _⟩ := q; rfl) | (obtain ⟨_, _, _, rfl, _⟩ := q; rfl) | (obtain ⟨_, _, _, _, rfl, _⟩ := q; rfl) | (obtain ⟨_, _, _, _, _, rfl, _⟩ := q; rfl) | (obtain ⟨_, _, _, _, _, _, rfl, _⟩ := q; rfl) | (obtain ⟨_, _, _, _, _, _, _, rfl, _⟩ := q; rfl) | (obtain ⟨_, _, _, _, _, _, _, _, rfl, _⟩ := q; rfl) | (obtain ⟨_, _, _, _, _, _, _, _, _, rfl, _⟩ := q; rfl) | (obtain ⟨_, _, _, _, _, _, _, _, _, _, rfl, _⟩ := q; rfl) | (obtain ⟨_, _, _, _, _, _, _, _, _, _, _, rfl, _⟩ := q; rfl))
    fun f cdv A outer s H E g r => ⟨_, dv__law_rows B cdv A outer s H E g r, w_rows⟩
theorem ca__law_wrong (X : K.In h) (G : h.Ns mainGlobals mg) (D : DefK K "_law_wrong" s__law_wrong) (B : Bi mg) (c__law_pick : Ca P w K mg base 1 "_law_pick" ["pool", "many"] (spP K sp_pick)) : Ca P w K mg base 2 "_law_wrong" ["pool", "letters", "source"] (spP K sp_law_wrong) :=
  caP (k := 1) D X G sc__law_wrong (fun _ _ _ _ _ _ us hl => match us, hl with | [_, _, _], _ => rfl) (fun ds p Φ q => by first | (obtain ⟨rfl, _⟩ := q; rfl) | (obtain ⟨_, rfl, _⟩ := q; rfl) | (obtain ⟨_, _, rfl, _⟩ := q; rfl) | (obtain ⟨_, _, _, rfl, _⟩ := q; rfl) | (obtain ⟨_, _, _, _, rfl, _⟩ := q; rfl) | (obtain ⟨_, _, _, _, _, rfl, _⟩ := q; rfl) | (obtain ⟨_, _, _, _, _, _, rfl, _⟩ := q; rfl) | (obtain ⟨_, _, _, _, _, _, _, rfl, _⟩ := q; rfl) | (obtain ⟨_, _, _, _, _, _, _, _, rfl, _⟩ := q; rfl) | (obtain ⟨_, _, _, _, _, _, _, _, _, rfl, _⟩ := q; rfl) | (obtain ⟨_, _, _, _, _, _, _, _, _, _, rfl, _⟩ := q; rfl) | (obtain ⟨_, _, _, _, _, _, _, _, _, _, _, rfl, _⟩ := q; rfl))
    fun f cdv A outer s H E g r => ⟨_, dv__law_wrong B c__law_pick cdv A outer s H E g r, w_wrong⟩
theorem ca__law_checks (X : K.In h) (G : h.Ns mainGlobals mg) (D : DefK K "_law_checks" s__law_checks) (B : Bi mg) (c__law_refusal : Ca P w K mg base 6 "_law_refusal" ["letters", "source"] (spD K sp_law_refusal)) (c__law_wrong : Ca P w K mg base 2 "_law_wrong" ["pool", "letters", "source"] (spP K sp_law_wrong)) : Ca P w K mg base 7 "_law_checks" ["pool", "letters", "source"] (spP K sp_law_checks) :=
  caP (k := 6) D X G sc__law_checks (fun _ _ _ _ _ _ us hl => match us, hl with | [_, _, _], _ => rfl) (fun ds p Φ q => by first | (obtain ⟨rfl, _⟩ := q; rfl) | (obtain ⟨_, rfl, _⟩ := q; rfl) | (obtain ⟨_, _, rfl, _⟩ := q; rfl) | (obtain ⟨_, _, _, rfl, _⟩ := q; rfl) | (obtain ⟨_, _, _, _, rfl, _⟩ := q; rfl) | (obtain ⟨_, _, _, _, _, rfl, _⟩ := q; rfl) | (obtain ⟨_, _, _, _, _, _, rfl, _⟩ := q; rfl) | (obtain ⟨_, _, _, _, _, _, _, rfl, _⟩ := q; rfl) | (obtain ⟨_, _, _, _, _, _, _, _, rfl, _⟩ := q; rfl) | (obtain ⟨_, _, _, _, _, _, _, _, _, rfl, _⟩ := q; rfl) | (obtain ⟨_, _, _, _, _, _, _, _, _, _, rfl, _⟩ := q; rfl) | (obtain ⟨_, _, _, _, _, _, _, _, _, _, _, rfl, _⟩ := q; rfl))
    fun f cdv A outer s H E g r => ⟨_, dv__law_checks B c__law_refusal c__law_wrong cdv A outer s H E g r, w_checks⟩
theorem ca__law_letters (X : K.In h) (G : h.Ns mainGlobals mg) (D : DefK K "_law_letters" s__law_letters) (B : Bi mg) (c__law_pick : Ca P w K mg base 1 "_law_pick" ["pool", "many"] (spP K sp_pick)) : Ca P w K mg base 2 "_law_letters" ["pool", "most"] (spP K sp_letters2) :=
  caP (k := 1) D X G sc__law_letters (fun _ _ _ _ _ _ us hl => match us, hl with | [_, _], _ => rfl) (fun ds p Φ q => by first | (obtain ⟨rfl, _⟩ := q; rfl) | (obtain ⟨_, rfl, _⟩ := q; rfl) | (obtain ⟨_, _, rfl, _⟩ := q; rfl) | (obtain ⟨_, _, _, rfl, _⟩ := q; rfl) | (obtain ⟨_, _, _, _, rfl, _⟩ := q; rfl) | (obtain ⟨_, _, _, _, _, rfl, _⟩ := q; rfl) | (obtain ⟨_, _, _, _, _, _, rfl, _⟩ := q; rfl) | (obtain ⟨_, _, _, _, _, _, _, rfl, _⟩ := q; rfl) | (obtain ⟨_, _, _, _, _, _, _, _, rfl, _⟩ := q; rfl) | (obtain ⟨_, _, _, _, _, _, _, _, _, rfl, _⟩ := q; rfl) | (obtain ⟨_, _, _, _, _, _, _, _, _, _, rfl, _⟩ := q; rfl) | (obtain ⟨_, _, _, _, _, _, _, _, _, _, _, rfl, _⟩ := q; rfl))
    fun f cdv A outer s H E g r => ⟨_, dv__law_letters B c__law_pick cdv A outer s H E g r, w_letters⟩
theorem all_mk {fa : Addr} (X : K.In h) (G : h.Ns mainGlobals mg) (hfa : mg "law" = some (.ref fa)) (B : Bi mg) (g_MOST_PARTS_OF_ONE : Gc K mg "MOST_PARTS_OF_ONE" d_MOST_PARTS_OF_ONE) (m_gcd : mg "gcd" = some (.builtin "math.gcd")) (m_lcm : mg "lcm" = some (.builtin "math.lcm")) (T_BadNumber : ExC K mg "BadNumber") (mB_abs : mg "abs" = none) (N_BadSize : ∀ base : Heap, ErN P w K mg base 1 "BadSize" 1 ["size"] (fun xs => [("size" : Str)].zip xs)) (hEs : Ers K mg ERL bE FLE) (D__law_pool : DefK K "_law_pool" s__law_pool) (D__law_stream : DefK K "_law_stream" s__law_stream) (D_ratio : DefK K "ratio" s_ratio) (D_sum_of : DefK K "sum_of" s_sum_of) (D_product_of : DefK K "product_of" s_product_of) (D_in_wholes : DefK K "in_wholes" s_in_wholes) (D_is_number : DefK K "is_number" s_is_number) (D_is_chance : DefK K "is_chance" s_is_chance) (D_chance_of : DefK K "chance_of" s_chance_of) (D_taken_upto : DefK K "taken_upto" s_taken_upto) (D_chance_at : DefK K "chance_at" s_chance_at) (D_staying : DefK K "staying" s_staying) (D_taken_by : DefK K "taken_by" s_taken_by) (D_check_source : CodeD K "check_source" s_check_source) (D__law_refusal : DefK K "_law_refusal" s__law_refusal) (D__law_gcd : DefK K "_law_gcd" s__law_gcd) (D__law_pick : DefK K "_law_pick" s__law_pick) (D__law_weights : DefK K "_law_weights" s__law_weights) (D__law_source : DefK K "_law_source" s__law_source) (D__law_is_whole : DefK K "_law_is_whole" s__law_is_whole) (D__law_is_fraction : DefK K "_law_is_fraction" s__law_is_fraction) (D__law_machine : DefK K "_law_machine" s__law_machine) (D__law_layer : DefK K "_law_layer" s__law_layer) (D__law_weight : DefK K "_law_weight" s__law_weight) (D__law_taken : DefK K "_law_taken" s__law_taken) (D__law_sums : DefK K "_law_sums" s__law_sums) (D__law_rows : DefK K "_law_rows" s__law_rows) (D__law_wrong : DefK K "_law_wrong" s__law_wrong) (D__law_checks : DefK K "_law_checks" s__law_checks) (D__law_letters : DefK K "_law_letters" s__law_letters) (D_law : DefK K "law" s_law) :
    ∃ fd : FuncData, (∀ (s : Shared) (v : Value), BindsTo s fd ⟨[v], []⟩ [("script", v)]) ∧ ∀ base : Heap, BmOk mg base → FnG P w K mg base CX0 8 fa fd ["script"] (spLaw K) := by
  have c__law_pool := fun (base : Heap) (hbm : BmOk mg base) => ca__law_pool (P := P) (w := w) (base := base) X G D__law_pool B
  have c__law_stream := fun (base : Heap) (hbm : BmOk mg base) => ca__law_stream (P := P) (w := w) (base := base) X G D__law_stream (c__law_pool base hbm)
  have c_ratio := fun (base : Heap) (hbm : BmOk mg base) => ca_ratio (P := P) (w := w) (base := base) X G D_ratio m_gcd
  have c_sum_of := fun (base : Heap) (hbm : BmOk mg base) => ca_sum_of (P := P) (w := w) (base := base) X G D_sum_of (c_ratio base hbm)
  have c_product_of := fun (base : Heap) (hbm : BmOk mg base) => ca_product_of (P := P) (w := w) (base := base) X G D_product_of (c_ratio base hbm)
  have c_in_wholes := fun (base : Heap) (hbm : BmOk mg base) => ca_in_wholes (P := P) (w := w) (base := base) X G D_in_wholes m_lcm
  have c_is_number := fun (base : Heap) (hbm : BmOk mg base) => ca_is_number (P := P) (w := w) (base := base) X G D_is_number B
  have c_is_chance := fun (base : Heap) (hbm : BmOk mg base) => ca_is_chance (P := P) (w := w) (base := base) X G D_is_chance B (c_is_number base hbm) g_MOST_PARTS_OF_ONE m_gcd
  have c_chance_of := fun (base : Heap) (hbm : BmOk mg base) => ca_chance_of (P := P) (w := w) (base := base) X G D_chance_of (c_product_of base hbm)
  have c_taken_upto := fun (base : Heap) (hbm : BmOk mg base) => ca_taken_upto (P := P) (w := w) (base := base) X G D_taken_upto B (c_in_wholes base hbm)
  have c_chance_at := fun (base : Heap) (hbm : BmOk mg base) => ca_chance_at (P := P) (w := w) (base := base) X G D_chance_at (c_ratio base hbm) (c_taken_upto base hbm)
  have c_staying := fun (base : Heap) (hbm : BmOk mg base) => ca_staying (P := P) (w := w) (base := base) X G D_staying B
  have c_taken_by := fun (base : Heap) (hbm : BmOk mg base) => ca_taken_by (P := P) (w := w) (base := base) X G D_taken_by (c_chance_at base hbm) (c_staying base hbm)
  have c_check_source := fun (base : Heap) (hbm : BmOk mg base) => ca_check_source (P := P) (w := w) (base := base) X G D_check_source B (c_sum_of base hbm) (c_is_chance base hbm) T_BadNumber hbm (N_BadSize base)
  have c__law_refusal := fun (base : Heap) (hbm : BmOk mg base) => ca__law_refusal (P := P) (w := w) (base := base) X G D__law_refusal B (c_check_source base hbm) hEs
  have c__law_gcd := fun (base : Heap) (hbm : BmOk mg base) => ca__law_gcd (P := P) (w := w) (base := base) X G D__law_gcd B
  have c__law_pick := fun (base : Heap) (hbm : BmOk mg base) => ca__law_pick (P := P) (w := w) (base := base) X G D__law_pick B
  have c__law_weights := fun (base : Heap) (hbm : BmOk mg base) => ca__law_weights (P := P) (w := w) (base := base) X G D__law_weights B (c__law_pick base hbm)
  have c__law_source := fun (base : Heap) (hbm : BmOk mg base) => ca__law_source (P := P) (w := w) (base := base) X G D__law_source (c__law_gcd base hbm)
  have c__law_is_whole := fun (base : Heap) (hbm : BmOk mg base) => ca__law_is_whole (P := P) (w := w) (base := base) X G D__law_is_whole B
  have c__law_is_fraction := fun (base : Heap) (hbm : BmOk mg base) => ca__law_is_fraction (P := P) (w := w) (base := base) X G D__law_is_fraction B (c__law_gcd base hbm) (c__law_is_whole base hbm) mB_abs
  have c__law_machine := fun (base : Heap) (hbm : BmOk mg base) => ca__law_machine (P := P) (w := w) (base := base) X G D__law_machine B (c__law_pick base hbm)
  have c__law_layer := fun (base : Heap) (hbm : BmOk mg base) => ca__law_layer (P := P) (w := w) (base := base) X G D__law_layer B
  have c__law_weight := fun (base : Heap) (hbm : BmOk mg base) => ca__law_weight (P := P) (w := w) (base := base) X G D__law_weight 
  have c__law_taken := fun (base : Heap) (hbm : BmOk mg base) => ca__law_taken (P := P) (w := w) (base := base) X G D__law_taken 
  have c__law_sums := fun (base : Heap) (hbm : BmOk mg base) => ca__law_sums (P := P) (w := w) (base := base) X G D__law_sums B (c__law_layer base hbm) (c__law_taken base hbm) (c__law_weight base hbm)
  have c__law_rows := fun (base : Heap) (hbm : BmOk mg base) => ca__law_rows (P := P) (w := w) (base := base) X G D__law_rows B
  have c__law_wrong := fun (base : Heap) (hbm : BmOk mg base) => ca__law_wrong (P := P) (w := w) (base := base) X G D__law_wrong B (c__law_pick base hbm)
  have c__law_checks := fun (base : Heap) (hbm : BmOk mg base) => ca__law_checks (P := P) (w := w) (base := base) X G D__law_checks B (c__law_refusal base hbm) (c__law_wrong base hbm)
  have c__law_letters := fun (base : Heap) (hbm : BmOk mg base) => ca__law_letters (P := P) (w := w) (base := base) X G D__law_letters B (c__law_pick base hbm)
  refine caLaw (k := 7) (kS := 2) (sx := "_law_stream") D_law X G hfa sc_law (by decide) rfl (by decide) (fun s v kV dc pm an cd ct => .of_eq rfl) c__law_stream (fun base hbm f cdv A outer s H E fS fdS FS gS kS bS g r => ?_) fun base hbm f cdv A outer s H E g r => ⟨_, dv_law B (c__law_pick base hbm) (c__law_is_fraction base hbm) (c_taken_by base hbm) (c_chance_at base hbm) (c__law_sums base hbm) (c__law_rows base hbm) (c__law_weight base hbm) (c_chance_of base hbm) (c__law_checks base hbm) (c__law_machine base hbm) (c__law_source base hbm) (c__law_weights base hbm) (c__law_letters base hbm)   cdv A outer s H E g r, w_law⟩
  exact ps_set (i := 1) sc_law.nd rfl (by first | exact Or.inr rfl | exact Or.inl rfl) (pe_callG FS g (r.mono (by decide)) rfl gS kS bS .nil pass0 (pa_cons (pv 0) pa_nil))
end
end L58
namespace L58
open PySem PySem.Spec PyProof.Rows L2 DL
section
variable {K : PySem.W.Frag} {mg : Str → Option Value} {h : Heap}
theorem bi_mk (X : K.In h) (G : h.Ns mainGlobals mg) (z_len : PySem.W.nsIn K mainGlobals "len" = some none) (z_int : PySem.W.nsIn K mainGlobals "int" = some none) (z_str : PySem.W.nsIn K mainGlobals "str" = some none) (z_bool : PySem.W.nsIn K mainGlobals "bool" = some none) (z_list : PySem.W.nsIn K mainGlobals "list" = some none) (z_tuple : PySem.W.nsIn K mainGlobals "tuple" = some none) (z_max : PySem.W.nsIn K mainGlobals "max" = some none) (z_min : PySem.W.nsIn K mainGlobals "min" = some none) (z_sum : PySem.W.nsIn K mainGlobals "sum" = some none) (z_any : PySem.W.nsIn K mainGlobals "any" = some none) (z_all : PySem.W.nsIn K mainGlobals "all" = some none) (z_repr : PySem.W.nsIn K mainGlobals "repr" = some none) (z_range : PySem.W.nsIn K mainGlobals "range" = some none) (z_enumerate : PySem.W.nsIn K mainGlobals "enumerate" = some none) (z_zip : PySem.W.nsIn K mainGlobals "zip" = some none) (z_isinstance : PySem.W.nsIn K mainGlobals "isinstance" = some none) (z_sorted : PySem.W.nsIn K mainGlobals "sorted" = some none) : Bi mg :=
  ⟨PySem.W.mg_none_of X G z_len, PySem.W.mg_none_of X G z_int, PySem.W.mg_none_of X G z_str, PySem.W.mg_none_of X G z_bool, PySem.W.mg_none_of X G z_list, PySem.W.mg_none_of X G z_tuple, PySem.W.mg_none_of X G z_max, PySem.W.mg_none_of X G z_min, PySem.W.mg_none_of X G z_sum, PySem.W.mg_none_of X G z_any, PySem.W.mg_none_of X G z_all, PySem.W.mg_none_of X G z_repr, PySem.W.mg_none_of X G z_range, PySem.W.mg_none_of X G z_enumerate, PySem.W.mg_none_of X G z_zip, PySem.W.mg_none_of X G z_isinstance, PySem.W.mg_none_of X G z_sorted⟩
end
end L58
open PySem PySem.W PyProof.Rows
set_option maxHeartbeats 0 in
theorem PySem.Challenge.cw_hallofwords_k58_sources_and_drawn_words_holds : PySem.Challenge.rw_hallofwords_k58_sources_and_drawn_words.Holds := by
  w_on; o_law; k_head; (case hw => w_witness2)
  k_fill
  refine DL.walk_ofG (l := PySem.Challenge.rw_hallofwords_k58_sources_and_drawn_words) (k := 8) (x := "script") rfl rfl ⟨rfl, by decide, by decide⟩ (fun w h Y => PySem.W.kIn_of Y) (by decide +kernel) ?F
  case F =>
    intro w mg fa h KX G hmg
    refine' L58.all_mk KX G hmg (L58.bi_mk KX G ?z_len ?z_int ?z_str ?z_bool ?z_list ?z_tuple ?z_max ?z_min ?z_sum ?z_any ?z_all ?z_repr ?z_range ?z_enumerate ?z_zip ?z_isinstance ?z_sorted)  (DL.gc_int KX G ?gc_MOST_PARTS_OF_ONE) (PySem.W.mg_of KX G ?m_gcd) (PySem.W.mg_of KX G ?m_lcm) (DL.exC_val KX G ?t1_BadNumber ?t2_BadNumber ?t3_BadNumber ?t4_BadNumber ?t5_BadNumber) (PySem.W.mg_none_of KX G ?mB_abs) (L58.n_BadSize KX G ?o_a_BadSize (DL.oexC_mk ?o_l_BadSize ?o_r_BadSize ?o_s_BadSize ?o_e_BadSize ?o_t_BadSize ?o_k_BadSize) ?o_no_BadSize (DL.InitK.mk5 ?o_ii_BadSize ?o_ti_BadSize ?o_il_BadSize ?o_c_BadSize ?o_ik_BadSize) ?o_aB_BadSize (DL.baseC_mk ?o_b1_BadSize ?o_b2_BadSize ?o_b3_BadSize ?o_b4_BadSize)) (DL.ers_mk KX G ?e_V ?e_T) (DL.DefK.mk4 ?a__law_pool ?l__law_pool ?c__law_pool ?k__law_pool) (DL.DefK.mk4 ?a__law_stream ?l__law_stream ?c__law_stream ?k__law_stream) (DL.DefK.mk4 ?a_ratio ?l_ratio ?c_ratio ?k_ratio) (DL.DefK.mk4 ?a_sum_of ?l_sum_of ?c_sum_of ?k_sum_of) (DL.DefK.mk4 ?a_product_of ?l_product_of ?c_product_of ?k_product_of) (DL.DefK.mk4 ?a_in_wholes ?l_in_wholes ?c_in_wholes ?k_in_wholes) (DL.DefK.mk4 ?a_is_number ?l_is_number ?c_is_number ?k_is_number) (DL.DefK.mk4 ?a_is_chance ?l_is_chance ?c_is_chance ?k_is_chance) (DL.DefK.mk4 ?a_chance_of ?l_chance_of ?c_chance_of ?k_chance_of) (DL.DefK.mk4 ?a_taken_upto ?l_taken_upto ?c_taken_upto ?k_taken_upto) (DL.DefK.mk4 ?a_chance_at ?l_chance_at ?c_chance_at ?k_chance_at) (DL.DefK.mk4 ?a_staying ?l_staying ?c_staying ?k_staying) (DL.DefK.mk4 ?a_taken_by ?l_taken_by ?c_taken_by ?k_taken_by) (DL.CodeD.mk6 ?a_check_source ?l_check_source ?c_check_source ?k_check_source ?e_check_source) (DL.DefK.mk4 ?a__law_refusal ?l__law_refusal ?c__law_refusal ?k__law_refusal) (DL.DefK.mk4 ?a__law_gcd ?l__law_gcd ?c__law_gcd ?k__law_gcd) (DL.DefK.mk4 ?a__law_pick ?l__law_pick ?c__law_pick ?k__law_pick) (DL.DefK.mk4 ?a__law_weights ?l__law_weights ?c__law_weights ?k__law_weights) (DL.DefK.mk4 ?a__law_source ?l__law_source ?c__law_source ?k__law_source) (DL.DefK.mk4 ?a__law_is_whole ?l__law_is_whole ?c__law_is_whole ?k__law_is_whole) (DL.DefK.mk4 ?a__law_is_fraction ?l__law_is_fraction ?c__law_is_fraction ?k__law_is_fraction) (DL.DefK.mk4 ?a__law_machine ?l__law_machine ?c__law_machine ?k__law_machine) (DL.DefK.mk4 ?a__law_layer ?l__law_layer ?c__law_layer ?k__law_layer) (DL.DefK.mk4 ?a__law_weight ?l__law_weight ?c__law_weight ?k__law_weight) (DL.DefK.mk4 ?a__law_taken ?l__law_taken ?c__law_taken ?k__law_taken) (DL.DefK.mk4 ?a__law_sums ?l__law_sums ?c__law_sums ?k__law_sums) (DL.DefK.mk4 ?a__law_rows ?l__law_rows ?c__law_rows ?k__law_rows) (DL.DefK.mk4 ?a__law_wrong ?l__law_wrong ?c__law_wrong ?k__law_wrong) (DL.DefK.mk4 ?a__law_checks ?l__law_checks ?c__law_checks ?k__law_checks) (DL.DefK.mk4 ?a__law_letters ?l__law_letters ?c__law_letters ?k__law_letters) (DL.DefK.mk4 ?a_law ?l_law ?c_law ?k_law)
    (case z_len => k_is)
    (case z_int => k_is)
    (case z_str => k_is)
    (case z_bool => k_is)
    (case z_list => k_is)
    (case z_tuple => k_is)
    (case z_max => k_is)
    (case z_min => k_is)
    (case z_sum => k_is)
    (case z_any => k_is)
    (case z_all => k_is)
    (case z_repr => k_is)
    (case z_range => k_is)
    (case z_enumerate => k_is)
    (case z_zip => k_is)
    (case z_isinstance => k_is)
    (case z_sorted => k_is)
    (case gc_MOST_PARTS_OF_ONE => k_is)
    (case m_gcd => k_is)
    (case m_lcm => k_is)
    (case t1_BadNumber => k_is); (case t2_BadNumber => k_is); (case t3_BadNumber => k_exc); (case t4_BadNumber => k_is); (case t5_BadNumber => k_is)
    (case mB_abs => k_is)
    (case o_a_BadSize => k_is)
    (case o_l_BadSize => k_is)
    (case o_r_BadSize => decide +kernel)
    (case o_s_BadSize => k_is)
    (case o_e_BadSize => k_is)
    (case o_t_BadSize => k_is)
    (case o_k_BadSize => k_is)
    (case o_no_BadSize => k_is)
    (case o_ii_BadSize => k_is)
    (case o_ti_BadSize => k_is)
    (case o_il_BadSize => k_is)
    (case o_c_BadSize => k_is)
    (case o_ik_BadSize => k_is)
    (case o_aB_BadSize => k_is)
    (case o_b1_BadSize => k_is)
    (case o_b2_BadSize => k_is)
    (case o_b3_BadSize => k_is)
    (case o_b4_BadSize => k_is)
    (case e_V => k_is); (case e_T => kernel_rfl)
    (case a__law_pool => k_is); (case l__law_pool => k_is); (case c__law_pool => k_is); (case k__law_pool => k_is)
    (case a__law_stream => k_is); (case l__law_stream => k_is); (case c__law_stream => k_is); (case k__law_stream => k_is)
    (case a_ratio => k_is); (case l_ratio => k_is); (case c_ratio => k_is); (case k_ratio => k_is)
    (case a_sum_of => k_is); (case l_sum_of => k_is); (case c_sum_of => k_is); (case k_sum_of => k_is)
    (case a_product_of => k_is); (case l_product_of => k_is); (case c_product_of => k_is); (case k_product_of => k_is)
    (case a_in_wholes => k_is); (case l_in_wholes => k_is); (case c_in_wholes => k_is); (case k_in_wholes => k_is)
    (case a_is_number => k_is); (case l_is_number => k_is); (case c_is_number => k_is); (case k_is_number => k_is)
    (case a_is_chance => k_is); (case l_is_chance => k_is); (case c_is_chance => k_is); (case k_is_chance => k_is)
    (case a_chance_of => k_is); (case l_chance_of => k_is); (case c_chance_of => k_is); (case k_chance_of => k_is)
    (case a_taken_upto => k_is); (case l_taken_upto => k_is); (case c_taken_upto => k_is); (case k_taken_upto => k_is)
    (case a_chance_at => k_is); (case l_chance_at => k_is); (case c_chance_at => k_is); (case k_chance_at => k_is)
    (case a_staying => k_is); (case l_staying => k_is); (case c_staying => k_is); (case k_staying => k_is)
    (case a_taken_by => k_is); (case l_taken_by => k_is); (case c_taken_by => k_is); (case k_taken_by => k_is)
    (case a_check_source => k_is); (case l_check_source => k_is); (case c_check_source => k_is); (case k_check_source => k_is); (case e_check_source => first | k_is | kernel_rfl)
    (case a__law_refusal => k_is); (case l__law_refusal => k_is); (case c__law_refusal => k_is); (case k__law_refusal => k_is)
    (case a__law_gcd => k_is); (case l__law_gcd => k_is); (case c__law_gcd => k_is); (case k__law_gcd => k_is)
    (case a__law_pick => k_is); (case l__law_pick => k_is); (case c__law_pick => k_is); (case k__law_pick => k_is)
    (case a__law_weights => k_is); (case l__law_weights => k_is); (case c__law_weights => k_is); (case k__law_weights => k_is)
    (case a__law_source => k_is); (case l__law_source => k_is); (case c__law_source => k_is); (case k__law_source => k_is)
    (case a__law_is_whole => k_is); (case l__law_is_whole => k_is); (case c__law_is_whole => k_is); (case k__law_is_whole => k_is)
    (case a__law_is_fraction => k_is); (case l__law_is_fraction => k_is); (case c__law_is_fraction => k_is); (case k__law_is_fraction => k_is)
    (case a__law_machine => k_is); (case l__law_machine => k_is); (case c__law_machine => k_is); (case k__law_machine => k_is)
    (case a__law_layer => k_is); (case l__law_layer => k_is); (case c__law_layer => k_is); (case k__law_layer => k_is)
    (case a__law_weight => k_is); (case l__law_weight => k_is); (case c__law_weight => k_is); (case k__law_weight => k_is)
    (case a__law_taken => k_is); (case l__law_taken => k_is); (case c__law_taken => k_is); (case k__law_taken => k_is)
    (case a__law_sums => k_is); (case l__law_sums => k_is); (case c__law_sums => k_is); (case k__law_sums => k_is)
    (case a__law_rows => k_is); (case l__law_rows => k_is); (case c__law_rows => k_is); (case k__law_rows => k_is)
    (case a__law_wrong => k_is); (case l__law_wrong => k_is); (case c__law_wrong => k_is); (case k__law_wrong => k_is)
    (case a__law_checks => k_is); (case l__law_checks => k_is); (case c__law_checks => k_is); (case k__law_checks => k_is)
    (case a__law_letters => k_is); (case l__law_letters => k_is); (case c__law_letters => k_is); (case k__law_letters => k_is)
    (case a_law => k_is); (case l_law => k_is); (case c_law => k_is); (case k_law => k_is)
